/- How the last two peaks of a front give way to their knot. -/
import Derived.Test.YtmpmhfagbcknnaaDoorGrows
namespace Go.Proofs.YtmpmhfagbcknnaaDoor
open Go.RowKit Sums
set_option linter.unusedVariables false
set_option linter.unusedSimpArgs false

set_option maxHeartbeats 4000000 in
theorem join_any (B gp : Nat) (x v : Value) (r : List (List UInt8)) (p q : List UInt8) (w : World) (hG : Grow B gp x v (r ++ [p, q]) w) (hd : Digs32 (r ++ [p, q])) (hlen : r.length ≤ 100000) (hB : B ≤ gp) (hK : Table 1 w) :
    Calls Tryd.prog 37 #[.pointer (some ⟨gp, 0, none⟩)] w fun e w' => e = .returned (.tuple #[]) ∧ (∃ v', Grow B gp x v' (r ++ [knotD p q]) w') ∧ Below B w w' := by
  obtain ⟨s, HSr⟩ : ∃ s, Hid (s = r.length) := ⟨_, (rfl : r.length = _)⟩
  have hll : (r ++ [p, q]).length = s + 2 := by rw [HSr.out]; simp
  obtain ⟨g, cap, hv⟩ := own_form hG.own (by omega)
  rw [hll] at hv
  subst hv
  have hs1 : s ≤ 100000 := by rw [HSr.out]; exact hlen
  obtain ⟨y, cy, hvy, hy, hyB⟩ := LReads.own hG.own hd
  rw [hll] at hvy hy
  cases hvy
  have hgB : B ≤ g := hyB g 0 rfl
  have hgp : gp ≠ g := fun e => own_other hG.own hG.var (by decide) (by rw [e]; rfl)
  have e0 : (r ++ [p, q])[s]'(by omega) = p := by simp [HSr.out]
  have e1 : (r ++ [p, q])[s + 1]'(by omega) = q := by simp [HSr.out]
  have hp32 : p.length = 32 := hd p (by simp)
  have hq32 : q.length = 32 := hd q (by simp)
  obtain ⟨LP, HLP⟩ : ∃ L, Hid (L = cellsOf p) := ⟨_, (rfl : cellsOf p = _)⟩
  obtain ⟨LQ, HLQ⟩ : ∃ L, Hid (L = cellsOf q) := ⟨_, (rfl : cellsOf q = _)⟩
  have zP : (Tryd.prog.info? 29).map (·.size) = some LP.length := by rw [size23, HLP.out, cellsOf_length, hp32]
  have zQ : (Tryd.prog.info? 29).map (·.size) = some LQ.length := by rw [size23, HLQ.out, cellsOf_length, hq32]
  have HRP : Hid (w.rangeAt g (32 * s) LP) := by
    have := hy.range s (by omega)
    rw [e0, Nat.zero_add] at this
    rw [HLP.out]; exact this
  have hRQ : w.rangeAt g (32 * (s + 1)) LQ := by
    have := hy.range (s + 1) (by omega)
    rw [e1, Nat.zero_add] at this
    rw [HLQ.out]; exact this
  obtain ⟨KD, HKD, HSK, H1K, H32K⟩ := dig_row' (knotD p q) (sumD_length _)
  have KN : Hid (∀ W, Below w.heap.size w W → Calls Tryd.prog 22 #[.agg LP.toArray, .agg LQ.toArray] W fun e w' => e = .returned (.agg KD) ∧ Below W.heap.size W w') := fun W hb => by
    rw [HLP.out, HLQ.out]
    exact knot_any p q hp32 hq32 W (hK.keep hb) KD (by show _ = _; rw [HKD.out]; rfl)
  have HG := hidk hG
  have FN : Hid (∀ W, Below w.heap.size w W → W.there g (32 * s) KD.size ∧ (W.setCells g (32 * s) KD.toList).heap[gp]? = some (.cells #[x, .slice (some ⟨g, 0, none⟩) (s + 2) cap] 50 (0, 0)) ∧
      Grow B gp x (.slice (some ⟨g, 0, none⟩) (s + 1) cap) (r ++ [knotD p q]) ((W.setCells g (32 * s) KD.toList).setCell ⟨gp, 1, none⟩ (.slice (some ⟨g, 0, none⟩) (s + 1) cap)) ∧ Below B w ((W.setCells g (32 * s) KD.toList).setCell ⟨gp, 1, none⟩ (.slice (some ⟨g, 0, none⟩) (s + 1) cap))) := fun W hb => by
    have h := HG.out.keep hb
    have hth := own_there h.own s (by omega)
    have hput := own_put h.own hd s (by omega) (knotD p q) (sumD_length _)
    have hset : (r ++ [p, q]).set s (knotD p q) = r ++ [knotD p q, q] := by
      rw [List.set_append_right _ _ (by rw [← HSr.out]; exact Nat.le_refl _), ← HSr.out, Nat.sub_self]
      rfl
    rw [hset] at hput
    have hds : Digs32 (r ++ [knotD p q, q]) := fun z hz => by
      rcases List.mem_append.1 hz with hz | hz
      · exact hd z (List.mem_append_left _ hz)
      · simp only [List.mem_cons, List.not_mem_nil, or_false] at hz
        rcases hz with rfl | rfl
        · exact sumD_length _
        · exact hq32
    have hcut := own_cut hput hds (s + 1) (by simp [HSr.out])
    have htk : (r ++ [knotD p q, q]).take (s + 1) = r ++ [knotD p q] := by
      rw [show r ++ [knotD p q, q] = (r ++ [knotD p q]) ++ [q] by simp]
      exact List.take_left' (by simp [HSr.out])
    rw [htk] at hcut
    have hke : KD.toList = cellsOf (knotD p q) := by rw [HKD.out]
    have hvar : (W.setCells g (32 * s) KD.toList).heap[gp]? = some (.cells #[x, .slice (some ⟨g, 0, none⟩) (s + 2) cap] 50 (0, 0)) := (cells_other hgp _ _ _).trans h.var
    refine ⟨by rw [H32K.out]; exact hth, hvar, ?_, ?_⟩
    · rw [hke] at hvar ⊢
      exact grow_put hvar hcut
    · exact (below_cells4 hgB _ _ _ ((hb.mono (Nat.le_of_lt (Nat.lt_of_le_of_lt hB (heap_lt HG.out.var)))))).setCell (by simpa using hB) _
  have hc1 : w.cell? ⟨gp, 1, none⟩ = some (.slice (some ⟨g, 0, none⟩) (s + 2) cap) := hG.two.2
  have hcap : s + 2 ≤ cap := hy.2.2.1
  have ix1 := fun W => index_list W g 0 (s + 2) cap s .i64 (by omega)
  simp only [Nat.zero_add] at ix1
  have ix2 : ∀ W, (Instr.indexAt 22 (.slice (some ⟨g, 0, none⟩) (s + 2) cap) (.int .i64 ((s : Int) + 1))).run Tryd.prog W = .ok (.pointer (some ⟨g, 32 * (s + 1), none⟩)) W := fun W => by
    have := index_list W g 0 (s + 2) cap (s + 1) .i64 (by omega)
    rw [Nat.zero_add, show ((s + 1 : Nat) : Int) = (s : Int) + 1 by omega] at this
    exact this
  have slc : ∀ W, (Instr.sliceAt 22 (.slice (some ⟨g, 0, none⟩) (s + 2) cap) none (some (.int .i64 ((s : Int) + 1))) none).run Tryd.prog W = .ok (.slice (some ⟨g, 0, none⟩) (s + 1) cap) W := fun W => by
    have := slice_left W g 0 (s + 2) cap (s + 1) (by omega)
    rw [show ((s + 1 : Nat) : Int) = (s : Int) + 1 by omega] at this
    exact this
  have w1 : IntKind.i64.wrap ((s : Int) + 2 - 1) = (s : Int) + 1 := by rw [wrap_int _ (by omega) (by omega)]; omega
  clear hG hd hlen hK hy hyB e0 e1 HLP HLQ HKD hll HSr
  go_enter Tryd.func37, Tryd.ntmps37
  go_wp2
  refine wp_region_held_drew (S := (fun W => W.cell? ⟨gp, 1, none⟩ = some (.slice (some ⟨g, 0, none⟩) (s + 2) cap) ∧ W.rangeAt g (32 * (s + 1)) LQ)) (by kernel_rfl) (show _ ∧ _ from ⟨hc1, hRQ⟩) (fun hHeld => ?_)
  refine wpAnyH_take (i := 0) (oi := { dst := some 10, op := Op.move (Operand.tmp 0), type := 65, pos := "front.go:41", after := #[], guard := none }) (v := .pointer (some ⟨gp, 0, none⟩)) rfl (by kernel_rfl) (by kernel_rfl) (by kernel_rfl) (fun _ _ _ h => h) (Or.inl ⟨by rfl, by intro w hSw; go_simp⟩) hHeld ?_
  try simp only [Act.put, List.setIfInBounds_toArray, List.set_cons_zero, List.set_cons_succ]
  refine wpAnyH_take (i := 1) (oi := { dst := some 11, op := Op.nilCheck (Operand.tmp 10), type := 0, pos := "front.go:41", after := #[{ on := 0, ground := Ground.data }], guard := none }) (v := .pointer (some ⟨gp, 0, none⟩)) rfl (by kernel_rfl) (by kernel_rfl) (by kernel_rfl) (fun _ _ _ h => h) (Or.inl ⟨by rfl, by intro w hSw; go_simp⟩) hHeld ?_
  try simp only [Act.put, List.setIfInBounds_toArray, List.set_cons_zero, List.set_cons_succ]
  refine wpAnyH_take (i := 2) (oi := { dst := some 12, op := Op.fieldAddr 50 (Operand.tmp 11) 0, type := 0, pos := "front.go:41", after := #[{ on := 1, ground := Ground.data }], guard := none }) (v := .pointer (some ⟨gp, 0, none⟩)) rfl (by kernel_rfl) (by kernel_rfl) (by kernel_rfl) (fun _ _ _ h => h) (Or.inl ⟨by rfl, by intro w hSw; go_simp⟩) hHeld ?_
  try simp only [Act.put, List.setIfInBounds_toArray, List.set_cons_zero, List.set_cons_succ]
  refine wpAnyH_take (i := 3) (oi := { dst := some 13, op := Op.fieldAddr 25 (Operand.tmp 12) 1, type := 0, pos := "front.go:41", after := #[{ on := 2, ground := Ground.data }], guard := none }) (v := .pointer (some ⟨gp, 1, none⟩)) rfl (by kernel_rfl) (by kernel_rfl) (by kernel_rfl) (fun _ _ _ h => h) (Or.inl ⟨by rfl, by intro w hSw; go_simp⟩) hHeld ?_
  try simp only [Act.put, List.setIfInBounds_toArray, List.set_cons_zero, List.set_cons_succ]
  refine wpAnyH_take (i := 4) (oi := { dst := some 14, op := Op.load 22 (Operand.tmp 13), type := 22, pos := "front.go:41", after := #[{ on := 3, ground := Ground.data }], guard := none }) (v := .slice (some ⟨g, 0, none⟩) (s + 2) cap) rfl (by kernel_rfl) (by kernel_rfl) (by kernel_rfl) (fun _ _ _ h => h) (Or.inl ⟨by rfl, by intro W hSw; have h1 := hSw.1; go_simp⟩) hHeld ?_
  try simp only [Act.put, List.setIfInBounds_toArray, List.set_cons_zero, List.set_cons_succ]
  refine wpAnyH_take (i := 5) (oi := { dst := some 15, op := Op.move (Operand.tmp 2), type := 3, pos := "front.go:41", after := #[], guard := none }) (v := .int .i64 ((s : Int) + 1)) rfl (by kernel_rfl) (by kernel_rfl) (by kernel_rfl) (fun _ _ _ h => h) (Or.inl ⟨by rfl, by intro w hSw; go_simp⟩) hHeld ?_
  try simp only [Act.put, List.setIfInBounds_toArray, List.set_cons_zero, List.set_cons_succ]
  refine wpAnyH_take (i := 6) (oi := { dst := some 16, op := Op.binOp BinOp.sub 3 (Operand.tmp 15) (Operand.const (Value.int IntKind.i64 1)) 3, type := 3, pos := "front.go:41", after := #[{ on := 5, ground := Ground.data }], guard := none }) (v := .int .i64 s) rfl (by kernel_rfl) (by kernel_rfl) (by kernel_rfl) (fun _ _ _ h => h) (Or.inl ⟨by rfl, by intro W hSw; go_simp; exact wrap_int _ (by omega) (by omega)⟩) hHeld ?_
  try simp only [Act.put, List.setIfInBounds_toArray, List.set_cons_zero, List.set_cons_succ]
  refine wpAnyH_take (i := 7) (oi := { dst := some 17, op := Op.move (Operand.tmp 0), type := 65, pos := "front.go:41", after := #[], guard := none }) (v := .pointer (some ⟨gp, 0, none⟩)) rfl (by kernel_rfl) (by kernel_rfl) (by kernel_rfl) (fun _ _ _ h => h) (Or.inl ⟨by rfl, by intro w hSw; go_simp⟩) hHeld ?_
  try simp only [Act.put, List.setIfInBounds_toArray, List.set_cons_zero, List.set_cons_succ]
  refine wpAnyH_take (i := 8) (oi := { dst := some 18, op := Op.nilCheck (Operand.tmp 17), type := 0, pos := "front.go:41", after := #[{ on := 7, ground := Ground.data }], guard := none }) (v := .pointer (some ⟨gp, 0, none⟩)) rfl (by kernel_rfl) (by kernel_rfl) (by kernel_rfl) (fun _ _ _ h => h) (Or.inl ⟨by rfl, by intro w hSw; go_simp⟩) hHeld ?_
  try simp only [Act.put, List.setIfInBounds_toArray, List.set_cons_zero, List.set_cons_succ]
  refine wpAnyH_take (i := 9) (oi := { dst := some 19, op := Op.fieldAddr 50 (Operand.tmp 18) 0, type := 0, pos := "front.go:41", after := #[{ on := 8, ground := Ground.data }], guard := none }) (v := .pointer (some ⟨gp, 0, none⟩)) rfl (by kernel_rfl) (by kernel_rfl) (by kernel_rfl) (fun _ _ _ h => h) (Or.inl ⟨by rfl, by intro w hSw; go_simp⟩) hHeld ?_
  try simp only [Act.put, List.setIfInBounds_toArray, List.set_cons_zero, List.set_cons_succ]
  refine wpAnyH_take (i := 10) (oi := { dst := some 20, op := Op.fieldAddr 25 (Operand.tmp 19) 1, type := 0, pos := "front.go:41", after := #[{ on := 9, ground := Ground.data }], guard := none }) (v := .pointer (some ⟨gp, 1, none⟩)) rfl (by kernel_rfl) (by kernel_rfl) (by kernel_rfl) (fun _ _ _ h => h) (Or.inl ⟨by rfl, by intro w hSw; go_simp⟩) hHeld ?_
  try simp only [Act.put, List.setIfInBounds_toArray, List.set_cons_zero, List.set_cons_succ]
  refine wpAnyH_take (i := 11) (oi := { dst := some 21, op := Op.load 22 (Operand.tmp 20), type := 22, pos := "front.go:41", after := #[{ on := 10, ground := Ground.data }], guard := none }) (v := .slice (some ⟨g, 0, none⟩) (s + 2) cap) rfl (by kernel_rfl) (by kernel_rfl) (by kernel_rfl) (fun _ _ _ h => h) (Or.inl ⟨by rfl, by intro W hSw; have h1 := hSw.1; go_simp⟩) hHeld ?_
  try simp only [Act.put, List.setIfInBounds_toArray, List.set_cons_zero, List.set_cons_succ]
  refine wpAnyH_take (i := 12) (oi := { dst := some 22, op := Op.move (Operand.tmp 2), type := 3, pos := "front.go:41", after := #[], guard := none }) (v := .int .i64 ((s : Int) + 1)) rfl (by kernel_rfl) (by kernel_rfl) (by kernel_rfl) (fun _ _ _ h => h) (Or.inl ⟨by rfl, by intro w hSw; go_simp⟩) hHeld ?_
  try simp only [Act.put, List.setIfInBounds_toArray, List.set_cons_zero, List.set_cons_succ]
  refine wpAnyH_take (i := 13) (oi := { dst := some 23, op := Op.binOp BinOp.sub 3 (Operand.tmp 22) (Operand.const (Value.int IntKind.i64 1)) 3, type := 3, pos := "front.go:41", after := #[{ on := 12, ground := Ground.data }], guard := none }) (v := .int .i64 s) rfl (by kernel_rfl) (by kernel_rfl) (by kernel_rfl) (fun _ _ _ h => h) (Or.inl ⟨by rfl, by intro W hSw; go_simp; exact wrap_int _ (by omega) (by omega)⟩) hHeld ?_
  try simp only [Act.put, List.setIfInBounds_toArray, List.set_cons_zero, List.set_cons_succ]
  refine wpAnyH_take (i := 14) (oi := { dst := some 24, op := Op.indexAddr 22 (Operand.tmp 21) (Operand.tmp 23), type := 0, pos := "front.go:41", after := #[{ on := 11, ground := Ground.data }, { on := 13, ground := Ground.data }], guard := none }) (v := .pointer (some ⟨g, 32 * s, none⟩)) rfl (by kernel_rfl) (by kernel_rfl) (by kernel_rfl) (fun _ _ _ h => h) (Or.inl ⟨by rfl, by intro W hSw; have := ix1 W; go_simp⟩) hHeld ?_
  try simp only [Act.put, List.setIfInBounds_toArray, List.set_cons_zero, List.set_cons_succ]
  refine wpAnyH_take (i := 16) (oi := { dst := some 26, op := Op.move (Operand.tmp 0), type := 65, pos := "front.go:41", after := #[], guard := none }) (v := .pointer (some ⟨gp, 0, none⟩)) rfl (by kernel_rfl) (by kernel_rfl) (by kernel_rfl) (fun _ _ _ h => h) (Or.inl ⟨by rfl, by intro w hSw; go_simp⟩) hHeld ?_
  try simp only [Act.put, List.setIfInBounds_toArray, List.set_cons_zero, List.set_cons_succ]
  refine wpAnyH_take (i := 17) (oi := { dst := some 27, op := Op.nilCheck (Operand.tmp 26), type := 0, pos := "front.go:41", after := #[{ on := 16, ground := Ground.data }], guard := none }) (v := .pointer (some ⟨gp, 0, none⟩)) rfl (by kernel_rfl) (by kernel_rfl) (by kernel_rfl) (fun _ _ _ h => h) (Or.inl ⟨by rfl, by intro w hSw; go_simp⟩) hHeld ?_
  try simp only [Act.put, List.setIfInBounds_toArray, List.set_cons_zero, List.set_cons_succ]
  refine wpAnyH_take (i := 18) (oi := { dst := some 28, op := Op.fieldAddr 50 (Operand.tmp 27) 0, type := 0, pos := "front.go:41", after := #[{ on := 17, ground := Ground.data }], guard := none }) (v := .pointer (some ⟨gp, 0, none⟩)) rfl (by kernel_rfl) (by kernel_rfl) (by kernel_rfl) (fun _ _ _ h => h) (Or.inl ⟨by rfl, by intro w hSw; go_simp⟩) hHeld ?_
  try simp only [Act.put, List.setIfInBounds_toArray, List.set_cons_zero, List.set_cons_succ]
  refine wpAnyH_take (i := 19) (oi := { dst := some 29, op := Op.fieldAddr 25 (Operand.tmp 28) 1, type := 0, pos := "front.go:41", after := #[{ on := 18, ground := Ground.data }], guard := none }) (v := .pointer (some ⟨gp, 1, none⟩)) rfl (by kernel_rfl) (by kernel_rfl) (by kernel_rfl) (fun _ _ _ h => h) (Or.inl ⟨by rfl, by intro w hSw; go_simp⟩) hHeld ?_
  try simp only [Act.put, List.setIfInBounds_toArray, List.set_cons_zero, List.set_cons_succ]
  refine wpAnyH_take (i := 20) (oi := { dst := some 30, op := Op.load 22 (Operand.tmp 29), type := 22, pos := "front.go:41", after := #[{ on := 19, ground := Ground.data }], guard := none }) (v := .slice (some ⟨g, 0, none⟩) (s + 2) cap) rfl (by kernel_rfl) (by kernel_rfl) (by kernel_rfl) (fun _ _ _ h => h) (Or.inl ⟨by rfl, by intro W hSw; have h1 := hSw.1; go_simp⟩) hHeld ?_
  try simp only [Act.put, List.setIfInBounds_toArray, List.set_cons_zero, List.set_cons_succ]
  refine wpAnyH_take (i := 21) (oi := { dst := some 31, op := Op.move (Operand.tmp 2), type := 3, pos := "front.go:41", after := #[], guard := none }) (v := .int .i64 ((s : Int) + 1)) rfl (by kernel_rfl) (by kernel_rfl) (by kernel_rfl) (fun _ _ _ h => h) (Or.inl ⟨by rfl, by intro w hSw; go_simp⟩) hHeld ?_
  try simp only [Act.put, List.setIfInBounds_toArray, List.set_cons_zero, List.set_cons_succ]
  refine wpAnyH_take (i := 22) (oi := { dst := some 32, op := Op.indexAddr 22 (Operand.tmp 30) (Operand.tmp 31), type := 0, pos := "front.go:41", after := #[{ on := 20, ground := Ground.data }, { on := 21, ground := Ground.data }], guard := none }) (v := .pointer (some ⟨g, 32 * (s + 1), none⟩)) rfl (by kernel_rfl) (by kernel_rfl) (by kernel_rfl) (fun _ _ _ h => h) (Or.inl ⟨by rfl, by intro W hSw; have := ix2 W; go_simp⟩) hHeld ?_
  try simp only [Act.put, List.setIfInBounds_toArray, List.set_cons_zero, List.set_cons_succ]
  refine wpAnyH_take (i := 23) (oi := { dst := some 33, op := Op.load 29 (Operand.tmp 32), type := 29, pos := "front.go:41", after := #[{ on := 22, ground := Ground.data }], guard := none }) (v := .agg LQ.toArray) rfl (by kernel_rfl) (by kernel_rfl) (by kernel_rfl) (fun _ _ _ h => h) (yieldsIf_load_mid (by rfl) 29 (.tmp 32) rfl _ _ rfl LQ _ (fun _ h => h.2) Tryd.underlying29 rfl zQ) hHeld ?_
  try simp only [Act.put, List.setIfInBounds_toArray, List.set_cons_zero, List.set_cons_succ]
  refine wpAnyH_ready (rs := [15]) (by kernel_rfl) (by simp) ?_
  refine AllReadyH.cons (o := { dst := some 25, op := Op.load 29 (Operand.tmp 24), type := 29, pos := "front.go:41", after := #[{ on := 14, ground := Ground.data }], guard := none }) rfl (fun K hK => ?_) AllReadyH.nil
  refine step_load_mid (by rfl) 29 (.tmp 24) rfl g (32 * s) rfl LP _ HRP.out Tryd.underlying29 rfl zP ?_
  refine hK.out _ _ hHeld (fun hHeld => ?_)
  clear hK K
  try simp only [Act.put, List.setIfInBounds_toArray, List.set_cons_zero, List.set_cons_succ]
  refine wpAnyH_ready (rs := [24]) (by kernel_rfl) (by simp) ?_
  refine AllReadyH.cons (o := { dst := some 34, op := Op.call { callee := Callee.value (Operand.func 22), args := #[Operand.tmp 25, Operand.tmp 33], argTypes := #[29, 29] }, type := 29, pos := "front.go:41", after := #[{ on := 15, ground := Ground.data }, { on := 23, ground := Ground.data }], guard := none }) rfl (fun K hK => ?_) AllReadyH.nil
  go_simp
  refine (KN.out _ (Below.refl _ _).drew).mono ?_
  rintro e w24 ⟨rfl, hb24⟩
  obtain ⟨f1, f2, f3, f4⟩ := FN.out w24 ((Below.refl _ _).drew.trans hb24)
  replace f1 := hidk f1
  replace f2 := hidk f2
  replace f3 := hidk f3
  replace f4 := hidk f4
  go_wp2_with fail
  refine hK.out _ _ ⟨by rw [hb24.cell (World.block_lt_of_cell? _ _ hHeld.1)]; exact hHeld.1, range_keep hb24 hHeld.2⟩ (fun hHeld => ?_)
  clear hK K
  try simp only [Act.put, List.setIfInBounds_toArray, List.set_cons_zero, List.set_cons_succ]
  refine wpAnyH_take (i := 25) (oi := { dst := some 35, op := Op.indexAddr 22 (Operand.tmp 14) (Operand.tmp 16), type := 0, pos := "front.go:41", after := #[{ on := 4, ground := Ground.data }, { on := 6, ground := Ground.data }, { on := 0, ground := Ground.phase }, { on := 1, ground := Ground.phase }, { on := 2, ground := Ground.phase }, { on := 3, ground := Ground.phase }, { on := 4, ground := Ground.phase }, { on := 5, ground := Ground.phase }, { on := 6, ground := Ground.phase }, { on := 7, ground := Ground.phase }, { on := 8, ground := Ground.phase }, { on := 9, ground := Ground.phase }, { on := 10, ground := Ground.phase }, { on := 11, ground := Ground.phase }, { on := 12, ground := Ground.phase }, { on := 13, ground := Ground.phase }, { on := 14, ground := Ground.phase }, { on := 15, ground := Ground.phase }, { on := 16, ground := Ground.phase }, { on := 17, ground := Ground.phase }, { on := 18, ground := Ground.phase }, { on := 19, ground := Ground.phase }, { on := 20, ground := Ground.phase }, { on := 21, ground := Ground.phase }, { on := 22, ground := Ground.phase }, { on := 23, ground := Ground.phase }, { on := 24, ground := Ground.phase }], guard := none }) (v := .pointer (some ⟨g, 32 * s, none⟩)) rfl (by kernel_rfl) (by kernel_rfl) (by kernel_rfl) (fun _ _ _ h => h) (Or.inl ⟨by rfl, by intro W hSw; have := ix1 W; go_simp⟩) hHeld ?_
  try simp only [Act.put, List.setIfInBounds_toArray, List.set_cons_zero, List.set_cons_succ]
  refine wpAnyH_ready (rs := [26]) (by kernel_rfl) (by simp) ?_
  refine AllReadyH.cons (o := { dst := none, op := Op.store 29 (Operand.tmp 35) (Operand.tmp 34), type := 0, pos := "front.go:41", after := #[{ on := 25, ground := Ground.data }, { on := 24, ground := Ground.data }, { on := 24, ground := Ground.chain }, { on := 0, ground := Ground.phase }, { on := 1, ground := Ground.phase }, { on := 2, ground := Ground.phase }, { on := 3, ground := Ground.phase }, { on := 4, ground := Ground.phase }, { on := 5, ground := Ground.phase }, { on := 6, ground := Ground.phase }, { on := 7, ground := Ground.phase }, { on := 8, ground := Ground.phase }, { on := 9, ground := Ground.phase }, { on := 10, ground := Ground.phase }, { on := 11, ground := Ground.phase }, { on := 12, ground := Ground.phase }, { on := 13, ground := Ground.phase }, { on := 14, ground := Ground.phase }, { on := 15, ground := Ground.phase }, { on := 16, ground := Ground.phase }, { on := 17, ground := Ground.phase }, { on := 18, ground := Ground.phase }, { on := 19, ground := Ground.phase }, { on := 20, ground := Ground.phase }, { on := 21, ground := Ground.phase }, { on := 22, ground := Ground.phase }, { on := 23, ground := Ground.phase }, { on := 24, ground := Ground.phase }], guard := none }) rfl (fun K hK => ?_) AllReadyH.nil
  refine step_store_mid (by rfl) 29 (.tmp 35) (.tmp 34) rfl g (32 * s) KD rfl rfl f1.out HSK.out H1K.out ?_
  refine hK.out _ _ ⟨by rw [cell_of_row _ _ 1 _ 50 (0, 0) f2.out]; rfl, World.rangeAt_setCells_apart hHeld.2 _ _ _ (.inr (.inr (by rw [Array.length_toList, H32K.out]; omega)))⟩ (fun hHeld => ?_)
  clear hK K
  try simp only [Act.put, List.setIfInBounds_toArray, List.set_cons_zero, List.set_cons_succ]
  refine wpAnyH_done (by kernel_rfl) ?_ _
  have hc2 := hHeld.1
  have hf2 := frozen_of_row _ gp 1 _ 50 f2.out
  clear hHeld hc1 hRQ FN KN
  go_wp2
  first | go_end0 | (refine bodyPost_ret (results_none rfl _ _ _) rfl ?_)
  exact ⟨rfl, ⟨_, f3.out⟩, f4.out⟩
end Go.Proofs.YtmpmhfagbcknnaaDoor
