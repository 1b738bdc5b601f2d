/- What sha.mixed answers: the state behind a block. -/
import Derived.Test.YtkmndchbmbhlhaaDoorSched
namespace Go.Proofs.YtkmndchbmbhlhaaDoor
open Go.RowKit Sums
set_option linter.unusedVariables false
set_option linter.unusedSimpArgs false

/-- The table of constants lies where it was laid. -/
def Table (g : Nat) (w : World) : Prop := g < w.heap.size ∧ ∀ k, k < 64 → w.cell? ⟨g, k, none⟩ = some (.int .u32 (kT.getD k 0))
theorem Table.keep {g : Nat} {w w' : World} (h : Table g w) (hb : Below w.heap.size w w') : Table g w' :=
  ⟨Nat.lt_of_lt_of_le h.1 hb.size, fun k hk => by rw [hb.cell (p := ⟨g, k, none⟩) h.1]; exact h.2 k hk⟩

def OkSt (s : St) : Prop := Ok s.list
theorem list_length (s : St) : s.list.length = 8 := rfl
theorem step_ok (s : St) (k w : Int) (h : OkSt s) : OkSt (Sums.step s k w) := by
  intro z hz
  simp only [Sums.step, St.list, List.mem_cons, List.not_mem_nil, or_false] at hz
  have H : ∀ y ∈ s.list, 0 ≤ y ∧ y ≤ 4294967295 := h
  simp only [St.list, List.mem_cons, List.not_mem_nil, or_false, forall_eq_or_imp, forall_eq] at H
  rcases hz with rfl | rfl | rfl | rfl | rfl | rfl | rfl | rfl
  · exact add32_range _ _
  · exact H.1
  · exact H.2.1
  · exact H.2.2.1
  · exact add32_range _ _
  · exact H.2.2.2.2.1
  · exact H.2.2.2.2.2.1
  · exact H.2.2.2.2.2.2.1
theorem run_ok (s : St) (w : List Int) (n : Nat) (h : OkSt s) : OkSt (Sums.run s w n) := by
  induction n with
  | zero => exact h
  | succ n ih => exact step_ok _ _ _ ih
theorem plus_ok (s r : St) : OkSt (plus s r) := by
  intro z hz
  simp only [plus, St.list, List.mem_cons, List.not_mem_nil, or_false] at hz
  rcases hz with rfl | rfl | rfl | rfl | rfl | rfl | rfl | rfl <;> exact add32_range _ _
theorem sched_length (b : List UInt8) : (sched b).length = 64 := by simp [sched, grow_length, words16_length]

theorem size38 : (Tryd.prog.info? 47).map (·.size) = some 8 := by kernel_rfl
theorem zero38 : (Tryd.prog.info? 47).map (fun i => (i.zero, i.size)) = some (some (.agg (wcells (List.replicate 8 0)).toArray), 8) := by kernel_rfl
theorem noughts38 : ∃ Z : Array Value, Hid ((Tryd.prog.info? 47).map (fun i => (i.zero, i.size)) = some (some (.agg Z), Z.size)) ∧
    Hid ((Tryd.prog.info? 47).map (·.size) = some Z.size) ∧ Hid (Z.size = 8) :=
  ⟨(wcells (List.replicate 8 0)).toArray, zero38, size38, (rfl : _ = _)⟩
/-- A row of words: what a walk asks of it. -/
theorem words_row (l : List Int) (t n : Nat) (hl : l.length = n) (hs : (Tryd.prog.info? t).map (·.size) = some n) : ∃ D : Array Value, Hid (D = (wcells l).toArray) ∧ Hid ((Tryd.prog.info? t).map (·.size) = some D.size) ∧ Hid (D.all (·.oneCell') = true) ∧ Hid (D.size = n) := by
  refine ⟨(wcells l).toArray, (rfl : _ = _), ?_, wcells_all l, ?_⟩
  · show _ = _
    rw [hs]; simp [wcells_length, hl]
  · show _ = _
    simp [wcells_length, hl]

set_option maxHeartbeats 2000000 in
set_option maxRecDepth 100000 in
theorem mixed_any (s : St) (b off cap : Nat) (bl : List UInt8) (w : World) (hs : OkSt s) (hl : bl.length = 64) (hc : 64 ≤ cap) (hc2 : cap ≤ 9223372036854775807) (hb : b < w.heap.size) (hL : Lies w b off bl) (hT : Table 0 w) :
    Calls Tryd.prog 24 #[.agg (wcells s.list).toArray, .slice (some ⟨b, off, none⟩) 64 cap] w fun e w' => e = .returned (.agg (wcells (block s bl).list).toArray) ∧ Below w.heap.size w w' := by
  obtain ⟨Z8, HA8, HS8, H8⟩ := noughts38
  obtain ⟨Z, HZ, HA, HS, H1, HZ64⟩ := noughts45
  obtain ⟨D, HD, HSD, H1D, H8D⟩ := words_row s.list 47 8 rfl size38
  obtain ⟨V, HV, HSV, H1V, H64V⟩ := words_row (sched bl) 55 64 (sched_length bl) size45
  have HZV : Hid (Z.size = V.size) := by show _ = _; rw [HZ64.out, H64V.out]
  have HTB : Hid (Table 0 w) := hT
  have HOK : Hid (OkSt s) := hs
  have HK : Hid (∀ w1, Below w.heap.size w w1 → Calls Tryd.prog 28 #[.slice (some ⟨b, off, none⟩) 64 cap] w1 fun e w' => e = .returned (.agg V) ∧ Below w1.heap.size w1 w') := by
    intro w1 hb1
    rw [HV.out]
    exact sched_any b off cap bl w1 hl hc hc2 (Nat.lt_of_lt_of_le hb hb1.size) (hL.keep hb1 hb)
  rw [← HD.out]
  clear hL hl hT hs
  go_enter Tryd.func24, Tryd.ntmps24
  go_wp2_with (first
    | (refine wpList_alloc_row rfl 47 rfl Z8 HA8.out ?_)
    | fail)
  have hB0 : Below w.heap.size w ((w.alloc (.cells D 47)).alloc (.cells Z8 47)) := ((Below.refl _ _).alloc (Nat.le_refl _) _).alloc (by simp) _
  refine (HK.out _ hB0).mono ?_
  rintro e w1 ⟨rfl, hb1⟩
  have hs1 := hb1.size
  simp only [World.size_alloc] at hs1
  go_wp2_with (first
    | (refine wpList_alloc_row rfl 55 rfl Z HA.out ?_)
    | (refine wpList_store_row rfl 55 (.tmp 5) (.tmp 18) rfl w1.heap.size V rfl rfl 55 Z (heap_alloc_new w1 _) HSV.out HZV.out H1V.out ?_)
    | fail)
  obtain ⟨w2, hw2⟩ : ∃ w2, w2 = (w1.alloc (.cells Z 55)).setRow w1.heap.size V := ⟨_, rfl⟩
  rw [← hw2]
  have HG : Hid (w2.heap[w.heap.size]? = some (.cells D 47 (0, 0)) ∧ w2.heap[w.heap.size + 1]? = some (.cells Z8 47 (0, 0)) ∧ w2.heap[w1.heap.size]? = some (.cells V 55 (0, 0))) := by
    rw [hw2]
    refine ⟨keep_var ?_ _ _, keep_var ?_ _ _, new_var w1 Z V 55⟩
    · rw [hb1.block _ (by simp only [World.size_alloc]; omega)]; exact heap_alloc2_old w _ _
    · rw [hb1.block _ (by simp only [World.size_alloc]; omega)]; exact heap_alloc2_new w _ _
  have hB2 : Below w.heap.size w w2 := by
    rw [hw2]
    exact below_var (hB0.trans (hb1.mono (by simp only [World.size_alloc]; omega))) (by omega) _ _
  have HT2 : Hid (Table 0 w2) := HTB.out.keep hB2
  obtain ⟨gw, HGW⟩ : ∃ gw, Hid (gw = w1.heap.size) := ⟨_, (rfl : w1.heap.size = _)⟩
  rw [← HGW.out] at HG ⊢
  clear hw2 hb1 hs1 hB0 HK HTB
  have D8 : ∀ j, (hj : j < 8) → w2.cell? ⟨w.heap.size, j, none⟩ = some (.int .u32 (s.list[j]'(by rw [list_length]; exact hj))) := fun j hj => by
    have := HG.out.1
    rw [HD.out] at this
    exact wrow_cell this j hj
  have d0 : w2.cell? ⟨w.heap.size, 0, none⟩ = some (.int .u32 s.a) := D8 0 (by omega)
  have d1 : w2.cell? ⟨w.heap.size, 1, none⟩ = some (.int .u32 s.b) := D8 1 (by omega)
  have d2 : w2.cell? ⟨w.heap.size, 2, none⟩ = some (.int .u32 s.c) := D8 2 (by omega)
  have d3 : w2.cell? ⟨w.heap.size, 3, none⟩ = some (.int .u32 s.d) := D8 3 (by omega)
  have d4 : w2.cell? ⟨w.heap.size, 4, none⟩ = some (.int .u32 s.e) := D8 4 (by omega)
  have d5 : w2.cell? ⟨w.heap.size, 5, none⟩ = some (.int .u32 s.f) := D8 5 (by omega)
  have d6 : w2.cell? ⟨w.heap.size, 6, none⟩ = some (.int .u32 s.g) := D8 6 (by omega)
  have d7 : w2.cell? ⟨w.heap.size, 7, none⟩ = some (.int .u32 s.h) := D8 7 (by omega)
  clear D8
  go_quiet (fail)
  go_wp2
  go_quiet (fail)
  go_wp2
  go_loopw [6, 7, 8, 9, 10, 11, 12, 13, 35] (fun v6 v7 v8 v9 v10 v11 v12 v13 v35 wr => ∃ (k : Nat) (r : St) (n : Nat), k ≤ 64 ∧ v35 = .int .i64 k ∧ v6 = .int .u32 r.a ∧ v7 = .int .u32 r.b ∧ v8 = .int .u32 r.c ∧ v9 = .int .u32 r.d ∧
      v10 = .int .u32 r.e ∧ v11 = .int .u32 r.f ∧ v12 = .int .u32 r.g ∧ v13 = .int .u32 r.h ∧ Hid (r = Sums.run s (sched bl) k) ∧ wr = w2.drewN n)
    (fun _ _ _ _ _ _ _ _ v _ => 64 - (intOf v).toNat)
  case atStart => exact ⟨0, s, _, by omega, rfl, rfl, rfl, rfl, rfl, rfl, rfl, rfl, rfl, (rfl : s = _), by rw [World.drewN_drewN]⟩
  case round =>
    obtain ⟨k, r, n, hk, rfl, rfl, rfl, rfl, rfl, rfl, rfl, rfl, rfl, HR, rfl⟩ := hrel
    by_cases hlt : k < 64
    · have hdi : decide ((k : Int) < 64) = true := by rw [decide_eq_true_eq]; omega
      have HOr : Hid (OkSt r) := by show OkSt _; rw [HR.out]; exact run_ok _ _ _ HOK.out
      obtain ⟨kk, HKK⟩ : ∃ kk, Hid (kk = kT.getD k 0) := ⟨_, (rfl : kT.getD k 0 = _)⟩
      obtain ⟨ww, HWW⟩ : ∃ ww, Hid (ww = (sched bl).getD k 0) := ⟨_, (rfl : (sched bl).getD k 0 = _)⟩
      have ck : (w2.drewN n).cell? ⟨0, k, none⟩ = some (.int .u32 kk) := by
        rw [HKK.out]; exact HT2.out.2 k hlt
      have cw : (w2.drewN n).cell? ⟨gw, k, none⟩ = some (.int .u32 ww) := by
        have h1 := HG.out.2.2
        rw [HV.out] at h1
        have := wrow_cell h1 k (by rw [sched_length]; omega)
        rw [HWW.out]
        simpa [List.getD, List.getElem?_eq_getElem (show k < (sched bl).length by rw [sched_length]; omega)] using this
      have HE : Hid (Sums.step r kk ww = Sums.run s (sched bl) (k + 1)) := by
        show _ = _
        rw [HKK.out, HWW.out, HR.out]
        rfl
      obtain ⟨ra, rb, rc, rd, re, rf, rg, rh⟩ := r
      have HB : Hid ((0 ≤ ra ∧ ra ≤ 4294967295) ∧ (0 ≤ re ∧ re ≤ 4294967295)) := ⟨HOr.out ra (by simp [St.list]), HOr.out re (by simp [St.list])⟩
      have T6 : Hid _ := fun w => turned_any re 6 64 67108864 w HB.out.2.1 HB.out.2.2 (by unfold Turn; decide)
      have T11 : Hid _ := fun w => turned_any re 11 2048 2097152 w HB.out.2.1 HB.out.2.2 (by unfold Turn; decide)
      have T25 : Hid _ := fun w => turned_any re 25 33554432 128 w HB.out.2.1 HB.out.2.2 (by unfold Turn; decide)
      have T2 : Hid _ := fun w => turned_any ra 2 4 1073741824 w HB.out.1.1 HB.out.1.2 (by unfold Turn; decide)
      have T13 : Hid _ := fun w => turned_any ra 13 8192 524288 w HB.out.1.1 HB.out.1.2 (by unfold Turn; decide)
      have T22 : Hid _ := fun w => turned_any ra 22 4194304 1024 w HB.out.1.1 HB.out.1.2 (by unfold Turn; decide)
      have ia := fun W => idxW W 0 k (k : Int) rfl hlt
      have ib := fun W => idxW W gw k (k : Int) rfl hlt
      clear HR HOr
      go_wp2
      refine wp_region_held_drew (S := (fun W => W.cell? ⟨0, k, none⟩ = some (.int .u32 kk) ∧ W.cell? ⟨gw, k, none⟩ = some (.int .u32 ww))) (by kernel_rfl) ⟨ck, cw⟩ (fun hHeld => ?_)
      refine wpAnyH_take (i := 0) (oi := { dst := some 38, op := Op.move (Operand.tmp 13), type := 46, pos := "sha.go:79", after := #[], guard := none }) (v := .int .u32 (rh)) rfl (by kernel_rfl) (by kernel_rfl) (by kernel_rfl) (fun _ _ _ h => h) (Or.inl ⟨by rfl, by intro W hSw; go_simp⟩) hHeld ?_
      try simp only [Act.put, List.setIfInBounds_toArray, List.set_cons_zero, List.set_cons_succ]
      refine wpAnyH_take (i := 1) (oi := { dst := some 39, op := Op.move (Operand.tmp 10), type := 46, pos := "sha.go:79", after := #[], guard := none }) (v := .int .u32 (re)) rfl (by kernel_rfl) (by kernel_rfl) (by kernel_rfl) (fun _ _ _ h => h) (Or.inl ⟨by rfl, by intro W hSw; go_simp⟩) hHeld ?_
      try simp only [Act.put, List.setIfInBounds_toArray, List.set_cons_zero, List.set_cons_succ]
      refine wpAnyH_take (i := 3) (oi := { dst := some 41, op := Op.move (Operand.tmp 10), type := 46, pos := "sha.go:79", after := #[], guard := none }) (v := .int .u32 (re)) rfl (by kernel_rfl) (by kernel_rfl) (by kernel_rfl) (fun _ _ _ h => h) (Or.inl ⟨by rfl, by intro W hSw; go_simp⟩) hHeld ?_
      try simp only [Act.put, List.setIfInBounds_toArray, List.set_cons_zero, List.set_cons_succ]
      refine wpAnyH_take (i := 6) (oi := { dst := some 44, op := Op.move (Operand.tmp 10), type := 46, pos := "sha.go:79", after := #[], guard := none }) (v := .int .u32 (re)) rfl (by kernel_rfl) (by kernel_rfl) (by kernel_rfl) (fun _ _ _ h => h) (Or.inl ⟨by rfl, by intro W hSw; go_simp⟩) hHeld ?_
      try simp only [Act.put, List.setIfInBounds_toArray, List.set_cons_zero, List.set_cons_succ]
      refine wpAnyH_take (i := 10) (oi := { dst := some 48, op := Op.move (Operand.tmp 10), type := 46, pos := "sha.go:79", after := #[], guard := none }) (v := .int .u32 (re)) rfl (by kernel_rfl) (by kernel_rfl) (by kernel_rfl) (fun _ _ _ h => h) (Or.inl ⟨by rfl, by intro W hSw; go_simp⟩) hHeld ?_
      try simp only [Act.put, List.setIfInBounds_toArray, List.set_cons_zero, List.set_cons_succ]
      refine wpAnyH_take (i := 11) (oi := { dst := some 49, op := Op.move (Operand.tmp 11), type := 46, pos := "sha.go:79", after := #[], guard := none }) (v := .int .u32 (rf)) rfl (by kernel_rfl) (by kernel_rfl) (by kernel_rfl) (fun _ _ _ h => h) (Or.inl ⟨by rfl, by intro W hSw; go_simp⟩) hHeld ?_
      try simp only [Act.put, List.setIfInBounds_toArray, List.set_cons_zero, List.set_cons_succ]
      refine wpAnyH_take (i := 12) (oi := { dst := some 50, op := Op.binOp BinOp.and 46 (Operand.tmp 48) (Operand.tmp 49) 46, type := 46, pos := "sha.go:79", after := #[{ on := 10, ground := Ground.data }, { on := 11, ground := Ground.data }], guard := none }) (v := .int .u32 (bits .and .u32 (re) (rf))) rfl (by kernel_rfl) (by kernel_rfl) (by kernel_rfl) (fun _ _ _ h => h) (Or.inl ⟨by rfl, by intro W hSw; go_simp; first | done | exact u32w _ | (rw [u32w]; first | rfl | omega) | omega | exact wrap_int _ (by omega) (by omega)⟩) hHeld ?_
      try simp only [Act.put, List.setIfInBounds_toArray, List.set_cons_zero, List.set_cons_succ]
      refine wpAnyH_take (i := 13) (oi := { dst := some 51, op := Op.move (Operand.tmp 10), type := 46, pos := "sha.go:79", after := #[], guard := none }) (v := .int .u32 (re)) rfl (by kernel_rfl) (by kernel_rfl) (by kernel_rfl) (fun _ _ _ h => h) (Or.inl ⟨by rfl, by intro W hSw; go_simp⟩) hHeld ?_
      try simp only [Act.put, List.setIfInBounds_toArray, List.set_cons_zero, List.set_cons_succ]
      refine wpAnyH_take (i := 14) (oi := { dst := some 52, op := Op.unOp UnOp.xor 46 (Operand.tmp 51), type := 46, pos := "sha.go:79", after := #[{ on := 13, ground := Ground.data }], guard := none }) (v := .int .u32 (bits .xor .u32 4294967295 (re))) rfl (by kernel_rfl) (by kernel_rfl) (by kernel_rfl) (fun _ _ _ h => h) (Or.inl ⟨by rfl, by intro W hSw; go_simp; first | done | rfl⟩) hHeld ?_
      try simp only [Act.put, List.setIfInBounds_toArray, List.set_cons_zero, List.set_cons_succ]
      refine wpAnyH_take (i := 15) (oi := { dst := some 53, op := Op.move (Operand.tmp 12), type := 46, pos := "sha.go:79", after := #[], guard := none }) (v := .int .u32 (rg)) rfl (by kernel_rfl) (by kernel_rfl) (by kernel_rfl) (fun _ _ _ h => h) (Or.inl ⟨by rfl, by intro W hSw; go_simp⟩) hHeld ?_
      try simp only [Act.put, List.setIfInBounds_toArray, List.set_cons_zero, List.set_cons_succ]
      refine wpAnyH_take (i := 16) (oi := { dst := some 54, op := Op.binOp BinOp.and 46 (Operand.tmp 52) (Operand.tmp 53) 46, type := 46, pos := "sha.go:79", after := #[{ on := 14, ground := Ground.data }, { on := 15, ground := Ground.data }], guard := none }) (v := .int .u32 (bits .and .u32 (bits .xor .u32 4294967295 (re)) (rg))) rfl (by kernel_rfl) (by kernel_rfl) (by kernel_rfl) (fun _ _ _ h => h) (Or.inl ⟨by rfl, by intro W hSw; go_simp; first | done | exact u32w _ | (rw [u32w]; first | rfl | omega) | omega | exact wrap_int _ (by omega) (by omega)⟩) hHeld ?_
      try simp only [Act.put, List.setIfInBounds_toArray, List.set_cons_zero, List.set_cons_succ]
      refine wpAnyH_take (i := 17) (oi := { dst := some 55, op := Op.binOp BinOp.xor 46 (Operand.tmp 50) (Operand.tmp 54) 46, type := 46, pos := "sha.go:79", after := #[{ on := 12, ground := Ground.data }, { on := 16, ground := Ground.data }], guard := none }) (v := .int .u32 (bits .xor .u32 (bits .and .u32 (re) (rf)) (bits .and .u32 (bits .xor .u32 4294967295 (re)) (rg)))) rfl (by kernel_rfl) (by kernel_rfl) (by kernel_rfl) (fun _ _ _ h => h) (Or.inl ⟨by rfl, by intro W hSw; go_simp; first | done | exact u32w _ | (rw [u32w]; first | rfl | omega) | omega | exact wrap_int _ (by omega) (by omega)⟩) hHeld ?_
      try simp only [Act.put, List.setIfInBounds_toArray, List.set_cons_zero, List.set_cons_succ]
      refine wpAnyH_take (i := 19) (oi := { dst := some 57, op := Op.move (Operand.tmp 14), type := 3, pos := "sha.go:79", after := #[], guard := none }) (v := .int .i64 (k : Int)) rfl (by kernel_rfl) (by kernel_rfl) (by kernel_rfl) (fun _ _ _ h => h) (Or.inl ⟨by rfl, by intro W hSw; go_simp⟩) hHeld ?_
      try simp only [Act.put, List.setIfInBounds_toArray, List.set_cons_zero, List.set_cons_succ]
      refine wpAnyH_take (i := 20) (oi := { dst := some 58, op := Op.indexAddr 55 (Operand.global 0) (Operand.tmp 57), type := 0, pos := "sha.go:79", after := #[{ on := 19, ground := Ground.data }], guard := none }) (v := .pointer (some ⟨0, k, none⟩)) rfl (by kernel_rfl) (by kernel_rfl) (by kernel_rfl) (fun _ _ _ h => h) (Or.inl ⟨by rfl, by intro W hSw; go_simp⟩) hHeld ?_
      try simp only [Act.put, List.setIfInBounds_toArray, List.set_cons_zero, List.set_cons_succ]
      refine wpAnyH_take (i := 21) (oi := { dst := some 59, op := Op.load 46 (Operand.tmp 58), type := 46, pos := "sha.go:79", after := #[{ on := 20, ground := Ground.data }], guard := none }) (v := .int .u32 (kk)) rfl (by kernel_rfl) (by kernel_rfl) (by kernel_rfl) (fun _ _ _ h => h) (Or.inl ⟨by rfl, by intro W hSw; obtain ⟨s1, s2⟩ := hSw; go_simp⟩) hHeld ?_
      try simp only [Act.put, List.setIfInBounds_toArray, List.set_cons_zero, List.set_cons_succ]
      refine wpAnyH_take (i := 23) (oi := { dst := some 61, op := Op.move (Operand.tmp 14), type := 3, pos := "sha.go:79", after := #[], guard := none }) (v := .int .i64 (k : Int)) rfl (by kernel_rfl) (by kernel_rfl) (by kernel_rfl) (fun _ _ _ h => h) (Or.inl ⟨by rfl, by intro W hSw; go_simp⟩) hHeld ?_
      try simp only [Act.put, List.setIfInBounds_toArray, List.set_cons_zero, List.set_cons_succ]
      refine wpAnyH_take (i := 24) (oi := { dst := some 62, op := Op.indexAddr 55 (Operand.tmp 5) (Operand.tmp 61), type := 0, pos := "sha.go:79", after := #[{ on := 23, ground := Ground.data }], guard := none }) (v := .pointer (some ⟨gw, k, none⟩)) rfl (by kernel_rfl) (by kernel_rfl) (by kernel_rfl) (fun _ _ _ h => h) (Or.inl ⟨by rfl, by intro W hSw; go_simp⟩) hHeld ?_
      try simp only [Act.put, List.setIfInBounds_toArray, List.set_cons_zero, List.set_cons_succ]
      refine wpAnyH_take (i := 25) (oi := { dst := some 63, op := Op.load 46 (Operand.tmp 62), type := 46, pos := "sha.go:79", after := #[{ on := 24, ground := Ground.data }], guard := none }) (v := .int .u32 (ww)) rfl (by kernel_rfl) (by kernel_rfl) (by kernel_rfl) (fun _ _ _ h => h) (Or.inl ⟨by rfl, by intro W hSw; obtain ⟨s1, s2⟩ := hSw; go_simp⟩) hHeld ?_
      try simp only [Act.put, List.setIfInBounds_toArray, List.set_cons_zero, List.set_cons_succ]
      refine wpAnyH_ready (rs := [2]) (by kernel_rfl) (by simp) ?_
      refine AllReadyH.cons (o := { dst := some 40, op := Op.call { callee := Callee.value (Operand.func 29), args := #[Operand.tmp 39, Operand.const (Value.int IntKind.i64 6)], argTypes := #[46, 3] }, type := 46, pos := "sha.go:79", after := #[{ on := 1, ground := Ground.data }], guard := none }) rfl (fun K hK => ?_) AllReadyH.nil
      go_simp
      refine (T6.out _).mono ?_
      rintro e w' ⟨rfl, rfl⟩
      go_wp2_with fail
      refine hK.out _ _ hHeld (fun hHeld => ?_)
      clear hK K
      try simp only [Act.put, List.setIfInBounds_toArray, List.set_cons_zero, List.set_cons_succ]
      refine wpAnyH_ready (rs := [4]) (by kernel_rfl) (by simp) ?_
      refine AllReadyH.cons (o := { dst := some 42, op := Op.call { callee := Callee.value (Operand.func 29), args := #[Operand.tmp 41, Operand.const (Value.int IntKind.i64 11)], argTypes := #[46, 3] }, type := 46, pos := "sha.go:79", after := #[{ on := 3, ground := Ground.data }, { on := 2, ground := Ground.chain }], guard := none }) rfl (fun K hK => ?_) AllReadyH.nil
      go_simp
      refine (T11.out _).mono ?_
      rintro e w' ⟨rfl, rfl⟩
      go_wp2_with fail
      refine hK.out _ _ hHeld (fun hHeld => ?_)
      clear hK K
      try simp only [Act.put, List.setIfInBounds_toArray, List.set_cons_zero, List.set_cons_succ]
      refine wpAnyH_take (i := 5) (oi := { dst := some 43, op := Op.binOp BinOp.xor 46 (Operand.tmp 40) (Operand.tmp 42) 46, type := 46, pos := "sha.go:79", after := #[{ on := 2, ground := Ground.data }, { on := 4, ground := Ground.data }], guard := none }) (v := .int .u32 (bits .xor .u32 (rot (re) 64 67108864) (rot (re) 2048 2097152))) rfl (by kernel_rfl) (by kernel_rfl) (by kernel_rfl) (fun _ _ _ h => h) (Or.inl ⟨by rfl, by intro W hSw; go_simp; first | done | exact u32w _ | (rw [u32w]; first | rfl | omega) | omega | exact wrap_int _ (by omega) (by omega)⟩) hHeld ?_
      try simp only [Act.put, List.setIfInBounds_toArray, List.set_cons_zero, List.set_cons_succ]
      refine wpAnyH_ready (rs := [7]) (by kernel_rfl) (by simp) ?_
      refine AllReadyH.cons (o := { dst := some 45, op := Op.call { callee := Callee.value (Operand.func 29), args := #[Operand.tmp 44, Operand.const (Value.int IntKind.i64 25)], argTypes := #[46, 3] }, type := 46, pos := "sha.go:79", after := #[{ on := 6, ground := Ground.data }, { on := 4, ground := Ground.chain }], guard := none }) rfl (fun K hK => ?_) AllReadyH.nil
      go_simp
      refine (T25.out _).mono ?_
      rintro e w' ⟨rfl, rfl⟩
      go_wp2_with fail
      refine hK.out _ _ hHeld (fun hHeld => ?_)
      clear hK K
      try simp only [Act.put, List.setIfInBounds_toArray, List.set_cons_zero, List.set_cons_succ]
      refine wpAnyH_take (i := 8) (oi := { dst := some 46, op := Op.binOp BinOp.xor 46 (Operand.tmp 43) (Operand.tmp 45) 46, type := 46, pos := "sha.go:79", after := #[{ on := 5, ground := Ground.data }, { on := 7, ground := Ground.data }], guard := none }) (v := .int .u32 (bits .xor .u32 (bits .xor .u32 (rot (re) 64 67108864) (rot (re) 2048 2097152)) (rot (re) 33554432 128))) rfl (by kernel_rfl) (by kernel_rfl) (by kernel_rfl) (fun _ _ _ h => h) (Or.inl ⟨by rfl, by intro W hSw; go_simp; first | done | exact u32w _ | (rw [u32w]; first | rfl | omega) | omega | exact wrap_int _ (by omega) (by omega)⟩) hHeld ?_
      try simp only [Act.put, List.setIfInBounds_toArray, List.set_cons_zero, List.set_cons_succ]
      refine wpAnyH_take (i := 9) (oi := { dst := some 47, op := Op.binOp BinOp.add 46 (Operand.tmp 38) (Operand.tmp 46) 46, type := 46, pos := "sha.go:79", after := #[{ on := 0, ground := Ground.data }, { on := 8, ground := Ground.data }], guard := none }) (v := .int .u32 (((rh) + (bits .xor .u32 (bits .xor .u32 (rot (re) 64 67108864) (rot (re) 2048 2097152)) (rot (re) 33554432 128))) % 4294967296)) rfl (by kernel_rfl) (by kernel_rfl) (by kernel_rfl) (fun _ _ _ h => h) (Or.inl ⟨by rfl, by intro W hSw; go_simp; first | done | exact u32w _ | (rw [u32w]; first | rfl | omega) | omega | exact wrap_int _ (by omega) (by omega)⟩) hHeld ?_
      try simp only [Act.put, List.setIfInBounds_toArray, List.set_cons_zero, List.set_cons_succ]
      refine wpAnyH_take (i := 18) (oi := { dst := some 56, op := Op.binOp BinOp.add 46 (Operand.tmp 47) (Operand.tmp 55) 46, type := 46, pos := "sha.go:79", after := #[{ on := 9, ground := Ground.data }, { on := 17, ground := Ground.data }], guard := none }) (v := .int .u32 (((((rh) + (bits .xor .u32 (bits .xor .u32 (rot (re) 64 67108864) (rot (re) 2048 2097152)) (rot (re) 33554432 128))) % 4294967296) + (bits .xor .u32 (bits .and .u32 (re) (rf)) (bits .and .u32 (bits .xor .u32 4294967295 (re)) (rg)))) % 4294967296)) rfl (by kernel_rfl) (by kernel_rfl) (by kernel_rfl) (fun _ _ _ h => h) (Or.inl ⟨by rfl, by intro W hSw; go_simp; first | done | exact u32w _ | (rw [u32w]; first | rfl | omega) | omega | exact wrap_int _ (by omega) (by omega)⟩) hHeld ?_
      try simp only [Act.put, List.setIfInBounds_toArray, List.set_cons_zero, List.set_cons_succ]
      refine wpAnyH_take (i := 22) (oi := { dst := some 60, op := Op.binOp BinOp.add 46 (Operand.tmp 56) (Operand.tmp 59) 46, type := 46, pos := "sha.go:79", after := #[{ on := 18, ground := Ground.data }, { on := 21, ground := Ground.data }], guard := none }) (v := .int .u32 (((((((rh) + (bits .xor .u32 (bits .xor .u32 (rot (re) 64 67108864) (rot (re) 2048 2097152)) (rot (re) 33554432 128))) % 4294967296) + (bits .xor .u32 (bits .and .u32 (re) (rf)) (bits .and .u32 (bits .xor .u32 4294967295 (re)) (rg)))) % 4294967296) + (kk)) % 4294967296)) rfl (by kernel_rfl) (by kernel_rfl) (by kernel_rfl) (fun _ _ _ h => h) (Or.inl ⟨by rfl, by intro W hSw; go_simp; first | done | exact u32w _ | (rw [u32w]; first | rfl | omega) | omega | exact wrap_int _ (by omega) (by omega)⟩) hHeld ?_
      try simp only [Act.put, List.setIfInBounds_toArray, List.set_cons_zero, List.set_cons_succ]
      refine wpAnyH_take (i := 26) (oi := { dst := some 64, op := Op.binOp BinOp.add 46 (Operand.tmp 60) (Operand.tmp 63) 46, type := 46, pos := "sha.go:79", after := #[{ on := 22, ground := Ground.data }, { on := 25, ground := Ground.data }], guard := none }) (v := .int .u32 (((((((((rh) + (bits .xor .u32 (bits .xor .u32 (rot (re) 64 67108864) (rot (re) 2048 2097152)) (rot (re) 33554432 128))) % 4294967296) + (bits .xor .u32 (bits .and .u32 (re) (rf)) (bits .and .u32 (bits .xor .u32 4294967295 (re)) (rg)))) % 4294967296) + (kk)) % 4294967296) + (ww)) % 4294967296)) rfl (by kernel_rfl) (by kernel_rfl) (by kernel_rfl) (fun _ _ _ h => h) (Or.inl ⟨by rfl, by intro W hSw; go_simp; first | done | exact u32w _ | (rw [u32w]; first | rfl | omega) | omega | exact wrap_int _ (by omega) (by omega)⟩) hHeld ?_
      try simp only [Act.put, List.setIfInBounds_toArray, List.set_cons_zero, List.set_cons_succ]
      refine wpAnyH_take (i := 27) (oi := { dst := some 15, op := Op.assign (Operand.tmp 64), type := 46, pos := "sha.go:79", after := #[{ on := 26, ground := Ground.data }, { on := 7, ground := Ground.chain }, { on := 0, ground := Ground.phase }, { on := 1, ground := Ground.phase }, { on := 2, ground := Ground.phase }, { on := 3, ground := Ground.phase }, { on := 4, ground := Ground.phase }, { on := 5, ground := Ground.phase }, { on := 6, ground := Ground.phase }, { on := 7, ground := Ground.phase }, { on := 8, ground := Ground.phase }, { on := 9, ground := Ground.phase }, { on := 10, ground := Ground.phase }, { on := 11, ground := Ground.phase }, { on := 12, ground := Ground.phase }, { on := 13, ground := Ground.phase }, { on := 14, ground := Ground.phase }, { on := 15, ground := Ground.phase }, { on := 16, ground := Ground.phase }, { on := 17, ground := Ground.phase }, { on := 18, ground := Ground.phase }, { on := 19, ground := Ground.phase }, { on := 20, ground := Ground.phase }, { on := 21, ground := Ground.phase }, { on := 22, ground := Ground.phase }, { on := 23, ground := Ground.phase }, { on := 24, ground := Ground.phase }, { on := 25, ground := Ground.phase }, { on := 26, ground := Ground.phase }], guard := none }) (v := .int .u32 (((((((((rh) + (bits .xor .u32 (bits .xor .u32 (rot (re) 64 67108864) (rot (re) 2048 2097152)) (rot (re) 33554432 128))) % 4294967296) + (bits .xor .u32 (bits .and .u32 (re) (rf)) (bits .and .u32 (bits .xor .u32 4294967295 (re)) (rg)))) % 4294967296) + (kk)) % 4294967296) + (ww)) % 4294967296)) rfl (by kernel_rfl) (by kernel_rfl) (by kernel_rfl) (fun _ _ _ h => h) (Or.inl ⟨by rfl, by intro W hSw; go_simp⟩) hHeld ?_
      try simp only [Act.put, List.setIfInBounds_toArray, List.set_cons_zero, List.set_cons_succ]
      refine wpAnyH_done (by kernel_rfl) ?_ _
      go_wp2_with (first
        | (go_at_call 29; refine (T2.out _).mono ?_; rintro e w' ⟨rfl, rfl⟩)
        | (go_at_call 29; refine (T13.out _).mono ?_; rintro e w' ⟨rfl, rfl⟩)
        | (go_at_call 29; refine (T22.out _).mono ?_; rintro e w' ⟨rfl, rfl⟩))
      go_roundw
      case rel =>
        refine ⟨k + 1, Sums.step ⟨ra, rb, rc, rd, re, rf, rg, rh⟩ kk ww, n + 1, by omega, by go_num, ?_, rfl, rfl, rfl, ?_, rfl, rfl, rfl, HE, rfl⟩
        · congr 1
          simp only [Sums.step, pOf, qOf, add32, xor32, and32, not32]
          omega
        · congr 1
          simp only [Sums.step, pOf, qOf, add32, xor32, and32, not32]
          omega
      case measure => simp [intOf]; omega
    · obtain rfl : k = 64 := by omega
      obtain ⟨ra, rb, rc, rd, re, rf, rg, rh⟩ := r
      have HE : Hid (block s bl = plus s ⟨ra, rb, rc, rd, re, rf, rg, rh⟩) := by
        show _ = _
        rw [HR.out]
        rfl
      have H8Z : Hid (w2.heap[w.heap.size + 1]? = some (.cells Z8 47 (0, 0))) := HG.out.2.1
      have F1 : Hid ((wcells (plus s ⟨ra, rb, rc, rd, re, rf, rg, rh⟩).list).toArray.size = 8) := (rfl : _ = _)
      have F2 : Hid ((Tryd.prog.info? 47).map (·.size) = some (wcells (plus s ⟨ra, rb, rc, rd, re, rf, rg, rh⟩).list).toArray.size) := by show _ = _; rw [F1.out]; exact size38
      have F3 : Hid (Z8.size = (wcells (plus s ⟨ra, rb, rc, rd, re, rf, rg, rh⟩).list).toArray.size) := by show _ = _; rw [F1.out]; exact H8.out
      have F4 : Hid ((wcells (plus s ⟨ra, rb, rc, rd, re, rf, rg, rh⟩).list).toArray.all (·.oneCell') = true) := wcells_all _
      go_wp2_with (first
        | (refine wpList_store_row rfl 47 (.tmp 4) (.tmp 130) rfl (w.heap.size + 1) (wcells (plus s ⟨ra, rb, rc, rd, re, rf, rg, rh⟩).list).toArray rfl (by rfl) 47 Z8 H8Z.out F2.out F3.out F4.out ?_)
        | fail)
      rw [HE.out]
      refine bodyPost_ret (v := .agg (wcells (plus s ⟨ra, rb, rc, rd, re, rf, rg, rh⟩).list).toArray) ?_ rfl ⟨rfl, ?_⟩
      · exact results_cell_row (p := 4) (ty := 47) rfl _ _ (w.heap.size + 1) 47 _ (0, 0) _ rfl (setRow_heap _ _ _ _ 47 _ H8Z.out) Tryd.underlying47 rfl F2.out
      · exact below_setRow (below_drewN hB2 _) (by omega) _
end Go.Proofs.YtkmndchbmbhlhaaDoor
