/- What the document's Makes answers. -/
import Derived.Test.YtehfoeedlchphaaDoorRefSplit
import Derived.Test.YtehfoeedlchphaaDoorMakes
import Derived.Test.YtehfoeedlchphaaDoorLaws5
namespace Go.Proofs.YtehfoeedlchphaaDoor
open Go.RowKit Sums
set_option linter.unusedVariables false
set_option linter.unusedSimpArgs false

set_option maxHeartbeats 2000000 in
/-- No more digest, or no more size: the leaf. -/
theorem refMakes_end (S I : Nat) (x : List UInt8) (a : Option Addr) (len cap : Nat) (w : World) (hS : S ≤ 100000) (hl : len ≤ maxLen) (h : S = 1 ∨ len = 0) (hx : x.length = 32) (X : Array Value) (HX : Hid (X = (cellsOf x).toArray)) (b : Bool) (Hb : Hid (b = (decide (S = 1) && decide (len = 0)))) :
    Calls Tryd.prog 27 #[.int .i64 S, .int .i64 I, .agg X, .slice a len cap] w fun e w' => e = .returned (.tuple #[.agg X, .bool b]) ∧ Below w.heap.size w w' := by
  obtain ⟨Z, HZ, HA, HS, H1, H32⟩ := noughts27
  have HSX : Hid ((Tryd.prog.info? 23).map (·.size) = some X.size) := by show _ = _; rw [size23, HX.out]; simp [cellsOf_length, hx]
  have H1X : Hid (X.all (·.oneCell') = true) := by show _ = _; rw [HX.out]; exact cellsOf_all _
  have HZX : Hid (Z.size = X.size) := by show _ = _; rw [H32.out, HX.out]; simp [cellsOf_length, hx]
  have hlx : len ≤ 9223372036854775807 := by unfold maxLen at hl; omega
  have HB := hidk (came w X Z)
  have HB2 : Hid (((w.alloc (.cells X 23)).alloc (.cells Z 23)).heap[(w.alloc (.cells X 23)).heap.size]? = some (.cells Z 23 (0, 0))) := heap_alloc_new _ _
  by_cases h1 : S = 1
  · subst h1
    by_cases h0 : len = 0
    · subst h0
      obtain rfl : b = true := by rw [Hb.out]; rfl
      clear Hb HX h hl
      go_enter Tryd.func27, Tryd.ntmps27
      go_wp2_with (first
        | (refine wpList_alloc_row rfl 23 rfl Z HA.out ?_; try simp only [Act.put, List.setIfInBounds_toArray, List.set_cons_zero, List.set_cons_succ])
        | (refine wpList_load_row rfl 23 (.tmp 6) rfl w.heap.size rfl 23 X (0, 0) _ HB.out.2.1 Tryd.underlying23 rfl HSX.out ?_; try simp only [Act.put, List.setIfInBounds_toArray, List.set_cons_zero, List.set_cons_succ])
        | (refine wpList_store_row rfl 23 (.tmp 8) (.tmp 25) rfl _ X rfl rfl 23 Z HB2.out HSX.out HZX.out H1X.out ?_; try simp only [Act.put, List.setIfInBounds_toArray, List.set_cons_zero, List.set_cons_succ])
        | fail)
      refine bodyPost_ret (v := .tuple #[.agg X, .bool true]) ?_ rfl ⟨rfl, below_setRow HB.out.1 (by simp) _⟩
      exact results_row_tmp (p := 8) (q := 9) (ty := 23) rfl _ _ _ 23 X (0, 0) _ rfl (setRow_heap _ _ _ _ 23 _ HB2.out) Tryd.underlying23 rfl HSX.out
    · have c0 : ((len : Int) == 0) = false := by rw [beq_eq_false_iff_ne]; omega
      obtain rfl : b = false := by rw [Hb.out]; simp [h0]
      clear Hb HX h hl
      go_enter Tryd.func27, Tryd.ntmps27
      go_wp2_with (first
        | (refine wpList_alloc_row rfl 23 rfl Z HA.out ?_; try simp only [Act.put, List.setIfInBounds_toArray, List.set_cons_zero, List.set_cons_succ])
        | (refine wpList_load_row rfl 23 (.tmp 6) rfl w.heap.size rfl 23 X (0, 0) _ HB.out.2.1 Tryd.underlying23 rfl HSX.out ?_; try simp only [Act.put, List.setIfInBounds_toArray, List.set_cons_zero, List.set_cons_succ])
        | (refine wpList_store_row rfl 23 (.tmp 8) (.tmp 25) rfl _ X rfl rfl 23 Z HB2.out HSX.out HZX.out H1X.out ?_; try simp only [Act.put, List.setIfInBounds_toArray, List.set_cons_zero, List.set_cons_succ])
        | fail)
      refine bodyPost_ret (v := .tuple #[.agg X, .bool false]) ?_ rfl ⟨rfl, below_setRow HB.out.1 (by simp) _⟩
      exact results_row_tmp (p := 8) (q := 9) (ty := 23) rfl _ _ _ 23 X (0, 0) _ rfl (setRow_heap _ _ _ _ 23 _ HB2.out) Tryd.underlying23 rfl HSX.out
  · have h0 : len = 0 := by omega
    subst h0
    have c1 : ((S : Int) == 1) = false := by rw [beq_eq_false_iff_ne]; omega
    obtain rfl : b = false := by rw [Hb.out]; simp [h1]
    clear Hb HX h hl
    go_enter Tryd.func27, Tryd.ntmps27
    go_wp2_with (first
      | (refine wpList_alloc_row rfl 23 rfl Z HA.out ?_; try simp only [Act.put, List.setIfInBounds_toArray, List.set_cons_zero, List.set_cons_succ])
      | (refine wpList_load_row rfl 23 (.tmp 6) rfl w.heap.size rfl 23 X (0, 0) _ HB.out.2.1 Tryd.underlying23 rfl HSX.out ?_; try simp only [Act.put, List.setIfInBounds_toArray, List.set_cons_zero, List.set_cons_succ])
      | (refine wpList_store_row rfl 23 (.tmp 8) (.tmp 25) rfl _ X rfl rfl 23 Z HB2.out HSX.out HZX.out H1X.out ?_; try simp only [Act.put, List.setIfInBounds_toArray, List.set_cons_zero, List.set_cons_succ])
      | fail)
    refine bodyPost_ret (v := .tuple #[.agg X, .bool false]) ?_ rfl ⟨rfl, below_setRow HB.out.1 (by simp) _⟩
    exact results_row_tmp (p := 8) (q := 9) (ty := 23) rfl _ _ _ 23 X (0, 0) _ rfl (setRow_heap _ _ _ _ 23 _ HB2.out) Tryd.underlying23 rfl HSX.out

set_option maxHeartbeats 8000000 in
theorem refMakes_any (k : Nat) : ∀ (p : List (List UInt8)) (hk : p.length = k) (S I : Nat) (x : List UInt8) (a : Option Addr) (len cap : Nat) (w : World) (hS1 : 1 ≤ S) (hS : S ≤ 100000) (hI : I < S) (hR : LReads w a len cap p) (hx : x.length = 32) (hK : Table 1 w) (X : Array Value) (HX : Hid (X = (cellsOf x).toArray)) (M : Array Value) (HM : Hid (M = (cellsOf (mkR p.reverse S I x).1).toArray)) (b : Bool) (Hb : Hid (b = (mkR p.reverse S I x).2)),
    Calls Tryd.prog 27 #[.int .i64 S, .int .i64 I, .agg X, .slice a len cap] w fun e w' => e = .returned (.tuple #[.agg M, .bool b]) ∧ Below w.heap.size w w' := by
  induction k with
  | zero =>
    intro p hk S I x a len cap w hS1 hS hI hR hx hK X HX M HM b Hb
    have hp : p = [] := List.eq_nil_of_length_eq_zero hk
    subst hp
    have hl : len = 0 := by have := hR.1; simpa using this.symm
    subst hl
    have hM : M = X := by rw [HM.out, HX.out]; rfl
    subst hM
    exact refMakes_end S I x a 0 cap w hS (Nat.zero_le _) (.inr rfl) hx M HX b (by show _ = _; rw [Hb.out]; simp [mkR])
  | succ m ih =>
    intro p hk S I x a len cap w hS1 hS hI hR hx hK X HX M HM b Hb
    have hlen := hR.1
    obtain rfl : len = m + 1 := by omega
    by_cases h1 : S = 1
    · subst h1
      obtain ⟨q, d, rfl⟩ : ∃ q d, p = q ++ [d] := ⟨p.dropLast, p.getLast (by intro e; subst e; simp at hk), (List.dropLast_concat_getLast _).symm⟩
      have hr : (q ++ [d]).reverse = d :: q.reverse := by simp
      rw [hr, mkR_one] at HM Hb
      have hM : M = X := by rw [HM.out, HX.out]
      subst hM
      exact refMakes_end 1 I x a (m + 1) cap w hS hR.2.2.2.1 (.inl rfl) hx M HX b (by show _ = _; rw [Hb.out]; simp)
    · obtain ⟨q, d, rfl⟩ : ∃ q d, p = q ++ [d] := ⟨p.dropLast, p.getLast (by intro e; subst e; simp at hk), (List.dropLast_concat_getLast _).symm⟩
      have hqm : q.length = m := by simpa using hk
      obtain ⟨g, o, rfl, hg⟩ := hR.at (by omega)
      have hq : LReads w (some ⟨g, o, none⟩) m cap q := by
        have := hR.take m (by omega)
        rwa [List.take_left' hqm] at this
      have hd32 : d.length = 32 := hR.2.1 d (by simp)
      have hr : (q ++ [d]).reverse = d :: q.reverse := by simp
      rw [hr] at HM Hb
      obtain ⟨Z, HZ, HA, HS, H1, H32⟩ := noughts27
      have HSX : Hid ((Tryd.prog.info? 23).map (·.size) = some X.size) := by show _ = _; rw [size23, HX.out]; simp [cellsOf_length, hx]
      have hml := mkR_length sumD_length (d :: q.reverse) S I x hx
      have HSF : Hid ((Tryd.prog.info? 23).map (·.size) = some M.size) := by show _ = _; rw [size23, HM.out]; simp [cellsOf_length, hml]
      have H1F : Hid (M.all (·.oneCell') = true) := by show _ = _; rw [HM.out]; exact cellsOf_all _
      have HZF : Hid (Z.size = M.size) := by show _ = _; rw [H32.out, HM.out]; simp [cellsOf_length, hml]
      -- the last digest
      obtain ⟨E, HE, HSE, H1E, H32E⟩ := dig_row' d hd32
      obtain ⟨L, hL⟩ : ∃ L : List Value, E = L.toArray := ⟨E.toList, by simp⟩
      have EL : L = cellsOf d := List.toArray_inj (by rw [← hL]; exact HE.out)
      have zL : Hid ((Tryd.prog.info? 23).map (·.size) = some L.length) := by show _ = _; rw [size23, EL, cellsOf_length, hd32]
      have HRG : Hid (∀ W, Below w.heap.size w W → W.rangeAt g (o + 32 * m) L) := fun W hb => by
        have := (hR.keep hb).range m (by simp; omega)
        have e : (q ++ [d])[m]'(by simp; omega) = d := by simp [← hqm]
        rw [e] at this
        rw [EL]; exact this
      have HZE : Hid (Z.size = L.toArray.size) := by show _ = _; rw [← hL, H32.out, H32E.out]
      rw [hL] at HSE H1E HE
      have ix := fun W => index_list W g o (m + 1) cap m .i64 (by omega)
      have slc := fun W => slice_left W g o (m + 1) cap m (by have := hR.2.2.1; omega)
      have s1 := split_lt S (by omega)
      have s2 := split_pos S (by omega)
      have SP : Hid (∀ W, Calls Tryd.prog 47 #[.int .i64 S] W fun e w' => e = .returned (.int .i64 (split S)) ∧ W = w') := fun W => by
        have := refSplit_any S W (by omega)
        rwa [Int.toNat_natCast] at this
      have IHP := ih q hqm
      have hmx : m + 1 ≤ 9223372036854775807 := by have := hR.2.2.2.1; unfold maxLen at this; omega
      have e1 := wrap_int ((m : Int) + 1 - 1) (by omega) (by omega)
      have c1 : ((S : Int) == 1) = false := by rw [beq_eq_false_iff_ne]; omega
      have c2 : ((m : Int) + 1 == 0) = false := by rw [beq_eq_false_iff_ne]; omega
      have HQ := hidk hq
      have HK := hidk hK
      obtain ⟨s, HSs⟩ : ∃ s, Hid (s = split S) := ⟨_, (rfl : split S = _)⟩
      rw [← HSs.out] at SP s1 s2
      have HB0 := hidk (came w X Z)
      clear hq hK hR hL EL ih H32E hml
      have HM0 := HM
      by_cases hlt : I < s
      · rw [mkR_left d q.reverse S I x h1 (by rw [← HSs.out]; exact hlt), ← HSs.out] at HM Hb
        have hyl := mkR_length sumD_length q.reverse s I x hx
        obtain ⟨M1, HM1, HSM, H1M, H32M⟩ := dig_row' (mkR q.reverse s I x).1 hyl
        have HZM : Hid (Z.size = M1.size) := by show _ = _; rw [H32.out, H32M.out]
        obtain ⟨b1, Hb1⟩ : ∃ b1, Hid (b1 = b) := ⟨_, (rfl : b = _)⟩
        have IH : Hid (∀ W, Below w.heap.size w W → Calls Tryd.prog 27 #[.int .i64 s, .int .i64 I, .agg X, .slice (some ⟨g, o, none⟩) m cap] W fun e w' => e = .returned (.tuple #[.agg M1, .bool b1]) ∧ Below W.heap.size W w') := fun W hb =>
          IHP s I x _ m cap W s2 (by omega) hlt (HQ.out.keep hb) hx (HK.out.keep hb) X HX M1 HM1 b1 (by show _ = _; rw [Hb1.out, Hb.out])
        have KL : Hid (∀ W, Below w.heap.size w W → Calls Tryd.prog 48 #[.agg M1, .agg L.toArray] W fun e w' => e = .returned (.agg M) ∧ Below W.heap.size W w') := fun W hb => by
          rw [HM1.out, HE.out]
          exact refKnot_any _ _ hyl hd32 W (HK.out.keep hb) M (by show _ = _; rw [HM.out]; rfl)
        have hdi : decide ((I : Int) < (s : Int)) = true := by rw [decide_eq_true_eq]; omega
        clear IHP HM0 HM Hb HK HQ HSs HM1 hyl H32M
        go_enter Tryd.func27, Tryd.ntmps27
        go_wp2_with (first
          | (refine wpList_alloc_row rfl 23 rfl Z HA.out ?_; try simp only [Act.put, List.setIfInBounds_toArray, List.set_cons_zero, List.set_cons_succ])
          | fail)
        refine (SP.out _).mono ?_
        rintro e w1 ⟨rfl, rfl⟩
        have HR0 := hidk (HRG.out _ HB0.out.1)
        go_wp2_with (first
          | (refine wpList_load_mid rfl 23 (.tmp 37) rfl g (o + 32 * m) rfl L _ HR0.out Tryd.underlying23 rfl zL.out ?_; try simp only [Act.put, List.setIfInBounds_toArray, List.set_cons_zero, List.set_cons_succ])
          | (refine wpList_new_row rfl rfl 23 rfl (.tmp 12) (.tmp 38) rfl Z L.toArray HA.out (fun _ => rfl) (fun _ => rfl) HSE.out HZE.out H1E.out ?_; intro gd wb F1; try simp only [Act.put, List.setIfInBounds_toArray, List.set_cons_zero, List.set_cons_succ])
          | fail)
        have HB3 := hidk (HB0.out.keep F1.out.2.2)
        have HL : Hid (wb.heap[gd]? = some (.cells L.toArray 23 (0, 0))) := F1.out.2.1
        clear F1 HR0 HRG HB0 SP
        refine wp_region_held_drew (S := (fun W => W.heap[w.heap.size]? = some (.cells X 23 (0, 0)))) (by kernel_rfl) (show wb.drew.heap[w.heap.size]? = _ from HB3.out.2.1) (fun hHeld => ?_)
        refine wpAnyH_take (i := 0) (oi := { dst := some 43, op := Op.move (Operand.tmp 11), type := 3, pos := "ref.go:19", after := #[], guard := none }) (v := .int .i64 s) rfl (by kernel_rfl) (by kernel_rfl) (by kernel_rfl) (fun _ _ _ h => h) (Or.inl ⟨by rfl, by intro W hSw; go_simp⟩) hHeld ?_
        try simp only [Act.put, List.setIfInBounds_toArray, List.set_cons_zero, List.set_cons_succ]
        refine wpAnyH_take (i := 1) (oi := { dst := some 44, op := Op.move (Operand.tmp 1), type := 3, pos := "ref.go:19", after := #[], guard := none }) (v := .int .i64 I) rfl (by kernel_rfl) (by kernel_rfl) (by kernel_rfl) (fun _ _ _ h => h) (Or.inl ⟨by rfl, by intro W hSw; go_simp⟩) hHeld ?_
        try simp only [Act.put, List.setIfInBounds_toArray, List.set_cons_zero, List.set_cons_succ]
        refine wpAnyH_take (i := 2) (oi := { dst := some 45, op := Op.load 23 (Operand.tmp 6), type := 23, pos := "ref.go:19", after := #[], guard := none }) (v := .agg X) rfl (by kernel_rfl) (by kernel_rfl) (by kernel_rfl) (fun _ _ _ h => h) (yieldsIf_row (by rfl) 23 (.tmp 6) rfl w.heap.size rfl 23 X (0, 0) _ (fun _ h => h) Tryd.underlying23 rfl HSX.out) hHeld ?_
        try simp only [Act.put, List.setIfInBounds_toArray, List.set_cons_zero, List.set_cons_succ]
        refine wpAnyH_take (i := 3) (oi := { dst := some 46, op := Op.move (Operand.tmp 3), type := 24, pos := "ref.go:19", after := #[], guard := none }) (v := .slice (some ⟨g, o, none⟩) (m + 1) cap) rfl (by kernel_rfl) (by kernel_rfl) (by kernel_rfl) (fun _ _ _ h => h) (Or.inl ⟨by rfl, by intro W hSw; go_simp⟩) hHeld ?_
        try simp only [Act.put, List.setIfInBounds_toArray, List.set_cons_zero, List.set_cons_succ]
        refine wpAnyH_take (i := 4) (oi := { dst := some 47, op := Op.move (Operand.tmp 10), type := 3, pos := "ref.go:19", after := #[], guard := none }) (v := .int .i64 ((m : Int) + 1)) rfl (by kernel_rfl) (by kernel_rfl) (by kernel_rfl) (fun _ _ _ h => h) (Or.inl ⟨by rfl, by intro W hSw; go_simp⟩) hHeld ?_
        try simp only [Act.put, List.setIfInBounds_toArray, List.set_cons_zero, List.set_cons_succ]
        refine wpAnyH_take (i := 5) (oi := { dst := some 48, op := Op.binOp BinOp.sub 3 (Operand.tmp 47) (Operand.const (Value.int IntKind.i64 1)) 3, type := 3, pos := "ref.go:19", after := #[{ on := 4, ground := Ground.data }], guard := none }) (v := .int .i64 m) rfl (by kernel_rfl) (by kernel_rfl) (by kernel_rfl) (fun _ _ _ h => h) (Or.inl ⟨by rfl, by intro W hSw; go_simp; exact wrap_int _ (by omega) (by omega)⟩) hHeld ?_
        try simp only [Act.put, List.setIfInBounds_toArray, List.set_cons_zero, List.set_cons_succ]
        refine wpAnyH_take (i := 6) (oi := { dst := some 49, op := Op.slice 24 (Operand.tmp 46) none (some (Operand.tmp 48)) none, type := 24, pos := "ref.go:19", after := #[{ on := 3, ground := Ground.data }, { on := 5, ground := Ground.data }], guard := none }) (v := .slice (some ⟨g, o, none⟩) m cap) rfl (by kernel_rfl) (by kernel_rfl) (by kernel_rfl) (fun _ _ _ h => h) (Or.inl ⟨by rfl, by intro W hSw; have := slc W; go_simp⟩) hHeld ?_
        try simp only [Act.put, List.setIfInBounds_toArray, List.set_cons_zero, List.set_cons_succ]
        refine wpAnyH_ready (rs := [7, 11]) (by kernel_rfl) (by simp) ?_
        refine (AllReadyH.cons (o := { dst := some 50, op := Op.call { callee := Callee.value (Operand.func 27), args := #[Operand.tmp 43, Operand.tmp 44, Operand.tmp 45, Operand.tmp 49], argTypes := #[3, 3, 23, 24] }, type := 48, pos := "ref.go:19", after := #[{ on := 0, ground := Ground.data }, { on := 1, ground := Ground.data }, { on := 2, ground := Ground.data }, { on := 6, ground := Ground.data }], guard := none }) rfl (fun K hK => ?_) (AllReadyH.cons (o := { dst := some 13, op := Op.alloc 23, type := 0, pos := "ref.go:19", after := #[], guard := none }) rfl (fun K hK => ?_) AllReadyH.nil))
        · go_simp
          refine (IH.out _ (by first | exact HB3.out.1.drew | exact HB3.out.1.drew.alloc HB3.out.1.size _)).mono ?_
          rintro e w7 ⟨rfl, hb7⟩
          go_wp2_with fail
          refine hK.out _ _ ((hb7.block _ (heap_lt hHeld)).trans hHeld) (fun hHeld => ?_)
          clear hK K
          try simp only [Act.put, List.setIfInBounds_toArray, List.set_cons_zero, List.set_cons_succ]
          refine wpAnyH_take (i := 8) (oi := { dst := some 42, op := Op.move (Operand.tmp 50), type := 48, pos := "ref.go:19", after := #[{ on := 7, ground := Ground.data }], guard := none }) (v := .tuple #[.agg M1, .bool b1]) rfl (by kernel_rfl) (by kernel_rfl) (by kernel_rfl) (fun _ _ _ h => h) (Or.inl ⟨by rfl, by intro W hSw; go_simp⟩) hHeld ?_
          try simp only [Act.put, List.setIfInBounds_toArray, List.set_cons_zero, List.set_cons_succ]
          refine wpAnyH_take (i := 9) (oi := { dst := some 51, op := Op.extract (Operand.tmp 42) 0, type := 23, pos := "ref.go:19", after := #[{ on := 8, ground := Ground.data }], guard := none }) (v := .agg M1) rfl (by kernel_rfl) (by kernel_rfl) (by kernel_rfl) (fun _ _ _ h => h) (Or.inl ⟨by rfl, by intro W hSw; go_simp⟩) hHeld ?_
          try simp only [Act.put, List.setIfInBounds_toArray, List.set_cons_zero, List.set_cons_succ]
          refine wpAnyH_take (i := 10) (oi := { dst := some 52, op := Op.extract (Operand.tmp 42) 1, type := 4, pos := "ref.go:19", after := #[{ on := 8, ground := Ground.data }, { on := 12, ground := Ground.gcOnly Departure.lateStores }], guard := none }) (v := .bool b1) rfl (by kernel_rfl) (by kernel_rfl) (by kernel_rfl) (fun _ _ _ h => h) (Or.inl ⟨by rfl, by intro W hSw; go_simp⟩) hHeld ?_
          try simp only [Act.put, List.setIfInBounds_toArray, List.set_cons_zero, List.set_cons_succ]
          refine wpAnyH_ready (rs := [11]) (by kernel_rfl) (by simp) ?_
          refine (AllReadyH.cons (o := { dst := some 13, op := Op.alloc 23, type := 0, pos := "ref.go:19", after := #[], guard := none }) rfl (fun K hK => ?_) AllReadyH.nil)
          refine step_alloc_row (by rfl) 23 rfl Z HA.out ?_
          refine hK.out _ _ (heap_keep hHeld) (fun hHeld => ?_)
          clear hK K
          try simp only [Act.put, List.setIfInBounds_toArray, List.set_cons_zero, List.set_cons_succ]
          refine wpAnyH_ready (rs := [12]) (by kernel_rfl) (by simp) ?_
          refine (AllReadyH.cons (o := { dst := none, op := Op.store 23 (Operand.tmp 13) (Operand.tmp 51), type := 0, pos := "ref.go:19", after := #[{ on := 11, ground := Ground.data }, { on := 9, ground := Ground.data }, { on := 7, ground := Ground.chain }, { on := 0, ground := Ground.phase }, { on := 1, ground := Ground.phase }, { on := 2, ground := Ground.phase }, { on := 3, ground := Ground.phase }, { on := 4, ground := Ground.phase }, { on := 5, ground := Ground.phase }, { on := 6, ground := Ground.phase }, { on := 7, ground := Ground.phase }, { on := 8, ground := Ground.phase }, { on := 9, ground := Ground.phase }, { on := 10, ground := Ground.textOnly Departure.lateStores }, { on := 11, ground := Ground.phase }], guard := none }) rfl (fun K hK => ?_) AllReadyH.nil)
          first | (have HPOST : Below wb.heap.size wb ((w7.alloc (.cells Z 23)).setRow w7.heap.size M1) := below_var ((Below.refl _ _).drew.trans hb7) hb7.size _ _; have HGD : Hid (((w7.alloc (.cells Z 23)).setRow w7.heap.size M1).heap[w7.heap.size]? = some (.cells M1 23 (0, 0))) := new_var w7 Z M1 23; have hne : w.heap.size ≠ w7.heap.size := Nat.ne_of_lt (Nat.lt_of_lt_of_le (heap_lt HB3.out.2.1) hb7.size); refine step_store_row (by rfl) 23 (.tmp 13) (.tmp 51) rfl w7.heap.size M1 rfl rfl 23 Z (heap_alloc_new w7 _) HSM.out HZM.out H1M.out ?_) | (have HZ7 : Hid (w7.heap[wb.heap.size]? = some (.cells Z 23 (0, 0))) := (hb7.block _ (by simp)).trans (heap_alloc_new wb.drew _); have HPOST : Below wb.heap.size wb (w7.setRow wb.heap.size M1) := below_setRow (((Below.refl _ _).drew.alloc (Nat.le_refl _) _).trans (hb7.mono (by simp))) (Nat.le_refl _) _; have HGD : Hid ((w7.setRow wb.heap.size M1).heap[wb.heap.size]? = some (.cells M1 23 (0, 0))) := setRow_heap _ _ _ _ 23 _ HZ7.out; have hne : w.heap.size ≠ wb.heap.size := Nat.ne_of_lt (heap_lt HB3.out.2.1); refine step_store_row (by rfl) 23 (.tmp 13) (.tmp 51) rfl wb.heap.size M1 rfl rfl 23 Z HZ7.out HSM.out HZM.out H1M.out ?_)
          refine hK.out _ _ ((setRow_other _ _ _ _ hne).trans hHeld) (fun hHeld => ?_)
          clear hK K
          try simp only [Act.put, List.setIfInBounds_toArray, List.set_cons_zero, List.set_cons_succ]
          refine wpAnyH_take (i := 13) (oi := { dst := some 14, op := Op.assign (Operand.tmp 52), type := 4, pos := "ref.go:19", after := #[{ on := 10, ground := Ground.data }, { on := 12, ground := Ground.chain }, { on := 0, ground := Ground.phase }, { on := 1, ground := Ground.phase }, { on := 2, ground := Ground.phase }, { on := 3, ground := Ground.phase }, { on := 4, ground := Ground.phase }, { on := 5, ground := Ground.phase }, { on := 6, ground := Ground.phase }, { on := 7, ground := Ground.phase }, { on := 8, ground := Ground.phase }, { on := 9, ground := Ground.phase }, { on := 10, ground := Ground.phase }, { on := 11, ground := Ground.phase }, { on := 12, ground := Ground.phase }], guard := none }) (v := .bool b1) rfl (by kernel_rfl) (by kernel_rfl) (by kernel_rfl) (fun _ _ _ h => h) (Or.inl ⟨by rfl, by intro W hSw; go_simp⟩) hHeld ?_
          try simp only [Act.put, List.setIfInBounds_toArray, List.set_cons_zero, List.set_cons_succ]
          refine wpAnyH_done (by kernel_rfl) ?_ _
          have HB5 := hidk (HB3.out.keep HPOST)
          have HL5 := hidk ((HPOST.block _ (heap_lt HL.out)).trans HL.out)
          clear hHeld HB3 HL hb7 IH
          go_wp2_with (first
            | (refine wpList_load_row rfl 23 (.tmp 13) rfl _ rfl 23 M1 (0, 0) _ HGD.out Tryd.underlying23 rfl HSM.out ?_; try simp only [Act.put, List.setIfInBounds_toArray, List.set_cons_zero, List.set_cons_succ])
            | (refine wpList_load_row rfl 23 (.tmp 12) rfl gd rfl 23 L.toArray (0, 0) _ HL5.out Tryd.underlying23 rfl HSE.out ?_; try simp only [Act.put, List.setIfInBounds_toArray, List.set_cons_zero, List.set_cons_succ])
            | fail)
          refine (KL.out _ HB5.out.1).mono ?_
          rintro e w9 ⟨rfl, hb9⟩
          have HB6 := hidk (HB5.out.keep hb9)
          clear HB5 HL5 HGD HPOST hb9
          go_wp2_with (first
            | (refine wpList_store_row rfl 23 (.tmp 8) (.tmp 55) rfl (w.heap.size + 1) M rfl rfl 23 Z HB6.out.2.2 HSF.out HZF.out H1F.out ?_; try simp only [Act.put, List.setIfInBounds_toArray, List.set_cons_zero, List.set_cons_succ])
            | fail)
          refine bodyPost_ret (v := .tuple #[.agg M, .bool b1]) ?_ rfl ⟨by rw [Hb1.out], below_setRow HB6.out.1 (by omega) _⟩
          exact results_row_tmp (p := 8) (q := 9) (ty := 23) rfl _ _ (w.heap.size + 1) 23 M (0, 0) _ rfl (setRow_heap _ _ _ _ 23 _ HB6.out.2.2) Tryd.underlying23 rfl HSF.out
        · refine step_alloc_row (by rfl) 23 rfl Z HA.out ?_
          refine hK.out _ _ (heap_keep hHeld) (fun hHeld => ?_)
          clear hK K
          try simp only [Act.put, List.setIfInBounds_toArray, List.set_cons_zero, List.set_cons_succ]
          refine wpAnyH_ready (rs := [7]) (by kernel_rfl) (by simp) ?_
          refine (AllReadyH.cons (o := { dst := some 50, op := Op.call { callee := Callee.value (Operand.func 27), args := #[Operand.tmp 43, Operand.tmp 44, Operand.tmp 45, Operand.tmp 49], argTypes := #[3, 3, 23, 24] }, type := 48, pos := "ref.go:19", after := #[{ on := 0, ground := Ground.data }, { on := 1, ground := Ground.data }, { on := 2, ground := Ground.data }, { on := 6, ground := Ground.data }], guard := none }) rfl (fun K hK => ?_) AllReadyH.nil)
          go_simp
          refine (IH.out _ (by first | exact HB3.out.1.drew | exact HB3.out.1.drew.alloc HB3.out.1.size _)).mono ?_
          rintro e w7 ⟨rfl, hb7⟩
          go_wp2_with fail
          refine hK.out _ _ ((hb7.block _ (heap_lt hHeld)).trans hHeld) (fun hHeld => ?_)
          clear hK K
          try simp only [Act.put, List.setIfInBounds_toArray, List.set_cons_zero, List.set_cons_succ]
          refine wpAnyH_take (i := 8) (oi := { dst := some 42, op := Op.move (Operand.tmp 50), type := 48, pos := "ref.go:19", after := #[{ on := 7, ground := Ground.data }], guard := none }) (v := .tuple #[.agg M1, .bool b1]) rfl (by kernel_rfl) (by kernel_rfl) (by kernel_rfl) (fun _ _ _ h => h) (Or.inl ⟨by rfl, by intro W hSw; go_simp⟩) hHeld ?_
          try simp only [Act.put, List.setIfInBounds_toArray, List.set_cons_zero, List.set_cons_succ]
          refine wpAnyH_take (i := 9) (oi := { dst := some 51, op := Op.extract (Operand.tmp 42) 0, type := 23, pos := "ref.go:19", after := #[{ on := 8, ground := Ground.data }], guard := none }) (v := .agg M1) rfl (by kernel_rfl) (by kernel_rfl) (by kernel_rfl) (fun _ _ _ h => h) (Or.inl ⟨by rfl, by intro W hSw; go_simp⟩) hHeld ?_
          try simp only [Act.put, List.setIfInBounds_toArray, List.set_cons_zero, List.set_cons_succ]
          refine wpAnyH_take (i := 10) (oi := { dst := some 52, op := Op.extract (Operand.tmp 42) 1, type := 4, pos := "ref.go:19", after := #[{ on := 8, ground := Ground.data }, { on := 12, ground := Ground.gcOnly Departure.lateStores }], guard := none }) (v := .bool b1) rfl (by kernel_rfl) (by kernel_rfl) (by kernel_rfl) (fun _ _ _ h => h) (Or.inl ⟨by rfl, by intro W hSw; go_simp⟩) hHeld ?_
          try simp only [Act.put, List.setIfInBounds_toArray, List.set_cons_zero, List.set_cons_succ]
          refine wpAnyH_ready (rs := [12]) (by kernel_rfl) (by simp) ?_
          refine (AllReadyH.cons (o := { dst := none, op := Op.store 23 (Operand.tmp 13) (Operand.tmp 51), type := 0, pos := "ref.go:19", after := #[{ on := 11, ground := Ground.data }, { on := 9, ground := Ground.data }, { on := 7, ground := Ground.chain }, { on := 0, ground := Ground.phase }, { on := 1, ground := Ground.phase }, { on := 2, ground := Ground.phase }, { on := 3, ground := Ground.phase }, { on := 4, ground := Ground.phase }, { on := 5, ground := Ground.phase }, { on := 6, ground := Ground.phase }, { on := 7, ground := Ground.phase }, { on := 8, ground := Ground.phase }, { on := 9, ground := Ground.phase }, { on := 10, ground := Ground.textOnly Departure.lateStores }, { on := 11, ground := Ground.phase }], guard := none }) rfl (fun K hK => ?_) AllReadyH.nil)
          first | (have HPOST : Below wb.heap.size wb ((w7.alloc (.cells Z 23)).setRow w7.heap.size M1) := below_var ((Below.refl _ _).drew.trans hb7) hb7.size _ _; have HGD : Hid (((w7.alloc (.cells Z 23)).setRow w7.heap.size M1).heap[w7.heap.size]? = some (.cells M1 23 (0, 0))) := new_var w7 Z M1 23; have hne : w.heap.size ≠ w7.heap.size := Nat.ne_of_lt (Nat.lt_of_lt_of_le (heap_lt HB3.out.2.1) hb7.size); refine step_store_row (by rfl) 23 (.tmp 13) (.tmp 51) rfl w7.heap.size M1 rfl rfl 23 Z (heap_alloc_new w7 _) HSM.out HZM.out H1M.out ?_) | (have HZ7 : Hid (w7.heap[wb.heap.size]? = some (.cells Z 23 (0, 0))) := (hb7.block _ (by simp)).trans (heap_alloc_new wb.drew _); have HPOST : Below wb.heap.size wb (w7.setRow wb.heap.size M1) := below_setRow (((Below.refl _ _).drew.alloc (Nat.le_refl _) _).trans (hb7.mono (by simp))) (Nat.le_refl _) _; have HGD : Hid ((w7.setRow wb.heap.size M1).heap[wb.heap.size]? = some (.cells M1 23 (0, 0))) := setRow_heap _ _ _ _ 23 _ HZ7.out; have hne : w.heap.size ≠ wb.heap.size := Nat.ne_of_lt (heap_lt HB3.out.2.1); refine step_store_row (by rfl) 23 (.tmp 13) (.tmp 51) rfl wb.heap.size M1 rfl rfl 23 Z HZ7.out HSM.out HZM.out H1M.out ?_)
          refine hK.out _ _ ((setRow_other _ _ _ _ hne).trans hHeld) (fun hHeld => ?_)
          clear hK K
          try simp only [Act.put, List.setIfInBounds_toArray, List.set_cons_zero, List.set_cons_succ]
          refine wpAnyH_take (i := 13) (oi := { dst := some 14, op := Op.assign (Operand.tmp 52), type := 4, pos := "ref.go:19", after := #[{ on := 10, ground := Ground.data }, { on := 12, ground := Ground.chain }, { on := 0, ground := Ground.phase }, { on := 1, ground := Ground.phase }, { on := 2, ground := Ground.phase }, { on := 3, ground := Ground.phase }, { on := 4, ground := Ground.phase }, { on := 5, ground := Ground.phase }, { on := 6, ground := Ground.phase }, { on := 7, ground := Ground.phase }, { on := 8, ground := Ground.phase }, { on := 9, ground := Ground.phase }, { on := 10, ground := Ground.phase }, { on := 11, ground := Ground.phase }, { on := 12, ground := Ground.phase }], guard := none }) (v := .bool b1) rfl (by kernel_rfl) (by kernel_rfl) (by kernel_rfl) (fun _ _ _ h => h) (Or.inl ⟨by rfl, by intro W hSw; go_simp⟩) hHeld ?_
          try simp only [Act.put, List.setIfInBounds_toArray, List.set_cons_zero, List.set_cons_succ]
          refine wpAnyH_done (by kernel_rfl) ?_ _
          have HB5 := hidk (HB3.out.keep HPOST)
          have HL5 := hidk ((HPOST.block _ (heap_lt HL.out)).trans HL.out)
          clear hHeld HB3 HL hb7 IH
          go_wp2_with (first
            | (refine wpList_load_row rfl 23 (.tmp 13) rfl _ rfl 23 M1 (0, 0) _ HGD.out Tryd.underlying23 rfl HSM.out ?_; try simp only [Act.put, List.setIfInBounds_toArray, List.set_cons_zero, List.set_cons_succ])
            | (refine wpList_load_row rfl 23 (.tmp 12) rfl gd rfl 23 L.toArray (0, 0) _ HL5.out Tryd.underlying23 rfl HSE.out ?_; try simp only [Act.put, List.setIfInBounds_toArray, List.set_cons_zero, List.set_cons_succ])
            | fail)
          refine (KL.out _ HB5.out.1).mono ?_
          rintro e w9 ⟨rfl, hb9⟩
          have HB6 := hidk (HB5.out.keep hb9)
          clear HB5 HL5 HGD HPOST hb9
          go_wp2_with (first
            | (refine wpList_store_row rfl 23 (.tmp 8) (.tmp 55) rfl (w.heap.size + 1) M rfl rfl 23 Z HB6.out.2.2 HSF.out HZF.out H1F.out ?_; try simp only [Act.put, List.setIfInBounds_toArray, List.set_cons_zero, List.set_cons_succ])
            | fail)
          refine bodyPost_ret (v := .tuple #[.agg M, .bool b1]) ?_ rfl ⟨by rw [Hb1.out], below_setRow HB6.out.1 (by omega) _⟩
          exact results_row_tmp (p := 8) (q := 9) (ty := 23) rfl _ _ (w.heap.size + 1) 23 M (0, 0) _ rfl (setRow_heap _ _ _ _ 23 _ HB6.out.2.2) Tryd.underlying23 rfl HSF.out
      · rw [mkR_right d q.reverse S I x h1 (by rw [← HSs.out]; exact hlt), ← HSs.out] at HM Hb
        have hyl := mkR_length sumD_length q.reverse (S - s) (I - s) x hx
        obtain ⟨M1, HM1, HSM, H1M, H32M⟩ := dig_row' (mkR q.reverse (S - s) (I - s) x).1 hyl
        have HZM : Hid (Z.size = M1.size) := by show _ = _; rw [H32.out, H32M.out]
        obtain ⟨b1, Hb1⟩ : ∃ b1, Hid (b1 = b) := ⟨_, (rfl : b = _)⟩
        have IH : Hid (∀ W, Below w.heap.size w W → Calls Tryd.prog 27 #[.int .i64 ((S : Int) - (s : Int)), .int .i64 ((I : Int) - (s : Int)), .agg X, .slice (some ⟨g, o, none⟩) m cap] W fun e w' => e = .returned (.tuple #[.agg M1, .bool b1]) ∧ Below W.heap.size W w') := fun W hb => by
          rw [show (S : Int) - (s : Int) = ((S - s : Nat) : Int) by omega, show (I : Int) - (s : Int) = ((I - s : Nat) : Int) by omega]
          exact IHP (S - s) (I - s) x _ m cap W (by omega) (by omega) (by omega) (HQ.out.keep hb) hx (HK.out.keep hb) X HX M1 HM1 b1 (by show _ = _; rw [Hb1.out, Hb.out])
        have KL : Hid (∀ W, Below w.heap.size w W → Calls Tryd.prog 48 #[.agg L.toArray, .agg M1] W fun e w' => e = .returned (.agg M) ∧ Below W.heap.size W w') := fun W hb => by
          rw [HM1.out, HE.out]
          exact refKnot_any _ _ hd32 hyl W (HK.out.keep hb) M (by show _ = _; rw [HM.out]; rfl)
        have hdi : decide ((I : Int) < (s : Int)) = false := by rw [decide_eq_false_iff_not]; omega
        have e2 := wrap_int ((S : Int) - (s : Int)) (by omega) (by omega)
        have e3 := wrap_int ((I : Int) - (s : Int)) (by omega) (by omega)
        clear IHP HM0 HM Hb HK HQ HSs HM1 hyl H32M
        go_enter Tryd.func27, Tryd.ntmps27
        go_wp2_with (first
          | (refine wpList_alloc_row rfl 23 rfl Z HA.out ?_; try simp only [Act.put, List.setIfInBounds_toArray, List.set_cons_zero, List.set_cons_succ])
          | fail)
        refine (SP.out _).mono ?_
        rintro e w1 ⟨rfl, rfl⟩
        have HR0 := hidk (HRG.out _ HB0.out.1)
        go_wp2_with (first
          | (refine wpList_load_mid rfl 23 (.tmp 37) rfl g (o + 32 * m) rfl L _ HR0.out Tryd.underlying23 rfl zL.out ?_; try simp only [Act.put, List.setIfInBounds_toArray, List.set_cons_zero, List.set_cons_succ])
          | (refine wpList_new_row rfl rfl 23 rfl (.tmp 12) (.tmp 38) rfl Z L.toArray HA.out (fun _ => rfl) (fun _ => rfl) HSE.out HZE.out H1E.out ?_; intro gd wb F1; try simp only [Act.put, List.setIfInBounds_toArray, List.set_cons_zero, List.set_cons_succ])
          | fail)
        have HB3 := hidk (HB0.out.keep F1.out.2.2)
        have HL : Hid (wb.heap[gd]? = some (.cells L.toArray 23 (0, 0))) := F1.out.2.1
        clear F1 HR0 HRG HB0 SP
        refine wp_region_held_drew (S := (fun W => W.heap[w.heap.size]? = some (.cells X 23 (0, 0)))) (by kernel_rfl) (show wb.drew.heap[w.heap.size]? = _ from HB3.out.2.1) (fun hHeld => ?_)
        refine wpAnyH_take (i := 0) (oi := { dst := some 58, op := Op.move (Operand.tmp 0), type := 3, pos := "ref.go:22", after := #[], guard := none }) (v := .int .i64 S) rfl (by kernel_rfl) (by kernel_rfl) (by kernel_rfl) (fun _ _ _ h => h) (Or.inl ⟨by rfl, by intro W hSw; go_simp⟩) hHeld ?_
        try simp only [Act.put, List.setIfInBounds_toArray, List.set_cons_zero, List.set_cons_succ]
        refine wpAnyH_take (i := 1) (oi := { dst := some 59, op := Op.move (Operand.tmp 11), type := 3, pos := "ref.go:22", after := #[], guard := none }) (v := .int .i64 s) rfl (by kernel_rfl) (by kernel_rfl) (by kernel_rfl) (fun _ _ _ h => h) (Or.inl ⟨by rfl, by intro W hSw; go_simp⟩) hHeld ?_
        try simp only [Act.put, List.setIfInBounds_toArray, List.set_cons_zero, List.set_cons_succ]
        refine wpAnyH_take (i := 2) (oi := { dst := some 60, op := Op.binOp BinOp.sub 3 (Operand.tmp 58) (Operand.tmp 59) 3, type := 3, pos := "ref.go:22", after := #[{ on := 0, ground := Ground.data }, { on := 1, ground := Ground.data }], guard := none }) (v := .int .i64 ((S : Int) - (s : Int))) rfl (by kernel_rfl) (by kernel_rfl) (by kernel_rfl) (fun _ _ _ h => h) (Or.inl ⟨by rfl, by intro W hSw; go_simp; first | done | exact wrap_int _ (by omega) (by omega)⟩) hHeld ?_
        try simp only [Act.put, List.setIfInBounds_toArray, List.set_cons_zero, List.set_cons_succ]
        refine wpAnyH_take (i := 3) (oi := { dst := some 61, op := Op.move (Operand.tmp 1), type := 3, pos := "ref.go:22", after := #[], guard := none }) (v := .int .i64 I) rfl (by kernel_rfl) (by kernel_rfl) (by kernel_rfl) (fun _ _ _ h => h) (Or.inl ⟨by rfl, by intro W hSw; go_simp⟩) hHeld ?_
        try simp only [Act.put, List.setIfInBounds_toArray, List.set_cons_zero, List.set_cons_succ]
        refine wpAnyH_take (i := 4) (oi := { dst := some 62, op := Op.move (Operand.tmp 11), type := 3, pos := "ref.go:22", after := #[], guard := none }) (v := .int .i64 s) rfl (by kernel_rfl) (by kernel_rfl) (by kernel_rfl) (fun _ _ _ h => h) (Or.inl ⟨by rfl, by intro W hSw; go_simp⟩) hHeld ?_
        try simp only [Act.put, List.setIfInBounds_toArray, List.set_cons_zero, List.set_cons_succ]
        refine wpAnyH_take (i := 5) (oi := { dst := some 63, op := Op.binOp BinOp.sub 3 (Operand.tmp 61) (Operand.tmp 62) 3, type := 3, pos := "ref.go:22", after := #[{ on := 3, ground := Ground.data }, { on := 4, ground := Ground.data }], guard := none }) (v := .int .i64 ((I : Int) - (s : Int))) rfl (by kernel_rfl) (by kernel_rfl) (by kernel_rfl) (fun _ _ _ h => h) (Or.inl ⟨by rfl, by intro W hSw; go_simp; first | done | exact wrap_int _ (by omega) (by omega)⟩) hHeld ?_
        try simp only [Act.put, List.setIfInBounds_toArray, List.set_cons_zero, List.set_cons_succ]
        refine wpAnyH_take (i := 6) (oi := { dst := some 64, op := Op.load 23 (Operand.tmp 6), type := 23, pos := "ref.go:22", after := #[], guard := none }) (v := .agg X) rfl (by kernel_rfl) (by kernel_rfl) (by kernel_rfl) (fun _ _ _ h => h) (yieldsIf_row (by rfl) 23 (.tmp 6) rfl w.heap.size rfl 23 X (0, 0) _ (fun _ h => h) Tryd.underlying23 rfl HSX.out) hHeld ?_
        try simp only [Act.put, List.setIfInBounds_toArray, List.set_cons_zero, List.set_cons_succ]
        refine wpAnyH_take (i := 7) (oi := { dst := some 65, op := Op.move (Operand.tmp 3), type := 24, pos := "ref.go:22", after := #[], guard := none }) (v := .slice (some ⟨g, o, none⟩) (m + 1) cap) rfl (by kernel_rfl) (by kernel_rfl) (by kernel_rfl) (fun _ _ _ h => h) (Or.inl ⟨by rfl, by intro W hSw; go_simp⟩) hHeld ?_
        try simp only [Act.put, List.setIfInBounds_toArray, List.set_cons_zero, List.set_cons_succ]
        refine wpAnyH_take (i := 8) (oi := { dst := some 66, op := Op.move (Operand.tmp 10), type := 3, pos := "ref.go:22", after := #[], guard := none }) (v := .int .i64 ((m : Int) + 1)) rfl (by kernel_rfl) (by kernel_rfl) (by kernel_rfl) (fun _ _ _ h => h) (Or.inl ⟨by rfl, by intro W hSw; go_simp⟩) hHeld ?_
        try simp only [Act.put, List.setIfInBounds_toArray, List.set_cons_zero, List.set_cons_succ]
        refine wpAnyH_take (i := 9) (oi := { dst := some 67, op := Op.binOp BinOp.sub 3 (Operand.tmp 66) (Operand.const (Value.int IntKind.i64 1)) 3, type := 3, pos := "ref.go:22", after := #[{ on := 8, ground := Ground.data }], guard := none }) (v := .int .i64 m) rfl (by kernel_rfl) (by kernel_rfl) (by kernel_rfl) (fun _ _ _ h => h) (Or.inl ⟨by rfl, by intro W hSw; go_simp; exact wrap_int _ (by omega) (by omega)⟩) hHeld ?_
        try simp only [Act.put, List.setIfInBounds_toArray, List.set_cons_zero, List.set_cons_succ]
        refine wpAnyH_take (i := 10) (oi := { dst := some 68, op := Op.slice 24 (Operand.tmp 65) none (some (Operand.tmp 67)) none, type := 24, pos := "ref.go:22", after := #[{ on := 7, ground := Ground.data }, { on := 9, ground := Ground.data }], guard := none }) (v := .slice (some ⟨g, o, none⟩) m cap) rfl (by kernel_rfl) (by kernel_rfl) (by kernel_rfl) (fun _ _ _ h => h) (Or.inl ⟨by rfl, by intro W hSw; have := slc W; go_simp⟩) hHeld ?_
        try simp only [Act.put, List.setIfInBounds_toArray, List.set_cons_zero, List.set_cons_succ]
        refine wpAnyH_ready (rs := [11, 15]) (by kernel_rfl) (by simp) ?_
        refine (AllReadyH.cons (o := { dst := some 69, op := Op.call { callee := Callee.value (Operand.func 27), args := #[Operand.tmp 60, Operand.tmp 63, Operand.tmp 64, Operand.tmp 68], argTypes := #[3, 3, 23, 24] }, type := 48, pos := "ref.go:22", after := #[{ on := 2, ground := Ground.data }, { on := 5, ground := Ground.data }, { on := 6, ground := Ground.data }, { on := 10, ground := Ground.data }], guard := none }) rfl (fun K hK => ?_) (AllReadyH.cons (o := { dst := some 15, op := Op.alloc 23, type := 0, pos := "ref.go:22", after := #[], guard := none }) rfl (fun K hK => ?_) AllReadyH.nil))
        · go_simp
          refine (IH.out _ (by first | exact HB3.out.1.drew | exact HB3.out.1.drew.alloc HB3.out.1.size _)).mono ?_
          rintro e w11 ⟨rfl, hb7⟩
          go_wp2_with fail
          refine hK.out _ _ ((hb7.block _ (heap_lt hHeld)).trans hHeld) (fun hHeld => ?_)
          clear hK K
          try simp only [Act.put, List.setIfInBounds_toArray, List.set_cons_zero, List.set_cons_succ]
          refine wpAnyH_take (i := 12) (oi := { dst := some 57, op := Op.move (Operand.tmp 69), type := 48, pos := "ref.go:22", after := #[{ on := 11, ground := Ground.data }], guard := none }) (v := .tuple #[.agg M1, .bool b1]) rfl (by kernel_rfl) (by kernel_rfl) (by kernel_rfl) (fun _ _ _ h => h) (Or.inl ⟨by rfl, by intro W hSw; go_simp⟩) hHeld ?_
          try simp only [Act.put, List.setIfInBounds_toArray, List.set_cons_zero, List.set_cons_succ]
          refine wpAnyH_take (i := 13) (oi := { dst := some 70, op := Op.extract (Operand.tmp 57) 0, type := 23, pos := "ref.go:22", after := #[{ on := 12, ground := Ground.data }], guard := none }) (v := .agg M1) rfl (by kernel_rfl) (by kernel_rfl) (by kernel_rfl) (fun _ _ _ h => h) (Or.inl ⟨by rfl, by intro W hSw; go_simp⟩) hHeld ?_
          try simp only [Act.put, List.setIfInBounds_toArray, List.set_cons_zero, List.set_cons_succ]
          refine wpAnyH_take (i := 14) (oi := { dst := some 71, op := Op.extract (Operand.tmp 57) 1, type := 4, pos := "ref.go:22", after := #[{ on := 12, ground := Ground.data }, { on := 16, ground := Ground.gcOnly Departure.lateStores }], guard := none }) (v := .bool b1) rfl (by kernel_rfl) (by kernel_rfl) (by kernel_rfl) (fun _ _ _ h => h) (Or.inl ⟨by rfl, by intro W hSw; go_simp⟩) hHeld ?_
          try simp only [Act.put, List.setIfInBounds_toArray, List.set_cons_zero, List.set_cons_succ]
          refine wpAnyH_ready (rs := [15]) (by kernel_rfl) (by simp) ?_
          refine (AllReadyH.cons (o := { dst := some 15, op := Op.alloc 23, type := 0, pos := "ref.go:22", after := #[], guard := none }) rfl (fun K hK => ?_) AllReadyH.nil)
          refine step_alloc_row (by rfl) 23 rfl Z HA.out ?_
          refine hK.out _ _ (heap_keep hHeld) (fun hHeld => ?_)
          clear hK K
          try simp only [Act.put, List.setIfInBounds_toArray, List.set_cons_zero, List.set_cons_succ]
          refine wpAnyH_ready (rs := [16]) (by kernel_rfl) (by simp) ?_
          refine (AllReadyH.cons (o := { dst := none, op := Op.store 23 (Operand.tmp 15) (Operand.tmp 70), type := 0, pos := "ref.go:22", after := #[{ on := 15, ground := Ground.data }, { on := 13, ground := Ground.data }, { on := 11, ground := Ground.chain }, { on := 0, ground := Ground.phase }, { on := 1, ground := Ground.phase }, { on := 2, ground := Ground.phase }, { on := 3, ground := Ground.phase }, { on := 4, ground := Ground.phase }, { on := 5, ground := Ground.phase }, { on := 6, ground := Ground.phase }, { on := 7, ground := Ground.phase }, { on := 8, ground := Ground.phase }, { on := 9, ground := Ground.phase }, { on := 10, ground := Ground.phase }, { on := 11, ground := Ground.phase }, { on := 12, ground := Ground.phase }, { on := 13, ground := Ground.phase }, { on := 14, ground := Ground.textOnly Departure.lateStores }, { on := 15, ground := Ground.phase }], guard := none }) rfl (fun K hK => ?_) AllReadyH.nil)
          first | (have HPOST : Below wb.heap.size wb ((w11.alloc (.cells Z 23)).setRow w11.heap.size M1) := below_var ((Below.refl _ _).drew.trans hb7) hb7.size _ _; have HGD : Hid (((w11.alloc (.cells Z 23)).setRow w11.heap.size M1).heap[w11.heap.size]? = some (.cells M1 23 (0, 0))) := new_var w11 Z M1 23; have hne : w.heap.size ≠ w11.heap.size := Nat.ne_of_lt (Nat.lt_of_lt_of_le (heap_lt HB3.out.2.1) hb7.size); refine step_store_row (by rfl) 23 (.tmp 15) (.tmp 70) rfl w11.heap.size M1 rfl rfl 23 Z (heap_alloc_new w11 _) HSM.out HZM.out H1M.out ?_) | (have HZ7 : Hid (w11.heap[wb.heap.size]? = some (.cells Z 23 (0, 0))) := (hb7.block _ (by simp)).trans (heap_alloc_new wb.drew _); have HPOST : Below wb.heap.size wb (w11.setRow wb.heap.size M1) := below_setRow (((Below.refl _ _).drew.alloc (Nat.le_refl _) _).trans (hb7.mono (by simp))) (Nat.le_refl _) _; have HGD : Hid ((w11.setRow wb.heap.size M1).heap[wb.heap.size]? = some (.cells M1 23 (0, 0))) := setRow_heap _ _ _ _ 23 _ HZ7.out; have hne : w.heap.size ≠ wb.heap.size := Nat.ne_of_lt (heap_lt HB3.out.2.1); refine step_store_row (by rfl) 23 (.tmp 15) (.tmp 70) rfl wb.heap.size M1 rfl rfl 23 Z HZ7.out HSM.out HZM.out H1M.out ?_)
          refine hK.out _ _ ((setRow_other _ _ _ _ hne).trans hHeld) (fun hHeld => ?_)
          clear hK K
          try simp only [Act.put, List.setIfInBounds_toArray, List.set_cons_zero, List.set_cons_succ]
          refine wpAnyH_take (i := 17) (oi := { dst := some 16, op := Op.assign (Operand.tmp 71), type := 4, pos := "ref.go:22", after := #[{ on := 14, ground := Ground.data }, { on := 16, ground := Ground.chain }, { on := 0, ground := Ground.phase }, { on := 1, ground := Ground.phase }, { on := 2, ground := Ground.phase }, { on := 3, ground := Ground.phase }, { on := 4, ground := Ground.phase }, { on := 5, ground := Ground.phase }, { on := 6, ground := Ground.phase }, { on := 7, ground := Ground.phase }, { on := 8, ground := Ground.phase }, { on := 9, ground := Ground.phase }, { on := 10, ground := Ground.phase }, { on := 11, ground := Ground.phase }, { on := 12, ground := Ground.phase }, { on := 13, ground := Ground.phase }, { on := 14, ground := Ground.phase }, { on := 15, ground := Ground.phase }, { on := 16, ground := Ground.phase }], guard := none }) (v := .bool b1) rfl (by kernel_rfl) (by kernel_rfl) (by kernel_rfl) (fun _ _ _ h => h) (Or.inl ⟨by rfl, by intro W hSw; go_simp⟩) hHeld ?_
          try simp only [Act.put, List.setIfInBounds_toArray, List.set_cons_zero, List.set_cons_succ]
          refine wpAnyH_done (by kernel_rfl) ?_ _
          have HB5 := hidk (HB3.out.keep HPOST)
          have HL5 := hidk ((HPOST.block _ (heap_lt HL.out)).trans HL.out)
          clear hHeld HB3 HL hb7 IH
          go_wp2_with (first
            | (refine wpList_load_row rfl 23 (.tmp 12) rfl gd rfl 23 L.toArray (0, 0) _ HL5.out Tryd.underlying23 rfl HSE.out ?_; try simp only [Act.put, List.setIfInBounds_toArray, List.set_cons_zero, List.set_cons_succ])
            | (refine wpList_load_row rfl 23 (.tmp 15) rfl _ rfl 23 M1 (0, 0) _ HGD.out Tryd.underlying23 rfl HSM.out ?_; try simp only [Act.put, List.setIfInBounds_toArray, List.set_cons_zero, List.set_cons_succ])
            | fail)
          refine (KL.out _ HB5.out.1).mono ?_
          rintro e w9 ⟨rfl, hb9⟩
          have HB6 := hidk (HB5.out.keep hb9)
          clear HB5 HL5 HGD HPOST hb9
          go_wp2_with (first
            | (refine wpList_store_row rfl 23 (.tmp 8) (.tmp 74) rfl (w.heap.size + 1) M rfl rfl 23 Z HB6.out.2.2 HSF.out HZF.out H1F.out ?_; try simp only [Act.put, List.setIfInBounds_toArray, List.set_cons_zero, List.set_cons_succ])
            | fail)
          refine bodyPost_ret (v := .tuple #[.agg M, .bool b1]) ?_ rfl ⟨by rw [Hb1.out], below_setRow HB6.out.1 (by omega) _⟩
          exact results_row_tmp (p := 8) (q := 9) (ty := 23) rfl _ _ (w.heap.size + 1) 23 M (0, 0) _ rfl (setRow_heap _ _ _ _ 23 _ HB6.out.2.2) Tryd.underlying23 rfl HSF.out
        · refine step_alloc_row (by rfl) 23 rfl Z HA.out ?_
          refine hK.out _ _ (heap_keep hHeld) (fun hHeld => ?_)
          clear hK K
          try simp only [Act.put, List.setIfInBounds_toArray, List.set_cons_zero, List.set_cons_succ]
          refine wpAnyH_ready (rs := [11]) (by kernel_rfl) (by simp) ?_
          refine (AllReadyH.cons (o := { dst := some 69, op := Op.call { callee := Callee.value (Operand.func 27), args := #[Operand.tmp 60, Operand.tmp 63, Operand.tmp 64, Operand.tmp 68], argTypes := #[3, 3, 23, 24] }, type := 48, pos := "ref.go:22", after := #[{ on := 2, ground := Ground.data }, { on := 5, ground := Ground.data }, { on := 6, ground := Ground.data }, { on := 10, ground := Ground.data }], guard := none }) rfl (fun K hK => ?_) AllReadyH.nil)
          go_simp
          refine (IH.out _ (by first | exact HB3.out.1.drew | exact HB3.out.1.drew.alloc HB3.out.1.size _)).mono ?_
          rintro e w11 ⟨rfl, hb7⟩
          go_wp2_with fail
          refine hK.out _ _ ((hb7.block _ (heap_lt hHeld)).trans hHeld) (fun hHeld => ?_)
          clear hK K
          try simp only [Act.put, List.setIfInBounds_toArray, List.set_cons_zero, List.set_cons_succ]
          refine wpAnyH_take (i := 12) (oi := { dst := some 57, op := Op.move (Operand.tmp 69), type := 48, pos := "ref.go:22", after := #[{ on := 11, ground := Ground.data }], guard := none }) (v := .tuple #[.agg M1, .bool b1]) rfl (by kernel_rfl) (by kernel_rfl) (by kernel_rfl) (fun _ _ _ h => h) (Or.inl ⟨by rfl, by intro W hSw; go_simp⟩) hHeld ?_
          try simp only [Act.put, List.setIfInBounds_toArray, List.set_cons_zero, List.set_cons_succ]
          refine wpAnyH_take (i := 13) (oi := { dst := some 70, op := Op.extract (Operand.tmp 57) 0, type := 23, pos := "ref.go:22", after := #[{ on := 12, ground := Ground.data }], guard := none }) (v := .agg M1) rfl (by kernel_rfl) (by kernel_rfl) (by kernel_rfl) (fun _ _ _ h => h) (Or.inl ⟨by rfl, by intro W hSw; go_simp⟩) hHeld ?_
          try simp only [Act.put, List.setIfInBounds_toArray, List.set_cons_zero, List.set_cons_succ]
          refine wpAnyH_take (i := 14) (oi := { dst := some 71, op := Op.extract (Operand.tmp 57) 1, type := 4, pos := "ref.go:22", after := #[{ on := 12, ground := Ground.data }, { on := 16, ground := Ground.gcOnly Departure.lateStores }], guard := none }) (v := .bool b1) rfl (by kernel_rfl) (by kernel_rfl) (by kernel_rfl) (fun _ _ _ h => h) (Or.inl ⟨by rfl, by intro W hSw; go_simp⟩) hHeld ?_
          try simp only [Act.put, List.setIfInBounds_toArray, List.set_cons_zero, List.set_cons_succ]
          refine wpAnyH_ready (rs := [16]) (by kernel_rfl) (by simp) ?_
          refine (AllReadyH.cons (o := { dst := none, op := Op.store 23 (Operand.tmp 15) (Operand.tmp 70), type := 0, pos := "ref.go:22", after := #[{ on := 15, ground := Ground.data }, { on := 13, ground := Ground.data }, { on := 11, ground := Ground.chain }, { on := 0, ground := Ground.phase }, { on := 1, ground := Ground.phase }, { on := 2, ground := Ground.phase }, { on := 3, ground := Ground.phase }, { on := 4, ground := Ground.phase }, { on := 5, ground := Ground.phase }, { on := 6, ground := Ground.phase }, { on := 7, ground := Ground.phase }, { on := 8, ground := Ground.phase }, { on := 9, ground := Ground.phase }, { on := 10, ground := Ground.phase }, { on := 11, ground := Ground.phase }, { on := 12, ground := Ground.phase }, { on := 13, ground := Ground.phase }, { on := 14, ground := Ground.textOnly Departure.lateStores }, { on := 15, ground := Ground.phase }], guard := none }) rfl (fun K hK => ?_) AllReadyH.nil)
          first | (have HPOST : Below wb.heap.size wb ((w11.alloc (.cells Z 23)).setRow w11.heap.size M1) := below_var ((Below.refl _ _).drew.trans hb7) hb7.size _ _; have HGD : Hid (((w11.alloc (.cells Z 23)).setRow w11.heap.size M1).heap[w11.heap.size]? = some (.cells M1 23 (0, 0))) := new_var w11 Z M1 23; have hne : w.heap.size ≠ w11.heap.size := Nat.ne_of_lt (Nat.lt_of_lt_of_le (heap_lt HB3.out.2.1) hb7.size); refine step_store_row (by rfl) 23 (.tmp 15) (.tmp 70) rfl w11.heap.size M1 rfl rfl 23 Z (heap_alloc_new w11 _) HSM.out HZM.out H1M.out ?_) | (have HZ7 : Hid (w11.heap[wb.heap.size]? = some (.cells Z 23 (0, 0))) := (hb7.block _ (by simp)).trans (heap_alloc_new wb.drew _); have HPOST : Below wb.heap.size wb (w11.setRow wb.heap.size M1) := below_setRow (((Below.refl _ _).drew.alloc (Nat.le_refl _) _).trans (hb7.mono (by simp))) (Nat.le_refl _) _; have HGD : Hid ((w11.setRow wb.heap.size M1).heap[wb.heap.size]? = some (.cells M1 23 (0, 0))) := setRow_heap _ _ _ _ 23 _ HZ7.out; have hne : w.heap.size ≠ wb.heap.size := Nat.ne_of_lt (heap_lt HB3.out.2.1); refine step_store_row (by rfl) 23 (.tmp 15) (.tmp 70) rfl wb.heap.size M1 rfl rfl 23 Z HZ7.out HSM.out HZM.out H1M.out ?_)
          refine hK.out _ _ ((setRow_other _ _ _ _ hne).trans hHeld) (fun hHeld => ?_)
          clear hK K
          try simp only [Act.put, List.setIfInBounds_toArray, List.set_cons_zero, List.set_cons_succ]
          refine wpAnyH_take (i := 17) (oi := { dst := some 16, op := Op.assign (Operand.tmp 71), type := 4, pos := "ref.go:22", after := #[{ on := 14, ground := Ground.data }, { on := 16, ground := Ground.chain }, { on := 0, ground := Ground.phase }, { on := 1, ground := Ground.phase }, { on := 2, ground := Ground.phase }, { on := 3, ground := Ground.phase }, { on := 4, ground := Ground.phase }, { on := 5, ground := Ground.phase }, { on := 6, ground := Ground.phase }, { on := 7, ground := Ground.phase }, { on := 8, ground := Ground.phase }, { on := 9, ground := Ground.phase }, { on := 10, ground := Ground.phase }, { on := 11, ground := Ground.phase }, { on := 12, ground := Ground.phase }, { on := 13, ground := Ground.phase }, { on := 14, ground := Ground.phase }, { on := 15, ground := Ground.phase }, { on := 16, ground := Ground.phase }], guard := none }) (v := .bool b1) rfl (by kernel_rfl) (by kernel_rfl) (by kernel_rfl) (fun _ _ _ h => h) (Or.inl ⟨by rfl, by intro W hSw; go_simp⟩) hHeld ?_
          try simp only [Act.put, List.setIfInBounds_toArray, List.set_cons_zero, List.set_cons_succ]
          refine wpAnyH_done (by kernel_rfl) ?_ _
          have HB5 := hidk (HB3.out.keep HPOST)
          have HL5 := hidk ((HPOST.block _ (heap_lt HL.out)).trans HL.out)
          clear hHeld HB3 HL hb7 IH
          go_wp2_with (first
            | (refine wpList_load_row rfl 23 (.tmp 12) rfl gd rfl 23 L.toArray (0, 0) _ HL5.out Tryd.underlying23 rfl HSE.out ?_; try simp only [Act.put, List.setIfInBounds_toArray, List.set_cons_zero, List.set_cons_succ])
            | (refine wpList_load_row rfl 23 (.tmp 15) rfl _ rfl 23 M1 (0, 0) _ HGD.out Tryd.underlying23 rfl HSM.out ?_; try simp only [Act.put, List.setIfInBounds_toArray, List.set_cons_zero, List.set_cons_succ])
            | fail)
          refine (KL.out _ HB5.out.1).mono ?_
          rintro e w9 ⟨rfl, hb9⟩
          have HB6 := hidk (HB5.out.keep hb9)
          clear HB5 HL5 HGD HPOST hb9
          go_wp2_with (first
            | (refine wpList_store_row rfl 23 (.tmp 8) (.tmp 74) rfl (w.heap.size + 1) M rfl rfl 23 Z HB6.out.2.2 HSF.out HZF.out H1F.out ?_; try simp only [Act.put, List.setIfInBounds_toArray, List.set_cons_zero, List.set_cons_succ])
            | fail)
          refine bodyPost_ret (v := .tuple #[.agg M, .bool b1]) ?_ rfl ⟨by rw [Hb1.out], below_setRow HB6.out.1 (by omega) _⟩
          exact results_row_tmp (p := 8) (q := 9) (ty := 23) rfl _ _ (w.heap.size + 1) 23 M (0, 0) _ rfl (setRow_heap _ _ _ _ 23 _ HB6.out.2.2) Tryd.underlying23 rfl HSF.out
end Go.Proofs.YtehfoeedlchphaaDoor
