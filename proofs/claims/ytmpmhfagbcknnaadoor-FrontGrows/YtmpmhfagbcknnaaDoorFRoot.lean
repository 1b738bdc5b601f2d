/- What front.Root answers. -/
import Derived.Test.YtmpmhfagbcknnaaDoorFCheck
namespace Go.Proofs.YtmpmhfagbcknnaaDoor
open Go.RowKit Sums
set_option linter.unusedVariables false
set_option linter.unusedSimpArgs false

theorem Two.other {W : World} {g g' : Nat} {x y : Value} {cs : Array Value} (h : Two W g x y) (hne : g ≠ g') : Two (W.setRow g' cs) g x y :=
  ⟨by rw [cell_setRow_other W g' cs _ hne]; exact h.1, by rw [cell_setRow_other W g' cs _ hne]; exact h.2⟩
theorem builtD : Tryd.prog.built 29 [] = some (cellsOf (List.replicate 32 0)).toArray := by kernel_rfl

set_option maxHeartbeats 2000000 in
theorem froot_no (n : Int) (a : Option Addr) (len cap : Nat) (w : World) (hl : len ≤ maxLen) (h : ¬ isRight n len) (Z : Array Value) (HZ : Hid (Z = (cellsOf (List.replicate 32 0)).toArray)) :
    Calls Tryd.prog 10 #[.agg #[.int .i64 n, .slice a len cap]] w fun e w' => e = .returned (.tuple #[.agg Z, .int .i64 30]) ∧ Below w.heap.size w w' := by
  obtain ⟨Z0, HZ0, HA, HS, H1, H32⟩ := noughts27
  obtain rfl : Z = Z0 := HZ.out.trans HZ0.out.symm
  have HB : Hid (Tryd.prog.built 29 [] = some Z) := by show _ = _; rw [HZ.out]; exact builtD
  have CK : Hid (∀ W, Calls Tryd.prog 9 #[.agg #[.int .i64 n, .slice a len cap]] W fun e w' => e = .returned (.int .i64 30) ∧ Below W.heap.size W w') := fun W => check_no n a len cap W hl h
  clear h hl HZ HZ0
  go_enter Tryd.func10, Tryd.ntmps10
  go_wp2_with (first
    | (refine wpList_alloc_row rfl 29 rfl Z HA.out ?_; try simp only [Act.put, List.setIfInBounds_toArray, List.set_cons_zero, List.set_cons_succ])
    | fail)
  refine (CK.out _).mono ?_
  rintro e w1 ⟨rfl, hb1⟩
  have HG : Hid (w1.heap[w.heap.size + 1]? = some (.cells Z 29 (0, 0))) := (hb1.block _ (by simp)).trans (by have := heap_alloc_new (w.alloc (.cells #[.int .i64 n, .slice a len cap] 25)) (.cells Z 29); simpa using this)
  have HBW : Hid (Below w.heap.size w w1) := (((Below.refl _ _).alloc (Nat.le_refl _) _).alloc (by simp) _).trans (hb1.mono (by simp; omega))
  clear hb1 CK
  go_wp2_with (first
    | (refine wpList_build_none rfl 29 rfl Z HB.out ?_; try simp only [Act.put, List.setIfInBounds_toArray, List.set_cons_zero, List.set_cons_succ])
    | (refine wpList_store_row rfl 29 (.tmp 2) (.tmp 12) rfl (w.heap.size + 1) Z rfl rfl 29 Z HG.out HS.out rfl H1.out ?_; try simp only [Act.put, List.setIfInBounds_toArray, List.set_cons_zero, List.set_cons_succ])
    | fail)
  refine bodyPost_ret (v := .tuple #[.agg Z, .int .i64 30]) ?_ rfl ⟨rfl, below_setRow HBW.out (by omega) _⟩
  exact results_row_tmp (p := 2) (q := 3) (ty := 29) rfl _ _ (w.heap.size + 1) 29 Z (0, 0) _ rfl (setRow_heap _ _ _ _ 29 _ HG.out) Tryd.underlying29 rfl HS.out

set_option maxHeartbeats 4000000 in
theorem froot_ok (n : Int) (a : Option Addr) (len cap : Nat) (ps : List (List UInt8)) (w : World) (h : isRight n len) (hR : LReads w a len cap ps) (hK : TabF w) (D : Array Value) (HD : Hid (D = (cellsOf (rootP ps)).toArray)) :
    Calls Tryd.prog 10 #[.agg #[.int .i64 n, .slice a len cap]] w fun e w' => e = .returned (.tuple #[.agg D, .int .i64 0]) ∧ Below w.heap.size w w' := by
  obtain ⟨Z, HZ, HA, HS, H1, H32⟩ := noughts27
  have h32 : (rootP ps).length = 32 := rootP_digs sumD_length ps hR.2.1
  have HSD : Hid ((Tryd.prog.info? 29).map (·.size) = some D.size) := by show _ = _; rw [size23, HD.out]; simp [cellsOf_length, h32]
  have H1D : Hid (D.all (·.oneCell') = true) := by show _ = _; rw [HD.out]; exact cellsOf_all _
  have HZD : Hid (Z.size = D.size) := by show _ = _; rw [H32.out, HD.out]; simp [cellsOf_length, h32]
  have hlen := hR.1
  have hmx : len ≤ 9223372036854775807 := by have := hR.2.2.2.1; unfold maxLen at this; omega
  have CK : Hid (∀ W, Calls Tryd.prog 9 #[.agg #[.int .i64 n, .slice a len cap]] W fun e w' => e = .returned (.int .i64 0) ∧ Below W.heap.size W w') := fun W => check_ok n a len cap W h
  clear h
  by_cases h0 : len = 0
  · have KE : Hid (∀ W, Below w.heap.size w W → Calls Tryd.prog 21 #[] W fun e w' => e = .returned (.agg D) ∧ Below W.heap.size W w') := fun W hb => empty_any W (hK.keep hb).1 D (by
      show _ = _
      rw [HD.out, show ps = [] from List.eq_nil_of_length_eq_zero (by omega)]
      rfl)
    subst h0
    clear hK hR HD
    go_enter Tryd.func10, Tryd.ntmps10
    go_wp2_with (first
      | (refine wpList_alloc_row rfl 29 rfl Z HA.out ?_; try simp only [Act.put, List.setIfInBounds_toArray, List.set_cons_zero, List.set_cons_succ])
      | fail)
    refine (CK.out _).mono ?_
    rintro e w1 ⟨rfl, hb1⟩
    have HG : Hid (w1.heap[w.heap.size + 1]? = some (.cells Z 29 (0, 0))) := (hb1.block _ (by simp)).trans (by have := heap_alloc_new (w.alloc (.cells #[.int .i64 n, .slice a 0 cap] 25)) (.cells Z 29); simpa using this)
    have HT : Hid (Two w1 w.heap.size (.int .i64 n) (.slice a 0 cap)) := ((two_new w _ _ 25).keep ((Below.refl _ _).alloc (Nat.le_refl _) _)).keep hb1
    have HBW : Hid (Below w.heap.size w w1) := (((Below.refl _ _).alloc (Nat.le_refl _) _).alloc (by simp) _).trans (hb1.mono (by simp; omega))
    clear hb1 CK
    have hc1 := HT.out.2
    go_wp2_with fail
    refine (KE.out _ HBW.out).mono ?_
    rintro e w2 ⟨rfl, hb2⟩
    have HG2 : Hid (w2.heap[w.heap.size + 1]? = some (.cells Z 29 (0, 0))) := (hb2.block _ (heap_lt HG.out)).trans HG.out
    have HB2 : Hid (Below w.heap.size w w2) := HBW.out.trans (hb2.mono HBW.out.size)
    clear hb2 KE hc1
    go_wp2_with (first
      | (refine wpList_store_row rfl 29 (.tmp 2) (.tmp 18) rfl (w.heap.size + 1) D rfl rfl 29 Z HG2.out HSD.out HZD.out H1D.out ?_; try simp only [Act.put, List.setIfInBounds_toArray, List.set_cons_zero, List.set_cons_succ])
      | fail)
    refine bodyPost_ret (v := .tuple #[.agg D, .int .i64 0]) ?_ rfl ⟨rfl, below_setRow HB2.out (by omega) _⟩
    exact results_row_tmp (p := 2) (q := 3) (ty := 29) rfl _ _ (w.heap.size + 1) 29 D (0, 0) _ rfl (setRow_heap _ _ _ _ 29 _ HG2.out) Tryd.underlying29 rfl HSD.out
  · obtain ⟨g, o, rfl, hg⟩ := hR.at (by omega)
    obtain ⟨m, rfl⟩ : ∃ m, len = m + 1 := ⟨len - 1, by omega⟩
    have HR : Hid (LReads w (some ⟨g, o, none⟩) (m + 1) cap ps) := hR
    have HT : Hid (∀ W, Below w.heap.size w W → TabF W) := fun W hb => hK.keep hb
    have row : ∀ t, t ≤ m → ∃ B : Array Value, Hid (B = (cellsOf (rootP (ps.drop t))).toArray) ∧ Hid ((Tryd.prog.info? 29).map (·.size) = some B.size) ∧ Hid (B.all (·.oneCell') = true) ∧ Hid (B.size = 32) := fun t _ => dig_row' _ (rootP_digs sumD_length _ (hR.2.1.drop t))
    obtain ⟨B0, HB0, HSB0, H1B0, H32B0⟩ := row m (Nat.le_refl _)
    obtain ⟨L0, hL0⟩ : ∃ L0 : List Value, B0 = L0.toArray := ⟨B0.toList, by simp⟩
    have EL0 : Hid (L0 = cellsOf (ps[m]'(by omega))) := by
      have := HB0.out
      rw [rootP_last ps m (by omega), hL0] at this
      exact List.toArray_inj this
    have hm32 : (ps[m]'(by omega)).length = 32 := hR.2.1 _ (List.getElem_mem _)
    have z0 : Hid ((Tryd.prog.info? 29).map (·.size) = some L0.length) := by show _ = _; rw [size23, EL0.out, cellsOf_length, hm32]
    have HRG : Hid (∀ W, Below w.heap.size w W → W.rangeAt g (o + 32 * m) L0) := fun W hb => by
      rw [EL0.out]
      exact range_keep hb (hR.range m (by omega))
    have HZB0 : Hid (Z.size = L0.toArray.size) := by show _ = _; rw [← hL0, H32.out, H32B0.out]
    rw [hL0] at HSB0 H1B0 HB0
    have ix := fun W => index_list W g o (m + 1) cap m .i64 (by omega)
    have e1 := wrap_int ((m : Int) + 1 - 1) (by omega) (by omega)
    have e2 := wrap_int ((m : Int) - 1) (by omega) (by omega)
    have c7 : ((m : Int) + 1 == 0) = false := by rw [beq_eq_false_iff_ne]; omega
    clear hK hR hL0 H32B0 hm32 EL0
    go_enter Tryd.func10, Tryd.ntmps10
    go_wp2_with (first
      | (refine wpList_alloc_row rfl 29 rfl Z HA.out ?_; try simp only [Act.put, List.setIfInBounds_toArray, List.set_cons_zero, List.set_cons_succ])
      | fail)
    refine (CK.out _).mono ?_
    rintro e w1 ⟨rfl, hb1⟩
    have HG : Hid (w1.heap[w.heap.size + 1]? = some (.cells Z 29 (0, 0))) := (hb1.block _ (by simp)).trans (by have := heap_alloc_new (w.alloc (.cells #[.int .i64 n, .slice (some ⟨g, o, none⟩) (m + 1) cap] 25)) (.cells Z 29); simpa using this)
    have HTw : Hid (Two w1 w.heap.size (.int .i64 n) (.slice (some ⟨g, o, none⟩) (m + 1) cap)) := ((two_new w _ _ 25).keep ((Below.refl _ _).alloc (Nat.le_refl _) _)).keep hb1
    have HBW : Hid (Below w.heap.size w w1) := (((Below.refl _ _).alloc (Nat.le_refl _) _).alloc (by simp) _).trans (hb1.mono (by simp; omega))
    clear hb1 CK
    have hc1 := HTw.out.2
    have hr1 := hidk (HRG.out w1 HBW.out)
    go_wp2_with (first
      | (refine wpList_load_mid rfl 29 (.tmp 26) rfl g (o + 32 * m) rfl L0 _ hr1.out Tryd.underlying29 rfl z0.out ?_; try simp only [Act.put, List.setIfInBounds_toArray, List.set_cons_zero, List.set_cons_succ])
      | (refine wpList_new_row rfl rfl 29 rfl (.tmp 6) (.tmp 27) rfl Z L0.toArray HA.out (fun _ => rfl) (fun _ => rfl) HSB0.out HZB0.out H1B0.out ?_; intro gd w2 F1; try simp only [Act.put, List.setIfInBounds_toArray, List.set_cons_zero, List.set_cons_succ])
      | fail)
    have HG1 : Hid (w2.heap[gd]? = some (.cells (cellsOf (rootP (ps.drop m))).toArray 29 (0, 0)) ∧ w2.heap[w.heap.size + 1]? = some (.cells Z 29 (0, 0)) ∧ Two w2 w.heap.size (.int .i64 n) (.slice (some ⟨g, o, none⟩) (m + 1) cap) ∧ Below w.heap.size w w2) :=
      ⟨by rw [← HB0.out]; exact F1.out.2.1, (F1.out.2.2.block _ (heap_lt HG.out)).trans HG.out, HTw.out.keep F1.out.2.2, HBW.out.trans (F1.out.2.2.mono HBW.out.size)⟩
    have HGD : Hid (w.heap.size + 1 < gd) := by show _ < _; rw [F1.out.1]; exact heap_lt HG.out
    clear F1 HRG z0 HB0 hr1 hc1 HG HTw HBW
    go_loopw [7] (fun v wr => ∃ t : Nat, t ≤ m ∧ v = .int .i64 ((t : Int) - 1) ∧ Hid (wr.heap[gd]? = some (.cells (cellsOf (rootP (ps.drop t))).toArray 29 (0, 0)) ∧ wr.heap[w.heap.size + 1]? = some (.cells Z 29 (0, 0)) ∧ Two wr w.heap.size (.int .i64 n) (.slice (some ⟨g, o, none⟩) (m + 1) cap) ∧ Below w.heap.size w wr)) (fun v _ => (intOf v + 1).toNat)
    case atStart => exact ⟨m, Nat.le_refl _, by go_num, HG1⟩
    case round =>
      clear HG1
      obtain ⟨t, ht, rfl, HW⟩ := hrel
      cases t with
      | zero =>
        have HDs : Hid (wr.heap[gd]? = some (.cells D 29 (0, 0))) := by show _ = _; rw [HD.out]; exact HW.out.1
        go_wp2_with (first
          | (refine wpList_load_row rfl 29 (.tmp 6) rfl gd rfl 29 D (0, 0) _ HDs.out Tryd.underlying29 rfl HSD.out ?_; try simp only [Act.put, List.setIfInBounds_toArray, List.set_cons_zero, List.set_cons_succ])
          | (refine wpList_store_row rfl 29 (.tmp 2) (.tmp 41) rfl (w.heap.size + 1) D rfl rfl 29 Z HW.out.2.1 HSD.out HZD.out H1D.out ?_; try simp only [Act.put, List.setIfInBounds_toArray, List.set_cons_zero, List.set_cons_succ])
          | fail)
        refine bodyPost_ret (v := .tuple #[.agg D, .int .i64 0]) ?_ rfl ⟨rfl, below_setRow HW.out.2.2.2 (by omega) _⟩
        exact results_row_tmp (p := 2) (q := 3) (ty := 29) rfl _ _ (w.heap.size + 1) 29 D (0, 0) _ rfl (setRow_heap _ _ _ _ 29 _ HW.out.2.1) Tryd.underlying29 rfl HSD.out
      | succ t =>
        have htl : t < ps.length := by omega
        obtain ⟨P, HP⟩ : ∃ P, Hid (P = cellsOf ps[t]) := ⟨_, (rfl : cellsOf ps[t] = _)⟩
        have hp32 : ps[t].length = 32 := HR.out.2.1 _ (List.getElem_mem htl)
        have zP : (Tryd.prog.info? 29).map (·.size) = some P.length := by rw [size23, HP.out, cellsOf_length, hp32]
        obtain ⟨B, HB, HSB, H1B, H32B⟩ := row (t + 1) ht
        obtain ⟨C, HC, HSC, H1C, H32C⟩ := row t (by omega)
        have HBC : Hid (B.size = C.size) := by show _ = _; rw [H32B.out, H32C.out]
        have HGB : Hid (wr.heap[gd]? = some (.cells B 29 (0, 0))) := by show _ = _; rw [HB.out]; exact HW.out.1
        have hS : Two wr w.heap.size (.int .i64 n) (.slice (some ⟨g, o, none⟩) (m + 1) cap) ∧ wr.rangeAt g (o + 32 * t) P := ⟨HW.out.2.2.1, by rw [HP.out]; exact (HR.out.keep HW.out.2.2.2).range t htl⟩
        have KN : Hid (∀ W, Below w.heap.size w W → Calls Tryd.prog 22 #[.agg P.toArray, .agg B] W fun e w' => e = .returned (.agg C) ∧ Below W.heap.size W w') := fun W hb => by
          rw [HP.out, HB.out]
          exact knot_any _ _ hp32 (rootP_digs sumD_length _ (HR.out.2.1.drop (t + 1))) W (HT.out W hb).1 C (by show _ = _; rw [HC.out, rootP_drop ps t (by omega)]; rfl)
        have hgl : g ≠ gd := by have := HGD.out; omega
        have hwl : w.heap.size ≠ gd := by have := HGD.out; omega
        have ix2 := fun W => index_list W g o (m + 1) cap t .i64 (by omega)
        have e4 := wrap_int ((t : Int) - 1) (by omega) (by omega)
        rw [show (((t + 1 : Nat) : Int) - 1) = (t : Int) by omega]
        clear HP HB
        go_wp2
        refine wp_region_held_drew (S := (fun W => Two W w.heap.size (.int .i64 n) (.slice (some ⟨g, o, none⟩) (m + 1) cap) ∧ W.rangeAt g (o + 32 * t) P)) (by kernel_rfl) hS (fun hHeld => ?_)
        refine wpAnyH_take (i := 0) (oi := { dst := some 34, op := Op.fieldAddr 25 (Operand.tmp 1) 1, type := 0, pos := "front.go:77", after := #[], guard := none }) (v := .pointer (some ⟨w.heap.size, 1, none⟩)) rfl (by kernel_rfl) (by kernel_rfl) (by kernel_rfl) (fun _ _ _ h => h) (Or.inl ⟨by rfl, by intro w hSw; go_simp⟩) hHeld ?_
        try simp only [Act.put, List.setIfInBounds_toArray, List.set_cons_zero, List.set_cons_succ]
        refine wpAnyH_take (i := 1) (oi := { dst := some 35, op := Op.load 22 (Operand.tmp 34), type := 22, pos := "front.go:77", after := #[{ on := 0, ground := Ground.data }], guard := none }) (v := .slice (some ⟨g, o, none⟩) (m + 1) cap) rfl (by kernel_rfl) (by kernel_rfl) (by kernel_rfl) (fun _ _ _ h => h) (Or.inl ⟨by rfl, by intro W hSw; have h1 := hSw.1.2; go_simp⟩) hHeld ?_
        try simp only [Act.put, List.setIfInBounds_toArray, List.set_cons_zero, List.set_cons_succ]
        refine wpAnyH_take (i := 2) (oi := { dst := some 36, op := Op.move (Operand.tmp 7), type := 3, pos := "front.go:77", after := #[], guard := none }) (v := .int .i64 t) rfl (by kernel_rfl) (by kernel_rfl) (by kernel_rfl) (fun _ _ _ h => h) (Or.inl ⟨by rfl, by intro w hSw; go_simp⟩) hHeld ?_
        try simp only [Act.put, List.setIfInBounds_toArray, List.set_cons_zero, List.set_cons_succ]
        refine wpAnyH_take (i := 3) (oi := { dst := some 37, op := Op.indexAddr 22 (Operand.tmp 35) (Operand.tmp 36), type := 0, pos := "front.go:77", after := #[{ on := 1, ground := Ground.data }, { on := 2, ground := Ground.data }], guard := none }) (v := .pointer (some ⟨g, o + 32 * t, none⟩)) rfl (by kernel_rfl) (by kernel_rfl) (by kernel_rfl) (fun _ _ _ h => h) (Or.inl ⟨by rfl, by intro W hSw; have := ix2 W; go_simp⟩) hHeld ?_
        try simp only [Act.put, List.setIfInBounds_toArray, List.set_cons_zero, List.set_cons_succ]
        refine wpAnyH_take (i := 4) (oi := { dst := some 38, op := Op.load 29 (Operand.tmp 37), type := 29, pos := "front.go:77", after := #[{ on := 3, ground := Ground.data }], guard := none }) (v := .agg P.toArray) rfl (by kernel_rfl) (by kernel_rfl) (by kernel_rfl) (fun _ _ _ h => h) (yieldsIf_load_mid (by rfl) 29 (.tmp 37) rfl _ _ rfl P _ (fun _ h => h.2) Tryd.underlying29 rfl zP) hHeld ?_
        try simp only [Act.put, List.setIfInBounds_toArray, List.set_cons_zero, List.set_cons_succ]
        refine wpAnyH_ready (rs := [5]) (by kernel_rfl) (by simp) ?_
        refine AllReadyH.cons (o := { dst := some 39, op := Op.load 29 (Operand.tmp 6), type := 29, pos := "front.go:77", after := #[], guard := none }) rfl (fun K hK => ?_) AllReadyH.nil
        refine step_load_row (by rfl) 29 (.tmp 6) rfl gd rfl 29 B (0, 0) _ HGB.out Tryd.underlying29 rfl HSB.out ?_
        refine hK.out _ _ hHeld (fun hHeld => ?_)
        clear hK K
        try simp only [Act.put, List.setIfInBounds_toArray, List.set_cons_zero, List.set_cons_succ]
        refine wpAnyH_ready (rs := [6]) (by kernel_rfl) (by simp) ?_
        refine AllReadyH.cons (o := { dst := some 40, op := Op.call { callee := Callee.value (Operand.func 22), args := #[Operand.tmp 38, Operand.tmp 39], argTypes := #[29, 29] }, type := 29, pos := "front.go:77", after := #[{ on := 4, ground := Ground.data }, { on := 5, ground := Ground.data }], guard := none }) rfl (fun K hK => ?_) AllReadyH.nil
        go_simp
        refine (KN.out _ HW.out.2.2.2.drew).mono ?_
        rintro e w5 ⟨rfl, hb5⟩
        have HG5 : Hid (w5.heap[gd]? = some (.cells B 29 (0, 0))) := (hb5.block _ (heap_lt HGB.out)).trans HGB.out
        go_wp2_with fail
        refine hK.out _ _ ⟨hHeld.1.keep hb5, range_keep hb5 hHeld.2⟩ (fun hHeld => ?_)
        clear hK K
        try simp only [Act.put, List.setIfInBounds_toArray, List.set_cons_zero, List.set_cons_succ]
        refine wpAnyH_ready (rs := [7]) (by kernel_rfl) (by simp) ?_
        refine AllReadyH.cons (o := { dst := none, op := Op.store 29 (Operand.tmp 6) (Operand.tmp 40), type := 0, pos := "front.go:77", after := #[{ on := 6, ground := Ground.data }, { on := 6, ground := Ground.chain }, { on := 0, ground := Ground.phase }, { on := 1, ground := Ground.phase }, { on := 2, ground := Ground.phase }, { on := 3, ground := Ground.phase }, { on := 4, ground := Ground.phase }, { on := 5, ground := Ground.phase }, { on := 6, ground := Ground.phase }], guard := none }) rfl (fun K hK => ?_) AllReadyH.nil
        refine step_store_row (by rfl) 29 (.tmp 6) (.tmp 40) rfl gd C rfl rfl 29 B HG5.out HSC.out HBC.out H1C.out ?_
        refine hK.out _ _ ⟨hHeld.1.other hwl, range_other hHeld.2 hgl⟩ (fun hHeld => ?_)
        clear hK K
        try simp only [Act.put, List.setIfInBounds_toArray, List.set_cons_zero, List.set_cons_succ]
        refine wpAnyH_done (by kernel_rfl) ?_ _
        go_wp2
        go_roundw
        case rel =>
          refine ⟨t, by omega, by go_num, ?_, ?_, ?_, ?_⟩
          · rw [← HC.out]; exact setRow_heap _ _ _ _ 29 _ HG5.out
          · rw [setRow_other _ _ _ _ (by have := HGD.out; omega), hb5.block _ (heap_lt HW.out.2.1)]; exact HW.out.2.1
          · exact hHeld.1
          · exact below_setRow (HW.out.2.2.2.drew.trans (hb5.mono HW.out.2.2.2.size)) (by have := HGD.out; omega) _
        case measure => simp [intOf]
end Go.Proofs.YtmpmhfagbcknnaaDoor
