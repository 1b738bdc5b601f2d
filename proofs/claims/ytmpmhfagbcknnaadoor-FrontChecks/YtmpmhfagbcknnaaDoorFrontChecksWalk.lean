/- FrontChecks answers true at every number and list. -/
import Derived.Test.YtmpmhfagbcknnaaDoorThree4
import Derived.Test.YtmpmhfagbcknnaaDoorOwns
namespace Go.Proofs.YtmpmhfagbcknnaaDoor
open Go.RowKit Sums
set_option linter.unusedVariables false
set_option linter.unusedSimpArgs false

theorem built0 : Tryd.prog.built 29 [] = some (cellsOf (List.replicate 32 0)).toArray := by kernel_rfl
theorem keepC {w W W' : World} {x a : Option Addr} {n cx cap gf : Nat} {z : List (List UInt8)} {F : List Value} (h : LReads W a n cap z ∧ LReads W x n cx z ∧ W.rangeAt gf 0 F ∧ Below w.heap.size w W) (hb : Below W.heap.size W W') :
    LReads W' a n cap z ∧ LReads W' x n cx z ∧ W'.rangeAt gf 0 F ∧ Below w.heap.size w W' :=
  ⟨h.1.keep hb, h.2.1.keep hb, range_keep hb h.2.2.1, h.2.2.2.trans (hb.mono h.2.2.2.size)⟩
theorem LReads.row {w : World} {a : Option Addr} {len cap gl : Nat} {l : List (List UInt8)} {D : Array Value} (h : LReads w a len cap l) (hne : ∀ g o, a = some ⟨g, o, none⟩ → 0 < len → g ≠ gl) : LReads (w.setRow gl D) a len cap l := by
  obtain ⟨h1, h2, h3, h4, h5⟩ := h
  refine ⟨h1, h2, h3, h4, ?_⟩
  by_cases h0 : len = 0
  · exact .inl h0
  · rcases h5 with h5 | ⟨g, o, ha, hl⟩
    · exact .inl h5
    · refine .inr ⟨g, o, ha, fun i hi => ?_⟩
      rw [cell_setRow_other w gl D _ (hne g o ha (by omega))]
      exact hl i hi

set_option maxHeartbeats 4000000 in
theorem checks_ok (fr : FrontC) (a0 : Int) (a1 : Option Addr) (len1 cap1 : Nat) (z1 : List (List UInt8)) (w : World) (hb : -9223372036854775808 ≤ a0 ∧ a0 ≤ 9223372036854775807) (w1 : LReads w a1 len1 cap1 z1) (hlong : len1 ≤ 200) (hr : isRight a0 len1) (hK2 : Table 0 w) (hK : TabF w) :
    Calls Tryd.prog 3 #[.int .i64 a0, .slice a1 len1 cap1] w fun e w' => e = .returned (.bool true) ∧ Below w.heap.size w w' := by
  have hd : decide ((200 : Int) < (len1 : Int)) = false := by rw [decide_eq_false_iff_not]; omega
  obtain ⟨Z, HZ, HAZ, HSZ, H1Z, H32Z⟩ := noughts27
  have HBZ : Hid (Tryd.prog.built 29 [] = some Z) := by show _ = _; rw [HZ.out]; exact built0
  obtain ⟨D, HD, HSD, H1D, H32D⟩ := dig_row' (rootP z1) (rootP_digs sumD_length _ w1.2.1)
  have HZD : Hid (Z.size = D.size) := by show _ = _; rw [H32Z.out, H32D.out]
  have eD := eqSelf D (rootP z1) (rootP_digs sumD_length _ w1.2.1) HD
  have HW : Hid (LReads w a1 len1 cap1 z1) := w1
  have OW : Hid (Calls Tryd.prog 8 #[.slice a1 len1 cap1] w fun e w' => ∃ x cx, e = .returned (.slice x len1 cx) ∧ LReads w' x len1 cx z1 ∧ Below w.heap.size w w') := own_reads a1 len1 cap1 z1 w w1 (by omega)
  have T : Hid (∀ W, Below w.heap.size w W → Calls Tryd.prog 13 #[] W fun e w' => e = .returned (.bool true) ∧ Below W.heap.size W w') := fun W hb => three4_true fr W (hK.keep hb)
  have CK : Hid (∀ W, Calls Tryd.prog 9 #[.agg #[.int .i64 a0, .slice a1 len1 cap1]] W fun e w' => e = .returned (.int .i64 0) ∧ Below W.heap.size W w') := fun W => fr.check_ok a0 a1 len1 cap1 W hr
  have RT : Hid (∀ W, Below w.heap.size w W → Calls Tryd.prog 10 #[.agg #[.int .i64 a0, .slice a1 len1 cap1]] W fun e w' => e = .returned (.tuple #[.agg D, .int .i64 0]) ∧ Below W.heap.size W w') := fun W hbl => fr.frontRoot_ok a0 a1 len1 cap1 z1 W hr (w1.keep hbl) (hK.keep hbl) D HD
  have RI : Hid (∀ W x cx, Calls Tryd.prog 11 #[.int .i64 a0, .slice x len1 cx] W fun e w' => e = .returned (.bool true) ∧ W = w') := fun W x cx => refRight_yes a0 x len1 cx W hr
  have RR : Hid (∀ W x cx, Below w.heap.size w W → LReads W x len1 cx z1 → Calls Tryd.prog 12 #[.slice x len1 cx] W fun e w' => e = .returned (.agg D) ∧ Below W.heap.size W w') := fun W x cx hbl hx => refFrontRoot_any x len1 cx z1 W hx (hK2.keep hbl) D HD
  have DL : Hid (∀ W x cx, LReads W a1 len1 cap1 z1 → LReads W x len1 cx z1 → Calls Tryd.prog 14 #[.slice a1 len1 cap1, .slice x len1 cx] W fun e w' => e = .returned (.bool true) ∧ Below W.heap.size W w') := fun W x cx h1 h2 => same_digs a1 x len1 cap1 cx z1 W h1 h2
  have HDZ : Hid True := trivial
  clear hK hK2 w1 hr HD HZ
  go_enter Tryd.func3, Tryd.ntmps3
  go_wp2_with fail
  refine OW.out.mono ?_
  rintro e w1 ⟨x, cx, rfl, hx, hb1⟩
  have hal : Below w1.heap.size w1 (w1.alloc (.cells #[.int .i64 a0, .slice a1 len1 cap1] 25)) := (Below.refl _ _).alloc (Nat.le_refl _) _
  have H1 : Hid (LReads (w1.alloc (.cells #[.int .i64 a0, .slice a1 len1 cap1] 25)) a1 len1 cap1 z1 ∧ LReads (w1.alloc (.cells #[.int .i64 a0, .slice a1 len1 cap1] 25)) x len1 cx z1 ∧ (w1.alloc (.cells #[.int .i64 a0, .slice a1 len1 cap1] 25)).rangeAt w1.heap.size 0 [.int .i64 a0, .slice a1 len1 cap1] ∧ Below w.heap.size w (w1.alloc (.cells #[.int .i64 a0, .slice a1 len1 cap1] 25))) :=
    ⟨(HW.out.keep hb1).keep hal, hx.keep hal, range_row (heap_alloc_new w1 _), hb1.trans (hal.mono hb1.size)⟩
  clear hx hb1 hal OW
  go_wp2_with fail
  generalize w1.alloc (.cells #[.int .i64 a0, .slice a1 len1 cap1] 25) = w2 at H1 ⊢
  generalize w1.heap.size = gf at H1 ⊢
  refine (CK.out _).mono ?_
  rintro e w3 ⟨rfl, hb3⟩
  have H3 := hidk (keepC H1.out hb3)
  clear H1 hb3 CK
  go_wp2_with (first
    | (refine wpList_load_mid rfl 25 (.tmp 6) rfl gf 0 rfl [.int .i64 a0, .slice a1 len1 cap1] _ H3.out.2.2.1 Tryd.underlying25 rfl sizeF ?_; try simp only [Act.put, List.setIfInBounds_toArray, List.set_cons_zero, List.set_cons_succ])
    | fail)
  refine (RT.out _ H3.out.2.2.2).mono ?_
  rintro e w4 ⟨rfl, hb4⟩
  have H4 := hidk (keepC H3.out hb4)
  clear H3 hb4 RT
  go_wp2_with (first
    | (refine wpList_new_row rfl rfl 29 rfl (.tmp 8) (.tmp 25) rfl Z D HAZ.out (fun _ => rfl) (fun _ => rfl) HSD.out HZD.out H1D.out ?_; intro gd w5 F5; try simp only [Act.put, List.setIfInBounds_toArray, List.set_cons_zero, List.set_cons_succ])
    | fail)
  have H5 : Hid (w5.heap[gd]? = some (.cells D 29 (0, 0)) ∧ LReads w5 a1 len1 cap1 z1 ∧ LReads w5 x len1 cx z1 ∧ Below w.heap.size w w5) := ⟨F5.out.2.1, H4.out.1.keep F5.out.2.2, H4.out.2.1.keep F5.out.2.2, H4.out.2.2.2.trans (F5.out.2.2.mono H4.out.2.2.2.size)⟩
  clear F5 H4
  refine (RI.out _ _ _).mono ?_
  rintro e w6 ⟨rfl, rfl⟩
  clear RI
  go_wp2_with (first
    | (refine wpList_build_none rfl 29 rfl Z HBZ.out ?_; try simp only [Act.put, List.setIfInBounds_toArray, List.set_cons_zero, List.set_cons_succ])
    | (refine wpList_new_row rfl rfl 29 rfl (.tmp 11) (.tmp 30) rfl Z Z HAZ.out (fun _ => rfl) (fun _ => rfl) HSZ.out rfl H1Z.out ?_; intro gw w7 F7; try simp only [Act.put, List.setIfInBounds_toArray, List.set_cons_zero, List.set_cons_succ])
    | fail)
  have H7 : Hid (w7.heap[gd]? = some (.cells D 29 (0, 0)) ∧ w7.heap[gw]? = some (.cells Z 29 (0, 0)) ∧ gd ≠ gw ∧ w.heap.size ≤ gw ∧ LReads w7 a1 len1 cap1 z1 ∧ LReads w7 x len1 cx z1 ∧ Below w.heap.size w w7 ∧ (∀ g o, a1 = some ⟨g, o, none⟩ → 0 < len1 → g ≠ gw) ∧ (∀ g o, x = some ⟨g, o, none⟩ → 0 < len1 → g ≠ gw)) := by
    have hgw := F7.out.1
    refine ⟨(F7.out.2.2.block _ (heap_lt H5.out.1)).trans H5.out.1, F7.out.2.1, ?_, ?_, H5.out.2.1.keep F7.out.2.2, H5.out.2.2.1.keep F7.out.2.2, H5.out.2.2.2.trans (F7.out.2.2.mono H5.out.2.2.2.size), fun g o e h0 => ?_, fun g o e h0 => ?_⟩
    · rw [hgw]; exact Nat.ne_of_lt (heap_lt H5.out.1)
    · rw [hgw]; exact H5.out.2.2.2.size
    · obtain ⟨g', o', e', hg⟩ := H5.out.2.1.at h0
      rw [e] at e'; cases e'
      rw [hgw]; exact Nat.ne_of_lt hg
    · obtain ⟨g', o', e', hg⟩ := H5.out.2.2.1.at h0
      rw [e] at e'; cases e'
      rw [hgw]; exact Nat.ne_of_lt hg
  clear F7 H5
  refine (RR.out _ _ _ H7.out.2.2.2.2.2.2.1 H7.out.2.2.2.2.2.1).mono ?_
  rintro e w8 ⟨rfl, hb8⟩
  have HG8 : Hid (w8.heap[gw]? = some (.cells Z 29 (0, 0))) := (hb8.block _ (heap_lt H7.out.2.1)).trans H7.out.2.1
  have H9 : Hid ((w8.setRow gw D).heap[gd]? = some (.cells D 29 (0, 0)) ∧ (w8.setRow gw D).heap[gw]? = some (.cells D 29 (0, 0)) ∧ LReads (w8.setRow gw D) a1 len1 cap1 z1 ∧ LReads (w8.setRow gw D) x len1 cx z1 ∧ Below w.heap.size w (w8.setRow gw D)) :=
    ⟨by rw [setRow_other _ _ _ _ H7.out.2.2.1, hb8.block _ (heap_lt H7.out.1)]; exact H7.out.1, setRow_heap _ _ _ _ 29 _ HG8.out, (H7.out.2.2.2.2.1.keep hb8).row H7.out.2.2.2.2.2.2.2.1, (H7.out.2.2.2.2.2.1.keep hb8).row H7.out.2.2.2.2.2.2.2.2, below_setRow (H7.out.2.2.2.2.2.2.1.trans (hb8.mono H7.out.2.2.2.2.2.2.1.size)) H7.out.2.2.2.1 _⟩
  clear hb8 H7 RR
  go_wp2_with (first
    | (refine wpList_store_row rfl 29 (.tmp 11) (.tmp 33) rfl gw D rfl rfl 29 Z HG8.out HSD.out HZD.out H1D.out ?_; try simp only [Act.put, List.setIfInBounds_toArray, List.set_cons_zero, List.set_cons_succ])
    | fail)
  clear HG8
  generalize w8.setRow gw D = w9 at H9 ⊢
  refine (T.out _ H9.out.2.2.2.2).mono ?_
  rintro e w10 ⟨rfl, hb10⟩
  have H10 : Hid (w10.heap[gd]? = some (.cells D 29 (0, 0)) ∧ w10.heap[gw]? = some (.cells D 29 (0, 0)) ∧ LReads w10 a1 len1 cap1 z1 ∧ LReads w10 x len1 cx z1 ∧ Below w.heap.size w w10) := ⟨(hb10.block _ (heap_lt H9.out.1)).trans H9.out.1, (hb10.block _ (heap_lt H9.out.2.1)).trans H9.out.2.1, H9.out.2.2.1.keep hb10, H9.out.2.2.2.1.keep hb10, H9.out.2.2.2.2.trans (hb10.mono H9.out.2.2.2.2.size)⟩
  clear H9 hb10 T
  have eD10 := eD w10
  go_wp2_with (first
    | (refine wpList_load_row_w (by rfl) 29 (.tmp 8) rfl gd rfl 29 D (0, 0) _ H10.out.1 Tryd.underlying29 rfl HSD.out ?_; try simp only [Act.put, List.setIfInBounds_toArray, List.set_cons_zero, List.set_cons_succ])
    | (refine wpList_load_row_w (by rfl) 29 (.tmp 11) rfl gw rfl 29 D (0, 0) _ H10.out.2.1 Tryd.underlying29 rfl HSD.out ?_; try simp only [Act.put, List.setIfInBounds_toArray, List.set_cons_zero, List.set_cons_succ])
    | fail)
  refine (DL.out _ _ _ H10.out.2.2.1 H10.out.2.2.2.1).mono ?_
  rintro e w11 ⟨rfl, hb11⟩
  have H11 : Hid (Below w.heap.size w w11) := H10.out.2.2.2.2.trans (hb11.mono H10.out.2.2.2.2.size)
  clear hb11 H10
  go_wp2
  go_ret
  exact ⟨rfl, H11.out⟩

set_option maxHeartbeats 4000000 in
theorem checks_no (fr : FrontC) (a0 : Int) (a1 : Option Addr) (len1 cap1 : Nat) (z1 : List (List UInt8)) (w : World) (hb : -9223372036854775808 ≤ a0 ∧ a0 ≤ 9223372036854775807) (w1 : LReads w a1 len1 cap1 z1) (hlong : len1 ≤ 200) (hr : ¬ isRight a0 len1) (hK2 : Table 0 w) (hK : TabF w) :
    Calls Tryd.prog 3 #[.int .i64 a0, .slice a1 len1 cap1] w fun e w' => e = .returned (.bool true) ∧ Below w.heap.size w w' := by
  have hd : decide ((200 : Int) < (len1 : Int)) = false := by rw [decide_eq_false_iff_not]; omega
  obtain ⟨Z, HZ, HAZ, HSZ, H1Z, H32Z⟩ := noughts27
  have HBZ : Hid (Tryd.prog.built 29 [] = some Z) := by show _ = _; rw [HZ.out]; exact built0
  obtain ⟨D, HD, HSD, H1D, H32D⟩ := dig_row' (List.replicate 32 0) rfl
  have HZD : Hid (Z.size = D.size) := by show _ = _; rw [H32Z.out, H32D.out]
  have eD := eqSelf D (List.replicate 32 0) rfl HD
  have HW : Hid (LReads w a1 len1 cap1 z1) := w1
  have OW : Hid (Calls Tryd.prog 8 #[.slice a1 len1 cap1] w fun e w' => ∃ x cx, e = .returned (.slice x len1 cx) ∧ LReads w' x len1 cx z1 ∧ Below w.heap.size w w') := own_reads a1 len1 cap1 z1 w w1 (by omega)
  have T : Hid (∀ W, Below w.heap.size w W → Calls Tryd.prog 13 #[] W fun e w' => e = .returned (.bool true) ∧ Below W.heap.size W w') := fun W hb => three4_true fr W (hK.keep hb)
  have CK : Hid (∀ W, Calls Tryd.prog 9 #[.agg #[.int .i64 a0, .slice a1 len1 cap1]] W fun e w' => e = .returned (.int .i64 30) ∧ Below W.heap.size W w') := fun W => fr.check_no a0 a1 len1 cap1 W w1.2.2.2.1 hb hr
  have RT : Hid (∀ W, Below w.heap.size w W → Calls Tryd.prog 10 #[.agg #[.int .i64 a0, .slice a1 len1 cap1]] W fun e w' => e = .returned (.tuple #[.agg D, .int .i64 30]) ∧ Below W.heap.size W w') := fun W hbl => fr.frontRoot_no a0 a1 len1 cap1 W w1.2.2.2.1 hb hr D HD
  have RI : Hid (∀ W x cx, Calls Tryd.prog 11 #[.int .i64 a0, .slice x len1 cx] W fun e w' => e = .returned (.bool false) ∧ W = w') := fun W x cx => refRight_no a0 x len1 cx W w1.2.2.2.1 hb hr
  have DL : Hid (∀ W x cx, LReads W a1 len1 cap1 z1 → LReads W x len1 cx z1 → Calls Tryd.prog 14 #[.slice a1 len1 cap1, .slice x len1 cx] W fun e w' => e = .returned (.bool true) ∧ Below W.heap.size W w') := fun W x cx h1 h2 => same_digs a1 x len1 cap1 cx z1 W h1 h2
  have HDZ : Hid (Z = D) := by show _ = _; rw [HZ.out, HD.out]
  clear hK hK2 w1 hr HD HZ
  go_enter Tryd.func3, Tryd.ntmps3
  go_wp2_with fail
  refine OW.out.mono ?_
  rintro e w1 ⟨x, cx, rfl, hx, hb1⟩
  have hal : Below w1.heap.size w1 (w1.alloc (.cells #[.int .i64 a0, .slice a1 len1 cap1] 25)) := (Below.refl _ _).alloc (Nat.le_refl _) _
  have H1 : Hid (LReads (w1.alloc (.cells #[.int .i64 a0, .slice a1 len1 cap1] 25)) a1 len1 cap1 z1 ∧ LReads (w1.alloc (.cells #[.int .i64 a0, .slice a1 len1 cap1] 25)) x len1 cx z1 ∧ (w1.alloc (.cells #[.int .i64 a0, .slice a1 len1 cap1] 25)).rangeAt w1.heap.size 0 [.int .i64 a0, .slice a1 len1 cap1] ∧ Below w.heap.size w (w1.alloc (.cells #[.int .i64 a0, .slice a1 len1 cap1] 25))) :=
    ⟨(HW.out.keep hb1).keep hal, hx.keep hal, range_row (heap_alloc_new w1 _), hb1.trans (hal.mono hb1.size)⟩
  clear hx hb1 hal OW
  go_wp2_with fail
  generalize w1.alloc (.cells #[.int .i64 a0, .slice a1 len1 cap1] 25) = w2 at H1 ⊢
  generalize w1.heap.size = gf at H1 ⊢
  refine (CK.out _).mono ?_
  rintro e w3 ⟨rfl, hb3⟩
  have H3 := hidk (keepC H1.out hb3)
  clear H1 hb3 CK
  go_wp2_with (first
    | (refine wpList_load_mid rfl 25 (.tmp 6) rfl gf 0 rfl [.int .i64 a0, .slice a1 len1 cap1] _ H3.out.2.2.1 Tryd.underlying25 rfl sizeF ?_; try simp only [Act.put, List.setIfInBounds_toArray, List.set_cons_zero, List.set_cons_succ])
    | fail)
  refine (RT.out _ H3.out.2.2.2).mono ?_
  rintro e w4 ⟨rfl, hb4⟩
  have H4 := hidk (keepC H3.out hb4)
  clear H3 hb4 RT
  go_wp2_with (first
    | (refine wpList_new_row rfl rfl 29 rfl (.tmp 8) (.tmp 25) rfl Z D HAZ.out (fun _ => rfl) (fun _ => rfl) HSD.out HZD.out H1D.out ?_; intro gd w5 F5; try simp only [Act.put, List.setIfInBounds_toArray, List.set_cons_zero, List.set_cons_succ])
    | fail)
  have H5 : Hid (w5.heap[gd]? = some (.cells D 29 (0, 0)) ∧ LReads w5 a1 len1 cap1 z1 ∧ LReads w5 x len1 cx z1 ∧ Below w.heap.size w w5) := ⟨F5.out.2.1, H4.out.1.keep F5.out.2.2, H4.out.2.1.keep F5.out.2.2, H4.out.2.2.2.trans (F5.out.2.2.mono H4.out.2.2.2.size)⟩
  clear F5 H4
  refine (RI.out _ _ _).mono ?_
  rintro e w6 ⟨rfl, rfl⟩
  clear RI
  go_wp2_with (first
    | (refine wpList_build_none rfl 29 rfl Z HBZ.out ?_; try simp only [Act.put, List.setIfInBounds_toArray, List.set_cons_zero, List.set_cons_succ])
    | (refine wpList_new_row rfl rfl 29 rfl (.tmp 11) (.tmp 30) rfl Z Z HAZ.out (fun _ => rfl) (fun _ => rfl) HSZ.out rfl H1Z.out ?_; intro gw w7 F7; try simp only [Act.put, List.setIfInBounds_toArray, List.set_cons_zero, List.set_cons_succ])
    | fail)
  have H7 : Hid (w7.heap[gd]? = some (.cells D 29 (0, 0)) ∧ w7.heap[gw]? = some (.cells Z 29 (0, 0)) ∧ gd ≠ gw ∧ w.heap.size ≤ gw ∧ LReads w7 a1 len1 cap1 z1 ∧ LReads w7 x len1 cx z1 ∧ Below w.heap.size w w7 ∧ (∀ g o, a1 = some ⟨g, o, none⟩ → 0 < len1 → g ≠ gw) ∧ (∀ g o, x = some ⟨g, o, none⟩ → 0 < len1 → g ≠ gw)) := by
    have hgw := F7.out.1
    refine ⟨(F7.out.2.2.block _ (heap_lt H5.out.1)).trans H5.out.1, F7.out.2.1, ?_, ?_, H5.out.2.1.keep F7.out.2.2, H5.out.2.2.1.keep F7.out.2.2, H5.out.2.2.2.trans (F7.out.2.2.mono H5.out.2.2.2.size), fun g o e h0 => ?_, fun g o e h0 => ?_⟩
    · rw [hgw]; exact Nat.ne_of_lt (heap_lt H5.out.1)
    · rw [hgw]; exact H5.out.2.2.2.size
    · obtain ⟨g', o', e', hg⟩ := H5.out.2.1.at h0
      rw [e] at e'; cases e'
      rw [hgw]; exact Nat.ne_of_lt hg
    · obtain ⟨g', o', e', hg⟩ := H5.out.2.2.1.at h0
      rw [e] at e'; cases e'
      rw [hgw]; exact Nat.ne_of_lt hg
  clear F7 H5
  have H9 : Hid (w7.heap[gd]? = some (.cells D 29 (0, 0)) ∧ w7.heap[gw]? = some (.cells D 29 (0, 0)) ∧ LReads w7 a1 len1 cap1 z1 ∧ LReads w7 x len1 cx z1 ∧ Below w.heap.size w w7) := ⟨H7.out.1, by rw [← HDZ.out]; exact H7.out.2.1, H7.out.2.2.2.2.1, H7.out.2.2.2.2.2.1, H7.out.2.2.2.2.2.2.1⟩
  clear H7
  refine (T.out _ H9.out.2.2.2.2).mono ?_
  rintro e w10 ⟨rfl, hb10⟩
  have H10 : Hid (w10.heap[gd]? = some (.cells D 29 (0, 0)) ∧ w10.heap[gw]? = some (.cells D 29 (0, 0)) ∧ LReads w10 a1 len1 cap1 z1 ∧ LReads w10 x len1 cx z1 ∧ Below w.heap.size w w10) := ⟨(hb10.block _ (heap_lt H9.out.1)).trans H9.out.1, (hb10.block _ (heap_lt H9.out.2.1)).trans H9.out.2.1, H9.out.2.2.1.keep hb10, H9.out.2.2.2.1.keep hb10, H9.out.2.2.2.2.trans (hb10.mono H9.out.2.2.2.2.size)⟩
  clear H9 hb10 T
  have eD10 := eD w10
  go_wp2_with (first
    | (refine wpList_load_row_w (by rfl) 29 (.tmp 8) rfl gd rfl 29 D (0, 0) _ H10.out.1 Tryd.underlying29 rfl HSD.out ?_; try simp only [Act.put, List.setIfInBounds_toArray, List.set_cons_zero, List.set_cons_succ])
    | (refine wpList_load_row_w (by rfl) 29 (.tmp 11) rfl gw rfl 29 D (0, 0) _ H10.out.2.1 Tryd.underlying29 rfl HSD.out ?_; try simp only [Act.put, List.setIfInBounds_toArray, List.set_cons_zero, List.set_cons_succ])
    | fail)
  refine (DL.out _ _ _ H10.out.2.2.1 H10.out.2.2.2.1).mono ?_
  rintro e w11 ⟨rfl, hb11⟩
  have H11 : Hid (Below w.heap.size w w11) := H10.out.2.2.2.2.trans (hb11.mono H10.out.2.2.2.2.size)
  clear hb11 H10
  go_wp2
  go_ret
  exact ⟨rfl, H11.out⟩

theorem frontChecks_of (fr : FrontC) (a0 : Int) (a1 : Option Addr) (len1 cap1 : Nat) (z1 : List (List UInt8)) (w : World) (w0 : (Lit.int .i64 a0).wf = true) (w1 : LReads w a1 len1 cap1 z1) (hK2 : Table 0 w) (hK : TabF w) :
    Calls Tryd.prog 3 #[.int .i64 a0, .slice a1 len1 cap1] w fun e w' => e = .returned (.bool true) ∧ Below w.heap.size w w' := by
  have hb := bounds_i64 w0
  have hmx : len1 ≤ 9223372036854775807 := by have := w1.2.2.2.1; unfold maxLen at this; omega
  by_cases hlong : 200 < len1
  · have hd : decide ((200 : Int) < (len1 : Int)) = true := by rw [decide_eq_true_eq]; omega
    go_enter Tryd.func3, Tryd.ntmps3
    go_wp2
    go_ret
    exact ⟨rfl, Below.refl _ _⟩
  · by_cases hr : isRight a0 len1
    · exact checks_ok fr a0 a1 len1 cap1 z1 w ⟨by omega, by omega⟩ w1 (by omega) hr hK2 hK
    · exact checks_no fr a0 a1 len1 cap1 z1 w ⟨by omega, by omega⟩ w1 (by omega) hr hK2 hK
end Go.Proofs.YtmpmhfagbcknnaaDoor
