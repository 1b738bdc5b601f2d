/- CheckBinds over what the calls of check answer. -/
import Derived.Test.YtehfoeedlchphaaDoorThree5
import Derived.OpenShut
namespace Go.Proofs.YtehfoeedlchphaaDoor
open Go.RowKit Sums
set_option linter.unusedVariables false
set_option linter.unusedSimpArgs false

set_option maxHeartbeats 8000000 in
theorem checkBinds_of (ck : CheckC) (z0 : List UInt8) (a1 a2 : Int) (z3 : List UInt8) (a4 : Option Addr) (len4 cap4 : Nat) (z4 : List (List UInt8)) (z5 : List UInt8) (a6 : Option Addr) (len6 cap6 : Nat) (z6 : List (List UInt8)) (w : World) (w0 : z0.length = 32) (w1 : (Lit.int .i64 a1).wf = true) (w2 : (Lit.int .i64 a2).wf = true) (w3 : z3.length = 32) (w4 : LReads w a4 len4 cap4 z4) (w5 : z5.length = 32) (w6 : LReads w a6 len6 cap6 z6) (hK : TabC w) :
    Calls Tryd.prog 7 #[digV z0, .int .i64 a1, .int .i64 a2, digV z3, .slice a4 len4 cap4, digV z5, .slice a6 len6 cap6] w fun e w' => e = .returned (.bool true) ∧ Below w.heap.size w w' := by
  have hb1 := bounds_i64 w1
  have hb2 := bounds_i64 w2
  obtain ⟨R, HR⟩ : ∃ R, Hid (R = (cellsOf z0).toArray) := ⟨_, (rfl : _ = _)⟩
  obtain ⟨X, HX⟩ : ∃ X, Hid (X = (cellsOf z3).toArray) := ⟨_, (rfl : _ = _)⟩
  obtain ⟨Y, HY⟩ : ∃ Y, Hid (Y = (cellsOf z5).toArray) := ⟨_, (rfl : _ = _)⟩
  have HSR : Hid ((Tryd.prog.info? 23).map (·.size) = some R.size) := by show _ = _; rw [size23, HR.out]; simp [cellsOf_length, w0]
  have HSX : Hid ((Tryd.prog.info? 23).map (·.size) = some X.size) := by show _ = _; rw [size23, HX.out]; simp [cellsOf_length, w3]
  have HSY : Hid ((Tryd.prog.info? 23).map (·.size) = some Y.size) := by show _ = _; rw [size23, HY.out]; simp [cellsOf_length, w5]
  have hlx : len4 ≤ 9223372036854775807 := by have := w4.2.2.2.1; unfold maxLen at this; omega
  have hly : len6 ≤ 9223372036854775807 := by have := w6.2.2.2.1; unfold maxLen at this; omega
  unfold digV
  rw [← HR.out, ← HX.out, ← HY.out]
  have HB := hidk (cameR w R X Y)
  by_cases h4 : 200 < len4
  · have d4 : decide (200 < (len4 : Int)) = true := by rw [decide_eq_true_eq]; omega
    clear hK w4 w6 HR HX HY ck
    go_enter Tryd.func7, Tryd.ntmps7
    go_wp2
    go_ret
    exact ⟨rfl, HB.out.1⟩
  have d4 : decide (200 < (len4 : Int)) = false := by rw [decide_eq_false_iff_not]; omega
  by_cases h6 : 200 < len6
  · have d6 : decide (200 < (len6 : Int)) = true := by rw [decide_eq_true_eq]; omega
    clear hK w4 w6 HR HX HY ck
    go_enter Tryd.func7, Tryd.ntmps7
    go_wp2
    go_ret
    exact ⟨rfl, HB.out.1⟩
  have d6 : decide (200 < (len6 : Int)) = false := by rw [decide_eq_false_iff_not]; omega
  obtain ⟨E1, HE1⟩ : ∃ E, Hid (E = incE z0 a1 a2 z3 z4) := ⟨_, (rfl : _ = _)⟩
  obtain ⟨E2, HE2⟩ : ∃ E, Hid (E = incE z0 a1 a2 z5 z6) := ⟨_, (rfl : _ = _)⟩
  have CC : Hid (∀ W, Below w.heap.size w W → Calls Tryd.prog 16 #[.agg R, .int .i64 a1, .int .i64 a2, .agg X, .slice a4 len4 cap4, .agg Y, .slice a6 len6 cap6] W fun e w' => e = .returned (claV (claE z0 a1 a2 z3 z4 z5 z6)) ∧ Below W.heap.size W w') := fun W hb => ck.clash z0 a1 a2 z3 z4 z5 z6 a4 a6 len4 cap4 len6 cap6 W R X Y HR HX HY w0 w3 w5 hb1 hb2 (w4.keep hb) (w6.keep hb) (hK.keep hb)
  have I1 : Hid (∀ W, Below w.heap.size w W → Calls Tryd.prog 10 #[.agg R, .int .i64 a1, .int .i64 a2, .agg X, .slice a4 len4 cap4] W fun e w' => e = .returned (.int .i64 E1) ∧ Below W.heap.size W w') := fun W hb => by
    rw [HE1.out]; exact ck.included z0 a1 a2 z3 z4 a4 len4 cap4 W R X HR HX w0 w3 hb1 hb2 (w4.keep hb) (hK.keep hb)
  have I2 : Hid (∀ W, Below w.heap.size w W → Calls Tryd.prog 10 #[.agg R, .int .i64 a1, .int .i64 a2, .agg Y, .slice a6 len6 cap6] W fun e w' => e = .returned (.int .i64 E2) ∧ Below W.heap.size W w') := fun W hb => by
    rw [HE2.out]; exact ck.included z0 a1 a2 z5 z6 a6 len6 cap6 W R Y HR HY w0 w5 hb1 hb2 (w6.keep hb) (hK.keep hb)
  have TH : Hid (∀ W, Below w.heap.size w W → Calls Tryd.prog 11 #[] W fun e w' => e = .returned (.bool true) ∧ Below W.heap.size W w') := fun W hb => three5_true ck W (hK.keep hb)
  have NE := fun v hv W => neqDigV z3 z5 w3 w5 X Y HX HY v hv W
  have hE1 : E1 = 0 ∨ E1 = 40 ∨ E1 = 41 := by rw [HE1.out]; exact incE_vals _ _ _ _ _
  have hE2 : E2 = 0 ∨ E2 = 40 ∨ E2 = 41 := by rw [HE2.out]; exact incE_vals _ _ _ _ _
  have NO : claE z0 a1 a2 z3 z4 z5 z6 = none → Hid (∀ W, Below w.heap.size w W → Calls Tryd.prog 16 #[.agg R, .int .i64 a1, .int .i64 a2, .agg X, .slice a4 len4 cap4, .agg Y, .slice a6 len6 cap6] W fun e w' => e = .returned (.tuple #[.string ⟨#[]⟩, .string ⟨#[]⟩, .bool false]) ∧ Below W.heap.size W w') := fun h => by
    rw [h] at CC; exact CC
  by_cases c1 : ¬ E1 = 0
  · have CK := NO (by unfold claE; rw [if_neg]; intro h; rw [HE1.out] at c1; exact c1 h.1)
    clear NO CC NE HE1 HE2 hE2 I2 HR HX HY w0 w3 w4 w5 w6 hK ck h4 h6
    rcases hE1 with rfl | rfl | rfl
    · exact absurd rfl c1
    all_goals
      clear c1
      go_enter Tryd.func7, Tryd.ntmps7
      go_wp2_with (first
        | (show wpList _ _ _ ({ dst := some 28, op := _, type := _, pos := _, after := _, guard := _ } :: _) _ _; refine wpList_load_row rfl 23 (.tmp 7) rfl _ rfl 23 R (0, 0) _ HB.out.2.1 Tryd.underlying23 rfl HSR.out ?_; try simp only [Act.put, List.setIfInBounds_toArray, List.set_cons_zero, List.set_cons_succ])
        | (show wpList _ _ _ ({ dst := some 31, op := _, type := _, pos := _, after := _, guard := _ } :: _) _ _; refine wpList_load_row rfl 23 (.tmp 10) rfl _ rfl 23 X (0, 0) _ HB.out.2.2.1 Tryd.underlying23 rfl HSX.out ?_; try simp only [Act.put, List.setIfInBounds_toArray, List.set_cons_zero, List.set_cons_succ])
        | (show wpList _ _ _ ({ dst := some 33, op := _, type := _, pos := _, after := _, guard := _ } :: _) _ _; refine wpList_load_row rfl 23 (.tmp 12) rfl _ rfl 23 Y (0, 0) _ HB.out.2.2.2 Tryd.underlying23 rfl HSY.out ?_; try simp only [Act.put, List.setIfInBounds_toArray, List.set_cons_zero, List.set_cons_succ])
        | fail)
      refine (CK.out _ HB.out.1).mono ?_
      rintro e w1 ⟨rfl, hb1⟩
      have H1 := hidk (HB.out.keep hb1)
      clear hb1 HB CK
      go_wp2_with (first
        | (show wpList _ _ _ ({ dst := some 39, op := _, type := _, pos := _, after := _, guard := _ } :: _) _ _; refine wpList_load_row rfl 23 (.tmp 7) rfl w.heap.size rfl 23 R (0, 0) _ H1.out.2.1 Tryd.underlying23 rfl HSR.out ?_; try simp only [Act.put, List.setIfInBounds_toArray, List.set_cons_zero, List.set_cons_succ])
        | (show wpList _ _ _ ({ dst := some 42, op := _, type := _, pos := _, after := _, guard := _ } :: _) _ _; refine wpList_load_row rfl 23 (.tmp 10) rfl (w.heap.size + 1) rfl 23 X (0, 0) _ H1.out.2.2.1 Tryd.underlying23 rfl HSX.out ?_; try simp only [Act.put, List.setIfInBounds_toArray, List.set_cons_zero, List.set_cons_succ])
        | fail)
      refine (I1.out _ H1.out.1).mono ?_
      rintro e w2 ⟨rfl, hb2⟩
      have H2 := hidk (H1.out.keep hb2)
      clear hb2 H1 I1
      go_wp2_with fail
      refine (TH.out _ H2.out.1).mono ?_
      rintro e w4 ⟨rfl, hb4⟩
      have H4 := hidk (H2.out.keep hb4)
      clear hb4 H2 TH
      go_wp2
      go_ret
      exact ⟨rfl, H4.out.1⟩
  obtain rfl : E1 = 0 := by omega
  clear c1 hE1
  by_cases c2 : ¬ E2 = 0
  · have CK := NO (by unfold claE; rw [if_neg]; intro h; rw [HE2.out] at c2; exact c2 h.2.1)
    clear NO CC NE HE1 HE2 HR HX HY w0 w3 w4 w5 w6 hK ck h4 h6
    rcases hE2 with rfl | rfl | rfl
    · exact absurd rfl c2
    all_goals
      clear c2
      go_enter Tryd.func7, Tryd.ntmps7
      go_wp2_with (first
        | (show wpList _ _ _ ({ dst := some 28, op := _, type := _, pos := _, after := _, guard := _ } :: _) _ _; refine wpList_load_row rfl 23 (.tmp 7) rfl _ rfl 23 R (0, 0) _ HB.out.2.1 Tryd.underlying23 rfl HSR.out ?_; try simp only [Act.put, List.setIfInBounds_toArray, List.set_cons_zero, List.set_cons_succ])
        | (show wpList _ _ _ ({ dst := some 31, op := _, type := _, pos := _, after := _, guard := _ } :: _) _ _; refine wpList_load_row rfl 23 (.tmp 10) rfl _ rfl 23 X (0, 0) _ HB.out.2.2.1 Tryd.underlying23 rfl HSX.out ?_; try simp only [Act.put, List.setIfInBounds_toArray, List.set_cons_zero, List.set_cons_succ])
        | (show wpList _ _ _ ({ dst := some 33, op := _, type := _, pos := _, after := _, guard := _ } :: _) _ _; refine wpList_load_row rfl 23 (.tmp 12) rfl _ rfl 23 Y (0, 0) _ HB.out.2.2.2 Tryd.underlying23 rfl HSY.out ?_; try simp only [Act.put, List.setIfInBounds_toArray, List.set_cons_zero, List.set_cons_succ])
        | fail)
      refine (CK.out _ HB.out.1).mono ?_
      rintro e w1 ⟨rfl, hb1⟩
      have H1 := hidk (HB.out.keep hb1)
      clear hb1 HB CK
      go_wp2_with (first
        | (show wpList _ _ _ ({ dst := some 39, op := _, type := _, pos := _, after := _, guard := _ } :: _) _ _; refine wpList_load_row rfl 23 (.tmp 7) rfl w.heap.size rfl 23 R (0, 0) _ H1.out.2.1 Tryd.underlying23 rfl HSR.out ?_; try simp only [Act.put, List.setIfInBounds_toArray, List.set_cons_zero, List.set_cons_succ])
        | (show wpList _ _ _ ({ dst := some 42, op := _, type := _, pos := _, after := _, guard := _ } :: _) _ _; refine wpList_load_row rfl 23 (.tmp 10) rfl (w.heap.size + 1) rfl 23 X (0, 0) _ H1.out.2.2.1 Tryd.underlying23 rfl HSX.out ?_; try simp only [Act.put, List.setIfInBounds_toArray, List.set_cons_zero, List.set_cons_succ])
        | fail)
      refine (I1.out _ H1.out.1).mono ?_
      rintro e w2 ⟨rfl, hb2⟩
      have H2 := hidk (H1.out.keep hb2)
      clear hb2 H1 I1
      go_wp2_with (first
        | (show wpList _ _ _ ({ dst := some 47, op := _, type := _, pos := _, after := _, guard := _ } :: _) _ _; refine wpList_load_row_w (by rfl) 23 (.tmp 7) rfl w.heap.size rfl 23 R (0, 0) _ H2.out.2.1 Tryd.underlying23 rfl HSR.out ?_; try simp only [Act.put, List.setIfInBounds_toArray, List.set_cons_zero, List.set_cons_succ])
        | (show wpList _ _ _ ({ dst := some 50, op := _, type := _, pos := _, after := _, guard := _ } :: _) _ _; refine wpList_load_row_w (by rfl) 23 (.tmp 12) rfl (w.heap.size + 2) rfl 23 Y (0, 0) _ H2.out.2.2.2 Tryd.underlying23 rfl HSY.out ?_; try simp only [Act.put, List.setIfInBounds_toArray, List.set_cons_zero, List.set_cons_succ])
        | fail)
      refine (I2.out _ H2.out.1).mono ?_
      rintro e w3 ⟨rfl, hb3⟩
      have H3 := hidk (H2.out.keep hb3)
      clear hb3 H2 I2
      go_wp2_with fail
      refine (TH.out _ H3.out.1).mono ?_
      rintro e w4 ⟨rfl, hb4⟩
      have H4 := hidk (H3.out.keep hb4)
      clear hb4 H3 TH
      go_wp2
      go_ret
      exact ⟨rfl, H4.out.1⟩
  obtain rfl : E2 = 0 := by omega
  clear c2 hE2
  by_cases c3 : z3 = z5
  · have CK := NO (by unfold claE; rw [if_neg]; intro h; exact h.2.2 c3)
    have ne := fun W => NE false (by simp [c3]) W
    clear NO CC NE HE1 HE2 HR HX HY w0 w3 w4 w5 w6 hK ck h4 h6 c3
    go_enter Tryd.func7, Tryd.ntmps7
    go_wp2_with (first
      | (show wpList _ _ _ ({ dst := some 28, op := _, type := _, pos := _, after := _, guard := _ } :: _) _ _; refine wpList_load_row rfl 23 (.tmp 7) rfl _ rfl 23 R (0, 0) _ HB.out.2.1 Tryd.underlying23 rfl HSR.out ?_; try simp only [Act.put, List.setIfInBounds_toArray, List.set_cons_zero, List.set_cons_succ])
      | (show wpList _ _ _ ({ dst := some 31, op := _, type := _, pos := _, after := _, guard := _ } :: _) _ _; refine wpList_load_row rfl 23 (.tmp 10) rfl _ rfl 23 X (0, 0) _ HB.out.2.2.1 Tryd.underlying23 rfl HSX.out ?_; try simp only [Act.put, List.setIfInBounds_toArray, List.set_cons_zero, List.set_cons_succ])
      | (show wpList _ _ _ ({ dst := some 33, op := _, type := _, pos := _, after := _, guard := _ } :: _) _ _; refine wpList_load_row rfl 23 (.tmp 12) rfl _ rfl 23 Y (0, 0) _ HB.out.2.2.2 Tryd.underlying23 rfl HSY.out ?_; try simp only [Act.put, List.setIfInBounds_toArray, List.set_cons_zero, List.set_cons_succ])
      | fail)
    refine (CK.out _ HB.out.1).mono ?_
    rintro e w1 ⟨rfl, hb1⟩
    have H1 := hidk (HB.out.keep hb1)
    clear hb1 HB CK
    go_wp2_with (first
      | (show wpList _ _ _ ({ dst := some 39, op := _, type := _, pos := _, after := _, guard := _ } :: _) _ _; refine wpList_load_row rfl 23 (.tmp 7) rfl w.heap.size rfl 23 R (0, 0) _ H1.out.2.1 Tryd.underlying23 rfl HSR.out ?_; try simp only [Act.put, List.setIfInBounds_toArray, List.set_cons_zero, List.set_cons_succ])
      | (show wpList _ _ _ ({ dst := some 42, op := _, type := _, pos := _, after := _, guard := _ } :: _) _ _; refine wpList_load_row rfl 23 (.tmp 10) rfl (w.heap.size + 1) rfl 23 X (0, 0) _ H1.out.2.2.1 Tryd.underlying23 rfl HSX.out ?_; try simp only [Act.put, List.setIfInBounds_toArray, List.set_cons_zero, List.set_cons_succ])
      | fail)
    refine (I1.out _ H1.out.1).mono ?_
    rintro e w2 ⟨rfl, hb2⟩
    have H2 := hidk (H1.out.keep hb2)
    clear hb2 H1 I1
    go_wp2_with (first
      | (show wpList _ _ _ ({ dst := some 47, op := _, type := _, pos := _, after := _, guard := _ } :: _) _ _; refine wpList_load_row_w (by rfl) 23 (.tmp 7) rfl w.heap.size rfl 23 R (0, 0) _ H2.out.2.1 Tryd.underlying23 rfl HSR.out ?_; try simp only [Act.put, List.setIfInBounds_toArray, List.set_cons_zero, List.set_cons_succ])
      | (show wpList _ _ _ ({ dst := some 50, op := _, type := _, pos := _, after := _, guard := _ } :: _) _ _; refine wpList_load_row_w (by rfl) 23 (.tmp 12) rfl (w.heap.size + 2) rfl 23 Y (0, 0) _ H2.out.2.2.2 Tryd.underlying23 rfl HSY.out ?_; try simp only [Act.put, List.setIfInBounds_toArray, List.set_cons_zero, List.set_cons_succ])
      | fail)
    refine (I2.out _ H2.out.1).mono ?_
    rintro e w3 ⟨rfl, hb3⟩
    have H3 := hidk (H2.out.keep hb3)
    clear hb3 H2 I2
    go_wp2_with (first
      | (show wpList _ _ _ ({ dst := some 56, op := _, type := _, pos := _, after := _, guard := _ } :: _) _ _; refine wpList_load_row_w (by rfl) 23 (.tmp 10) rfl (w.heap.size + 1) rfl 23 X (0, 0) _ H3.out.2.2.1 Tryd.underlying23 rfl HSX.out ?_; try simp only [Act.put, List.setIfInBounds_toArray, List.set_cons_zero, List.set_cons_succ])
      | (show wpList _ _ _ ({ dst := some 57, op := _, type := _, pos := _, after := _, guard := _ } :: _) _ _; refine wpList_load_row_w (by rfl) 23 (.tmp 12) rfl (w.heap.size + 2) rfl 23 Y (0, 0) _ H3.out.2.2.2 Tryd.underlying23 rfl HSY.out ?_; try simp only [Act.put, List.setIfInBounds_toArray, List.set_cons_zero, List.set_cons_succ])
      | fail)
    refine (TH.out _ H3.out.1).mono ?_
    rintro e w4 ⟨rfl, hb4⟩
    have H4 := hidk (H3.out.keep hb4)
    clear hb4 H3 TH
    go_wp2
    go_ret
    exact ⟨rfl, H4.out.1⟩
  · have ne := fun W => NE true (by simp [c3]) W
    have o1 := incE_ok HE1.out.symm
    have o2 := incE_ok HE2.out.symm
    have hc : claE z0 a1 a2 z3 z4 z5 z6 = clashR z4.reverse z6.reverse a1.toNat a2.toNat z3 z5 := by unfold claE; rw [if_pos ⟨HE1.out.symm, HE2.out.symm, c3⟩]
    have dp : Digs32 z4.reverse := fun z hz => w4.2.1 z (List.mem_reverse.1 hz)
    have dq : Digs32 z6.reverse := fun z hz => w6.2.1 z (List.mem_reverse.1 hz)
    obtain ⟨x, y, hxy, hne, hsum, hlx5, hly5⟩ := clashR_binds sumD_length z4.reverse z6.reverse a1.toNat a2.toNat z3 z5 z0 (by omega) (by omega) w3 w5 c3 o1.2.2.2.2 o2.2.2.2.2 dp dq
    rw [hc, hxy] at CC
    obtain ⟨s, Hs⟩ : ∃ s : ByteArray, Hid (s = ⟨x.toArray⟩) := ⟨_, (rfl : _ = _)⟩
    obtain ⟨t, Ht⟩ : ∃ t : ByteArray, Hid (t = ⟨y.toArray⟩) := ⟨_, (rfl : _ = _)⟩
    have CK : Hid (∀ W, Below w.heap.size w W → Calls Tryd.prog 16 #[.agg R, .int .i64 a1, .int .i64 a2, .agg X, .slice a4 len4 cap4, .agg Y, .slice a6 len6 cap6] W fun e w' => e = .returned (.tuple #[.string s, .string t, .bool true]) ∧ Below W.heap.size W w') := by rw [Hs.out, Ht.out]; exact CC
    have hst : (s.toList == t.toList) = false := text_ne (by rw [Hs.out, Ht.out]; exact fun e => hne (text_inj.1 e))
    have ss : s.size = 65 := by rw [Hs.out]; exact hlx5
    have st : t.size = 65 := by rw [Ht.out]; exact hly5
    obtain ⟨D, HD⟩ : ∃ D, Hid (D = (cellsOf (sumD x)).toArray) := ⟨_, (rfl : _ = _)⟩
    have O1 : Hid (∀ W, Below w.heap.size w W → Calls Tryd.prog 21 #[.slice (some ⟨W.heap.size, 0, none⟩) 1 1] (W.alloc (.cells #[.string s] 9)) fun e w' => e = .returned (.agg D) ∧ Below W.heap.size W w') := fun W hb =>
      of_new [s] 9 W (by show s.size + 0 ≤ 1000000; omega) (by show 1 ≤ _; decide) (hK.keep hb).sha D (by show _ = _; rw [HD.out, Hs.out]; simp [joinL]) 1 1 _ rfl rfl _ rfl
    have O2 : Hid (∀ W, Below w.heap.size w W → Calls Tryd.prog 21 #[.slice (some ⟨W.heap.size, 0, none⟩) 1 1] (W.alloc (.cells #[.string t] 9)) fun e w' => e = .returned (.agg D) ∧ Below W.heap.size W w') := fun W hb =>
      of_new [t] 9 W (by show t.size + 0 ≤ 1000000; omega) (by show 1 ≤ _; decide) (hK.keep hb).sha D (by show _ = _; rw [HD.out, hsum, Ht.out]; simp [joinL]) 1 1 _ rfl rfl _ rfl
    have eqd := eqSelf D (sumD x) (sumD_length _) HD
    clear NO CC NE HE1 HE2 HR HX HY w0 w3 w4 w5 w6 hK ck h4 h6 c3 o1 o2 hc dp dq hxy hne hsum hlx5 hly5 Hs Ht HD ss st
    go_enter Tryd.func7, Tryd.ntmps7
    go_wp2_with (first
      | (show wpList _ _ _ ({ dst := some 28, op := _, type := _, pos := _, after := _, guard := _ } :: _) _ _; refine wpList_load_row rfl 23 (.tmp 7) rfl _ rfl 23 R (0, 0) _ HB.out.2.1 Tryd.underlying23 rfl HSR.out ?_; try simp only [Act.put, List.setIfInBounds_toArray, List.set_cons_zero, List.set_cons_succ])
      | (show wpList _ _ _ ({ dst := some 31, op := _, type := _, pos := _, after := _, guard := _ } :: _) _ _; refine wpList_load_row rfl 23 (.tmp 10) rfl _ rfl 23 X (0, 0) _ HB.out.2.2.1 Tryd.underlying23 rfl HSX.out ?_; try simp only [Act.put, List.setIfInBounds_toArray, List.set_cons_zero, List.set_cons_succ])
      | (show wpList _ _ _ ({ dst := some 33, op := _, type := _, pos := _, after := _, guard := _ } :: _) _ _; refine wpList_load_row rfl 23 (.tmp 12) rfl _ rfl 23 Y (0, 0) _ HB.out.2.2.2 Tryd.underlying23 rfl HSY.out ?_; try simp only [Act.put, List.setIfInBounds_toArray, List.set_cons_zero, List.set_cons_succ])
      | fail)
    refine (CK.out _ HB.out.1).mono ?_
    rintro e w1 ⟨rfl, hb1⟩
    have H1 := hidk (HB.out.keep hb1)
    clear hb1 HB CK
    go_wp2_with (first
      | (show wpList _ _ _ ({ dst := some 39, op := _, type := _, pos := _, after := _, guard := _ } :: _) _ _; refine wpList_load_row rfl 23 (.tmp 7) rfl w.heap.size rfl 23 R (0, 0) _ H1.out.2.1 Tryd.underlying23 rfl HSR.out ?_; try simp only [Act.put, List.setIfInBounds_toArray, List.set_cons_zero, List.set_cons_succ])
      | (show wpList _ _ _ ({ dst := some 42, op := _, type := _, pos := _, after := _, guard := _ } :: _) _ _; refine wpList_load_row rfl 23 (.tmp 10) rfl (w.heap.size + 1) rfl 23 X (0, 0) _ H1.out.2.2.1 Tryd.underlying23 rfl HSX.out ?_; try simp only [Act.put, List.setIfInBounds_toArray, List.set_cons_zero, List.set_cons_succ])
      | fail)
    refine (I1.out _ H1.out.1).mono ?_
    rintro e w2 ⟨rfl, hb2⟩
    have H2 := hidk (H1.out.keep hb2)
    clear hb2 H1 I1
    go_wp2_with (first
      | (show wpList _ _ _ ({ dst := some 47, op := _, type := _, pos := _, after := _, guard := _ } :: _) _ _; refine wpList_load_row_w (by rfl) 23 (.tmp 7) rfl w.heap.size rfl 23 R (0, 0) _ H2.out.2.1 Tryd.underlying23 rfl HSR.out ?_; try simp only [Act.put, List.setIfInBounds_toArray, List.set_cons_zero, List.set_cons_succ])
      | (show wpList _ _ _ ({ dst := some 50, op := _, type := _, pos := _, after := _, guard := _ } :: _) _ _; refine wpList_load_row_w (by rfl) 23 (.tmp 12) rfl (w.heap.size + 2) rfl 23 Y (0, 0) _ H2.out.2.2.2 Tryd.underlying23 rfl HSY.out ?_; try simp only [Act.put, List.setIfInBounds_toArray, List.set_cons_zero, List.set_cons_succ])
      | fail)
    refine (I2.out _ H2.out.1).mono ?_
    rintro e w3 ⟨rfl, hb3⟩
    have H3 := hidk (H2.out.keep hb3)
    clear hb3 H2 I2
    go_wp2_with (first
      | (show wpList _ _ _ ({ dst := some 56, op := _, type := _, pos := _, after := _, guard := _ } :: _) _ _; refine wpList_load_row_w (by rfl) 23 (.tmp 10) rfl (w.heap.size + 1) rfl 23 X (0, 0) _ H3.out.2.2.1 Tryd.underlying23 rfl HSX.out ?_; try simp only [Act.put, List.setIfInBounds_toArray, List.set_cons_zero, List.set_cons_succ])
      | (show wpList _ _ _ ({ dst := some 57, op := _, type := _, pos := _, after := _, guard := _ } :: _) _ _; refine wpList_load_row_w (by rfl) 23 (.tmp 12) rfl (w.heap.size + 2) rfl 23 Y (0, 0) _ H3.out.2.2.2 Tryd.underlying23 rfl HSY.out ?_; try simp only [Act.put, List.setIfInBounds_toArray, List.set_cons_zero, List.set_cons_succ])
      | fail)
    refine (TH.out _ H3.out.1).mono ?_
    rintro e w4 ⟨rfl, hb4⟩
    have H4 := hidk (H3.out.keep hb4)
    clear hb4 H3 TH
    go_wp2_with fail
    refine (O1.out _ H4.out.1).mono ?_
    rintro e w5 ⟨rfl, hb5⟩
    have H5 := hidk (H4.out.keep hb5)
    clear hb5 H4 O1
    go_wp2_with fail
    refine (O2.out _ H5.out.1).mono ?_
    rintro e w6 ⟨rfl, hb6⟩
    have H6 := hidk (H5.out.keep hb6)
    clear hb6 H5 O2
    go_wp2
    go_ret
    exact ⟨rfl, H6.out.1⟩
end Go.Proofs.YtehfoeedlchphaaDoor
