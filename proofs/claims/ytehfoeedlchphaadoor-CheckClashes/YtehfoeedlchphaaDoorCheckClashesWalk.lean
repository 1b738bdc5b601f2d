/- CheckClashes over what the calls of check answer. -/
import Derived.Test.YtehfoeedlchphaaDoorThree5
import Derived.Test.YtehfoeedlchphaaDoorRefClash
import Derived.OpenShut
namespace Go.Proofs.YtehfoeedlchphaaDoor
open Go.RowKit Sums
set_option linter.unusedVariables false
set_option linter.unusedSimpArgs false

set_option maxHeartbeats 4000000 in
theorem checkClashes_of (ck : CheckC) (z0 : List UInt8) (a1 a2 : Int) (z3 : List UInt8) (a4 : Option Addr) (len4 cap4 : Nat) (z4 : List (List UInt8)) (z5 : List UInt8) (a6 : Option Addr) (len6 cap6 : Nat) (z6 : List (List UInt8)) (w : World) (w0 : z0.length = 32) (w1 : (Lit.int .i64 a1).wf = true) (w2 : (Lit.int .i64 a2).wf = true) (w3 : z3.length = 32) (w4 : LReads w a4 len4 cap4 z4) (w5 : z5.length = 32) (w6 : LReads w a6 len6 cap6 z6) (hK2 : Table 1 w) (hK : TabC w) :
    Calls Tryd.prog 5 #[digV z0, .int .i64 a1, .int .i64 a2, digV z3, .slice a4 len4 cap4, digV z5, .slice a6 len6 cap6] w fun e w' => e = .returned (.bool true) ∧ Below w.heap.size w w' := by
  have hb1 := bounds_i64 w1
  have hb2 := bounds_i64 w2
  obtain ⟨R, HR⟩ : ∃ R, Hid (R = (cellsOf z0).toArray) := ⟨_, (rfl : _ = _)⟩
  obtain ⟨X, HX⟩ : ∃ X, Hid (X = (cellsOf z3).toArray) := ⟨_, (rfl : _ = _)⟩
  obtain ⟨Y, HY⟩ : ∃ Y, Hid (Y = (cellsOf z5).toArray) := ⟨_, (rfl : _ = _)⟩
  have HSR : Hid ((Tryd.prog.info? 23).map (·.size) = some R.size) := by show _ = _; rw [size23, HR.out]; simp [cellsOf_length, w0]
  have HSX : Hid ((Tryd.prog.info? 23).map (·.size) = some X.size) := by show _ = _; rw [size23, HX.out]; simp [cellsOf_length, w3]
  have HSY : Hid ((Tryd.prog.info? 23).map (·.size) = some Y.size) := by show _ = _; rw [size23, HY.out]; simp [cellsOf_length, w5]
  have hlx : len4 ≤ 9223372036854775807 := by have := w4.2.2.2.1; unfold maxLen at this; omega
  have hly : len6 ≤ 9223372036854775807 := by have := w6.2.2.2.1; unfold maxLen at this; omega
  unfold digV
  rw [← HR.out, ← HX.out, ← HY.out]
  have HB := hidk (cameR w R X Y)
  by_cases h4 : 200 < len4
  · have d4 : decide (200 < (len4 : Int)) = true := by rw [decide_eq_true_eq]; omega
    clear hK hK2 w4 w6 HR HX HY ck
    go_enter Tryd.func5, Tryd.ntmps5
    go_wp2
    go_ret
    exact ⟨rfl, HB.out.1⟩
  have d4 : decide (200 < (len4 : Int)) = false := by rw [decide_eq_false_iff_not]; omega
  by_cases h6 : 200 < len6
  · have d6 : decide (200 < (len6 : Int)) = true := by rw [decide_eq_true_eq]; omega
    clear hK hK2 w4 w6 HR HX HY ck
    go_enter Tryd.func5, Tryd.ntmps5
    go_wp2
    go_ret
    exact ⟨rfl, HB.out.1⟩
  have d6 : decide (200 < (len6 : Int)) = false := by rw [decide_eq_false_iff_not]; omega
  have CK : Hid (∀ W, Below w.heap.size w W → Calls Tryd.prog 16 #[.agg R, .int .i64 a1, .int .i64 a2, .agg X, .slice a4 len4 cap4, .agg Y, .slice a6 len6 cap6] W fun e w' => e = .returned (claV (claE z0 a1 a2 z3 z4 z5 z6)) ∧ Below W.heap.size W w') := fun W hb => ck.clash z0 a1 a2 z3 z4 z5 z6 a4 a6 len4 cap4 len6 cap6 W R X Y HR HX HY w0 w3 w5 hb1 hb2 (w4.keep hb) (w6.keep hb) (hK.keep hb)
  have RF : Hid (∀ W, Below w.heap.size w W → Calls Tryd.prog 17 #[.agg R, .int .i64 a1, .int .i64 a2, .agg X, .slice a4 len4 cap4, .agg Y, .slice a6 len6 cap6] W fun e w' => e = .returned (claV (claE z0 a1 a2 z3 z4 z5 z6)) ∧ Below W.heap.size W w') := fun W hb => refClash_any z0 a1 a2 z3 z4 z5 z6 a4 a6 len4 cap4 len6 cap6 W R X Y HR HX HY w0 w3 w5 hb1 hb2 (w4.keep hb) (w6.keep hb) (hK2.keep hb)
  have TH : Hid (∀ W, Below w.heap.size w W → Calls Tryd.prog 11 #[] W fun e w' => e = .returned (.bool true) ∧ Below W.heap.size W w') := fun W hb => three5_true ck W (hK.keep hb)
  clear hK hK2 w4 w6 HR HX HY ck w0 w3 w5 h4 h6 hb1 hb2
  generalize claE z0 a1 a2 z3 z4 z5 z6 = o at CK RF
  cases o with
  | none =>
    have CK : Hid (∀ W, Below w.heap.size w W → Calls Tryd.prog 16 #[.agg R, .int .i64 a1, .int .i64 a2, .agg X, .slice a4 len4 cap4, .agg Y, .slice a6 len6 cap6] W fun e w' => e = .returned (.tuple #[.string ⟨#[]⟩, .string ⟨#[]⟩, .bool false]) ∧ Below W.heap.size W w') := CK
    have RF : Hid (∀ W, Below w.heap.size w W → Calls Tryd.prog 17 #[.agg R, .int .i64 a1, .int .i64 a2, .agg X, .slice a4 len4 cap4, .agg Y, .slice a6 len6 cap6] W fun e w' => e = .returned (.tuple #[.string ⟨#[]⟩, .string ⟨#[]⟩, .bool false]) ∧ Below W.heap.size W w') := RF
    go_enter Tryd.func5, Tryd.ntmps5
    go_wp2_with (first
      | (show wpList _ _ _ ({ dst := some 30, op := _, type := _, pos := _, after := _, guard := _ } :: _) _ _; refine wpList_load_row rfl 23 (.tmp 7) rfl _ rfl 23 R (0, 0) _ HB.out.2.1 Tryd.underlying23 rfl HSR.out ?_; try simp only [Act.put, List.setIfInBounds_toArray, List.set_cons_zero, List.set_cons_succ])
      | (show wpList _ _ _ ({ dst := some 33, op := _, type := _, pos := _, after := _, guard := _ } :: _) _ _; refine wpList_load_row rfl 23 (.tmp 10) rfl _ rfl 23 X (0, 0) _ HB.out.2.2.1 Tryd.underlying23 rfl HSX.out ?_; try simp only [Act.put, List.setIfInBounds_toArray, List.set_cons_zero, List.set_cons_succ])
      | (show wpList _ _ _ ({ dst := some 35, op := _, type := _, pos := _, after := _, guard := _ } :: _) _ _; refine wpList_load_row rfl 23 (.tmp 12) rfl _ rfl 23 Y (0, 0) _ HB.out.2.2.2 Tryd.underlying23 rfl HSY.out ?_; try simp only [Act.put, List.setIfInBounds_toArray, List.set_cons_zero, List.set_cons_succ])
      | fail)
    refine (CK.out _ HB.out.1).mono ?_
    rintro e w1 ⟨rfl, hb1⟩
    have H1 := hidk (HB.out.keep hb1)
    clear hb1 HB CK
    go_wp2_with (first
      | (show wpList _ _ _ ({ dst := some 42, op := _, type := _, pos := _, after := _, guard := _ } :: _) _ _; refine wpList_load_row rfl 23 (.tmp 7) rfl w.heap.size rfl 23 R (0, 0) _ H1.out.2.1 Tryd.underlying23 rfl HSR.out ?_; try simp only [Act.put, List.setIfInBounds_toArray, List.set_cons_zero, List.set_cons_succ])
      | (show wpList _ _ _ ({ dst := some 45, op := _, type := _, pos := _, after := _, guard := _ } :: _) _ _; refine wpList_load_row rfl 23 (.tmp 10) rfl (w.heap.size + 1) rfl 23 X (0, 0) _ H1.out.2.2.1 Tryd.underlying23 rfl HSX.out ?_; try simp only [Act.put, List.setIfInBounds_toArray, List.set_cons_zero, List.set_cons_succ])
      | (show wpList _ _ _ ({ dst := some 47, op := _, type := _, pos := _, after := _, guard := _ } :: _) _ _; refine wpList_load_row rfl 23 (.tmp 12) rfl (w.heap.size + 2) rfl 23 Y (0, 0) _ H1.out.2.2.2 Tryd.underlying23 rfl HSY.out ?_; try simp only [Act.put, List.setIfInBounds_toArray, List.set_cons_zero, List.set_cons_succ])
      | fail)
    refine (RF.out _ H1.out.1).mono ?_
    rintro e w2 ⟨rfl, hb2⟩
    have H2 := hidk (H1.out.keep hb2)
    clear hb2 H1 RF
    go_wp2_with fail
    refine (TH.out _ H2.out.1).mono ?_
    rintro e w3 ⟨rfl, hb3⟩
    have H3 := hidk (H2.out.keep hb3)
    clear hb3 H2 TH
    go_wp2
    go_ret
    exact ⟨rfl, H3.out.1⟩
  | some p =>
    obtain ⟨x, y⟩ := p
    obtain ⟨s, Hs⟩ : ∃ s : ByteArray, Hid (s = ⟨x.toArray⟩) := ⟨_, (rfl : _ = _)⟩
    obtain ⟨t, Ht⟩ : ∃ t : ByteArray, Hid (t = ⟨y.toArray⟩) := ⟨_, (rfl : _ = _)⟩
    have CK : Hid (∀ W, Below w.heap.size w W → Calls Tryd.prog 16 #[.agg R, .int .i64 a1, .int .i64 a2, .agg X, .slice a4 len4 cap4, .agg Y, .slice a6 len6 cap6] W fun e w' => e = .returned (.tuple #[.string s, .string t, .bool true]) ∧ Below W.heap.size W w') := by rw [Hs.out, Ht.out]; exact CK
    have RF : Hid (∀ W, Below w.heap.size w W → Calls Tryd.prog 17 #[.agg R, .int .i64 a1, .int .i64 a2, .agg X, .slice a4 len4 cap4, .agg Y, .slice a6 len6 cap6] W fun e w' => e = .returned (.tuple #[.string s, .string t, .bool true]) ∧ Below W.heap.size W w') := by rw [Hs.out, Ht.out]; exact RF
    go_enter Tryd.func5, Tryd.ntmps5
    go_wp2_with (first
      | (show wpList _ _ _ ({ dst := some 30, op := _, type := _, pos := _, after := _, guard := _ } :: _) _ _; refine wpList_load_row rfl 23 (.tmp 7) rfl _ rfl 23 R (0, 0) _ HB.out.2.1 Tryd.underlying23 rfl HSR.out ?_; try simp only [Act.put, List.setIfInBounds_toArray, List.set_cons_zero, List.set_cons_succ])
      | (show wpList _ _ _ ({ dst := some 33, op := _, type := _, pos := _, after := _, guard := _ } :: _) _ _; refine wpList_load_row rfl 23 (.tmp 10) rfl _ rfl 23 X (0, 0) _ HB.out.2.2.1 Tryd.underlying23 rfl HSX.out ?_; try simp only [Act.put, List.setIfInBounds_toArray, List.set_cons_zero, List.set_cons_succ])
      | (show wpList _ _ _ ({ dst := some 35, op := _, type := _, pos := _, after := _, guard := _ } :: _) _ _; refine wpList_load_row rfl 23 (.tmp 12) rfl _ rfl 23 Y (0, 0) _ HB.out.2.2.2 Tryd.underlying23 rfl HSY.out ?_; try simp only [Act.put, List.setIfInBounds_toArray, List.set_cons_zero, List.set_cons_succ])
      | fail)
    refine (CK.out _ HB.out.1).mono ?_
    rintro e w1 ⟨rfl, hb1⟩
    have H1 := hidk (HB.out.keep hb1)
    clear hb1 HB CK
    go_wp2_with (first
      | (show wpList _ _ _ ({ dst := some 42, op := _, type := _, pos := _, after := _, guard := _ } :: _) _ _; refine wpList_load_row rfl 23 (.tmp 7) rfl w.heap.size rfl 23 R (0, 0) _ H1.out.2.1 Tryd.underlying23 rfl HSR.out ?_; try simp only [Act.put, List.setIfInBounds_toArray, List.set_cons_zero, List.set_cons_succ])
      | (show wpList _ _ _ ({ dst := some 45, op := _, type := _, pos := _, after := _, guard := _ } :: _) _ _; refine wpList_load_row rfl 23 (.tmp 10) rfl (w.heap.size + 1) rfl 23 X (0, 0) _ H1.out.2.2.1 Tryd.underlying23 rfl HSX.out ?_; try simp only [Act.put, List.setIfInBounds_toArray, List.set_cons_zero, List.set_cons_succ])
      | (show wpList _ _ _ ({ dst := some 47, op := _, type := _, pos := _, after := _, guard := _ } :: _) _ _; refine wpList_load_row rfl 23 (.tmp 12) rfl (w.heap.size + 2) rfl 23 Y (0, 0) _ H1.out.2.2.2 Tryd.underlying23 rfl HSY.out ?_; try simp only [Act.put, List.setIfInBounds_toArray, List.set_cons_zero, List.set_cons_succ])
      | fail)
    refine (RF.out _ H1.out.1).mono ?_
    rintro e w2 ⟨rfl, hb2⟩
    have H2 := hidk (H1.out.keep hb2)
    clear hb2 H1 RF
    go_wp2_with fail
    refine (TH.out _ H2.out.1).mono ?_
    rintro e w3 ⟨rfl, hb3⟩
    have H3 := hidk (H2.out.keep hb3)
    clear hb3 H2 TH
    go_wp2
    go_ret
    exact ⟨rfl, H3.out.1⟩
end Go.Proofs.YtehfoeedlchphaaDoor
