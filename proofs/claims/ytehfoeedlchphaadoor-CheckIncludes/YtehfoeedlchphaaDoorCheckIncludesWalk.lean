/- CheckIncludes over what the calls of check answer. -/
import Derived.Test.YtehfoeedlchphaaDoorThree5
import Derived.Test.YtehfoeedlchphaaDoorRefInc
import Derived.Test.YtehfoeedlchphaaDoorOwns
import Derived.Test.YtehfoeedlchphaaDoorSame
import Derived.OpenShut
namespace Go.Proofs.YtehfoeedlchphaaDoor
open Go.RowKit Sums
set_option linter.unusedVariables false
set_option linter.unusedSimpArgs false

set_option maxHeartbeats 4000000 in
theorem checkIncludes_of (ck : CheckC) (z0 : List UInt8) (a1 a2 : Int) (z3 : List UInt8) (a4 : Option Addr) (len4 cap4 : Nat) (z4 : List (List UInt8)) (w : World) (hl1 : z0.length = 32) (w1 : (Lit.int .i64 a1).wf = true) (w2 : (Lit.int .i64 a2).wf = true) (hl2 : z3.length = 32) (w4 : LReads w a4 len4 cap4 z4) (hK2 : Table 1 w) (hK : TabC w) :
    Calls Tryd.prog 3 #[digV z0, .int .i64 a1, .int .i64 a2, digV z3, .slice a4 len4 cap4] w fun e w' => e = .returned (.bool true) ∧ Below w.heap.size w w' := by
  have hb1 : -9223372036854775808 ≤ a1 ∧ a1 ≤ 9223372036854775807 := bounds_i64 w1
  have hb2 : -9223372036854775808 ≤ a2 ∧ a2 ≤ 9223372036854775807 := bounds_i64 w2
  obtain ⟨R, HR⟩ : ∃ R, Hid (R = (cellsOf z0).toArray) := ⟨_, (rfl : _ = _)⟩
  obtain ⟨X, HX⟩ : ∃ X, Hid (X = (cellsOf z3).toArray) := ⟨_, (rfl : _ = _)⟩
  have HSR : Hid ((Tryd.prog.info? 23).map (·.size) = some R.size) := by show _ = _; rw [size23, HR.out]; simp [cellsOf_length, hl1]
  have HSX : Hid ((Tryd.prog.info? 23).map (·.size) = some X.size) := by show _ = _; rw [size23, HX.out]; simp [cellsOf_length, hl2]
  have hlx : len4 ≤ 9223372036854775807 := by have := w4.2.2.2.1; unfold maxLen at this; omega
  unfold digV
  rw [← HR.out, ← HX.out]
  have HB := hidk (came w R X)
  by_cases hlong : 200 < len4
  · have dl : decide (200 < (len4 : Int)) = true := by rw [decide_eq_true_eq]; omega
    clear hK hK2 w4 HR HX ck
    go_enter Tryd.func3, Tryd.ntmps3
    go_wp2
    go_ret
    exact ⟨rfl, HB.out.1⟩
  have dl : decide (200 < (len4 : Int)) = false := by rw [decide_eq_false_iff_not]; omega
  obtain ⟨E, HE⟩ : ∃ E : Int, Hid (E = incE z0 a1 a2 z3 z4) := ⟨_, (rfl : _ = _)⟩
  have OW : Hid (∀ W, Below w.heap.size w W → Calls Tryd.prog 9 #[.slice a4 len4 cap4] W fun e w' => ∃ x cx, e = .returned (.slice x len4 cx) ∧ LReads w' x len4 cx z4 ∧ Below W.heap.size W w') := fun W hb => own_reads a4 len4 cap4 z4 W (w4.keep hb) (by omega)
  have CK : Hid (∀ W, Below w.heap.size w W → Calls Tryd.prog 10 #[.agg R, .int .i64 a1, .int .i64 a2, .agg X, .slice a4 len4 cap4] W fun e w' => e = .returned (.int .i64 E) ∧ Below W.heap.size W w') := fun W hb => by
    rw [HE.out]
    exact ck.included z0 a1 a2 z3 z4 a4 len4 cap4 W R X HR HX hl1 hl2 hb1 hb2 (w4.keep hb) (hK.keep hb)
  have RF : Hid (∀ W x cx, Below w.heap.size w W → LReads W x len4 cx z4 → Calls Tryd.prog 12 #[.agg R, .int .i64 a1, .int .i64 a2, .agg X, .slice x len4 cx] W fun e w' => e = .returned (.int .i64 E) ∧ Below W.heap.size W w') := fun W x cx hb hx => by
    rw [HE.out]
    exact refInc_any z0 a1 a2 z3 z4 x len4 cx W R X HR HX hl1 hl2 hb1 hb2 hx (hK2.keep hb)
  have TH : Hid (∀ W, Below w.heap.size w W → Calls Tryd.prog 11 #[] W fun e w' => e = .returned (.bool true) ∧ Below W.heap.size W w') := fun W hb => three5_true ck W (hK.keep hb)
  have DG : Hid (∀ W x cx, Below w.heap.size w W → LReads W x len4 cx z4 → Calls Tryd.prog 13 #[.slice a4 len4 cap4, .slice x len4 cx] W fun e w' => e = .returned (.bool true) ∧ Below W.heap.size W w') := fun W x cx hb hx => same_digs a4 x len4 cap4 cx z4 W (w4.keep hb) hx
  clear hK hK2 w4 HR HX ck HE
  go_enter Tryd.func3, Tryd.ntmps3
  go_wp2_with fail
  refine (OW.out _ HB.out.1).mono ?_
  rintro e w1 ⟨x, cx, rfl, hx1, hb1⟩
  have H1 := hidk (And.intro (HB.out.keep hb1) hx1)
  clear hx1 hb1 HB OW
  go_wp2_with (first
    | (show wpList _ _ _ ({ dst := some 18, op := _, type := _, pos := _, after := _, guard := _ } :: _) _ _; refine wpList_load_row rfl 23 (.tmp 5) rfl _ rfl 23 R (0, 0) _ H1.out.1.2.1 Tryd.underlying23 rfl HSR.out ?_; try simp only [Act.put, List.setIfInBounds_toArray, List.set_cons_zero, List.set_cons_succ])
    | (show wpList _ _ _ ({ dst := some 21, op := _, type := _, pos := _, after := _, guard := _ } :: _) _ _; refine wpList_load_row rfl 23 (.tmp 8) rfl (w.heap.size + 1) rfl 23 X (0, 0) _ H1.out.1.2.2 Tryd.underlying23 rfl HSX.out ?_; try simp only [Act.put, List.setIfInBounds_toArray, List.set_cons_zero, List.set_cons_succ])
    | fail)
  refine (CK.out _ H1.out.1.1).mono ?_
  rintro e w2 ⟨rfl, hb2⟩
  have H2 := hidk (And.intro (H1.out.1.keep hb2) (H1.out.2.keep hb2))
  clear hb2 H1 CK
  go_wp2_with fail
  refine (TH.out _ H2.out.1.1).mono ?_
  rintro e w3 ⟨rfl, hb3⟩
  have H3 := hidk (And.intro (H2.out.1.keep hb3) (H2.out.2.keep hb3))
  clear hb3 H2 TH
  go_wp2_with (first
    | (show wpList _ _ _ ({ dst := some 27, op := _, type := _, pos := _, after := _, guard := _ } :: _) _ _; refine wpList_load_row_w (by rfl) 23 (.tmp 5) rfl _ rfl 23 R (0, 0) _ H3.out.1.2.1 Tryd.underlying23 rfl HSR.out ?_; try simp only [Act.put, List.setIfInBounds_toArray, List.set_cons_zero, List.set_cons_succ])
    | (show wpList _ _ _ ({ dst := some 30, op := _, type := _, pos := _, after := _, guard := _ } :: _) _ _; refine wpList_load_row_w (by rfl) 23 (.tmp 8) rfl (w.heap.size + 1) rfl 23 X (0, 0) _ H3.out.1.2.2 Tryd.underlying23 rfl HSX.out ?_; try simp only [Act.put, List.setIfInBounds_toArray, List.set_cons_zero, List.set_cons_succ])
    | fail)
  refine (RF.out _ _ _ H3.out.1.1 H3.out.2).mono ?_
  rintro e w4 ⟨rfl, hb4⟩
  have H4 := hidk (And.intro (H3.out.1.keep hb4) (H3.out.2.keep hb4))
  clear hb4 H3 RF
  go_wp2_with fail
  refine (DG.out _ _ _ H4.out.1.1 H4.out.2).mono ?_
  rintro e w5 ⟨rfl, hb5⟩
  have H5 := hidk (H4.out.1.keep hb5)
  clear hb5 H4 DG
  go_wp2
  go_ret
  exact ⟨rfl, H5.out.1⟩
end Go.Proofs.YtehfoeedlchphaaDoor
