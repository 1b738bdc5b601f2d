/- TreeRoots answers true at every list and number. -/
import Derived.Test.YtpjchiihiclhiaaDoorThree
import Derived.Test.YtpjchiihiclhiaaDoorOwns
import Derived.Test.YtpjchiihiclhiaaDoorRefRoot
namespace Go.Proofs.YtpjchiihiclhiaaDoor
open Go.RowKit Sums
set_option linter.unusedVariables false
set_option linter.unusedSimpArgs false

set_option maxHeartbeats 1000000 in
theorem treeRoots_walk (a0 : Option Addr) (len0 cap0 : Nat) (z0 : List (List UInt8)) (a1 : Int) (w : World) (w0 : LReads w a0 len0 cap0 z0) (w1 : (Lit.int .i64 a1).wf = true) (hK2 : Table 0 w) (hK : Table 1 w) :
    Calls Tryd.prog 3 #[.slice a0 len0 cap0, .int .i64 a1] w fun e w' => e = .returned (.bool true) ∧ Below w.heap.size w w' := by
  have hb := bounds_i64 w1
  have hmx : len0 ≤ 9223372036854775807 := by have := w0.2.2.2.1; unfold maxLen at this; omega
  by_cases hlong : 200 < len0
  · have hd : decide ((200 : Int) < (len0 : Int)) = true := by rw [decide_eq_true_eq]; omega
    go_enter Tryd.func3, Tryd.ntmps3
    go_wp2
    go_ret
    exact ⟨rfl, Below.refl _ _⟩
  · have hd : decide ((200 : Int) < (len0 : Int)) = false := by rw [decide_eq_false_iff_not]; omega
    obtain ⟨D, HD⟩ : ∃ D, Hid (D = (cellsOf (root z0)).toArray) := ⟨_, (rfl : (cellsOf (root z0)).toArray = _)⟩
    have eD := eqSelf D (root z0) (root_length sumD_length _ w0.2.1) HD
    have OW : Hid (Calls Tryd.prog 9 #[.slice a0 len0 cap0] w fun e w' => ∃ x cx, e = .returned (.slice x len0 cx) ∧ LReads w' x len0 cx z0 ∧ Below w.heap.size w w') := own_reads a0 len0 cap0 z0 w w0 (by omega)
    have T : Hid (∀ W, Below w.heap.size w W → Calls Tryd.prog 10 #[] W fun e w' => e = .returned (.bool true) ∧ Below W.heap.size W w') := fun W hb => three_true W (hK.keep hb)
    have R1 : Hid (∀ W, Below w.heap.size w W → Calls Tryd.prog 11 #[.slice a0 len0 cap0] W fun e w' => e = .returned (.agg D) ∧ Below W.heap.size W w') := fun W hb => root_any _ a0 len0 cap0 z0 W rfl (w0.keep hb) (hK.keep hb) D HD
    have R2 : Hid (∀ W x cx, Below w.heap.size w W → LReads W x len0 cx z0 → Calls Tryd.prog 12 #[.slice x len0 cx] W fun e w' => e = .returned (.agg D) ∧ Below W.heap.size W w') := fun W x cx hb hx => refRoot_any _ x len0 cx z0 W rfl hx (hK2.keep hb) D HD
    obtain ⟨s, HS⟩ : ∃ s, Hid (s = split a1.toNat) := ⟨_, (rfl : split a1.toNat = _)⟩
    have S1 : Hid (∀ W, Calls Tryd.prog 13 #[.int .i64 a1] W fun e w' => e = .returned (.int .i64 s) ∧ W = w') := fun W => by rw [HS.out]; exact split_any a1 W (by omega)
    have S2 : Hid (∀ W, Calls Tryd.prog 14 #[.int .i64 a1] W fun e w' => e = .returned (.int .i64 s) ∧ W = w') := fun W => by rw [HS.out]; exact refSplit_any a1 W (by omega)
    have DG : Hid (∀ W x cx, Below w.heap.size w W → LReads W x len0 cx z0 → Calls Tryd.prog 15 #[.slice a0 len0 cap0, .slice x len0 cx] W fun e w' => e = .returned (.bool true) ∧ Below W.heap.size W w') := fun W x cx hb hx => same_digs a0 x len0 cap0 cx z0 W (w0.keep hb) hx
    clear hK hK2 w0 w1 HD HS
    go_enter Tryd.func3, Tryd.ntmps3
    go_wp2_with fail
    refine OW.out.mono ?_
    rintro e w1 ⟨x, cx, rfl, hx, hb1⟩
    have H1 : Hid (LReads w1 x len0 cx z0 ∧ Below w.heap.size w w1) := ⟨hx, hb1⟩
    clear hx hb1 OW
    go_wp2_with fail
    refine (T.out _ H1.out.2).mono ?_
    rintro e w2 ⟨rfl, hb2⟩
    have H2 : Hid (LReads w2 x len0 cx z0 ∧ Below w.heap.size w w2) := ⟨H1.out.1.keep hb2, H1.out.2.trans (hb2.mono H1.out.2.size)⟩
    clear H1 hb2 T
    go_wp2_with fail
    refine (R1.out _ H2.out.2).mono ?_
    rintro e w3 ⟨rfl, hb3⟩
    have H3 : Hid (LReads w3 x len0 cx z0 ∧ Below w.heap.size w w3) := ⟨H2.out.1.keep hb3, H2.out.2.trans (hb3.mono H2.out.2.size)⟩
    clear H2 hb3 R1
    go_wp2_with fail
    refine (R2.out _ _ _ H3.out.2 H3.out.1).mono ?_
    rintro e w4 ⟨rfl, hb4⟩
    have H4 : Hid (LReads w4 x len0 cx z0 ∧ Below w.heap.size w w4) := ⟨H3.out.1.keep hb4, H3.out.2.trans (hb4.mono H3.out.2.size)⟩
    clear H3 hb4 R2
    have eD4 := eD w4
    go_wp2_with fail
    refine (S1.out _).mono ?_
    rintro e w5 ⟨rfl, rfl⟩
    go_wp2_with fail
    refine (S2.out _).mono ?_
    rintro e w5 ⟨rfl, rfl⟩
    go_wp2_with fail
    refine (DG.out _ _ _ H4.out.2 H4.out.1).mono ?_
    rintro e w6 ⟨rfl, hb6⟩
    have H6 : Hid (Below w.heap.size w w6) := H4.out.2.trans (hb6.mono H4.out.2.size)
    clear hb6 H4
    go_wp2
    go_ret
    exact ⟨rfl, H6.out⟩
end Go.Proofs.YtpjchiihiclhiaaDoor
