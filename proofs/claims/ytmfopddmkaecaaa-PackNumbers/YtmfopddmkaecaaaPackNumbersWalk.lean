/- PackNumbers returns true for any integer and any text. -/
import Derived.Test.YtmfopddmkaecaaaRefNumber
import Derived.Test.YtmfopddmkaecaaaRefValue
namespace Go.Proofs.Ytmfopddmkaecaaa
open Go.RowKit Nums

theorem packNumbers_walk (a0 : Int) (a1 : ByteArray) (w : World) (_w0 : (Lit.int .i64 a0).wf = true) (w1 : a1.size ≤ maxLen) :
    Calls Try.prog 3 #[.int .i64 a0, .string a1] w fun e w' => e = .returned (.bool true) ∧ Below w.heap.size w w' := by
  by_cases hlong : (262144 : Int) < (a1.size : Int)
  · unfold maxLen at w1
    go_enter Try.func3, Try.ntmps3
    go_wp2
    go_ret
    exact ⟨rfl, Below.refl _ _⟩
  · have HV : Hid (∀ w, Calls Try.prog 11 #[.string a1] w fun e w' => e = .returned (.tuple #[.int .i64 (vOf a1.data.toList), .int .i64 (eOf a1.data.toList)]) ∧ w = w') := fun w => value_any a1 w w1
    have HR : Hid (∀ w, Calls Try.prog 12 #[.string a1] w fun e w' => e = .returned (.tuple #[.int .i64 (vOf a1.data.toList), .int .i64 (eOf a1.data.toList)]) ∧ w = w') := fun w => refValue_any a1 w w1
    go_enter Try.func3, Try.ntmps3
    go_wp2_with fail
    refine (number_any _ _).mono ?_
    rintro e w1 ⟨rfl, hb1⟩
    go_wp2_with fail
    refine (refNumber_any _ _).mono ?_
    rintro e w2 ⟨rfl, hb2⟩
    go_wp2_with fail
    refine (HV.out _).mono ?_
    rintro e _ ⟨rfl, rfl⟩
    go_wp2_with fail
    refine (HR.out _).mono ?_
    rintro e _ ⟨rfl, rfl⟩
    go_wp2_with fail
    refine (numbers_any _).mono ?_
    rintro e w3 ⟨rfl, hb3⟩
    go_wp2
    go_ret
    exact ⟨rfl, (hb1.trans (hb2.mono hb1.size)).trans (hb3.mono (Nat.le_trans hb1.size hb2.size))⟩
end Go.Proofs.Ytmfopddmkaecaaa
