/- ShaSums returns true for any texts. -/
import Derived.Test.YthkmhfpihkjhnaaDoorJoined
import Derived.Test.YthkmhfpihkjhnaaDoorEqs
import Derived.Test.YthkmhfpihkjhnaaDoorOpenT
import Derived.Test.YthkmhfpihkjhnaaDoorRefSum
namespace Go.Proofs.YthkmhfpihkjhnaaDoor
open Go.RowKit Sums
set_option linter.unusedVariables false
set_option linter.unusedSimpArgs false

set_option maxHeartbeats 1000000 in
theorem shaSums_no (a : Option Addr) (len cap : Nat) (w : World)
    (hJ : Hid (Calls Tryd.prog 7 #[.slice a len cap] w fun e w' => e = .returned (.tuple #[.string ⟨#[]⟩, .bool false]) ∧ w = w')) :
    Calls Tryd.prog 3 #[.slice a len cap] w fun e w' => e = .returned (.bool true) ∧ Below w.heap.size w w' := by
  go_enter Tryd.func3, Tryd.ntmps3
  go_wp2_with fail
  refine hJ.out.mono ?_
  rintro e _ ⟨rfl, rfl⟩
  go_wp2
  go_ret
  exact ⟨rfl, Below.refl _ _⟩

set_option maxHeartbeats 1000000 in
theorem shaSums_rest (a : Option Addr) (len cap : Nat) (ss : List ByteArray) (t : ByteArray) (w : World) (hT : Texts w a len ss) (ht : t.data.toList = joinL ss) (htot : total ss ≤ 65536) (hl5 : ss.length ≤ 500)
    (hJ : Hid (Calls Tryd.prog 7 #[.slice a len cap] w fun e w' => e = .returned (.tuple #[.string t, .bool true]) ∧ w = w')) (hC : Table 1 w) (hK : Table 0 w) :
    Calls Tryd.prog 3 #[.slice a len cap] w fun e w' => e = .returned (.bool true) ∧ Below w.heap.size w w' := by
  obtain ⟨D1, HD1⟩ : ∃ D, Hid (D = (cellsOf (sumD (joinL ss))).toArray) := ⟨_, (rfl : (cellsOf (sumD (joinL ss))).toArray = _)⟩
  have hts : t.size ≤ 65536 := by
    have h2 : t.data.toList.length = t.size := rfl
    rw [ht, joinL_length] at h2
    omega
  have K0 : Hid (∀ W, Below w.heap.size w W → Calls Tryd.prog 8 #[] W fun e w' => e = .returned (.bool true) ∧ Below W.heap.size W w') := fun W hb => sums_true W (hK.keep hb)
  have K3 : Hid (∀ W, Below w.heap.size w W → Calls Tryd.prog 9 #[.slice a len cap] W fun e w' => e = .returned (.agg D1) ∧ Below W.heap.size W w') := fun W hb =>
    of_lies ss (by omega) (by omega) D1 HD1 W a len cap (hT.keep hb) (hK.keep hb)
  have K5 : Hid (∀ W, Below w.heap.size w W → Calls Tryd.prog 10 #[.string t] W fun e w' => e = .returned (.agg D1) ∧ Below W.heap.size W w') := fun W hb =>
    refSum_any t W (by omega) (hC.keep hb) D1 (by show _ = _; rw [HD1.out, ht])
  have e1 := eqSelf D1 _ (sumD_length _) HD1
  clear hK hC ht htot hT
  go_enter Tryd.func3, Tryd.ntmps3
  go_wp2_with fail
  refine hJ.out.mono ?_
  rintro e _ ⟨rfl, rfl⟩
  go_wp2_with fail
  refine (K0.out _ (Below.refl _ _)).mono ?_
  rintro e w0 ⟨rfl, hb0⟩
  go_wp2_with fail
  refine (K3.out _ hb0).mono ?_
  rintro e w3 ⟨rfl, hb3⟩
  have hB3 : Below w.heap.size w w3 := hb0.trans (hb3.mono hb0.size)
  go_wp2_with fail
  refine (K5.out _ hB3).mono ?_
  rintro e w5 ⟨rfl, hb5⟩
  go_wp2
  go_ret
  exact ⟨rfl, hB3.trans (hb5.mono hB3.size)⟩

theorem shaSums_walk (a0 : Option Addr) (len0 cap0 : Nat) (z0 : List ByteArray) (w : World) (w0 : Texts w a0 len0 z0 ∧ (∀ s ∈ z0, s.size ≤ maxLen) ∧ len0 ≤ maxLen) (hC : Table 1 w) (hK : Table 0 w) :
    Calls Tryd.prog 3 #[.slice a0 len0 cap0] w fun e w' => e = .returned (.bool true) ∧ Below w.heap.size w w' := by
  have hlen : len0 ≤ 9223372036854775807 := by have := w0.2.2; unfold maxLen at this; omega
  by_cases hf : Fits z0
  · exact shaSums_rest a0 len0 cap0 z0 ⟨(joinL z0).toArray⟩ w w0.1 (by simp) hf.2 hf.1 (joined_fits cap0 w0.1 w0.2.1 hlen hf) hC hK
  · exact shaSums_no a0 len0 cap0 w (joined_not cap0 w0.1 w0.2.1 hlen hf)
end Go.Proofs.YthkmhfpihkjhnaaDoor
