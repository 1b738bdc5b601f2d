/- What the document's Split answers. -/
import Derived.Test.YtehfoeedlchphaaDoorLists
import Derived.Test.YtehfoeedlchphaaDoorRefLeafs
namespace Go.Proofs.YtehfoeedlchphaaDoor
open Go.RowKit Sums
set_option linter.unusedVariables false
set_option linter.unusedSimpArgs false

set_option maxHeartbeats 1000000 in
theorem refSplit_any (n : Int) (w : World) (h1 : n ≤ 9223372036854775807) :
    Calls Tryd.prog 47 #[.int .i64 n] w fun e w' => e = .returned (.int .i64 (split n.toNat)) ∧ w = w' := by
  by_cases h2 : n < 2
  · have e : split n.toNat = 0 := split_small _ (by omega)
    rw [e]
    go_enter Tryd.func47, Tryd.ntmps47
    go_wp2
    go_ret
    exact ⟨rfl, rfl⟩
  · obtain ⟨N, hN⟩ : ∃ N : Nat, n = N := ⟨n.toNat, by omega⟩
    subst hN
    rw [Int.toNat_natCast]
    have hd2 : decide ((N : Int) < 2) = false := by rw [decide_eq_false_iff_not]; exact h2
    obtain ⟨s, HSs⟩ : ∃ s, Hid (s = split N) := ⟨_, (rfl : split N = _)⟩
    rw [← HSs.out]
    go_enter Tryd.func47, Tryd.ntmps47
    go_wp2
    go_loopw [3] (fun v wr => ∃ k : Nat, v = .int .i64 k ∧ Hid (∃ j, k = 2 ^ j) ∧ k < N ∧ 1 ≤ k ∧ w = wr) (fun v _ => N - (intOf v).toNat)
    case atStart => exact ⟨1, rfl, ⟨0, rfl⟩, by omega, by omega, rfl⟩
    case round =>
      obtain ⟨k, rfl, HJ, hkN, hk1, rfl⟩ := hrel
      have e1 := wrap_int ((N : Int) - (k : Int)) (by omega) (by omega)
      by_cases hlt : k < N - k
      · have hdi : decide ((k : Int) < (N : Int) - (k : Int)) = true := by rw [decide_eq_true_eq]; omega
        have e2 := wrap_int (2 * (k : Int)) (by omega) (by omega)
        go_wp2
        go_roundw
        case rel =>
          refine ⟨2 * k, by go_num, ?_, by omega, by omega, by trivial⟩
          obtain ⟨j, hj⟩ := HJ.out
          exact ⟨j + 1, by rw [hj, Nat.pow_succ, Nat.mul_comm]⟩
        case measure => simp [intOf]; omega
      · have hdi : decide ((k : Int) < (N : Int) - (k : Int)) = false := by rw [decide_eq_false_iff_not]; omega
        have hs : split N = k := by
          obtain ⟨j, hj⟩ := HJ.out
          rw [hj] at hlt hkN ⊢
          exact split_uniq N j (by omega) hkN (by omega)
        obtain rfl : s = k := HSs.out.trans hs
        go_wp2
        go_ret
        exact ⟨rfl, rfl⟩

end Go.Proofs.YtehfoeedlchphaaDoor
