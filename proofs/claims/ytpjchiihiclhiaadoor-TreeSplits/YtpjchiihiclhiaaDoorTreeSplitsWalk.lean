/- TreeSplits answers true at every number. -/
import Derived.Test.YtpjchiihiclhiaaDoorThree
namespace Go.Proofs.YtpjchiihiclhiaaDoor
open Go.RowKit Sums
set_option linter.unusedVariables false
set_option linter.unusedSimpArgs false

theorem pow_and : ∀ j : Fin 63, bits .and .i64 ((2 ^ j.val : Nat) : Int) (((2 ^ j.val : Nat) : Int) - 1) = 0 := by decide +kernel

set_option maxHeartbeats 1000000 in
theorem treeSplits_walk (a0 : Int) (w : World) (w0 : (Lit.int .i64 a0).wf = true) (hK : Table 1 w) :
    Calls Tryd.prog 8 #[.int .i64 a0] w fun e w' => e = .returned (.bool true) ∧ Below w.heap.size w w' := by
  have hb := bounds_i64 w0
  have T : Hid (Calls Tryd.prog 10 #[] w fun e w' => e = .returned (.bool true) ∧ Below w.heap.size w w') := three_true w hK
  have S : Hid (∀ W, Calls Tryd.prog 13 #[.int .i64 a0] W fun e w' => e = .returned (.int .i64 (split a0.toNat)) ∧ W = w') := fun W => split_any a0 W (by omega)
  by_cases h2 : a0 < 2
  · have e : split a0.toNat = 0 := split_small _ (by omega)
    rw [e] at S
    clear hK w0
    go_enter Tryd.func8, Tryd.ntmps8
    go_wp2_with fail
    refine (S.out _).mono ?_
    rintro e w1 ⟨rfl, rfl⟩
    go_wp2_with fail
    refine T.out.mono ?_
    rintro e w1 ⟨rfl, hb1⟩
    go_wp2
    go_ret
    exact ⟨rfl, hb1⟩
  · obtain ⟨k, hk⟩ : ∃ k, k = split a0.toNat := ⟨_, rfl⟩
    have h3 := split_lt a0.toNat (by omega)
    have h4 := split_pos a0.toNat (by omega)
    have h5 := split_dbl a0.toNat (by omega)
    have h6 : bits .and .i64 (k : Int) ((k : Int) - 1) = 0 := by
      obtain ⟨j, hj⟩ := split_pow a0.toNat (by omega)
      have hj63 : j < 63 := by
        rw [hj] at h3
        have : 2 ^ j < 2 ^ 63 := by omega
        exact (Nat.pow_lt_pow_iff_right (a := 2) (by omega)).1 this
      rw [hk, hj]
      exact pow_and ⟨j, hj63⟩
    rw [← hk] at S h3 h4 h5
    have d1 : decide ((1 : Int) ≤ (k : Int)) = true := by rw [decide_eq_true_eq]; omega
    have d2 : decide ((k : Int) < a0) = true := by rw [decide_eq_true_eq]; omega
    have d3 : decide (a0 - (k : Int) ≤ (k : Int)) = true := by rw [decide_eq_true_eq]; omega
    have e1 := wrap_int (a0 - (k : Int)) (by omega) (by omega)
    have e2 := wrap_int ((k : Int) - 1) (by omega) (by omega)
    clear hK w0 hk
    go_enter Tryd.func8, Tryd.ntmps8
    go_wp2_with fail
    refine (S.out _).mono ?_
    rintro e w1 ⟨rfl, rfl⟩
    go_wp2_with fail
    refine T.out.mono ?_
    rintro e w1 ⟨rfl, hb1⟩
    go_wp2
    go_ret
    exact ⟨rfl, hb1⟩
end Go.Proofs.YtpjchiihiclhiaaDoor
