/- What the document's turn answers: a word turned round to the right. -/
import Derived.Test.YtkmndchbmbhlhaaDoorWord
namespace Go.Proofs.YtkmndchbmbhlhaaDoor
open Go.RowKit Sums
set_option linter.unusedVariables false

theorem or32_comm (x y : Int) (x0 : 0 ≤ x) (x1 : x ≤ 4294967295) (y0 : 0 ≤ y) (y1 : y ≤ 4294967295) : bits .or .u32 x y = bits .or .u32 y x := by
  obtain ⟨a, rfl⟩ := Int.eq_ofNat_of_zero_le x0
  obtain ⟨b, rfl⟩ := Int.eq_ofNat_of_zero_le y0
  rw [u32_or_nat _ _ (by omega) (by omega), u32_or_nat _ _ (by omega) (by omega), Nat.or_comm]
theorem rot_comm (x p q : Int) (h0 : 0 ≤ x) (h1 : x ≤ 4294967295) (hp : 0 < p) : bits .or .u32 (x / p) (x * q % 4294967296) = rot x p q := by
  unfold rot or32
  have h2 : 0 ≤ x / p := Int.ediv_nonneg h0 (by omega)
  have h3 : x / p ≤ 4294967295 := Int.le_trans (Int.ediv_le_self _ h0) h1
  exact or32_comm _ _ h2 h3 (by omega) (by omega)

set_option maxHeartbeats 1000000 in
theorem refTurn_any (x n p q : Int) (w : World) (h0 : 0 ≤ x) (h1 : x ≤ 4294967295) (hk : Turn n p q) :
    Calls Tryd.prog 31 #[.int .u32 x, .int .i64 n] w fun e w' => e = .returned (.int .u32 (rot x p q)) ∧ ∃ n, w' = w.drewN n := by
  rcases hk with ⟨rfl, rfl, rfl⟩ | ⟨rfl, rfl, rfl⟩ | ⟨rfl, rfl, rfl⟩ | ⟨rfl, rfl, rfl⟩ | ⟨rfl, rfl, rfl⟩ | ⟨rfl, rfl, rfl⟩ | ⟨rfl, rfl, rfl⟩ | ⟨rfl, rfl, rfl⟩ | ⟨rfl, rfl, rfl⟩ | ⟨rfl, rfl, rfl⟩
  · have hc := rot_comm x 4 1073741824 h0 h1 (by omega)
    go_enter Tryd.func31, Tryd.ntmps31
    go_wp2
    go_quiet (fail)
    go_wp2
    go_ret
    exact ⟨rfl, _, rfl⟩
  · have hc := rot_comm x 64 67108864 h0 h1 (by omega)
    go_enter Tryd.func31, Tryd.ntmps31
    go_wp2
    go_quiet (fail)
    go_wp2
    go_ret
    exact ⟨rfl, _, rfl⟩
  · have hc := rot_comm x 128 33554432 h0 h1 (by omega)
    go_enter Tryd.func31, Tryd.ntmps31
    go_wp2
    go_quiet (fail)
    go_wp2
    go_ret
    exact ⟨rfl, _, rfl⟩
  · have hc := rot_comm x 2048 2097152 h0 h1 (by omega)
    go_enter Tryd.func31, Tryd.ntmps31
    go_wp2
    go_quiet (fail)
    go_wp2
    go_ret
    exact ⟨rfl, _, rfl⟩
  · have hc := rot_comm x 8192 524288 h0 h1 (by omega)
    go_enter Tryd.func31, Tryd.ntmps31
    go_wp2
    go_quiet (fail)
    go_wp2
    go_ret
    exact ⟨rfl, _, rfl⟩
  · have hc := rot_comm x 131072 32768 h0 h1 (by omega)
    go_enter Tryd.func31, Tryd.ntmps31
    go_wp2
    go_quiet (fail)
    go_wp2
    go_ret
    exact ⟨rfl, _, rfl⟩
  · have hc := rot_comm x 262144 16384 h0 h1 (by omega)
    go_enter Tryd.func31, Tryd.ntmps31
    go_wp2
    go_quiet (fail)
    go_wp2
    go_ret
    exact ⟨rfl, _, rfl⟩
  · have hc := rot_comm x 524288 8192 h0 h1 (by omega)
    go_enter Tryd.func31, Tryd.ntmps31
    go_wp2
    go_quiet (fail)
    go_wp2
    go_ret
    exact ⟨rfl, _, rfl⟩
  · have hc := rot_comm x 4194304 1024 h0 h1 (by omega)
    go_enter Tryd.func31, Tryd.ntmps31
    go_wp2
    go_quiet (fail)
    go_wp2
    go_ret
    exact ⟨rfl, _, rfl⟩
  · have hc := rot_comm x 33554432 128 h0 h1 (by omega)
    go_enter Tryd.func31, Tryd.ntmps31
    go_wp2
    go_quiet (fail)
    go_wp2
    go_ret
    exact ⟨rfl, _, rfl⟩
end Go.Proofs.YtkmndchbmbhlhaaDoor
