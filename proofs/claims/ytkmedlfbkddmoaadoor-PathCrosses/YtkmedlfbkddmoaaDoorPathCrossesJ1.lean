/- Texts of our own that the row of PathCrosses leans on, part 1. -/
import Derived.Lib.BitFns
import GoSem.Op.String
/- Plain arithmetic on numbers as bytes, the highest first: no program is named here. -/
namespace Go.Proofs.YtkmedlfbkddmoaaDoor.Nums
set_option maxRecDepth 100000
def be : Nat → Nat → List UInt8
  | 0, _ => []
  | k + 1, N => UInt8.ofNat (N / 256 ^ k % 256) :: be k N
def val (l : List UInt8) : Nat := l.foldl (fun a b => 256 * a + b.toNat) 0
def nb (N : Nat) : Nat := (Lib.bitLen N + 7) / 8
theorem be_length : ∀ k N, (be k N).length = k
  | 0, _ => rfl
  | k + 1, N => by simp [be, be_length k N]
theorem bitLenAux_bounds : ∀ f x, x < 2 ^ f → x < 2 ^ Lib.bitLenAux f x ∧ (x ≠ 0 → 2 ^ (Lib.bitLenAux f x - 1) ≤ x ∧ 0 < Lib.bitLenAux f x) ∧ Lib.bitLenAux f x ≤ f
  | 0, x, h => by simp at h; subst h; simp [Lib.bitLenAux]
  | f + 1, x, h => by
    rw [Lib.bitLenAux]
    by_cases hx : x = 0
    · simp [hx]
    · rw [if_neg hx]
      have hh : x / 2 < 2 ^ f := by rw [Nat.pow_succ] at h; omega
      obtain ⟨h1, h2, h3⟩ := bitLenAux_bounds f (x / 2) hh
      refine ⟨?_, fun _ => ⟨?_, by omega⟩, by omega⟩
      · rw [Nat.add_comm, Nat.pow_succ]; omega
      · rw [Nat.add_sub_cancel_left]
        by_cases hz : x / 2 = 0
        · have : Lib.bitLenAux f (x / 2) = 0 := by
            rw [hz]; cases f <;> simp [Lib.bitLenAux]
          rw [this]; simp; omega
        · obtain ⟨h4, h5⟩ := h2 hz
          have : Lib.bitLenAux f (x / 2) = Lib.bitLenAux f (x / 2) - 1 + 1 := by omega
          rw [this, Nat.pow_succ]; omega
theorem nb_le (N : Nat) (h : N < 2 ^ 64) : nb N ≤ 8 := by
  obtain ⟨_, _, h3⟩ := bitLenAux_bounds 64 N h
  change Lib.bitLen N ≤ 64 at h3
  unfold nb; omega
def num (N : Nat) : List UInt8 := be (nb N) N
theorem num_length (N : Nat) : (num N).length = nb N := be_length _ _
end Go.Proofs.YtkmedlfbkddmoaaDoor.Nums
