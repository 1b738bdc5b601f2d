/- Texts of our own that the row of WalRuns leans on, part 2. -/
import Derived.Lib.BitFns
import GoSem.Op.String

/- Plain arithmetic on numbers as bytes, the highest first: no program is named here. -/
namespace Go.Proofs.YtdnnhmihigdnkaaDoor.Nums
set_option maxRecDepth 100000
/-- The last k bytes of N, the highest first. -/
def be : Nat → Nat → List UInt8
  | 0, _ => []
  | k + 1, N => UInt8.ofNat (N / 256 ^ k % 256) :: be k N
/-- The number that bytes tell, the highest first. -/
def val (l : List UInt8) : Nat := l.foldl (fun a b => 256 * a + b.toNat) 0
theorem be_length : ∀ k N, (be k N).length = k
  | 0, _ => rfl
  | k + 1, N => by simp [be, be_length k N]
theorem val_snoc (l : List UInt8) (b : UInt8) : val (l ++ [b]) = 256 * val l + b.toNat := by simp [val]
theorem foldl_val : ∀ (l : List UInt8) (a : Nat), l.foldl (fun a b => 256 * a + b.toNat) a = a * 256 ^ l.length + val l
  | [], a => by simp [val]
  | b :: l, a => by
    have h1 := foldl_val l (256 * a + b.toNat)
    have h2 := foldl_val l (256 * 0 + b.toNat)
    simp only [val, List.foldl_cons, List.length_cons] at h1 h2 ⊢
    rw [h1, h2, Nat.pow_succ, Nat.add_mul, Nat.mul_comm 256 a, Nat.mul_assoc, Nat.mul_comm 256 (256 ^ l.length)]
    simp only [Nat.mul_zero, Nat.zero_add]
    omega
theorem val_cons (b : UInt8) (l : List UInt8) : val (b :: l) = b.toNat * 256 ^ l.length + val l := by
  have := foldl_val l (256 * 0 + b.toNat)
  simp only [val, List.foldl_cons] at this ⊢
  rw [this]; simp
theorem val_be : ∀ k N, val (be k N) = N % 256 ^ k
  | 0, N => by simp [be, val, Nat.mod_one]
  | k + 1, N => by
    rw [be, val_cons, be_length, val_be k N, Nat.pow_succ, Nat.mod_mul]
    have : (UInt8.ofNat (N / 256 ^ k % 256)).toNat = N / 256 ^ k % 256 := by
      rw [UInt8.toNat_ofNat']; omega
    rw [this, Nat.mul_comm (N / 256 ^ k % 256)]; omega
end Go.Proofs.YtdnnhmihigdnkaaDoor.Nums
