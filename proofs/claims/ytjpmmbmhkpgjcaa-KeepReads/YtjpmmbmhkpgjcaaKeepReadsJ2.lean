/- Texts of our own that the row of KeepReads leans on, part 2. -/
import Derived.Lib.BitFns
import GoSem.Op.String

/- Plain arithmetic on numbers as bytes, the highest first: no program is named here. -/
namespace Go.Proofs.Ytjpmmbmhkpgjcaa.Nums
set_option maxRecDepth 100000
/-- The last k bytes of N, the highest first. -/
def be : Nat → Nat → List UInt8
  | 0, _ => []
  | k + 1, N => UInt8.ofNat (N / 256 ^ k % 256) :: be k N
/-- The number that bytes tell, the highest first. -/
def val (l : List UInt8) : Nat := l.foldl (fun a b => 256 * a + b.toNat) 0
/-- How many bytes N needs. -/
def nb (N : Nat) : Nat := (Lib.bitLen N + 7) / 8
/-- k bytes are the fewest that do for N. -/
def Fits (k N : Nat) : Prop := N < 256 ^ k ∧ (k = 0 ∨ 256 ^ (k - 1) ≤ N)
theorem be_length : ∀ k N, (be k N).length = k
  | 0, _ => rfl
  | k + 1, N => by simp [be, be_length k N]
theorem val_snoc (l : List UInt8) (b : UInt8) : val (l ++ [b]) = 256 * val l + b.toNat := by simp [val]
theorem foldl_val : ∀ (l : List UInt8) (a : Nat), l.foldl (fun a b => 256 * a + b.toNat) a = a * 256 ^ l.length + val l
  | [], a => by simp [val]
  | b :: l, a => by
    have h1 := foldl_val l (256 * a + b.toNat)
    have h2 := foldl_val l (256 * 0 + b.toNat)
    simp only [val, List.foldl_cons, List.length_cons] at h1 h2 ⊢
    rw [h1, h2, Nat.pow_succ, Nat.add_mul, Nat.mul_comm 256 a, Nat.mul_assoc, Nat.mul_comm 256 (256 ^ l.length)]
    simp only [Nat.mul_zero, Nat.zero_add]
    omega
theorem val_cons (b : UInt8) (l : List UInt8) : val (b :: l) = b.toNat * 256 ^ l.length + val l := by
  have := foldl_val l (256 * 0 + b.toNat)
  simp only [val, List.foldl_cons] at this ⊢
  rw [this]; simp
theorem val_lt : ∀ l : List UInt8, val l < 256 ^ l.length
  | [] => by simp [val]
  | b :: l => by
    rw [val_cons, List.length_cons, Nat.pow_succ, Nat.mul_comm (256 ^ l.length) 256]
    have h := val_lt l
    have hb : b.toNat ≤ 255 := by have := b.toNat_lt; omega
    have := Nat.mul_le_mul_right (256 ^ l.length) hb
    omega
theorem val_be : ∀ k N, val (be k N) = N % 256 ^ k
  | 0, N => by simp [be, val, Nat.mod_one]
  | k + 1, N => by
    rw [be, val_cons, be_length, val_be k N, Nat.pow_succ, Nat.mod_mul]
    have : (UInt8.ofNat (N / 256 ^ k % 256)).toNat = N / 256 ^ k % 256 := by
      rw [UInt8.toNat_ofNat']; omega
    rw [this, Nat.mul_comm (N / 256 ^ k % 256)]; omega
theorem be_val : ∀ l : List UInt8, be l.length (val l) = l
  | [] => rfl
  | b :: l => by
    have hp : 0 < 256 ^ l.length := Nat.pow_pos (by decide)
    have hl := val_lt l
    have hb : b.toNat < 256 := b.toNat_lt
    have hd : val (b :: l) / 256 ^ l.length = b.toNat := by
      rw [val_cons, Nat.mul_comm, Nat.mul_add_div hp, Nat.div_eq_of_lt hl]; rfl
    have hbe : ∀ k M, k ≤ l.length → be k (M * 256 ^ l.length + val l) = be k (val l) := by
      intro k M hk
      induction k with
      | zero => rfl
      | succ k ih =>
        rw [be, be, ih (by omega)]
        have hk0 : 0 < 256 ^ k := Nat.pow_pos (by decide)
        have e : M * 256 ^ l.length = 256 ^ k * (256 * (M * 256 ^ (l.length - k - 1))) := by
          have : 256 ^ l.length = 256 ^ k * (256 * 256 ^ (l.length - k - 1)) := by
            rw [← Nat.pow_succ', ← Nat.pow_add]; congr 1; omega
          rw [this]; ac_rfl
        rw [e, Nat.mul_add_div hk0, Nat.mul_add_mod]
    rw [List.length_cons, be, hd, val_cons, hbe l.length b.toNat (Nat.le_refl _), be_val l]
    rw [Nat.mod_eq_of_lt hb, UInt8.ofNat_toNat]
theorem fits_unique {a b N : Nat} (ha : Fits a N) (hb : Fits b N) : a = b := by
  have key : ∀ {a b : Nat}, Fits a N → Fits b N → ¬ a < b := by
    intro a b ha hb h
    rcases hb.2 with h0 | h0
    · omega
    · have := Nat.pow_le_pow_right (show 0 < 256 by decide) (show a ≤ b - 1 by omega)
      have := ha.1
      omega
  have := key ha hb
  have := key hb ha
  omega
theorem bitLenAux_bounds : ∀ f x, x < 2 ^ f → x < 2 ^ Lib.bitLenAux f x ∧ (x ≠ 0 → 2 ^ (Lib.bitLenAux f x - 1) ≤ x ∧ 0 < Lib.bitLenAux f x) ∧ Lib.bitLenAux f x ≤ f
  | 0, x, h => by simp at h; subst h; simp [Lib.bitLenAux]
  | f + 1, x, h => by
    rw [Lib.bitLenAux]
    by_cases hx : x = 0
    · simp [hx]
    · rw [if_neg hx]
      have hh : x / 2 < 2 ^ f := by rw [Nat.pow_succ] at h; omega
      obtain ⟨h1, h2, h3⟩ := bitLenAux_bounds f (x / 2) hh
      refine ⟨?_, fun _ => ⟨?_, by omega⟩, by omega⟩
      · rw [Nat.add_comm, Nat.pow_succ]; omega
      · rw [Nat.add_sub_cancel_left]
        by_cases hz : x / 2 = 0
        · have : Lib.bitLenAux f (x / 2) = 0 := by
            rw [hz]; cases f <;> simp [Lib.bitLenAux]
          rw [this]; simp; omega
        · obtain ⟨h4, h5⟩ := h2 hz
          have : Lib.bitLenAux f (x / 2) = Lib.bitLenAux f (x / 2) - 1 + 1 := by omega
          rw [this, Nat.pow_succ]; omega
theorem fits_nb (N : Nat) (h : N < 2 ^ 64) : Fits (nb N) N := by
  obtain ⟨h1, h2, _⟩ := bitLenAux_bounds 64 N h
  change N < 2 ^ Lib.bitLen N at h1
  change N ≠ 0 → 2 ^ (Lib.bitLen N - 1) ≤ N ∧ 0 < Lib.bitLen N at h2
  have e : ∀ k, 256 ^ k = 2 ^ (8 * k) := fun k => by rw [Nat.pow_mul]
  unfold Fits nb
  rw [e, e]
  refine ⟨Nat.lt_of_lt_of_le h1 (Nat.pow_le_pow_right (by decide) (by omega)), ?_⟩
  by_cases hz : N = 0
  · left; subst hz; decide
  · obtain ⟨h3, h4⟩ := h2 hz
    right
    exact Nat.le_trans (Nat.pow_le_pow_right (by decide) (by omega)) h3
theorem nb_le (N : Nat) (h : N < 2 ^ 64) : nb N ≤ 8 := by
  obtain ⟨_, _, h3⟩ := bitLenAux_bounds 64 N h
  change Lib.bitLen N ≤ 64 at h3
  unfold nb; omega
/-- The bytes of the number N. -/
def num (N : Nat) : List UInt8 := be (nb N) N
theorem num_of_fits {k N : Nat} (h : N < 2 ^ 64) (hk : Fits k N) : be k N = num N := by
  rw [num, fits_unique hk (fits_nb N h)]
theorem val_num (N : Nat) (h : N < 2 ^ 64) : val (num N) = N := by
  rw [num, val_be, Nat.mod_eq_of_lt (fits_nb N h).1]
theorem num_length (N : Nat) : (num N).length = nb N := be_length _ _
end Go.Proofs.Ytjpmmbmhkpgjcaa.Nums
