/- Fronts of lists, as the document defines them: how many peaks, which, how a leaf comes, the root. No program is spoken of. -/
import Derived.Test.YtmpmhfagbcknnaaDoorTrees
namespace Go.Proofs.YtmpmhfagbcknnaaDoor
open Sums
set_option linter.unusedVariables false

/-- The greatest power of 2 that is not above n. -/
def hiP (n : Nat) : Nat := 2 ^ Nat.log2 n
theorem hiP_le (n : Nat) (h : 1 ≤ n) : hiP n ≤ n := Nat.log2_self_le (by omega)
theorem hiP_pos (n : Nat) : 1 ≤ hiP n := Nat.one_le_two_pow
theorem hiP_lt (n : Nat) : n < 2 * hiP n := by
  have := Nat.lt_log2_self (n := n)
  rw [Nat.pow_succ] at this
  unfold hiP
  omega
theorem hiP_uniq (n k : Nat) (h0 : 1 ≤ n) (h1 : 2 ^ k ≤ n) (h2 : n < 2 * 2 ^ k) : hiP n = 2 ^ k := by
  unfold hiP
  congr 1
  refine (Nat.log2_eq_iff (by omega)).2 ⟨h1, ?_⟩
  rw [Nat.pow_succ]
  omega

/-- How many peaks a list of n has: n's bits that are 1 (f: n or more). -/
def manyF : Nat → Nat → Nat
  | 0, _ => 0
  | f + 1, n => if n = 0 then 0 else n % 2 + manyF f (n / 2)
def many (n : Nat) : Nat := manyF n n
theorem manyF_fuel (f : Nat) : ∀ (g n : Nat), n ≤ f → n ≤ g → manyF f n = manyF g n := by
  induction f with
  | zero =>
    intro g n hf hg
    obtain rfl : n = 0 := by omega
    cases g <;> simp [manyF]
  | succ f ih =>
    intro g n hf hg
    by_cases h0 : n = 0
    · subst h0
      cases g <;> simp [manyF]
    · cases g with
      | zero => omega
      | succ g =>
        unfold manyF
        rw [if_neg h0, if_neg h0, ih g (n / 2) (by omega) (by omega)]
theorem many_zero : many 0 = 0 := rfl
theorem many_step (n : Nat) : many n = n % 2 + many (n / 2) := by
  by_cases h0 : n = 0
  · subst h0; rfl
  · unfold many
    obtain ⟨k, rfl⟩ : ∃ k, n = k + 1 := ⟨n - 1, by omega⟩
    rw [show manyF (k + 1) (k + 1) = (if k + 1 = 0 then 0 else (k + 1) % 2 + manyF k ((k + 1) / 2)) from rfl, if_neg (by omega), manyF_fuel k ((k + 1) / 2) ((k + 1) / 2) (by omega) (Nat.le_refl _)]
theorem many_hi (n : Nat) (h : 1 ≤ n) : many n = 1 + many (n - hiP n) := by
  induction n using Nat.strongRecOn with
  | _ n ih =>
    by_cases h1 : n = 1
    · subst h1
      rw [show hiP 1 = 1 from by decide +kernel]
      decide +kernel
    · have hh : hiP n = 2 * hiP (n / 2) := by
        unfold hiP
        rw [Nat.log2_def n, if_pos (by omega), Nat.pow_succ, Nat.mul_comm]
      have hle := hiP_le n h
      have hle2 := hiP_le (n / 2) (by omega)
      have := ih (n / 2) (by omega) (by omega)
      rw [many_step n, this, many_step (n - hiP n), hh]
      rw [show (n - 2 * hiP (n / 2)) % 2 = n % 2 by omega, show (n - 2 * hiP (n / 2)) / 2 = n / 2 - hiP (n / 2) by omega]
      omega
theorem many_even (n : Nat) (h : n % 2 = 0) : many (n + 1) = many n + 1 := by
  rw [many_step (n + 1), many_step n, show (n + 1) / 2 = n / 2 by omega]
  omega
theorem many_odd (n : Nat) (h : n % 2 = 1) : many (n + 1) = many (n / 2 + 1) := by
  rw [many_step (n + 1), show (n + 1) / 2 = n / 2 + 1 by omega]
  omega

/-- The peaks of a list. -/
def peaksF : Nat → List (List UInt8) → List (List UInt8)
  | 0, _ => []
  | f + 1, l => if l.length = 0 then [] else root (l.take (hiP l.length)) :: peaksF f (l.drop (hiP l.length))
def peaks (l : List (List UInt8)) : List (List UInt8) := peaksF l.length l
theorem peaksF_fuel (f : Nat) : ∀ (g : Nat) (l : List (List UInt8)), l.length ≤ f → l.length ≤ g → peaksF f l = peaksF g l := by
  induction f with
  | zero =>
    intro g l hf hg
    cases g with
    | zero => rfl
    | succ g => simp [peaksF, show l.length = 0 by omega]
  | succ f ih =>
    intro g l hf hg
    by_cases h0 : l.length = 0
    · cases g with
      | zero => simp [peaksF, h0]
      | succ g => simp [peaksF, h0]
    · cases g with
      | zero => omega
      | succ g =>
        unfold peaksF
        have := hiP_pos l.length
        rw [if_neg h0, if_neg h0, ih g (l.drop (hiP l.length)) (by simp only [List.length_drop]; omega) (by simp only [List.length_drop]; omega)]
theorem peaks_none (l : List (List UInt8)) (h : l.length = 0) : peaks l = [] := by
  unfold peaks
  rw [h]
  rfl
theorem peaks_more (l : List (List UInt8)) (h : 1 ≤ l.length) : peaks l = root (l.take (hiP l.length)) :: peaks (l.drop (hiP l.length)) := by
  have hp := hiP_pos l.length
  show peaksF l.length l = _ :: peaksF (l.drop (hiP l.length)).length _
  obtain ⟨k, hk⟩ : ∃ k, l.length = k + 1 := ⟨l.length - 1, by omega⟩
  rw [show peaksF l.length l = peaksF (k + 1) l by rw [hk], show peaksF (k + 1) l = (if l.length = 0 then [] else root (l.take (hiP l.length)) :: peaksF k (l.drop (hiP l.length))) from rfl, if_neg (by omega),
    peaksF_fuel k (l.drop (hiP l.length)).length (l.drop (hiP l.length)) (by simp only [List.length_drop]; omega) (Nat.le_refl _)]
theorem peaks_length (n : Nat) (l : List (List UInt8)) (hn : l.length = n) : (peaks l).length = many n := by
  induction n using Nat.strongRecOn generalizing l with
  | _ n ih =>
    by_cases h0 : n = 0
    · subst h0
      rw [peaks_none l hn]
      rfl
    · have hp := hiP_pos n
      rw [peaks_more l (by omega), List.length_cons, hn, ih (n - hiP n) (by omega) _ (by rw [List.length_drop, hn]), many_hi n (by omega)]
      omega
theorem peaks_digs (hs : ∀ l, (sumD l).length = 32) (n : Nat) (l : List (List UInt8)) (hn : l.length = n) (h : Digs32 l) : Digs32 (peaks l) := by
  induction n using Nat.strongRecOn generalizing l with
  | _ n ih =>
    by_cases h0 : n = 0
    · rw [peaks_none l (by omega)]; intro d hd; cases hd
    · have hp := hiP_pos n
      rw [peaks_more l (by omega), hn]
      intro d hd
      rcases List.mem_cons.1 hd with rfl | hd
      · exact root_length hs _ (h.take _)
      · exact ih (n - hiP n) (by omega) _ (by rw [List.length_drop, hn]) (h.drop _) d hd

/-- The root of peaks. -/
def rootP : List (List UInt8) → List UInt8
  | [] => sumD []
  | [d] => d
  | d :: e :: r => knotD d (rootP (e :: r))
theorem rootP_cons (d : List UInt8) (r : List (List UInt8)) (h : r ≠ []) : rootP (d :: r) = knotD d (rootP r) := by
  match r, h with
  | e :: r, _ => rfl
/-- Peaks are enough for the root. -/
theorem rootP_peaks (n : Nat) (l : List (List UInt8)) (hn : l.length = n) : rootP (peaks l) = root l := by
  induction n using Nat.strongRecOn generalizing l with
  | _ n ih =>
    by_cases h0 : n = 0
    · rw [peaks_none l (by omega), root_none l (by omega)]
      rfl
    · have hp := hiP_pos n
      have hle := hiP_le n (by omega)
      have hlt := hiP_lt n
      rw [peaks_more l (by omega), hn]
      by_cases he : n = hiP n
      · rw [peaks_none (l.drop (hiP n)) (by rw [List.length_drop, hn]; omega), List.take_of_length_le (by omega)]
        rfl
      · have hs : split n = hiP n := by
          unfold hiP
          exact split_uniq n (Nat.log2 n) (by omega) (by show hiP n < n; omega) (by show n ≤ 2 * hiP n; omega)
        have hne : peaks (l.drop (hiP n)) ≠ [] := by
          rw [peaks_more (l.drop (hiP n)) (by rw [List.length_drop, hn]; omega)]
          simp
        rw [rootP_cons _ _ hne, ih (n - hiP n) (by omega) _ (by rw [List.length_drop, hn]), root_more l (by omega), hn, hs]

/-! A leaf that comes: peaks from the last to the first, and what is carried. -/
/-- The last two give way to their knot, t times. -/
def carry : Nat → List (List UInt8) → List UInt8 → List (List UInt8)
  | 0, r, d => d :: r
  | t + 1, p :: r, d => carry t r (knotD p d)
  | _ + 1, [], d => [d]
/-- How many bits 0 n has at its low end (f: n or more). -/
def tzF : Nat → Nat → Nat
  | 0, _ => 0
  | f + 1, n => if n % 2 = 1 then 0 else 1 + tzF f (n / 2)
def tz (n : Nat) : Nat := tzF n n
theorem tzF_fuel (f : Nat) : ∀ (g n : Nat), 1 ≤ n → n ≤ f → n ≤ g → tzF f n = tzF g n := by
  induction f with
  | zero => intro g n h0 hf; omega
  | succ f ih =>
    intro g n h0 hf hg
    cases g with
    | zero => omega
    | succ g =>
      unfold tzF
      by_cases h1 : n % 2 = 1
      · rw [if_pos h1, if_pos h1]
      · rw [if_neg h1, if_neg h1, ih g (n / 2) (by omega) (by omega) (by omega)]
theorem tz_odd (n : Nat) (h : n % 2 = 1) : tz n = 0 := by
  unfold tz
  obtain ⟨k, rfl⟩ : ∃ k, n = k + 1 := ⟨n - 1, by omega⟩
  rw [show tzF (k + 1) (k + 1) = (if (k + 1) % 2 = 1 then 0 else 1 + tzF k ((k + 1) / 2)) from rfl, if_pos h]
theorem tz_even (n : Nat) (h0 : 1 ≤ n) (h : n % 2 = 0) : tz n = 1 + tz (n / 2) := by
  unfold tz
  obtain ⟨k, rfl⟩ : ∃ k, n = k + 1 := ⟨n - 1, by omega⟩
  rw [show tzF (k + 1) (k + 1) = (if (k + 1) % 2 = 1 then 0 else 1 + tzF k ((k + 1) / 2)) from rfl, if_neg (by omega), tzF_fuel k ((k + 1) / 2) ((k + 1) / 2) (by omega) (by omega) (Nat.le_refl _)]
/-- The peaks of one more. -/
def addP (n : Nat) (ps : List (List UInt8)) (d : List UInt8) : List (List UInt8) := (carry (tz (n + 1)) ps.reverse d).reverse

theorem carry_length (n : Nat) : ∀ (r : List (List UInt8)) (d : List UInt8), r.length = many n → (carry (tz (n + 1)) r d).length = many (n + 1) := by
  induction n using Nat.strongRecOn with
  | _ n ih =>
    intro r d hr
    by_cases h : n % 2 = 0
    · rw [tz_odd (n + 1) (by omega), many_even n h, ← hr]
      rfl
    · rw [tz_even (n + 1) (by omega) (by omega), show (n + 1) / 2 = n / 2 + 1 by omega, many_odd n (by omega), Nat.add_comm 1]
      match r, hr with
      | [], hr =>
        rw [many_step n] at hr
        simp at hr
        omega
      | p :: r, hr =>
        show (carry (tz (n / 2 + 1)) r (knotD p d)).length = _
        refine ih (n / 2) (by omega) r _ ?_
        rw [many_step n, List.length_cons] at hr
        omega
theorem addP_length (n : Nat) (ps : List (List UInt8)) (d : List UInt8) (h : ps.length = many n) : (addP n ps d).length = many (n + 1) := by
  unfold addP
  rw [List.length_reverse]
  exact carry_length n _ d (by rw [List.length_reverse]; exact h)
theorem addP_even (n : Nat) (ps : List (List UInt8)) (d : List UInt8) (h : n % 2 = 0) : addP n ps d = ps ++ [d] := by
  unfold addP
  rw [tz_odd (n + 1) (by omega)]
  simp [carry]

/-- Behind a list whose length a power of 2's double parts, so many more are one more peak. -/
theorem peaks_append (j : Nat) (n : Nat) (l y : List (List UInt8)) (hn : l.length = n) (hd : n % (2 * 2 ^ j) = 0) (hy : y.length = 2 ^ j) : peaks (l ++ y) = peaks l ++ [root y] := by
  induction n using Nat.strongRecOn generalizing l with
  | _ n ih =>
    have hj : 1 ≤ 2 ^ j := Nat.one_le_two_pow
    by_cases h0 : n = 0
    · have : l = [] := List.eq_nil_of_length_eq_zero (by omega)
      subst this
      have e : hiP y.length = y.length := by rw [hy]; exact hiP_uniq (2 ^ j) j hj (Nat.le_refl _) (by omega)
      rw [List.nil_append, peaks_none [] rfl, peaks_more y (by omega), e, List.take_of_length_le (Nat.le_refl _), peaks_none (y.drop y.length) (by rw [List.length_drop]; omega)]
      rfl
    · have hp := hiP_pos n
      have hle := hiP_le n (by omega)
      have hlt := hiP_lt n
      obtain ⟨q, hq⟩ : ∃ q, n = 2 * 2 ^ j * q := ⟨n / (2 * 2 ^ j), by have := Nat.div_add_mod n (2 * 2 ^ j); omega⟩
      have hq0 : 1 ≤ q := by
        rcases Nat.eq_zero_or_pos q with rfl | h
        · omega
        · exact h
      have hge : 2 * 2 ^ j ≤ n := by rw [hq]; exact Nat.le_mul_of_pos_right _ hq0
      have hlog : j + 1 ≤ Nat.log2 n := by
        refine (Nat.le_log2 (by omega)).2 ?_
        rw [Nat.pow_succ]
        omega
      obtain ⟨c, hc⟩ : ∃ c, hiP n = 2 * 2 ^ j * c := by
        refine ⟨2 ^ (Nat.log2 n - (j + 1)), ?_⟩
        unfold hiP
        rw [Nat.mul_comm 2, ← Nat.pow_succ, ← Nat.pow_add, show j.succ + (Nat.log2 n - (j + 1)) = Nat.log2 n by omega]
      have hqc : q < 2 * c := by
        have h1 : 2 * 2 ^ j * q < 2 * 2 ^ j * (2 * c) := by
          have h2 : 2 * (2 * 2 ^ j * c) = 2 * 2 ^ j * (2 * c) := Nat.mul_left_comm _ _ _
          omega
        exact Nat.lt_of_mul_lt_mul_left h1
      have hroom : n + 2 * 2 ^ j ≤ 2 * hiP n := by
        have h1 : 2 * 2 ^ j * (q + 1) ≤ 2 * 2 ^ j * (2 * c) := Nat.mul_le_mul_left _ (by omega)
        have h2 : 2 * (2 * 2 ^ j * c) = 2 * 2 ^ j * (2 * c) := Nat.mul_left_comm _ _ _
        rw [Nat.mul_add] at h1
        omega
      have hlen : (l ++ y).length = n + 2 ^ j := by rw [List.length_append, hn, hy]
      have hhi : hiP (n + 2 ^ j) = hiP n := by
        have := hiP_uniq (n + 2 ^ j) (Nat.log2 n) (by omega) (by show hiP n ≤ n + 2 ^ j; omega) (by show n + 2 ^ j < 2 * hiP n; omega)
        exact this
      have hdm : (n - hiP n) % (2 * 2 ^ j) = 0 := by
        have e : n - hiP n = 2 * 2 ^ j * (q - c) := by rw [hc, Nat.mul_sub, ← hq]
        rw [e]
        exact Nat.mul_mod_right _ _
      rw [peaks_more (l ++ y) (by omega), hlen, hhi, List.take_append_of_le_length (by omega), List.drop_append_of_le_length (by omega), ih (n - hiP n) (by omega) (l.drop (hiP n)) (by rw [List.length_drop, hn]) hdm, peaks_more l (by omega), hn]
      rfl

theorem carry_peaks (n : Nat) : ∀ (j : Nat) (l y : List (List UInt8)), l.length = 2 ^ j * n → y.length = 2 ^ j → carry (tz (n + 1)) (peaks l).reverse (root y) = (peaks (l ++ y)).reverse := by
  induction n using Nat.strongRecOn with
  | _ n ih =>
    intro j l y hl hy
    have hj : 1 ≤ 2 ^ j := Nat.one_le_two_pow
    by_cases h : n % 2 = 0
    · rw [tz_odd (n + 1) (by omega), peaks_append j l.length l y rfl (by
        rw [hl, show n = 2 * (n / 2) by omega, ← Nat.mul_assoc, Nat.mul_comm (2 ^ j) 2]
        exact Nat.mul_mod_right _ _) hy]
      simp [carry]
    · obtain ⟨m, rfl⟩ : ∃ m, n = 2 * m + 1 := ⟨n / 2, by omega⟩
      have hA : 2 ^ j * (2 * m) = 2 * 2 ^ j * m := by rw [Nat.mul_left_comm, Nat.mul_assoc]
      have hl2 : l.length = 2 * 2 ^ j * m + 2 ^ j := by rw [hl, Nat.mul_add, hA, Nat.mul_one]
      obtain ⟨z, u, rfl, hz, hu⟩ : ∃ u z : List (List UInt8), l = z ++ u ∧ u.length = 2 ^ j ∧ z.length = 2 * 2 ^ j * m :=
        ⟨l.drop (2 * 2 ^ j * m), l.take (2 * 2 ^ j * m), (List.take_append_drop _ _).symm, by rw [List.length_drop]; omega, by rw [List.length_take]; omega⟩
      have hpow : 2 ^ (j + 1) = 2 * 2 ^ j := by rw [Nat.pow_succ, Nat.mul_comm]
      have hk : root (z ++ y) = knotD (root z) (root y) := by
        have hzy : (z ++ y).length = 2 * 2 ^ j := by rw [List.length_append, hz, hy]; omega
        have hs : split (2 * 2 ^ j) = 2 ^ j := split_uniq (2 * 2 ^ j) j (by omega) (by omega) (Nat.le_refl _)
        rw [root_more (z ++ y) (by omega), hzy, hs, List.take_left' hz, List.drop_left' hz]
      rw [tz_even (2 * m + 1 + 1) (by omega) (by omega), show (2 * m + 1 + 1) / 2 = m + 1 by omega, Nat.add_comm 1, peaks_append j (2 * 2 ^ j * m) u z hu (Nat.mul_mod_right _ _) hz, List.reverse_append]
      show carry (tz (m + 1)) (peaks u).reverse (knotD (root z) (root y)) = _
      rw [← hk, ih m (by omega) (j + 1) u (z ++ y) (by rw [hu, hpow]) (by rw [List.length_append, hz, hy, hpow]; omega), List.append_assoc]
/-- The front of a list to which a leaf comes is that of the longer list. -/
theorem addP_peaks (l : List (List UInt8)) (d : List UInt8) : addP l.length (peaks l) d = peaks (l ++ [d]) := by
  unfold addP
  have := carry_peaks l.length 0 l [d] (by simp) (by simp)
  rw [show root [d] = d from root_one [d] rfl] at this
  rw [this, List.reverse_reverse]
end Go.Proofs.YtmpmhfagbcknnaaDoor
