/- What a leaf and a proof make, what a proof of consistency makes, and what two leaves at one place tell, as the document defines them (proofs from the last digest to the first). No program is spoken of. -/
import Derived.Test.YtehfoeedlchphaaDoorTrees
namespace Go.Proofs.YtehfoeedlchphaaDoor
open Sums
set_option linter.unusedVariables false

/-- What a leaf and a proof make; false: nothing. -/
def mkR : List (List UInt8) → Nat → Nat → List UInt8 → List UInt8 × Bool
  | [], s, _, x => (x, decide (s = 1))
  | d :: r, s, i, x => if s = 1 then (x, false) else if i < split s then (knotD (mkR r (split s) i x).1 d, (mkR r (split s) i x).2) else (knotD d (mkR r (s - split s) (i - split s) x).1, (mkR r (s - split s) (i - split s) x).2)
theorem mkR_nil (s i : Nat) (x : List UInt8) : mkR [] s i x = (x, decide (s = 1)) := rfl
theorem mkR_one (d : List UInt8) (r : List (List UInt8)) (i : Nat) (x : List UInt8) : mkR (d :: r) 1 i x = (x, false) := rfl
theorem mkR_left (d : List UInt8) (r : List (List UInt8)) (s i : Nat) (x : List UInt8) (h : s ≠ 1) (hi : i < split s) : mkR (d :: r) s i x = (knotD (mkR r (split s) i x).1 d, (mkR r (split s) i x).2) := by
  unfold mkR; rw [if_neg h, if_pos hi]; cases r <;> rfl
theorem mkR_right (d : List UInt8) (r : List (List UInt8)) (s i : Nat) (x : List UInt8) (h : s ≠ 1) (hi : ¬ i < split s) : mkR (d :: r) s i x = (knotD d (mkR r (s - split s) (i - split s) x).1, (mkR r (s - split s) (i - split s) x).2) := by
  unfold mkR; rw [if_neg h, if_neg hi]; cases r <;> rfl
theorem mkR_length (hs : ∀ l, (sumD l).length = 32) : ∀ (r : List (List UInt8)) (s i : Nat) (x : List UInt8), x.length = 32 → (mkR r s i x).1.length = 32
  | [], s, i, x, h => h
  | d :: r, s, i, x, h => by
    by_cases h1 : s = 1
    · subst h1; exact h
    · by_cases hi : i < split s
      · rw [mkR_left d r s i x h1 hi]; exact hs _
      · rw [mkR_right d r s i x h1 hi]; exact hs _
/-- What the tree tells is found. -/
theorem mkR_incl (n : Nat) : ∀ (l : List (List UInt8)) (i : Nat) (hn : l.length = n) (hi : i < l.length), mkR (incl l i).reverse n i (l[i]) = (root l, true) := by
  induction n using Nat.strongRecOn with
  | _ n ih =>
    intro l i hn hi
    by_cases h1 : n = 1
    · rw [incl_one l i (by omega), root_one l (by omega), h1]
      obtain rfl : i = 0 := by omega
      match l, hn with
      | [], hn => simp at hi
      | d :: r, _ => simp [mkR]
    · have hs1 := split_lt n (by omega)
      have hs2 := split_pos n (by omega)
      by_cases hlt : i < split n
      · rw [incl_left l i (by omega) (by rw [hn]; exact hlt), hn, List.reverse_append]
        show mkR (root (l.drop (split n)) :: (incl (l.take (split n)) i).reverse) n i l[i] = _
        have ht : (l.take (split n)).length = split n := by rw [List.length_take]; omega
        have := ih (split n) hs1 (l.take (split n)) i ht (by omega)
        rw [List.getElem_take] at this
        rw [mkR_left _ _ _ _ _ h1 hlt, this, root_more l (by omega), hn]
      · rw [incl_right l i (by omega) (by rw [hn]; omega), hn, List.reverse_append]
        show mkR (root (l.take (split n)) :: (incl (l.drop (split n)) (i - split n)).reverse) n i l[i] = _
        have hd : (l.drop (split n)).length = n - split n := by rw [List.length_drop]; omega
        have := ih (n - split n) (by omega) (l.drop (split n)) (i - split n) hd (by omega)
        rw [List.getElem_drop] at this
        have e : split n + (i - split n) = i := by omega
        simp only [e] at this
        rw [mkR_right _ _ _ _ _ h1 hlt, this, root_more l (by omega), hn]
/-- A proof that makes something is short. -/
theorem mkR_short (k : Nat) : ∀ (r : List (List UInt8)) (s i : Nat) (x : List UInt8), 1 ≤ s → s ≤ 2 ^ k → (mkR r s i x).2 = true → r.length ≤ k := by
  induction k with
  | zero =>
    intro r s i x h0 h1 h
    obtain rfl : s = 1 := by simp at h1; omega
    cases r with
    | nil => simp
    | cons d r => rw [mkR_one] at h; cases h
  | succ k ih =>
    intro r s i x h0 h1 h
    cases r with
    | nil => simp
    | cons d r =>
      by_cases hs : s = 1
      · subst hs; rw [mkR_one] at h; cases h
      · have s1 := split_lt s (by omega)
        have s2 := split_pos s (by omega)
        have s3 := split_dbl s (by omega)
        have hk : split s ≤ 2 ^ k := by
          rw [split_two s (by omega)]
          refine Nat.pow_le_pow_right (by omega) ?_
          have : Nat.log2 (s - 1) < k + 1 := (Nat.log2_lt (by omega)).2 (by omega)
          omega
        simp only [List.length_cons]
        by_cases hi : i < split s
        · rw [mkR_left d r s i x hs hi] at h
          have := ih r (split s) i x s2 hk h
          omega
        · rw [mkR_right d r s i x hs hi] at h
          have := ih r (s - split s) (i - split s) x (by omega) (by omega) h
          omega

/-- What a proof of consistency makes; false: nothing. -/
def bothR : List (List UInt8) → Nat → Nat → List UInt8 → Bool → List UInt8 × List UInt8 × Bool
  | [], m, n, x, k => (x, x, decide (m = n) && k)
  | d :: r, m, n, x, k => if m = n then (if k then (x, x, false) else (d, d, r.isEmpty)) else
      if m ≤ split n then ((bothR r m (split n) x k).1, knotD (bothR r m (split n) x k).2.1 d, (bothR r m (split n) x k).2.2)
      else (knotD d (bothR r (m - split n) (n - split n) x false).1, knotD d (bothR r (m - split n) (n - split n) x false).2.1, (bothR r (m - split n) (n - split n) x false).2.2)
theorem bothR_nil (m n : Nat) (x : List UInt8) (k : Bool) : bothR [] m n x k = (x, x, decide (m = n) && k) := rfl
theorem bothR_known (d : List UInt8) (r : List (List UInt8)) (m : Nat) (x : List UInt8) : bothR (d :: r) m m x true = (x, x, false) := by unfold bothR; rw [if_pos rfl]; rfl
theorem bothR_all (d : List UInt8) (r : List (List UInt8)) (m : Nat) (x : List UInt8) : bothR (d :: r) m m x false = (d, d, r.isEmpty) := by unfold bothR; rw [if_pos rfl]; rfl
theorem bothR_left (d : List UInt8) (r : List (List UInt8)) (m n : Nat) (x : List UInt8) (k : Bool) (h : m ≠ n) (hm : m ≤ split n) : bothR (d :: r) m n x k = ((bothR r m (split n) x k).1, knotD (bothR r m (split n) x k).2.1 d, (bothR r m (split n) x k).2.2) := by
  unfold bothR; rw [if_neg h, if_pos hm]; cases r <;> rfl
theorem bothR_right (d : List UInt8) (r : List (List UInt8)) (m n : Nat) (x : List UInt8) (k : Bool) (h : m ≠ n) (hm : ¬ m ≤ split n) : bothR (d :: r) m n x k = (knotD d (bothR r (m - split n) (n - split n) x false).1, knotD d (bothR r (m - split n) (n - split n) x false).2.1, (bothR r (m - split n) (n - split n) x false).2.2) := by
  unfold bothR; rw [if_neg h, if_neg hm]; cases r <;> rfl
theorem bothR_length (hs : ∀ l, (sumD l).length = 32) : ∀ (r : List (List UInt8)) (m n : Nat) (x : List UInt8) (k : Bool), x.length = 32 → Digs32 r → (bothR r m n x k).1.length = 32 ∧ (bothR r m n x k).2.1.length = 32
  | [], m, n, x, k, h, _ => ⟨h, h⟩
  | d :: r, m, n, x, k, h, hr => by
    have hd : d.length = 32 := hr d (by simp)
    have hr' : Digs32 r := fun z hz => hr z (List.mem_cons_of_mem _ hz)
    by_cases h1 : m = n
    · subst h1
      cases k
      · rw [bothR_all]; exact ⟨hd, hd⟩
      · rw [bothR_known]; exact ⟨h, h⟩
    · by_cases hm : m ≤ split n
      · rw [bothR_left d r m n x k h1 hm]
        exact ⟨(bothR_length hs r m (split n) x k h hr').1, hs _⟩
      · rw [bothR_right d r m n x k h1 hm]
        exact ⟨hs _, hs _⟩
/-- What the tree tells is found to go on. -/
theorem bothR_goes (n : Nat) : ∀ (l : List (List UInt8)) (m : Nat) (k : Bool) (x : List UInt8), l.length = n → 1 ≤ m → m ≤ n → (k = true → x = root (l.take m)) → bothR (goes l m k).reverse m n x k = (root (l.take m), root l, true) := by
  induction n using Nat.strongRecOn with
  | _ n ih =>
    intro l m k x hn h1 hm hx
    by_cases he : m = n
    · subst he
      have ht : l.take m = l := List.take_of_length_le (by omega)
      rw [ht] at hx ⊢
      cases k
      · rw [goes_all l m hn.symm]
        show bothR [root l] m m x false = _
        rw [bothR_all]; rfl
      · rw [goes_known l m hn.symm, hx rfl]
        show bothR [] m m _ true = _
        rw [bothR_nil]; simp
    · have hs1 := split_lt n (by omega)
      have hs2 := split_pos n (by omega)
      by_cases hlt : m ≤ split n
      · rw [goes_left l m k (by omega) (by omega) (by rw [hn]; exact hlt), hn, List.reverse_append]
        show bothR (root (l.drop (split n)) :: (goes (l.take (split n)) m k).reverse) m n x k = _
        have ht : (l.take (split n)).length = split n := by rw [List.length_take]; omega
        have htt : (l.take (split n)).take m = l.take m := by rw [List.take_take, Nat.min_eq_left hlt]
        have := ih (split n) hs1 (l.take (split n)) m k x ht h1 hlt (by rw [htt]; exact hx)
        rw [htt] at this
        rw [bothR_left _ _ _ _ _ _ he hlt, this, root_more l (by omega), hn]
      · rw [goes_right l m k (by omega) (by omega) (by rw [hn]; omega), hn, List.reverse_append]
        show bothR (root (l.take (split n)) :: (goes (l.drop (split n)) (m - split n) false).reverse) m n x k = _
        have hd : (l.drop (split n)).length = n - split n := by rw [List.length_drop]; omega
        have := ih (n - split n) (by omega) (l.drop (split n)) (m - split n) false x hd (by omega) (by omega) (fun h => by cases h)
        have htl : (l.take m).length = m := by rw [List.length_take]; omega
        have hsp : split m = split n := by
          obtain ⟨p, hp⟩ := split_pow n (by omega)
          rw [hp]
          refine split_uniq m p (by omega) (by omega) ?_
          have := split_dbl n (by omega)
          omega
        have e1 : (l.take m).take (split n) = l.take (split n) := by rw [List.take_take, Nat.min_eq_left (by omega)]
        have e2 : (l.take m).drop (split n) = (l.drop (split n)).take (m - split n) := by rw [List.drop_take]
        rw [bothR_right _ _ _ _ _ _ he hlt, this, root_more l (by omega), hn, root_more (l.take m) (by omega), htl, hsp, e1, e2]
theorem bothR_short (k : Nat) : ∀ (r : List (List UInt8)) (m n : Nat) (x : List UInt8) (b : Bool), 1 ≤ n → n ≤ 2 ^ k → 1 ≤ m → m ≤ n → (bothR r m n x b).2.2 = true → r.length ≤ k + 1 := by
  induction k with
  | zero =>
    intro r m n x b h0 h1 h2 h3 h
    obtain rfl : n = 1 := by simp at h1; omega
    obtain rfl : m = 1 := by omega
    match r, b with
    | [], _ => simp
    | d :: r, true => rw [bothR_known] at h; cases h
    | [d], false => simp
    | d :: e :: r, false => rw [bothR_all] at h; cases h
  | succ k ih =>
    intro r m n x b h0 h1 h2 h3 h
    cases r with
    | nil => simp
    | cons d r =>
      by_cases he : m = n
      · subst he
        cases b
        · rw [bothR_all] at h
          cases r with
          | nil => simp
          | cons e r => cases h
        · rw [bothR_known] at h; cases h
      · have s1 := split_lt n (by omega)
        have s2 := split_pos n (by omega)
        have s3 := split_dbl n (by omega)
        have hk : split n ≤ 2 ^ k := by
          rw [split_two n (by omega)]
          refine Nat.pow_le_pow_right (by omega) ?_
          have : Nat.log2 (n - 1) < k + 1 := (Nat.log2_lt (by omega)).2 (by omega)
          omega
        simp only [List.length_cons]
        by_cases hm : m ≤ split n
        · rw [bothR_left d r m n x b he hm] at h
          have := ih r m (split n) x b s2 hk h2 hm h
          omega
        · rw [bothR_right d r m n x b he hm] at h
          have := ih r (m - split n) (n - split n) x false (by omega) (by omega) (by omega) (by omega) h
          omega

/-- The two digests that are knotted, as text. -/
def pairT : List (List UInt8) → Nat → Nat → List UInt8 → List UInt8
  | [], _, _, _ => []
  | d :: r, s, i, x => if i < split s then 1 :: ((mkR r (split s) i x).1 ++ d) else 1 :: (d ++ (mkR r (s - split s) (i - split s) x).1)
/-- What two leaves at one place tell. -/
def clashR : List (List UInt8) → List (List UInt8) → Nat → Nat → List UInt8 → List UInt8 → Option (List UInt8 × List UInt8)
  | d :: r, e :: q, s, i, a, b => if s ≤ 1 then none else if pairT (d :: r) s i a = pairT (e :: q) s i b then (if i < split s then clashR r q (split s) i a b else clashR r q (s - split s) (i - split s) a b) else some (pairT (d :: r) s i a, pairT (e :: q) s i b)
  | _, _, _, _, _, _ => none
/-- Two leaves at one place of one root tell two unlike texts with one sum. -/
theorem clashR_binds (hs : ∀ l, (sumD l).length = 32) : ∀ (p q : List (List UInt8)) (s i : Nat) (a b R : List UInt8), 1 ≤ s → i < s → a.length = 32 → b.length = 32 → a ≠ b → mkR p s i a = (R, true) → mkR q s i b = (R, true) → Digs32 p → Digs32 q →
    ∃ x y, clashR p q s i a b = some (x, y) ∧ x ≠ y ∧ sumD x = sumD y ∧ x.length = 65 ∧ y.length = 65
  | [], q, s, i, a, b, R, h1, hi, ha, hb, hab, hp, hq, dp, dq => by
    rw [mkR_nil] at hp
    simp only [Prod.mk.injEq, decide_eq_true_eq] at hp
    obtain ⟨rfl, rfl⟩ := hp
    cases q with
    | nil =>
      rw [mkR_nil] at hq
      simp only [Prod.mk.injEq] at hq
      exact absurd hq.1.symm hab
    | cons e q => rw [mkR_one] at hq; simp at hq
  | d :: r, [], s, i, a, b, R, h1, hi, ha, hb, hab, hp, hq, dp, dq => by
    rw [mkR_nil] at hq
    simp only [Prod.mk.injEq, decide_eq_true_eq] at hq
    obtain ⟨rfl, rfl⟩ := hq
    rw [mkR_one] at hp
    simp at hp
  | d :: r, e :: q, s, i, a, b, R, h1, hi, ha, hb, hab, hp, hq, dp, dq => by
    have hne : s ≠ 1 := fun e => by subst e; rw [mkR_one] at hp; simp at hp
    have hd : d.length = 32 := dp d (by simp)
    have he : e.length = 32 := dq e (by simp)
    have dp' : Digs32 r := fun z hz => dp z (List.mem_cons_of_mem _ hz)
    have dq' : Digs32 q := fun z hz => dq z (List.mem_cons_of_mem _ hz)
    have s1 := split_lt s (by omega)
    have s2 := split_pos s (by omega)
    unfold clashR
    rw [if_neg (by omega)]
    by_cases hlt : i < split s
    · rw [mkR_left d r s i a hne hlt] at hp
      rw [mkR_left e q s i b hne hlt] at hq
      simp only [Prod.mk.injEq] at hp hq
      have l1 := mkR_length hs r (split s) i a ha
      have l2 := mkR_length hs q (split s) i b hb
      have pa : pairT (d :: r) s i a = 1 :: ((mkR r (split s) i a).1 ++ d) := by show (if i < split s then _ else _) = _; rw [if_pos hlt]
      have pb : pairT (e :: q) s i b = 1 :: ((mkR q (split s) i b).1 ++ e) := by show (if i < split s then _ else _) = _; rw [if_pos hlt]
      rw [pa, pb]
      by_cases hT : (1 : UInt8) :: ((mkR r (split s) i a).1 ++ d) = 1 :: ((mkR q (split s) i b).1 ++ e)
      · rw [if_pos hT, if_pos hlt]
        have hT' := (List.cons.inj hT).2
        have hm := (List.append_inj hT' (by omega)).1
        exact clashR_binds hs r q (split s) i a b (mkR r (split s) i a).1 s2 hlt ha hb hab (by rw [← hp.2]) (by rw [hm, ← hq.2]) dp' dq'
      · rw [if_neg hT]
        exact ⟨_, _, rfl, hT, hp.1.trans hq.1.symm, by simp; omega, by simp; omega⟩
    · rw [mkR_right d r s i a hne hlt] at hp
      rw [mkR_right e q s i b hne hlt] at hq
      simp only [Prod.mk.injEq] at hp hq
      have l1 := mkR_length hs r (s - split s) (i - split s) a ha
      have l2 := mkR_length hs q (s - split s) (i - split s) b hb
      have pa : pairT (d :: r) s i a = 1 :: (d ++ (mkR r (s - split s) (i - split s) a).1) := by show (if i < split s then _ else _) = _; rw [if_neg hlt]
      have pb : pairT (e :: q) s i b = 1 :: (e ++ (mkR q (s - split s) (i - split s) b).1) := by show (if i < split s then _ else _) = _; rw [if_neg hlt]
      rw [pa, pb]
      by_cases hT : (1 : UInt8) :: (d ++ (mkR r (s - split s) (i - split s) a).1) = 1 :: (e ++ (mkR q (s - split s) (i - split s) b).1)
      · rw [if_pos hT, if_neg hlt]
        have hT' := (List.cons.inj hT).2
        have hm := (List.append_inj hT' (by omega)).2
        exact clashR_binds hs r q (s - split s) (i - split s) a b (mkR r (s - split s) (i - split s) a).1 (by omega) (by omega) ha hb hab (by rw [← hp.2]) (by rw [hm, ← hq.2]) dp' dq'
      · rw [if_neg hT]
        exact ⟨_, _, rfl, hT, hp.1.trans hq.1.symm, by simp; omega, by simp; omega⟩
end Go.Proofs.YtehfoeedlchphaaDoor
