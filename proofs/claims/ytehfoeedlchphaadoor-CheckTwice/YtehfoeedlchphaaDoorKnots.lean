/- The knots on the way of a leaf, from the leaf up, each as the 64 bytes of its two digests. No program is spoken of. -/
import Derived.Test.YtehfoeedlchphaaDoorMakes
namespace Go.Proofs.YtehfoeedlchphaaDoor
open Sums
set_option linter.unusedVariables false

/-- Digests of 64 bytes: knots. -/
def Digs64 (l : List (List UInt8)) : Prop := ∀ d ∈ l, d.length = 64
theorem Digs64.one {d : List UInt8} (h : d.length = 64) : Digs64 [d] := fun x hx => by simp at hx; rw [hx]; exact h
theorem Digs64.app {l r : List (List UInt8)} (h1 : Digs64 l) (h2 : Digs64 r) : Digs64 (l ++ r) := fun x hx => (List.mem_append.1 hx).elim (h1 x) (h2 x)
theorem flat64 : ∀ {l : List (List UInt8)}, Digs64 l → l.flatten.length = 64 * l.length
  | [], _ => rfl
  | d :: r, h => by
    have h1 := h d (by simp)
    have h2 := flat64 (l := r) (fun x hx => h x (List.mem_cons_of_mem _ hx))
    simp only [List.flatten_cons, List.length_append, List.length_cons, h1, h2]
    omega
theorem flat64_at : ∀ {l : List (List UInt8)} (h : Digs64 l) (i : Nat) (hi : i < l.length) (j : Nat), j < 64 → l.flatten[64 * i + j]? = (l[i])[j]?
  | [], _, i, hi, _, _ => by simp at hi
  | d :: r, h, 0, hi, j, hj => by
    have h1 := h d (by simp)
    simp only [List.flatten_cons, List.getElem_cons_zero, Nat.mul_zero, Nat.zero_add]
    rw [List.getElem?_append_left (by omega)]
  | d :: r, h, i + 1, hi, j, hj => by
    have h1 := h d (by simp)
    have := flat64_at (l := r) (fun x hx => h x (List.mem_cons_of_mem _ hx)) i (by simpa using hi) j hj
    simp only [List.flatten_cons, List.getElem_cons_succ]
    rw [List.getElem?_append_right (by omega), h1, ← this]
    congr 1
    omega

/-- The knots on the way, from the leaf up. -/
def kn : List (List UInt8) → Nat → Nat → List UInt8 → List (List UInt8)
  | [], _, _, _ => []
  | d :: r, s, i, x => if i < split s then kn r (split s) i x ++ [(mkR r (split s) i x).1 ++ d] else kn r (s - split s) (i - split s) x ++ [d ++ (mkR r (s - split s) (i - split s) x).1]
theorem kn_left (d : List UInt8) (r : List (List UInt8)) (s i : Nat) (x : List UInt8) (hi : i < split s) : kn (d :: r) s i x = kn r (split s) i x ++ [(mkR r (split s) i x).1 ++ d] := by
  show (if i < split s then _ else _) = _; rw [if_pos hi]
theorem kn_right (d : List UInt8) (r : List (List UInt8)) (s i : Nat) (x : List UInt8) (hi : ¬ i < split s) : kn (d :: r) s i x = kn r (s - split s) (i - split s) x ++ [d ++ (mkR r (s - split s) (i - split s) x).1] := by
  show (if i < split s then _ else _) = _; rw [if_neg hi]
theorem kn_length : ∀ (r : List (List UInt8)) (s i : Nat) (x : List UInt8), (kn r s i x).length = r.length
  | [], _, _, _ => rfl
  | d :: r, s, i, x => by
    by_cases hi : i < split s
    · rw [kn_left d r s i x hi, List.length_append, kn_length r]; rfl
    · rw [kn_right d r s i x hi, List.length_append, kn_length r]; rfl
theorem kn_digs (hs : ∀ l, (sumD l).length = 32) : ∀ (r : List (List UInt8)) (s i : Nat) (x : List UInt8), x.length = 32 → Digs32 r → Digs64 (kn r s i x)
  | [], _, _, _, _, _ => fun d hd => by simp [kn] at hd
  | d :: r, s, i, x, hx, hr => by
    have hd : d.length = 32 := hr d (by simp)
    have hr' : Digs32 r := fun z hz => hr z (List.mem_cons_of_mem _ hz)
    by_cases hi : i < split s
    · rw [kn_left d r s i x hi]
      exact (kn_digs hs r _ _ x hx hr').app (.one (by rw [List.length_append, mkR_length hs r _ _ x hx, hd]))
    · rw [kn_right d r s i x hi]
      exact (kn_digs hs r _ _ x hx hr').app (.one (by rw [List.length_append, mkR_length hs r _ _ x hx, hd]))

/-- Two that make something of one size and index have as many digests. -/
theorem mkR_same : ∀ (p q : List (List UInt8)) (s i : Nat) (a b : List UInt8), (mkR p s i a).2 = true → (mkR q s i b).2 = true → p.length = q.length
  | [], [], _, _, _, _, _, _ => rfl
  | [], e :: q, s, i, a, b, hp, hq => by
    rw [mkR_nil] at hp
    simp only [decide_eq_true_eq] at hp
    subst hp
    rw [mkR_one] at hq
    cases hq
  | d :: r, [], s, i, a, b, hp, hq => by
    rw [mkR_nil] at hq
    simp only [decide_eq_true_eq] at hq
    subst hq
    rw [mkR_one] at hp
    cases hp
  | d :: r, e :: q, s, i, a, b, hp, hq => by
    have hne : s ≠ 1 := fun e => by subst e; rw [mkR_one] at hp; cases hp
    simp only [List.length_cons]
    by_cases hi : i < split s
    · rw [mkR_left d r s i a hne hi] at hp
      rw [mkR_left e q s i b hne hi] at hq
      rw [mkR_same r q _ _ a b hp hq]
    · rw [mkR_right d r s i a hne hi] at hp
      rw [mkR_right e q s i b hne hi] at hq
      rw [mkR_same r q _ _ a b hp hq]

/-- The first two knots that are unlike, as texts. -/
def scan : List (List UInt8) → List (List UInt8) → Option (List UInt8 × List UInt8)
  | x :: xs, y :: ys => if x = y then scan xs ys else some (1 :: x, 1 :: y)
  | _, _ => none
theorem scan_same (x : List UInt8) (xs ys : List (List UInt8)) : scan (x :: xs) (x :: ys) = scan xs ys := by show (if x = x then _ else _) = _; rw [if_pos rfl]
theorem scan_apart (x y : List UInt8) (xs ys : List (List UInt8)) (h : x ≠ y) : scan (x :: xs) (y :: ys) = some (1 :: x, 1 :: y) := by show (if x = y then _ else _) = _; rw [if_neg h]
theorem clash_scan : ∀ (p q : List (List UInt8)) (s i : Nat) (a b : List UInt8), 1 ≤ s → i < s → (mkR p s i a).2 = true → (mkR q s i b).2 = true → clashR p q s i a b = scan (kn p s i a).reverse (kn q s i b).reverse
  | [], q, s, i, a, b, h1, hi, hp, hq => by
    show none = scan [] _
    simp [scan]
  | d :: r, [], s, i, a, b, h1, hi, hp, hq => by
    have : kn [] s i b = [] := rfl
    rw [this]
    show none = scan _ []
    cases (kn (d :: r) s i a).reverse <;> rfl
  | d :: r, e :: q, s, i, a, b, h1, hi, hp, hq => by
    have hne : s ≠ 1 := fun e => by subst e; rw [mkR_one] at hp; cases hp
    have s1 := split_lt s (by omega)
    have s2 := split_pos s (by omega)
    unfold clashR
    rw [if_neg (by omega)]
    by_cases hlt : i < split s
    · rw [mkR_left d r s i a hne hlt] at hp
      rw [mkR_left e q s i b hne hlt] at hq
      have pa : pairT (d :: r) s i a = 1 :: ((mkR r (split s) i a).1 ++ d) := by show (if i < split s then _ else _) = _; rw [if_pos hlt]
      have pb : pairT (e :: q) s i b = 1 :: ((mkR q (split s) i b).1 ++ e) := by show (if i < split s then _ else _) = _; rw [if_pos hlt]
      rw [pa, pb, if_pos hlt, kn_left d r s i a hlt, kn_left e q s i b hlt, List.reverse_append, List.reverse_append]
      show _ = scan (((mkR r (split s) i a).1 ++ d) :: (kn r (split s) i a).reverse) (((mkR q (split s) i b).1 ++ e) :: (kn q (split s) i b).reverse)
      by_cases hT : (mkR r (split s) i a).1 ++ d = (mkR q (split s) i b).1 ++ e
      · rw [if_pos (by rw [hT]), hT, scan_same]
        exact clash_scan r q (split s) i a b s2 hlt hp hq
      · rw [if_neg (fun h => hT (List.cons.inj h).2), scan_apart _ _ _ _ hT]
    · rw [mkR_right d r s i a hne hlt] at hp
      rw [mkR_right e q s i b hne hlt] at hq
      have pa : pairT (d :: r) s i a = 1 :: (d ++ (mkR r (s - split s) (i - split s) a).1) := by show (if i < split s then _ else _) = _; rw [if_neg hlt]
      have pb : pairT (e :: q) s i b = 1 :: (e ++ (mkR q (s - split s) (i - split s) b).1) := by show (if i < split s then _ else _) = _; rw [if_neg hlt]
      rw [pa, pb, if_neg hlt, kn_right d r s i a hlt, kn_right e q s i b hlt, List.reverse_append, List.reverse_append]
      show _ = scan ((d ++ (mkR r (s - split s) (i - split s) a).1) :: (kn r (s - split s) (i - split s) a).reverse) ((e ++ (mkR q (s - split s) (i - split s) b).1) :: (kn q (s - split s) (i - split s) b).reverse)
      by_cases hT : d ++ (mkR r (s - split s) (i - split s) a).1 = e ++ (mkR q (s - split s) (i - split s) b).1
      · rw [if_pos (by rw [hT]), hT, scan_same]
        exact clash_scan r q (s - split s) (i - split s) a b (by omega) (by omega) hp hq
      · rw [if_neg (fun h => hT (List.cons.inj h).2), scan_apart _ _ _ _ hT]
/-- One step of the search, from the last knot down. -/
theorem scan_step (l r : List (List UInt8)) (j : Nat) (h1 : j < l.length) (h2 : j < r.length) :
    scan (l.take (j + 1)).reverse (r.take (j + 1)).reverse = if l[j] = r[j] then scan (l.take j).reverse (r.take j).reverse else some (1 :: l[j], 1 :: r[j]) := by
  rw [List.take_add_one, List.take_add_one, List.getElem?_eq_getElem h1, List.getElem?_eq_getElem h2]
  simp only [Option.toList_some, List.reverse_append, List.reverse_cons, List.reverse_nil, List.nil_append, List.singleton_append]
  rfl
end Go.Proofs.YtehfoeedlchphaaDoor
