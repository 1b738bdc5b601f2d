/- Texts of our own that the row of AnchorsAdmits leans on, part 3. -/
import Derived.WalkKit
/- Sums as the document words them: words of 32 bits, the schedule, a round, a block, the message, the digest. No program is spoken of. -/
namespace Go.Proofs.YtjalebncfnekiaaGreatDoor
set_option maxRecDepth 100000
namespace Sums
def kT : List Int := [1116352408, 1899447441, 3049323471, 3921009573, 961987163, 1508970993, 2453635748, 2870763221, 3624381080, 310598401, 607225278, 1426881987, 1925078388, 2162078206, 2614888103, 3248222580, 3835390401, 4022224774, 264347078, 604807628, 770255983, 1249150122, 1555081692, 1996064986, 2554220882, 2821834349, 2952996808, 3210313671, 3336571891, 3584528711, 113926993, 338241895, 666307205, 773529912, 1294757372, 1396182291, 1695183700, 1986661051, 2177026350, 2456956037, 2730485921, 2820302411, 3259730800, 3345764771, 3516065817, 3600352804, 4094571909, 275423344, 430227734, 506948616, 659060556, 883997877, 958139571, 1322822218, 1537002063, 1747873779, 1955562222, 2024104815, 2227730452, 2361852424, 2428436474, 2756734187, 3204031479, 3329325298]
def xor32 (a b : Int) : Int := bits .xor .u32 a b
def and32 (a b : Int) : Int := bits .and .u32 a b
def or32 (a b : Int) : Int := bits .or .u32 a b
def not32 (a : Int) : Int := bits .xor .u32 4294967295 a
def add32 (a b : Int) : Int := (a + b) % 4294967296
def rot (x p q : Int) : Int := or32 (x * q % 4294967296) (x / p)
structure St where
  a : Int
  b : Int
  c : Int
  d : Int
  e : Int
  f : Int
  g : Int
  h : Int
def pOf (s : St) (k w : Int) : Int :=
  add32 (add32 (add32 (add32 s.h (xor32 (xor32 (rot s.e 64 67108864) (rot s.e 2048 2097152)) (rot s.e 33554432 128))) (xor32 (and32 s.e s.f) (and32 (not32 s.e) s.g))) k) w
def qOf (s : St) : Int :=
  add32 (xor32 (xor32 (rot s.a 4 1073741824) (rot s.a 8192 524288)) (rot s.a 4194304 1024)) (xor32 (xor32 (and32 s.a s.b) (and32 s.a s.c)) (and32 s.b s.c))
def step (s : St) (k w : Int) : St := ⟨add32 (pOf s k w) (qOf s), s.a, s.b, s.c, add32 s.d (pOf s k w), s.e, s.f, s.g⟩
def run (s : St) (w : List Int) : Nat → St
  | 0 => s
  | t + 1 => step (run s w t) (kT.getD t 0) (w.getD t 0)
def nextW (l : List Int) : Int :=
  add32 (add32 (add32 (l.getD (l.length - 16) 0) (l.getD (l.length - 7) 0))
    (xor32 (xor32 (rot (l.getD (l.length - 15) 0) 128 33554432) (rot (l.getD (l.length - 15) 0) 262144 16384)) (l.getD (l.length - 15) 0 / 8)))
    (xor32 (xor32 (rot (l.getD (l.length - 2) 0) 131072 32768) (rot (l.getD (l.length - 2) 0) 524288 8192)) (l.getD (l.length - 2) 0 / 1024))
def grow (l : List Int) : Nat → List Int
  | 0 => l
  | n + 1 => grow l n ++ [nextW (grow l n)]
def wordAt (b : List UInt8) (t : Nat) : Int := (b.getD (4 * t) 0).toNat * 16777216 + (b.getD (4 * t + 1) 0).toNat * 65536 + (b.getD (4 * t + 2) 0).toNat * 256 + (b.getD (4 * t + 3) 0).toNat
def words16 (b : List UInt8) : List Int := (List.range 16).map (wordAt b)
def sched (b : List UInt8) : List Int := grow (words16 b) 48
def plus (s r : St) : St := ⟨add32 s.a r.a, add32 s.b r.b, add32 s.c r.c, add32 s.d r.d, add32 s.e r.e, add32 s.f r.f, add32 s.g r.g, add32 s.h r.h⟩
def block (s : St) (b : List UInt8) : St := plus s (run s (sched b) 64)
def blocks (s : St) (m : List UInt8) : Nat → St
  | 0 => s
  | n + 1 => block (blocks s m n) ((m.drop (64 * n)).take 64)
def be8 (n : Nat) : List UInt8 := [UInt8.ofNat (n / 72057594037927936), UInt8.ofNat (n / 281474976710656), UInt8.ofNat (n / 1099511627776), UInt8.ofNat (n / 4294967296), UInt8.ofNat (n / 16777216), UInt8.ofNat (n / 65536), UInt8.ofNat (n / 256), UInt8.ofNat n]
def nBlocks (n : Nat) : Nat := (n + 72) / 64
def pad (l : List UInt8) : List UInt8 := l ++ 128 :: (List.replicate (64 * nBlocks l.length - 9 - l.length) 0 ++ be8 (8 * l.length))
def first : St := ⟨1779033703, 3144134277, 1013904242, 2773480762, 1359893119, 2600822924, 528734635, 1541459225⟩
def St.list (s : St) : List Int := [s.a, s.b, s.c, s.d, s.e, s.f, s.g, s.h]
def bytes4 (z : Int) : List UInt8 := [UInt8.ofNat (z / 16777216).toNat, UInt8.ofNat (z / 65536).toNat, UInt8.ofNat (z / 256).toNat, UInt8.ofNat z.toNat]
def endOf (l : List UInt8) : St := blocks first (pad l) (nBlocks l.length)
def sumD (l : List UInt8) : List UInt8 := (endOf l).list.flatMap bytes4
end Sums
end Go.Proofs.YtjalebncfnekiaaGreatDoor
/- Tags by keys, as the document defines them (HMAC over SHA-256). No program is spoken of. -/
namespace Go.Proofs.YtjalebncfnekiaaGreatDoor
open Sums
set_option maxRecDepth 100000
set_option linter.unusedVariables false
def blockD (key : List UInt8) (turn : UInt8) : List UInt8 := (key ++ List.replicate 32 0).map (· ^^^ turn)
theorem blockD_length (key : List UInt8) (turn : UInt8) (h : key.length = 32) : (blockD key turn).length = 64 := by unfold blockD; simp [h]
def macD (key data : List UInt8) : List UInt8 := sumD (blockD key 92 ++ sumD (blockD key 54 ++ data))
def owner (r n : Int) : Bool := decide (1 ≤ r) && decide (r ≤ 5) && decide (1 ≤ n) && decide (n ≤ 3)
theorem owner_iff (r n : Int) : owner r n = true ↔ (1 ≤ r ∧ r ≤ 5 ∧ 1 ≤ n ∧ n ≤ 3) := by unfold owner; simp only [Bool.and_eq_true, decide_eq_true_eq]; omega
def keyD (master : List UInt8) (r n : Int) : List UInt8 := macD master [75, UInt8.ofNat r.toNat, UInt8.ofNat n.toNat]
def keyO (master : List UInt8) (r n : Int) : List UInt8 := if owner r n = true then keyD master r n else List.replicate 32 0
def keyE (r n : Int) : Int := if owner r n = true then 0 else 50
def holdE (master : List UInt8) (r n : Int) (data t : List UInt8) : Int := if owner r n = true then (if macD (keyD master r n) data = t then 0 else 72) else 50
theorem holdE_in (master : List UInt8) (r n : Int) (data t : List UInt8) (h : owner r n = true) : holdE master r n data t = if macD (keyD master r n) data = t then 0 else 72 := by unfold holdE; rw [if_pos h]
theorem holdE_out (master : List UInt8) (r n : Int) (data t : List UInt8) (h : ¬ owner r n = true) : holdE master r n data t = 50 := by unfold holdE; rw [if_neg h]
theorem keyO_in (master : List UInt8) (r n : Int) (h : owner r n = true) : keyO master r n = keyD master r n := by unfold keyO; rw [if_pos h]
theorem keyO_out (master : List UInt8) (r n : Int) (h : ¬ owner r n = true) : keyO master r n = List.replicate 32 0 := by unfold keyO; rw [if_neg h]
theorem keyD_length (hs : ∀ l, (sumD l).length = 32) (k : List UInt8) (r n : Int) : (keyD k r n).length = 32 := hs _
theorem keyO_length (hs : ∀ l, (sumD l).length = 32) (k : List UInt8) (r n : Int) : (keyO k r n).length = 32 := by
  unfold keyO; split
  · exact hs _
  · simp
theorem blockD_at (key : List UInt8) (turn : UInt8) (h : key.length = 32) (i : Nat) (hi : i < 64) : (blockD key turn)[i]? = some ((if h : i < key.length then key[i] else 0) ^^^ turn) := by
  unfold blockD
  rw [List.getElem?_map]
  by_cases hk : i < key.length
  · rw [List.getElem?_append_left hk, List.getElem?_eq_getElem hk, dif_pos hk]; rfl
  · rw [List.getElem?_append_right (by omega), List.getElem?_eq_getElem (by simp only [List.length_replicate]; omega), dif_neg hk, List.getElem_replicate]; rfl
def split (n : Nat) : Nat := if n < 2 then 0 else 2 ^ Nat.log2 (n - 1)
theorem split_two (n : Nat) (h : 2 ≤ n) : split n = 2 ^ Nat.log2 (n - 1) := by unfold split; rw [if_neg (by omega)]
theorem split_small (n : Nat) (h : n < 2) : split n = 0 := by unfold split; rw [if_pos h]
theorem split_lt (n : Nat) (h : 2 ≤ n) : split n < n := by
  rw [split_two n h]
  have := Nat.log2_self_le (n := n - 1) (by omega)
  omega
theorem split_pos (n : Nat) (h : 2 ≤ n) : 1 ≤ split n := by
  rw [split_two n h]
  exact Nat.one_le_two_pow
theorem split_dbl (n : Nat) (h : 2 ≤ n) : n ≤ 2 * split n := by
  rw [split_two n h]
  have := Nat.lt_log2_self (n := n - 1)
  rw [Nat.pow_succ] at this
  omega
theorem split_uniq (n k : Nat) (h : 2 ≤ n) (h1 : 2 ^ k < n) (h2 : n ≤ 2 * 2 ^ k) : split n = 2 ^ k := by
  rw [split_two n h]
  congr 1
  refine (Nat.log2_eq_iff (by omega)).2 ⟨by omega, ?_⟩
  rw [Nat.pow_succ]
  omega
def knotD (a b : List UInt8) : List UInt8 := sumD (1 :: (a ++ b))
def rootF : Nat → List (List UInt8) → List UInt8
  | 0, _ => []
  | f + 1, l => if l.length = 0 then sumD [] else if l.length = 1 then l.headD [] else knotD (rootF f (l.take (split l.length))) (rootF f (l.drop (split l.length)))
def root (l : List (List UInt8)) : List UInt8 := rootF (l.length + 1) l
def goesF : Nat → List (List UInt8) → Nat → Bool → List (List UInt8)
  | 0, _, _, _ => []
  | f + 1, l, m, known => if m = l.length then (if known then [] else [root l]) else
    if l.length < 2 then [] else if m ≤ split l.length then goesF f (l.take (split l.length)) m known ++ [root (l.drop (split l.length))] else goesF f (l.drop (split l.length)) (m - split l.length) false ++ [root (l.take (split l.length))]
def goes (l : List (List UInt8)) (m : Nat) (known : Bool) : List (List UInt8) := goesF (l.length + 1) l m known
def Digs32 (l : List (List UInt8)) : Prop := ∀ d ∈ l, d.length = 32
theorem Digs32.take {l : List (List UInt8)} (h : Digs32 l) (n : Nat) : Digs32 (l.take n) := fun d hd => h d (List.mem_of_mem_take hd)
theorem Digs32.drop {l : List (List UInt8)} (h : Digs32 l) (n : Nat) : Digs32 (l.drop n) := fun d hd => h d (List.mem_of_mem_drop hd)
theorem Digs32.append {l k : List (List UInt8)} (h : Digs32 l) (g : Digs32 k) : Digs32 (l ++ k) := fun d hd => by
  rcases List.mem_append.1 hd with hd | hd
  · exact h d hd
  · exact g d hd
theorem Digs32.one {d : List UInt8} (h : d.length = 32) : Digs32 [d] := fun x hx => by
  rw [List.mem_singleton.1 hx]; exact h
theorem flat_length {l : List (List UInt8)} (h : Digs32 l) : l.flatten.length = 32 * l.length := by
  induction l with
  | nil => rfl
  | cons d l ih =>
    have := ih (fun x hx => h x (List.mem_cons_of_mem _ hx))
    have := h d (List.mem_cons_self ..)
    simp only [List.flatten_cons, List.length_append, List.length_cons]
    omega
theorem flat_take {l : List (List UInt8)} (h : Digs32 l) (n : Nat) : (l.take n).flatten = l.flatten.take (32 * n) := by
  induction l generalizing n with
  | nil => simp
  | cons d l ih =>
    cases n with
    | zero => simp
    | succ n =>
      have hd := h d (List.mem_cons_self ..)
      rw [List.take_succ_cons, List.flatten_cons, List.flatten_cons, ih (fun x hx => h x (List.mem_cons_of_mem _ hx)), List.take_append, hd]
      rw [List.take_of_length_le (show d.length ≤ 32 * (n + 1) by omega), show 32 * (n + 1) - 32 = 32 * n by omega]
theorem flat_drop {l : List (List UInt8)} (h : Digs32 l) (n : Nat) : (l.drop n).flatten = l.flatten.drop (32 * n) := by
  induction l generalizing n with
  | nil => simp
  | cons d l ih =>
    cases n with
    | zero => simp
    | succ n =>
      have hd := h d (List.mem_cons_self ..)
      rw [List.drop_succ_cons, List.flatten_cons, ih (fun x hx => h x (List.mem_cons_of_mem _ hx)), List.drop_append, hd]
      rw [List.drop_eq_nil_of_le (show d.length ≤ 32 * (n + 1) by omega), show 32 * (n + 1) - 32 = 32 * n by omega]
      rfl
theorem flat_at {l : List (List UInt8)} (h : Digs32 l) (i : Nat) (hi : i < l.length) : (l.flatten.drop (32 * i)).take 32 = l[i] := by
  rw [← flat_drop h, List.drop_eq_getElem_cons hi, List.flatten_cons, List.take_left' (h _ (List.getElem_mem hi))]
end Go.Proofs.YtjalebncfnekiaaGreatDoor
/- What a leaf and a proof make, what a proof of consistency makes, and what two leaves at one place tell, as the document defines them (proofs from the last digest to the first). No program is spoken of. -/
namespace Go.Proofs.YtjalebncfnekiaaGreatDoor.P5
open Sums
set_option maxRecDepth 100000
set_option linter.unusedVariables false
def mkR : List (List UInt8) → Nat → Nat → List UInt8 → List UInt8 × Bool
  | [], s, _, x => (x, decide (s = 1))
  | d :: r, s, i, x => if s = 1 then (x, false) else if i < split s then (knotD (mkR r (split s) i x).1 d, (mkR r (split s) i x).2) else (knotD d (mkR r (s - split s) (i - split s) x).1, (mkR r (s - split s) (i - split s) x).2)
def bothR : List (List UInt8) → Nat → Nat → List UInt8 → Bool → List UInt8 × List UInt8 × Bool
  | [], m, n, x, k => (x, x, decide (m = n) && k)
  | d :: r, m, n, x, k => if m = n then (if k then (x, x, false) else (d, d, r.isEmpty)) else
      if m ≤ split n then ((bothR r m (split n) x k).1, knotD (bothR r m (split n) x k).2.1 d, (bothR r m (split n) x k).2.2)
      else (knotD d (bothR r (m - split n) (n - split n) x false).1, knotD d (bothR r (m - split n) (n - split n) x false).2.1, (bothR r (m - split n) (n - split n) x false).2.2)
theorem bothR_known (d : List UInt8) (r : List (List UInt8)) (m : Nat) (x : List UInt8) : bothR (d :: r) m m x true = (x, x, false) := by unfold bothR; rw [if_pos rfl]; rfl
theorem bothR_all (d : List UInt8) (r : List (List UInt8)) (m : Nat) (x : List UInt8) : bothR (d :: r) m m x false = (d, d, r.isEmpty) := by unfold bothR; rw [if_pos rfl]; rfl
theorem bothR_left (d : List UInt8) (r : List (List UInt8)) (m n : Nat) (x : List UInt8) (k : Bool) (h : m ≠ n) (hm : m ≤ split n) : bothR (d :: r) m n x k = ((bothR r m (split n) x k).1, knotD (bothR r m (split n) x k).2.1 d, (bothR r m (split n) x k).2.2) := by
  unfold bothR; rw [if_neg h, if_pos hm]; cases r <;> rfl
theorem bothR_right (d : List UInt8) (r : List (List UInt8)) (m n : Nat) (x : List UInt8) (k : Bool) (h : m ≠ n) (hm : ¬ m ≤ split n) : bothR (d :: r) m n x k = (knotD d (bothR r (m - split n) (n - split n) x false).1, knotD d (bothR r (m - split n) (n - split n) x false).2.1, (bothR r (m - split n) (n - split n) x false).2.2) := by
  unfold bothR; rw [if_neg h, if_neg hm]; cases r <;> rfl
theorem bothR_length (hs : ∀ l, (sumD l).length = 32) : ∀ (r : List (List UInt8)) (m n : Nat) (x : List UInt8) (k : Bool), x.length = 32 → Digs32 r → (bothR r m n x k).1.length = 32 ∧ (bothR r m n x k).2.1.length = 32
  | [], m, n, x, k, h, _ => ⟨h, h⟩
  | d :: r, m, n, x, k, h, hr => by
    have hd : d.length = 32 := hr d (by simp)
    have hr' : Digs32 r := fun z hz => hr z (List.mem_cons_of_mem _ hz)
    by_cases h1 : m = n
    · subst h1
      cases k
      · rw [bothR_all]; exact ⟨hd, hd⟩
      · rw [bothR_known]; exact ⟨h, h⟩
    · by_cases hm : m ≤ split n
      · rw [bothR_left d r m n x k h1 hm]
        exact ⟨(bothR_length hs r m (split n) x k h hr').1, hs _⟩
      · rw [bothR_right d r m n x k h1 hm]
        exact ⟨hs _, hs _⟩
theorem bothR_short (k : Nat) : ∀ (r : List (List UInt8)) (m n : Nat) (x : List UInt8) (b : Bool), 1 ≤ n → n ≤ 2 ^ k → 1 ≤ m → m ≤ n → (bothR r m n x b).2.2 = true → r.length ≤ k + 1 := by
  induction k with
  | zero =>
    intro r m n x b h0 h1 h2 h3 h
    obtain rfl : n = 1 := by simp at h1; omega
    obtain rfl : m = 1 := by omega
    match r, b with
    | [], _ => simp
    | d :: r, true => rw [bothR_known] at h; cases h
    | [d], false => simp
    | d :: e :: r, false => rw [bothR_all] at h; cases h
  | succ k ih =>
    intro r m n x b h0 h1 h2 h3 h
    cases r with
    | nil => simp
    | cons d r =>
      by_cases he : m = n
      · subst he
        cases b
        · rw [bothR_all] at h
          cases r with
          | nil => simp
          | cons e r => cases h
        · rw [bothR_known] at h; cases h
      · have s1 := split_lt n (by omega)
        have s2 := split_pos n (by omega)
        have s3 := split_dbl n (by omega)
        have hk : split n ≤ 2 ^ k := by
          rw [split_two n (by omega)]
          refine Nat.pow_le_pow_right (by omega) ?_
          have : Nat.log2 (n - 1) < k + 1 := (Nat.log2_lt (by omega)).2 (by omega)
          omega
        simp only [List.length_cons]
        by_cases hm : m ≤ split n
        · rw [bothR_left d r m n x b he hm] at h
          have := ih r m (split n) x b s2 hk h2 hm h
          omega
        · rw [bothR_right d r m n x b he hm] at h
          have := ih r (m - split n) (n - split n) x false (by omega) (by omega) (by omega) (by omega) h
          omega
end Go.Proofs.YtjalebncfnekiaaGreatDoor.P5
/- The knots on the way of a leaf, from the leaf up, each as the 64 bytes of its two digests. No program is spoken of. -/
namespace Go.Proofs.YtjalebncfnekiaaGreatDoor.P5
open Sums
set_option maxRecDepth 100000
set_option linter.unusedVariables false
def Digs64 (l : List (List UInt8)) : Prop := ∀ d ∈ l, d.length = 64
theorem Digs64.one {d : List UInt8} (h : d.length = 64) : Digs64 [d] := fun x hx => by simp at hx; rw [hx]; exact h
def kn : List (List UInt8) → Nat → Nat → List UInt8 → List (List UInt8)
  | [], _, _, _ => []
  | d :: r, s, i, x => if i < split s then kn r (split s) i x ++ [(mkR r (split s) i x).1 ++ d] else kn r (s - split s) (i - split s) x ++ [d ++ (mkR r (s - split s) (i - split s) x).1]
end Go.Proofs.YtjalebncfnekiaaGreatDoor.P5
