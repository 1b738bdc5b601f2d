/- Texts of our own that the row of KeepReads leans on, part 4. -/
import Derived.WalkKit

/- Sums as the document words them: words of 32 bits, the schedule, a round, a block, the message, the digest. No program is spoken of. -/
namespace Go.Proofs.Ytjpmmbmhkpgjcaa
set_option maxRecDepth 100000
namespace Sums
def kT : List Int := [1116352408, 1899447441, 3049323471, 3921009573, 961987163, 1508970993, 2453635748, 2870763221, 3624381080, 310598401, 607225278, 1426881987, 1925078388, 2162078206, 2614888103, 3248222580, 3835390401, 4022224774, 264347078, 604807628, 770255983, 1249150122, 1555081692, 1996064986, 2554220882, 2821834349, 2952996808, 3210313671, 3336571891, 3584528711, 113926993, 338241895, 666307205, 773529912, 1294757372, 1396182291, 1695183700, 1986661051, 2177026350, 2456956037, 2730485921, 2820302411, 3259730800, 3345764771, 3516065817, 3600352804, 4094571909, 275423344, 430227734, 506948616, 659060556, 883997877, 958139571, 1322822218, 1537002063, 1747873779, 1955562222, 2024104815, 2227730452, 2361852424, 2428436474, 2756734187, 3204031479, 3329325298]
def xor32 (a b : Int) : Int := bits .xor .u32 a b
def and32 (a b : Int) : Int := bits .and .u32 a b
def or32 (a b : Int) : Int := bits .or .u32 a b
def not32 (a : Int) : Int := bits .xor .u32 4294967295 a
def add32 (a b : Int) : Int := (a + b) % 4294967296
/-- R(x, n): p is 2 to the n, q 2 to the 32 - n. -/
def rot (x p q : Int) : Int := or32 (x * q % 4294967296) (x / p)
structure St where
  a : Int
  b : Int
  c : Int
  d : Int
  e : Int
  f : Int
  g : Int
  h : Int
def pOf (s : St) (k w : Int) : Int :=
  add32 (add32 (add32 (add32 s.h (xor32 (xor32 (rot s.e 64 67108864) (rot s.e 2048 2097152)) (rot s.e 33554432 128))) (xor32 (and32 s.e s.f) (and32 (not32 s.e) s.g))) k) w
def qOf (s : St) : Int :=
  add32 (xor32 (xor32 (rot s.a 4 1073741824) (rot s.a 8192 524288)) (rot s.a 4194304 1024)) (xor32 (xor32 (and32 s.a s.b) (and32 s.a s.c)) (and32 s.b s.c))
def step (s : St) (k w : Int) : St := ⟨add32 (pOf s k w) (qOf s), s.a, s.b, s.c, add32 s.d (pOf s k w), s.e, s.f, s.g⟩
def run (s : St) (w : List Int) : Nat → St
  | 0 => s
  | t + 1 => step (run s w t) (kT.getD t 0) (w.getD t 0)
/-- W t out of the words ahead of it. -/
def nextW (l : List Int) : Int :=
  add32 (add32 (add32 (l.getD (l.length - 16) 0) (l.getD (l.length - 7) 0))
    (xor32 (xor32 (rot (l.getD (l.length - 15) 0) 128 33554432) (rot (l.getD (l.length - 15) 0) 262144 16384)) (l.getD (l.length - 15) 0 / 8)))
    (xor32 (xor32 (rot (l.getD (l.length - 2) 0) 131072 32768) (rot (l.getD (l.length - 2) 0) 524288 8192)) (l.getD (l.length - 2) 0 / 1024))
def grow (l : List Int) : Nat → List Int
  | 0 => l
  | n + 1 => grow l n ++ [nextW (grow l n)]
def wordAt (b : List UInt8) (t : Nat) : Int := (b.getD (4 * t) 0).toNat * 16777216 + (b.getD (4 * t + 1) 0).toNat * 65536 + (b.getD (4 * t + 2) 0).toNat * 256 + (b.getD (4 * t + 3) 0).toNat
def words16 (b : List UInt8) : List Int := (List.range 16).map (wordAt b)
def sched (b : List UInt8) : List Int := grow (words16 b) 48
def plus (s r : St) : St := ⟨add32 s.a r.a, add32 s.b r.b, add32 s.c r.c, add32 s.d r.d, add32 s.e r.e, add32 s.f r.f, add32 s.g r.g, add32 s.h r.h⟩
def block (s : St) (b : List UInt8) : St := plus s (run s (sched b) 64)
def blocks (s : St) (m : List UInt8) : Nat → St
  | 0 => s
  | n + 1 => block (blocks s m n) ((m.drop (64 * n)).take 64)
/-- n as 8 bytes. -/
def be8 (n : Nat) : List UInt8 := [UInt8.ofNat (n / 72057594037927936), UInt8.ofNat (n / 281474976710656), UInt8.ofNat (n / 1099511627776), UInt8.ofNat (n / 4294967296), UInt8.ofNat (n / 16777216), UInt8.ofNat (n / 65536), UInt8.ofNat (n / 256), UInt8.ofNat n]
def nBlocks (n : Nat) : Nat := (n + 72) / 64
def pad (l : List UInt8) : List UInt8 := l ++ 128 :: (List.replicate (64 * nBlocks l.length - 9 - l.length) 0 ++ be8 (8 * l.length))
def first : St := ⟨1779033703, 3144134277, 1013904242, 2773480762, 1359893119, 2600822924, 528734635, 1541459225⟩
def St.list (s : St) : List Int := [s.a, s.b, s.c, s.d, s.e, s.f, s.g, s.h]
def bytes4 (z : Int) : List UInt8 := [UInt8.ofNat (z / 16777216).toNat, UInt8.ofNat (z / 65536).toNat, UInt8.ofNat (z / 256).toNat, UInt8.ofNat z.toNat]
def endOf (l : List UInt8) : St := blocks first (pad l) (nBlocks l.length)
def sumD (l : List UInt8) : List UInt8 := (endOf l).list.flatMap bytes4
end Sums
end Go.Proofs.Ytjpmmbmhkpgjcaa

/- Tags by keys, as the document defines them (HMAC over SHA-256). No program is spoken of. -/
namespace Go.Proofs.Ytjpmmbmhkpgjcaa
open Sums
set_option maxRecDepth 100000
set_option linter.unusedVariables false

end Go.Proofs.Ytjpmmbmhkpgjcaa

/- Hash trees of lists, as the document defines them: splits, roots, proofs. No program is spoken of. -/
namespace Go.Proofs.Ytjpmmbmhkpgjcaa
open Sums
set_option maxRecDepth 100000
set_option linter.unusedVariables false
/-- The greatest power of 2 below n. -/
def split (n : Nat) : Nat := if n < 2 then 0 else 2 ^ Nat.log2 (n - 1)
/-- The knot of two digests. -/
def knotD (a b : List UInt8) : List UInt8 := sumD (1 :: (a ++ b))
/-- The root of a list, by halves (f: more than the list's length). -/
def rootF : Nat → List (List UInt8) → List UInt8
  | 0, _ => []
  | f + 1, l => if l.length = 0 then sumD [] else if l.length = 1 then l.headD [] else knotD (rootF f (l.take (split l.length))) (rootF f (l.drop (split l.length)))
/-- The root of a list. -/
def root (l : List (List UInt8)) : List UInt8 := rootF (l.length + 1) l
/-- The proof of a beginning of m, which is 1 or more, by halves. -/
def goesF : Nat → List (List UInt8) → Nat → Bool → List (List UInt8)
  | 0, _, _, _ => []
  | f + 1, l, m, known => if m = l.length then (if known then [] else [root l]) else
    if l.length < 2 then [] else if m ≤ split l.length then goesF f (l.take (split l.length)) m known ++ [root (l.drop (split l.length))] else goesF f (l.drop (split l.length)) (m - split l.length) false ++ [root (l.take (split l.length))]
/-- The proof of a beginning of m, which is 1 or more. -/
def goes (l : List (List UInt8)) (m : Nat) (known : Bool) : List (List UInt8) := goesF (l.length + 1) l m known
/-- Digests: lists of 32 bytes each. -/
def Digs32 (l : List (List UInt8)) : Prop := ∀ d ∈ l, d.length = 32
theorem Digs32.take {l : List (List UInt8)} (h : Digs32 l) (n : Nat) : Digs32 (l.take n) := fun d hd => h d (List.mem_of_mem_take hd)
theorem Digs32.drop {l : List (List UInt8)} (h : Digs32 l) (n : Nat) : Digs32 (l.drop n) := fun d hd => h d (List.mem_of_mem_drop hd)
theorem Digs32.append {l k : List (List UInt8)} (h : Digs32 l) (g : Digs32 k) : Digs32 (l ++ k) := fun d hd => by
  rcases List.mem_append.1 hd with hd | hd
  · exact h d hd
  · exact g d hd
theorem Digs32.one {d : List UInt8} (h : d.length = 32) : Digs32 [d] := fun x hx => by
  rw [List.mem_singleton.1 hx]; exact h
theorem flat_length {l : List (List UInt8)} (h : Digs32 l) : l.flatten.length = 32 * l.length := by
  induction l with
  | nil => rfl
  | cons d l ih =>
    have := ih (fun x hx => h x (List.mem_cons_of_mem _ hx))
    have := h d (List.mem_cons_self ..)
    simp only [List.flatten_cons, List.length_append, List.length_cons]
    omega
theorem flat_take {l : List (List UInt8)} (h : Digs32 l) (n : Nat) : (l.take n).flatten = l.flatten.take (32 * n) := by
  induction l generalizing n with
  | nil => simp
  | cons d l ih =>
    cases n with
    | zero => simp
    | succ n =>
      have hd := h d (List.mem_cons_self ..)
      rw [List.take_succ_cons, List.flatten_cons, List.flatten_cons, ih (fun x hx => h x (List.mem_cons_of_mem _ hx)), List.take_append, hd]
      rw [List.take_of_length_le (show d.length ≤ 32 * (n + 1) by omega), show 32 * (n + 1) - 32 = 32 * n by omega]
theorem flat_drop {l : List (List UInt8)} (h : Digs32 l) (n : Nat) : (l.drop n).flatten = l.flatten.drop (32 * n) := by
  induction l generalizing n with
  | nil => simp
  | cons d l ih =>
    cases n with
    | zero => simp
    | succ n =>
      have hd := h d (List.mem_cons_self ..)
      rw [List.drop_succ_cons, List.flatten_cons, ih (fun x hx => h x (List.mem_cons_of_mem _ hx)), List.drop_append, hd]
      rw [List.drop_eq_nil_of_le (show d.length ≤ 32 * (n + 1) by omega), show 32 * (n + 1) - 32 = 32 * n by omega]
      rfl
/-- The digest in place i, among the bytes. -/
theorem flat_at {l : List (List UInt8)} (h : Digs32 l) (i : Nat) (hi : i < l.length) : (l.flatten.drop (32 * i)).take 32 = l[i] := by
  rw [← flat_drop h, List.drop_eq_getElem_cons hi, List.flatten_cons, List.take_left' (h _ (List.getElem_mem hi))]
end Go.Proofs.Ytjpmmbmhkpgjcaa
