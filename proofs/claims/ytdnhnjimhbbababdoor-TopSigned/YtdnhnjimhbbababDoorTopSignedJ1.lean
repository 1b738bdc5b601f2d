/- Texts of our own that the row of TopSigned leans on, part 1. -/
import Derived.Test.YtdnhnjimhbbababDoorProg
import Derived.WalkKit
import Derived.Lib.BitFns
import Derived.Lib.Walk
import Derived.Below
import Derived.Deep.WholeRow
import Derived.Deep.MidRow
import Derived.Stop.BytesEq
import Derived.WalkSpells
import Derived.WalkLawsBesides
import Derived.OpenShut
import Derived.BigQuiet
import Derived.BigRegion
import Derived.Deep.RegionHeld3
import Derived.Lib.BufferWrite
import Derived.OwnWalk
import Derived.OneCell
import Derived.Great.BuildSlice

/- Sums as the document words them: words of 32 bits, the schedule, a round, a block, the message, the digest. No program is spoken of. -/
namespace Go.Proofs.YtdnhnjimhbbababDoor
set_option maxRecDepth 100000
namespace Sums
def kT : List Int := [1116352408, 1899447441, 3049323471, 3921009573, 961987163, 1508970993, 2453635748, 2870763221, 3624381080, 310598401, 607225278, 1426881987, 1925078388, 2162078206, 2614888103, 3248222580, 3835390401, 4022224774, 264347078, 604807628, 770255983, 1249150122, 1555081692, 1996064986, 2554220882, 2821834349, 2952996808, 3210313671, 3336571891, 3584528711, 113926993, 338241895, 666307205, 773529912, 1294757372, 1396182291, 1695183700, 1986661051, 2177026350, 2456956037, 2730485921, 2820302411, 3259730800, 3345764771, 3516065817, 3600352804, 4094571909, 275423344, 430227734, 506948616, 659060556, 883997877, 958139571, 1322822218, 1537002063, 1747873779, 1955562222, 2024104815, 2227730452, 2361852424, 2428436474, 2756734187, 3204031479, 3329325298]
def xor32 (a b : Int) : Int := bits .xor .u32 a b
def and32 (a b : Int) : Int := bits .and .u32 a b
def or32 (a b : Int) : Int := bits .or .u32 a b
def not32 (a : Int) : Int := bits .xor .u32 4294967295 a
def add32 (a b : Int) : Int := (a + b) % 4294967296
/-- R(x, n): p is 2 to the n, q 2 to the 32 - n. -/
def rot (x p q : Int) : Int := or32 (x * q % 4294967296) (x / p)
structure St where
  a : Int
  b : Int
  c : Int
  d : Int
  e : Int
  f : Int
  g : Int
  h : Int
def pOf (s : St) (k w : Int) : Int :=
  add32 (add32 (add32 (add32 s.h (xor32 (xor32 (rot s.e 64 67108864) (rot s.e 2048 2097152)) (rot s.e 33554432 128))) (xor32 (and32 s.e s.f) (and32 (not32 s.e) s.g))) k) w
def qOf (s : St) : Int :=
  add32 (xor32 (xor32 (rot s.a 4 1073741824) (rot s.a 8192 524288)) (rot s.a 4194304 1024)) (xor32 (xor32 (and32 s.a s.b) (and32 s.a s.c)) (and32 s.b s.c))
def step (s : St) (k w : Int) : St := ⟨add32 (pOf s k w) (qOf s), s.a, s.b, s.c, add32 s.d (pOf s k w), s.e, s.f, s.g⟩
def run (s : St) (w : List Int) : Nat → St
  | 0 => s
  | t + 1 => step (run s w t) (kT.getD t 0) (w.getD t 0)
/-- W t out of the words ahead of it. -/
def nextW (l : List Int) : Int :=
  add32 (add32 (add32 (l.getD (l.length - 16) 0) (l.getD (l.length - 7) 0))
    (xor32 (xor32 (rot (l.getD (l.length - 15) 0) 128 33554432) (rot (l.getD (l.length - 15) 0) 262144 16384)) (l.getD (l.length - 15) 0 / 8)))
    (xor32 (xor32 (rot (l.getD (l.length - 2) 0) 131072 32768) (rot (l.getD (l.length - 2) 0) 524288 8192)) (l.getD (l.length - 2) 0 / 1024))
def grow (l : List Int) : Nat → List Int
  | 0 => l
  | n + 1 => grow l n ++ [nextW (grow l n)]
def wordAt (b : List UInt8) (t : Nat) : Int := (b.getD (4 * t) 0).toNat * 16777216 + (b.getD (4 * t + 1) 0).toNat * 65536 + (b.getD (4 * t + 2) 0).toNat * 256 + (b.getD (4 * t + 3) 0).toNat
def words16 (b : List UInt8) : List Int := (List.range 16).map (wordAt b)
def sched (b : List UInt8) : List Int := grow (words16 b) 48
def plus (s r : St) : St := ⟨add32 s.a r.a, add32 s.b r.b, add32 s.c r.c, add32 s.d r.d, add32 s.e r.e, add32 s.f r.f, add32 s.g r.g, add32 s.h r.h⟩
def block (s : St) (b : List UInt8) : St := plus s (run s (sched b) 64)
def blocks (s : St) (m : List UInt8) : Nat → St
  | 0 => s
  | n + 1 => block (blocks s m n) ((m.drop (64 * n)).take 64)
/-- n as 8 bytes. -/
def be8 (n : Nat) : List UInt8 := [UInt8.ofNat (n / 72057594037927936), UInt8.ofNat (n / 281474976710656), UInt8.ofNat (n / 1099511627776), UInt8.ofNat (n / 4294967296), UInt8.ofNat (n / 16777216), UInt8.ofNat (n / 65536), UInt8.ofNat (n / 256), UInt8.ofNat n]
def nBlocks (n : Nat) : Nat := (n + 72) / 64
def pad (l : List UInt8) : List UInt8 := l ++ 128 :: (List.replicate (64 * nBlocks l.length - 9 - l.length) 0 ++ be8 (8 * l.length))
def first : St := ⟨1779033703, 3144134277, 1013904242, 2773480762, 1359893119, 2600822924, 528734635, 1541459225⟩
def St.list (s : St) : List Int := [s.a, s.b, s.c, s.d, s.e, s.f, s.g, s.h]
def bytes4 (z : Int) : List UInt8 := [UInt8.ofNat (z / 16777216).toNat, UInt8.ofNat (z / 65536).toNat, UInt8.ofNat (z / 256).toNat, UInt8.ofNat z.toNat]
def endOf (l : List UInt8) : St := blocks first (pad l) (nBlocks l.length)
def sumD (l : List UInt8) : List UInt8 := (endOf l).list.flatMap bytes4
end Sums
end Go.Proofs.YtdnhnjimhbbababDoor

/- Hash trees of lists, as the document defines them: splits, roots, proofs. No program is spoken of. -/
namespace Go.Proofs.YtdnhnjimhbbababDoor
open Sums
set_option maxRecDepth 100000
set_option linter.unusedVariables false
/-- The greatest power of 2 below n. -/
def split (n : Nat) : Nat := if n < 2 then 0 else 2 ^ Nat.log2 (n - 1)
theorem split_two (n : Nat) (h : 2 ≤ n) : split n = 2 ^ Nat.log2 (n - 1) := by unfold split; rw [if_neg (by omega)]
theorem split_small (n : Nat) (h : n < 2) : split n = 0 := by unfold split; rw [if_pos h]
theorem split_lt (n : Nat) (h : 2 ≤ n) : split n < n := by
  rw [split_two n h]
  have := Nat.log2_self_le (n := n - 1) (by omega)
  omega
theorem split_pos (n : Nat) (h : 2 ≤ n) : 1 ≤ split n := by
  rw [split_two n h]
  exact Nat.one_le_two_pow
theorem split_dbl (n : Nat) (h : 2 ≤ n) : n ≤ 2 * split n := by
  rw [split_two n h]
  have := Nat.lt_log2_self (n := n - 1)
  rw [Nat.pow_succ] at this
  omega
/-- There is one such power of 2. -/
theorem split_uniq (n k : Nat) (h : 2 ≤ n) (h1 : 2 ^ k < n) (h2 : n ≤ 2 * 2 ^ k) : split n = 2 ^ k := by
  rw [split_two n h]
  congr 1
  refine (Nat.log2_eq_iff (by omega)).2 ⟨by omega, ?_⟩
  rw [Nat.pow_succ]
  omega
theorem split_pow (n : Nat) (h : 2 ≤ n) : ∃ k, split n = 2 ^ k := ⟨_, split_two n h⟩
/-- The knot of two digests. -/
def knotD (a b : List UInt8) : List UInt8 := sumD (1 :: (a ++ b))
/-- The root of a list, by halves (f: more than the list's length). -/
def rootF : Nat → List (List UInt8) → List UInt8
  | 0, _ => []
  | f + 1, l => if l.length = 0 then sumD [] else if l.length = 1 then l.headD [] else knotD (rootF f (l.take (split l.length))) (rootF f (l.drop (split l.length)))
theorem rootF_step (f : Nat) (l : List (List UInt8)) : rootF (f + 1) l = if l.length = 0 then sumD [] else if l.length = 1 then l.headD [] else knotD (rootF f (l.take (split l.length))) (rootF f (l.drop (split l.length))) := rfl
/-- The root of a list. -/
def root (l : List (List UInt8)) : List UInt8 := rootF (l.length + 1) l
theorem rootF_fuel (f : Nat) : ∀ (g : Nat) (l : List (List UInt8)), l.length < f → l.length < g → rootF f l = rootF g l := by
  induction f with
  | zero => intro g l h; omega
  | succ f ih =>
    intro g l hf hg
    match g, hg with
    | g + 1, hg =>
      unfold rootF
      by_cases h0 : l.length = 0
      · rw [if_pos h0, if_pos h0]
      · rw [if_neg h0, if_neg h0]
        by_cases h1 : l.length = 1
        · rw [if_pos h1, if_pos h1]
        · rw [if_neg h1, if_neg h1]
          have hl := split_lt l.length (by omega)
          have hp := split_pos l.length (by omega)
          rw [ih g (l.take (split l.length)) (by simp only [List.length_take]; omega) (by simp only [List.length_take]; omega), ih g (l.drop (split l.length)) (by simp only [List.length_drop]; omega) (by simp only [List.length_drop]; omega)]
theorem root_none (l : List (List UInt8)) (h : l.length = 0) : root l = sumD [] := by unfold root rootF; rw [if_pos h]
theorem root_one (l : List (List UInt8)) (h : l.length = 1) : root l = l.headD [] := by unfold root rootF; rw [if_neg (by omega), if_pos h]
theorem root_more (l : List (List UInt8)) (h : 2 ≤ l.length) : root l = knotD (root (l.take (split l.length))) (root (l.drop (split l.length))) := by
  have hl := split_lt l.length h
  have hp := split_pos l.length h
  show rootF (l.length + 1) l = knotD (rootF ((l.take (split l.length)).length + 1) _) (rootF ((l.drop (split l.length)).length + 1) _)
  rw [rootF_step l.length l, if_neg (by omega), if_neg (by omega)]
  rw [rootF_fuel l.length ((l.take (split l.length)).length + 1) (l.take (split l.length)) (by simp only [List.length_take]; omega) (by omega), rootF_fuel l.length ((l.drop (split l.length)).length + 1) (l.drop (split l.length)) (by simp only [List.length_drop]; omega) (by omega)]
/-- The proof of a place, by halves. -/
def inclF : Nat → List (List UInt8) → Nat → List (List UInt8)
  | 0, _, _ => []
  | f + 1, l, i => if l.length < 2 then [] else if i < split l.length then inclF f (l.take (split l.length)) i ++ [root (l.drop (split l.length))] else inclF f (l.drop (split l.length)) (i - split l.length) ++ [root (l.take (split l.length))]
theorem inclF_step (f : Nat) (l : List (List UInt8)) (i : Nat) : inclF (f + 1) l i = if l.length < 2 then [] else if i < split l.length then inclF f (l.take (split l.length)) i ++ [root (l.drop (split l.length))] else inclF f (l.drop (split l.length)) (i - split l.length) ++ [root (l.take (split l.length))] := rfl
/-- The proof of a place. -/
def incl (l : List (List UInt8)) (i : Nat) : List (List UInt8) := inclF (l.length + 1) l i
theorem inclF_fuel (f : Nat) : ∀ (g : Nat) (l : List (List UInt8)) (i : Nat), l.length < f → l.length < g → inclF f l i = inclF g l i := by
  induction f with
  | zero => intro g l i h; omega
  | succ f ih =>
    intro g l i hf hg
    match g, hg with
    | g + 1, hg =>
      unfold inclF
      by_cases h2 : l.length < 2
      · rw [if_pos h2, if_pos h2]
      · rw [if_neg h2, if_neg h2]
        have hl := split_lt l.length (by omega)
        have hp := split_pos l.length (by omega)
        rw [ih g (l.take (split l.length)) i (by simp only [List.length_take]; omega) (by simp only [List.length_take]; omega), ih g (l.drop (split l.length)) (i - split l.length) (by simp only [List.length_drop]; omega) (by simp only [List.length_drop]; omega)]
theorem incl_one (l : List (List UInt8)) (i : Nat) (h : l.length < 2) : incl l i = [] := by unfold incl inclF; rw [if_pos h]
theorem incl_left (l : List (List UInt8)) (i : Nat) (h : 2 ≤ l.length) (hi : i < split l.length) : incl l i = incl (l.take (split l.length)) i ++ [root (l.drop (split l.length))] := by
  have hl := split_lt l.length h
  show inclF (l.length + 1) l i = inclF ((l.take (split l.length)).length + 1) _ i ++ _
  rw [inclF_step l.length l i, if_neg (by omega), if_pos hi]
  rw [inclF_fuel l.length ((l.take (split l.length)).length + 1) (l.take (split l.length)) i (by simp only [List.length_take]; omega) (by omega)]
theorem incl_right (l : List (List UInt8)) (i : Nat) (h : 2 ≤ l.length) (hi : split l.length ≤ i) : incl l i = incl (l.drop (split l.length)) (i - split l.length) ++ [root (l.take (split l.length))] := by
  have hp := split_pos l.length h
  show inclF (l.length + 1) l i = inclF ((l.drop (split l.length)).length + 1) _ _ ++ _
  rw [inclF_step l.length l i, if_neg (by omega), if_neg (by omega)]
  rw [inclF_fuel l.length ((l.drop (split l.length)).length + 1) (l.drop (split l.length)) (i - split l.length) (by simp only [List.length_drop]; omega) (by omega)]
/-- The proof of a beginning of m, which is 1 or more, by halves. -/
def goesF : Nat → List (List UInt8) → Nat → Bool → List (List UInt8)
  | 0, _, _, _ => []
  | f + 1, l, m, known => if m = l.length then (if known then [] else [root l]) else
    if l.length < 2 then [] else if m ≤ split l.length then goesF f (l.take (split l.length)) m known ++ [root (l.drop (split l.length))] else goesF f (l.drop (split l.length)) (m - split l.length) false ++ [root (l.take (split l.length))]
theorem goesF_step (f : Nat) (l : List (List UInt8)) (m : Nat) (known : Bool) : goesF (f + 1) l m known = if m = l.length then (if known then [] else [root l]) else
    if l.length < 2 then [] else if m ≤ split l.length then goesF f (l.take (split l.length)) m known ++ [root (l.drop (split l.length))] else goesF f (l.drop (split l.length)) (m - split l.length) false ++ [root (l.take (split l.length))] := rfl
/-- The proof of a beginning of m, which is 1 or more. -/
def goes (l : List (List UInt8)) (m : Nat) (known : Bool) : List (List UInt8) := goesF (l.length + 1) l m known
theorem goesF_fuel (f : Nat) : ∀ (g : Nat) (l : List (List UInt8)) (m : Nat) (known : Bool), l.length < f → l.length < g → goesF f l m known = goesF g l m known := by
  induction f with
  | zero => intro g l m known h; omega
  | succ f ih =>
    intro g l m known hf hg
    match g, hg with
    | g + 1, hg =>
      unfold goesF
      by_cases hm : m = l.length
      · rw [if_pos hm, if_pos hm]
      · rw [if_neg hm, if_neg hm]
        by_cases h2 : l.length < 2
        · rw [if_pos h2, if_pos h2]
        · rw [if_neg h2, if_neg h2]
          have hl := split_lt l.length (by omega)
          have hp := split_pos l.length (by omega)
          rw [ih g (l.take (split l.length)) m known (by simp only [List.length_take]; omega) (by simp only [List.length_take]; omega), ih g (l.drop (split l.length)) (m - split l.length) false (by simp only [List.length_drop]; omega) (by simp only [List.length_drop]; omega)]
theorem goes_known (l : List (List UInt8)) (m : Nat) (h : m = l.length) : goes l m true = [] := by unfold goes goesF; rw [if_pos h]; rfl
theorem goes_all (l : List (List UInt8)) (m : Nat) (h : m = l.length) : goes l m false = [root l] := by unfold goes goesF; rw [if_pos h]; rfl
theorem goes_none (l : List (List UInt8)) (m : Nat) (known : Bool) (hm : ¬ m = l.length) (h : l.length < 2) : goes l m known = [] := by unfold goes goesF; rw [if_neg hm, if_pos h]
theorem goes_left (l : List (List UInt8)) (m : Nat) (known : Bool) (h : 2 ≤ l.length) (hm : m ≠ l.length) (hi : m ≤ split l.length) : goes l m known = goes (l.take (split l.length)) m known ++ [root (l.drop (split l.length))] := by
  have hl := split_lt l.length h
  show goesF (l.length + 1) l m known = goesF ((l.take (split l.length)).length + 1) _ m known ++ _
  rw [goesF_step l.length l m known, if_neg hm, if_neg (by omega), if_pos hi]
  rw [goesF_fuel l.length ((l.take (split l.length)).length + 1) (l.take (split l.length)) m known (by simp only [List.length_take]; omega) (by omega)]
theorem goes_right (l : List (List UInt8)) (m : Nat) (known : Bool) (h : 2 ≤ l.length) (hm : m ≠ l.length) (hi : split l.length < m) : goes l m known = goes (l.drop (split l.length)) (m - split l.length) false ++ [root (l.take (split l.length))] := by
  have hp := split_pos l.length h
  show goesF (l.length + 1) l m known = goesF ((l.drop (split l.length)).length + 1) _ _ false ++ _
  rw [goesF_step l.length l m known, if_neg hm, if_neg (by omega), if_neg (by omega)]
  rw [goesF_fuel l.length ((l.drop (split l.length)).length + 1) (l.drop (split l.length)) (m - split l.length) false (by simp only [List.length_drop]; omega) (by omega)]
/-- Digests: lists of 32 bytes each. -/
def Digs32 (l : List (List UInt8)) : Prop := ∀ d ∈ l, d.length = 32
theorem Digs32.take {l : List (List UInt8)} (h : Digs32 l) (n : Nat) : Digs32 (l.take n) := fun d hd => h d (List.mem_of_mem_take hd)
theorem Digs32.drop {l : List (List UInt8)} (h : Digs32 l) (n : Nat) : Digs32 (l.drop n) := fun d hd => h d (List.mem_of_mem_drop hd)
theorem Digs32.append {l k : List (List UInt8)} (h : Digs32 l) (g : Digs32 k) : Digs32 (l ++ k) := fun d hd => by
  rcases List.mem_append.1 hd with hd | hd
  · exact h d hd
  · exact g d hd
theorem Digs32.one {d : List UInt8} (h : d.length = 32) : Digs32 [d] := fun x hx => by
  rw [List.mem_singleton.1 hx]; exact h
theorem flat_length {l : List (List UInt8)} (h : Digs32 l) : l.flatten.length = 32 * l.length := by
  induction l with
  | nil => rfl
  | cons d l ih =>
    have := ih (fun x hx => h x (List.mem_cons_of_mem _ hx))
    have := h d (List.mem_cons_self ..)
    simp only [List.flatten_cons, List.length_append, List.length_cons]
    omega
theorem flat_take {l : List (List UInt8)} (h : Digs32 l) (n : Nat) : (l.take n).flatten = l.flatten.take (32 * n) := by
  induction l generalizing n with
  | nil => simp
  | cons d l ih =>
    cases n with
    | zero => simp
    | succ n =>
      have hd := h d (List.mem_cons_self ..)
      rw [List.take_succ_cons, List.flatten_cons, List.flatten_cons, ih (fun x hx => h x (List.mem_cons_of_mem _ hx)), List.take_append, hd]
      rw [List.take_of_length_le (show d.length ≤ 32 * (n + 1) by omega), show 32 * (n + 1) - 32 = 32 * n by omega]
theorem flat_drop {l : List (List UInt8)} (h : Digs32 l) (n : Nat) : (l.drop n).flatten = l.flatten.drop (32 * n) := by
  induction l generalizing n with
  | nil => simp
  | cons d l ih =>
    cases n with
    | zero => simp
    | succ n =>
      have hd := h d (List.mem_cons_self ..)
      rw [List.drop_succ_cons, List.flatten_cons, ih (fun x hx => h x (List.mem_cons_of_mem _ hx)), List.drop_append, hd]
      rw [List.drop_eq_nil_of_le (show d.length ≤ 32 * (n + 1) by omega), show 32 * (n + 1) - 32 = 32 * n by omega]
      rfl
/-- The digest in place i, among the bytes. -/
theorem flat_at {l : List (List UInt8)} (h : Digs32 l) (i : Nat) (hi : i < l.length) : (l.flatten.drop (32 * i)).take 32 = l[i] := by
  rw [← flat_drop h, List.drop_eq_getElem_cons hi, List.flatten_cons, List.take_left' (h _ (List.getElem_mem hi))]
theorem headD_mem (l : List (List UInt8)) (h : l.length = 1) : l.headD [] ∈ l := by
  match l, h with
  | [d], _ => simp
theorem root_length (hs : ∀ l, (sumD l).length = 32) (l : List (List UInt8)) (h : Digs32 l) : (root l).length = 32 := by
  by_cases h0 : l.length = 0
  · rw [root_none l h0]; exact hs _
  · by_cases h1 : l.length = 1
    · rw [root_one l h1]; exact h _ (headD_mem l h1)
    · rw [root_more l (by omega)]; exact hs _
theorem incl_digs (hs : ∀ l, (sumD l).length = 32) (n : Nat) (l : List (List UInt8)) (i : Nat) (hn : l.length = n) (h : Digs32 l) : Digs32 (incl l i) := by
  induction n using Nat.strongRecOn generalizing l i with
  | _ n ih =>
    by_cases h2 : l.length < 2
    · rw [incl_one l i h2]; intro d hd; cases hd
    · have hl := split_lt l.length (by omega)
      have hp := split_pos l.length (by omega)
      by_cases hi : i < split l.length
      · rw [incl_left l i (by omega) hi]
        exact (ih _ (by rw [← hn]; exact hl) _ i (by simp; omega) (h.take _)).append (.one (root_length hs _ (h.drop _)))
      · rw [incl_right l i (by omega) (by omega)]
        exact (ih (l.length - split l.length) (by omega) _ _ (by simp) (h.drop _)).append (.one (root_length hs _ (h.take _)))
theorem goes_digs (hs : ∀ l, (sumD l).length = 32) (n : Nat) (l : List (List UInt8)) (m : Nat) (known : Bool) (hn : l.length = n) (h : Digs32 l) : Digs32 (goes l m known) := by
  induction n using Nat.strongRecOn generalizing l m known with
  | _ n ih =>
    by_cases hm : m = l.length
    · cases known
      · rw [goes_all l m hm]; exact .one (root_length hs _ h)
      · rw [goes_known l m hm]; intro d hd; cases hd
    · by_cases h2 : l.length < 2
      · rw [goes_none l m known hm h2]; intro d hd; cases hd
      · have hl := split_lt l.length (by omega)
        have hp := split_pos l.length (by omega)
        by_cases hi : m ≤ split l.length
        · rw [goes_left l m known (by omega) hm hi]
          exact (ih _ (by rw [← hn]; exact hl) _ m known (by simp; omega) (h.take _)).append (.one (root_length hs _ (h.drop _)))
        · rw [goes_right l m known (by omega) hm (by omega)]
          exact (ih (l.length - split l.length) (by omega) _ _ _ (by simp) (h.drop _)).append (.one (root_length hs _ (h.take _)))
/-- A proof is shorter than the list. -/
theorem incl_len (l : List (List UInt8)) (i : Nat) (h : 1 ≤ l.length) : (incl l i).length + 1 ≤ l.length := by
  obtain ⟨n, hn⟩ : ∃ n, n = l.length := ⟨_, rfl⟩
  induction n using Nat.strongRecOn generalizing l i with
  | _ n ih =>
    by_cases h2 : l.length < 2
    · rw [incl_one l i h2]; simpa using h
    · have hl := split_lt l.length (by omega)
      have hp := split_pos l.length (by omega)
      by_cases hi : i < split l.length
      · rw [incl_left l i (by omega) hi, List.length_append]
        have := ih _ (by rw [hn]; exact hl) (l.take (split l.length)) i (by simp; omega) (by simp; omega)
        simp only [List.length_take, List.length_singleton] at this ⊢; omega
      · rw [incl_right l i (by omega) (by omega), List.length_append]
        have := ih (l.length - split l.length) (by omega) (l.drop (split l.length)) (i - split l.length) (by simp; omega) (by simp)
        simp only [List.length_drop, List.length_singleton] at this ⊢; omega
theorem goes_len (l : List (List UInt8)) (m : Nat) (known : Bool) (h : 1 ≤ l.length) : (goes l m known).length ≤ l.length := by
  obtain ⟨n, hn⟩ : ∃ n, n = l.length := ⟨_, rfl⟩
  induction n using Nat.strongRecOn generalizing l m known with
  | _ n ih =>
    by_cases hm : m = l.length
    · cases known
      · rw [goes_all l m hm]; simpa using h
      · rw [goes_known l m hm]; simp
    by_cases h2 : l.length < 2
    · rw [goes_none l m known hm h2]; simp
    · have hl := split_lt l.length (by omega)
      have hp := split_pos l.length (by omega)
      by_cases hi : m ≤ split l.length
      · rw [goes_left l m known (by omega) hm hi, List.length_append]
        have := ih _ (by rw [hn]; exact hl) (l.take (split l.length)) m known (by simp; omega) (by simp; omega)
        simp only [List.length_take, List.length_singleton] at this ⊢; omega
      · rw [goes_right l m known (by omega) hm (by omega), List.length_append]
        have := ih (l.length - split l.length) (by omega) (l.drop (split l.length)) (m - split l.length) false (by simp; omega) (by simp)
        simp only [List.length_drop, List.length_singleton] at this ⊢; omega
end Go.Proofs.YtdnhnjimhbbababDoor

/- Fronts of lists, as the document defines them: how many peaks, which, how a leaf comes, the root. No program is spoken of. -/
namespace Go.Proofs.YtdnhnjimhbbababDoor
open Sums
set_option maxRecDepth 100000
set_option linter.unusedVariables false
/-- The greatest power of 2 that is not above n. -/
def hiP (n : Nat) : Nat := 2 ^ Nat.log2 n
theorem hiP_le (n : Nat) (h : 1 ≤ n) : hiP n ≤ n := Nat.log2_self_le (by omega)
theorem hiP_pos (n : Nat) : 1 ≤ hiP n := Nat.one_le_two_pow
theorem hiP_lt (n : Nat) : n < 2 * hiP n := by
  have := Nat.lt_log2_self (n := n)
  rw [Nat.pow_succ] at this
  unfold hiP
  omega
theorem hiP_uniq (n k : Nat) (h0 : 1 ≤ n) (h1 : 2 ^ k ≤ n) (h2 : n < 2 * 2 ^ k) : hiP n = 2 ^ k := by
  unfold hiP
  congr 1
  refine (Nat.log2_eq_iff (by omega)).2 ⟨h1, ?_⟩
  rw [Nat.pow_succ]
  omega
/-- How many peaks a list of n has: n's bits that are 1 (f: n or more). -/
def manyF : Nat → Nat → Nat
  | 0, _ => 0
  | f + 1, n => if n = 0 then 0 else n % 2 + manyF f (n / 2)
def many (n : Nat) : Nat := manyF n n
theorem manyF_fuel (f : Nat) : ∀ (g n : Nat), n ≤ f → n ≤ g → manyF f n = manyF g n := by
  induction f with
  | zero =>
    intro g n hf hg
    obtain rfl : n = 0 := by omega
    cases g <;> simp [manyF]
  | succ f ih =>
    intro g n hf hg
    by_cases h0 : n = 0
    · subst h0
      cases g <;> simp [manyF]
    · cases g with
      | zero => omega
      | succ g =>
        unfold manyF
        rw [if_neg h0, if_neg h0, ih g (n / 2) (by omega) (by omega)]
theorem many_zero : many 0 = 0 := rfl
theorem many_step (n : Nat) : many n = n % 2 + many (n / 2) := by
  by_cases h0 : n = 0
  · subst h0; rfl
  · unfold many
    obtain ⟨k, rfl⟩ : ∃ k, n = k + 1 := ⟨n - 1, by omega⟩
    rw [show manyF (k + 1) (k + 1) = (if k + 1 = 0 then 0 else (k + 1) % 2 + manyF k ((k + 1) / 2)) from rfl, if_neg (by omega), manyF_fuel k ((k + 1) / 2) ((k + 1) / 2) (by omega) (Nat.le_refl _)]
theorem many_hi (n : Nat) (h : 1 ≤ n) : many n = 1 + many (n - hiP n) := by
  induction n using Nat.strongRecOn with
  | _ n ih =>
    by_cases h1 : n = 1
    · subst h1
      rw [show hiP 1 = 1 from by decide +kernel]
      decide +kernel
    · have hh : hiP n = 2 * hiP (n / 2) := by
        unfold hiP
        rw [Nat.log2_def n, if_pos (by omega), Nat.pow_succ, Nat.mul_comm]
      have hle := hiP_le n h
      have hle2 := hiP_le (n / 2) (by omega)
      have := ih (n / 2) (by omega) (by omega)
      rw [many_step n, this, many_step (n - hiP n), hh]
      rw [show (n - 2 * hiP (n / 2)) % 2 = n % 2 by omega, show (n - 2 * hiP (n / 2)) / 2 = n / 2 - hiP (n / 2) by omega]
      omega
/-- The peaks of a list. -/
def peaksF : Nat → List (List UInt8) → List (List UInt8)
  | 0, _ => []
  | f + 1, l => if l.length = 0 then [] else root (l.take (hiP l.length)) :: peaksF f (l.drop (hiP l.length))
def peaks (l : List (List UInt8)) : List (List UInt8) := peaksF l.length l
theorem peaksF_fuel (f : Nat) : ∀ (g : Nat) (l : List (List UInt8)), l.length ≤ f → l.length ≤ g → peaksF f l = peaksF g l := by
  induction f with
  | zero =>
    intro g l hf hg
    cases g with
    | zero => rfl
    | succ g => simp [peaksF, show l.length = 0 by omega]
  | succ f ih =>
    intro g l hf hg
    by_cases h0 : l.length = 0
    · cases g with
      | zero => simp [peaksF, h0]
      | succ g => simp [peaksF, h0]
    · cases g with
      | zero => omega
      | succ g =>
        unfold peaksF
        have := hiP_pos l.length
        rw [if_neg h0, if_neg h0, ih g (l.drop (hiP l.length)) (by simp only [List.length_drop]; omega) (by simp only [List.length_drop]; omega)]
theorem peaks_none (l : List (List UInt8)) (h : l.length = 0) : peaks l = [] := by
  unfold peaks
  rw [h]
  rfl
theorem peaks_more (l : List (List UInt8)) (h : 1 ≤ l.length) : peaks l = root (l.take (hiP l.length)) :: peaks (l.drop (hiP l.length)) := by
  have hp := hiP_pos l.length
  show peaksF l.length l = _ :: peaksF (l.drop (hiP l.length)).length _
  obtain ⟨k, hk⟩ : ∃ k, l.length = k + 1 := ⟨l.length - 1, by omega⟩
  rw [show peaksF l.length l = peaksF (k + 1) l by rw [hk], show peaksF (k + 1) l = (if l.length = 0 then [] else root (l.take (hiP l.length)) :: peaksF k (l.drop (hiP l.length))) from rfl, if_neg (by omega),
    peaksF_fuel k (l.drop (hiP l.length)).length (l.drop (hiP l.length)) (by simp only [List.length_drop]; omega) (Nat.le_refl _)]
theorem peaks_length (n : Nat) (l : List (List UInt8)) (hn : l.length = n) : (peaks l).length = many n := by
  induction n using Nat.strongRecOn generalizing l with
  | _ n ih =>
    by_cases h0 : n = 0
    · subst h0
      rw [peaks_none l hn]
      rfl
    · have hp := hiP_pos n
      rw [peaks_more l (by omega), List.length_cons, hn, ih (n - hiP n) (by omega) _ (by rw [List.length_drop, hn]), many_hi n (by omega)]
      omega
/-- The root of peaks. -/
def rootP : List (List UInt8) → List UInt8
  | [] => sumD []
  | [d] => d
  | d :: e :: r => knotD d (rootP (e :: r))
theorem rootP_cons (d : List UInt8) (r : List (List UInt8)) (h : r ≠ []) : rootP (d :: r) = knotD d (rootP r) := by
  match r, h with
  | e :: r, _ => rfl
/-- Peaks are enough for the root. -/
theorem rootP_peaks (n : Nat) (l : List (List UInt8)) (hn : l.length = n) : rootP (peaks l) = root l := by
  induction n using Nat.strongRecOn generalizing l with
  | _ n ih =>
    by_cases h0 : n = 0
    · rw [peaks_none l (by omega), root_none l (by omega)]
      rfl
    · have hp := hiP_pos n
      have hle := hiP_le n (by omega)
      have hlt := hiP_lt n
      rw [peaks_more l (by omega), hn]
      by_cases he : n = hiP n
      · rw [peaks_none (l.drop (hiP n)) (by rw [List.length_drop, hn]; omega), List.take_of_length_le (by omega)]
        rfl
      · have hs : split n = hiP n := by
          unfold hiP
          exact split_uniq n (Nat.log2 n) (by omega) (by show hiP n < n; omega) (by show n ≤ 2 * hiP n; omega)
        have hne : peaks (l.drop (hiP n)) ≠ [] := by
          rw [peaks_more (l.drop (hiP n)) (by rw [List.length_drop, hn]; omega)]
          simp
        rw [rootP_cons _ _ hne, ih (n - hiP n) (by omega) _ (by rw [List.length_drop, hn]), root_more l (by omega), hn, hs]
/-! A leaf that comes: peaks from the last to the first, and what is carried. -/
/-- The last two give way to their knot, t times. -/
def carry : Nat → List (List UInt8) → List UInt8 → List (List UInt8)
  | 0, r, d => d :: r
  | t + 1, p :: r, d => carry t r (knotD p d)
  | _ + 1, [], d => [d]
/-- How many bits 0 n has at its low end (f: n or more). -/
def tzF : Nat → Nat → Nat
  | 0, _ => 0
  | f + 1, n => if n % 2 = 1 then 0 else 1 + tzF f (n / 2)
def tz (n : Nat) : Nat := tzF n n
theorem tzF_fuel (f : Nat) : ∀ (g n : Nat), 1 ≤ n → n ≤ f → n ≤ g → tzF f n = tzF g n := by
  induction f with
  | zero => intro g n h0 hf; omega
  | succ f ih =>
    intro g n h0 hf hg
    cases g with
    | zero => omega
    | succ g =>
      unfold tzF
      by_cases h1 : n % 2 = 1
      · rw [if_pos h1, if_pos h1]
      · rw [if_neg h1, if_neg h1, ih g (n / 2) (by omega) (by omega) (by omega)]
theorem tz_odd (n : Nat) (h : n % 2 = 1) : tz n = 0 := by
  unfold tz
  obtain ⟨k, rfl⟩ : ∃ k, n = k + 1 := ⟨n - 1, by omega⟩
  rw [show tzF (k + 1) (k + 1) = (if (k + 1) % 2 = 1 then 0 else 1 + tzF k ((k + 1) / 2)) from rfl, if_pos h]
theorem tz_even (n : Nat) (h0 : 1 ≤ n) (h : n % 2 = 0) : tz n = 1 + tz (n / 2) := by
  unfold tz
  obtain ⟨k, rfl⟩ : ∃ k, n = k + 1 := ⟨n - 1, by omega⟩
  rw [show tzF (k + 1) (k + 1) = (if (k + 1) % 2 = 1 then 0 else 1 + tzF k ((k + 1) / 2)) from rfl, if_neg (by omega), tzF_fuel k ((k + 1) / 2) ((k + 1) / 2) (by omega) (by omega) (Nat.le_refl _)]
/-- The peaks of one more. -/
def addP (n : Nat) (ps : List (List UInt8)) (d : List UInt8) : List (List UInt8) := (carry (tz (n + 1)) ps.reverse d).reverse
/-- Behind a list whose length a power of 2's double parts, so many more are one more peak. -/
theorem peaks_append (j : Nat) (n : Nat) (l y : List (List UInt8)) (hn : l.length = n) (hd : n % (2 * 2 ^ j) = 0) (hy : y.length = 2 ^ j) : peaks (l ++ y) = peaks l ++ [root y] := by
  induction n using Nat.strongRecOn generalizing l with
  | _ n ih =>
    have hj : 1 ≤ 2 ^ j := Nat.one_le_two_pow
    by_cases h0 : n = 0
    · have : l = [] := List.eq_nil_of_length_eq_zero (by omega)
      subst this
      have e : hiP y.length = y.length := by rw [hy]; exact hiP_uniq (2 ^ j) j hj (Nat.le_refl _) (by omega)
      rw [List.nil_append, peaks_none [] rfl, peaks_more y (by omega), e, List.take_of_length_le (Nat.le_refl _), peaks_none (y.drop y.length) (by rw [List.length_drop]; omega)]
      rfl
    · have hp := hiP_pos n
      have hle := hiP_le n (by omega)
      have hlt := hiP_lt n
      obtain ⟨q, hq⟩ : ∃ q, n = 2 * 2 ^ j * q := ⟨n / (2 * 2 ^ j), by have := Nat.div_add_mod n (2 * 2 ^ j); omega⟩
      have hq0 : 1 ≤ q := by
        rcases Nat.eq_zero_or_pos q with rfl | h
        · omega
        · exact h
      have hge : 2 * 2 ^ j ≤ n := by rw [hq]; exact Nat.le_mul_of_pos_right _ hq0
      have hlog : j + 1 ≤ Nat.log2 n := by
        refine (Nat.le_log2 (by omega)).2 ?_
        rw [Nat.pow_succ]
        omega
      obtain ⟨c, hc⟩ : ∃ c, hiP n = 2 * 2 ^ j * c := by
        refine ⟨2 ^ (Nat.log2 n - (j + 1)), ?_⟩
        unfold hiP
        rw [Nat.mul_comm 2, ← Nat.pow_succ, ← Nat.pow_add, show j.succ + (Nat.log2 n - (j + 1)) = Nat.log2 n by omega]
      have hqc : q < 2 * c := by
        have h1 : 2 * 2 ^ j * q < 2 * 2 ^ j * (2 * c) := by
          have h2 : 2 * (2 * 2 ^ j * c) = 2 * 2 ^ j * (2 * c) := Nat.mul_left_comm _ _ _
          omega
        exact Nat.lt_of_mul_lt_mul_left h1
      have hroom : n + 2 * 2 ^ j ≤ 2 * hiP n := by
        have h1 : 2 * 2 ^ j * (q + 1) ≤ 2 * 2 ^ j * (2 * c) := Nat.mul_le_mul_left _ (by omega)
        have h2 : 2 * (2 * 2 ^ j * c) = 2 * 2 ^ j * (2 * c) := Nat.mul_left_comm _ _ _
        rw [Nat.mul_add] at h1
        omega
      have hlen : (l ++ y).length = n + 2 ^ j := by rw [List.length_append, hn, hy]
      have hhi : hiP (n + 2 ^ j) = hiP n := by
        have := hiP_uniq (n + 2 ^ j) (Nat.log2 n) (by omega) (by show hiP n ≤ n + 2 ^ j; omega) (by show n + 2 ^ j < 2 * hiP n; omega)
        exact this
      have hdm : (n - hiP n) % (2 * 2 ^ j) = 0 := by
        have e : n - hiP n = 2 * 2 ^ j * (q - c) := by rw [hc, Nat.mul_sub, ← hq]
        rw [e]
        exact Nat.mul_mod_right _ _
      rw [peaks_more (l ++ y) (by omega), hlen, hhi, List.take_append_of_le_length (by omega), List.drop_append_of_le_length (by omega), ih (n - hiP n) (by omega) (l.drop (hiP n)) (by rw [List.length_drop, hn]) hdm, peaks_more l (by omega), hn]
      rfl
theorem carry_peaks (n : Nat) : ∀ (j : Nat) (l y : List (List UInt8)), l.length = 2 ^ j * n → y.length = 2 ^ j → carry (tz (n + 1)) (peaks l).reverse (root y) = (peaks (l ++ y)).reverse := by
  induction n using Nat.strongRecOn with
  | _ n ih =>
    intro j l y hl hy
    have hj : 1 ≤ 2 ^ j := Nat.one_le_two_pow
    by_cases h : n % 2 = 0
    · rw [tz_odd (n + 1) (by omega), peaks_append j l.length l y rfl (by
        rw [hl, show n = 2 * (n / 2) by omega, ← Nat.mul_assoc, Nat.mul_comm (2 ^ j) 2]
        exact Nat.mul_mod_right _ _) hy]
      simp [carry]
    · obtain ⟨m, rfl⟩ : ∃ m, n = 2 * m + 1 := ⟨n / 2, by omega⟩
      have hA : 2 ^ j * (2 * m) = 2 * 2 ^ j * m := by rw [Nat.mul_left_comm, Nat.mul_assoc]
      have hl2 : l.length = 2 * 2 ^ j * m + 2 ^ j := by rw [hl, Nat.mul_add, hA, Nat.mul_one]
      obtain ⟨z, u, rfl, hz, hu⟩ : ∃ u z : List (List UInt8), l = z ++ u ∧ u.length = 2 ^ j ∧ z.length = 2 * 2 ^ j * m :=
        ⟨l.drop (2 * 2 ^ j * m), l.take (2 * 2 ^ j * m), (List.take_append_drop _ _).symm, by rw [List.length_drop]; omega, by rw [List.length_take]; omega⟩
      have hpow : 2 ^ (j + 1) = 2 * 2 ^ j := by rw [Nat.pow_succ, Nat.mul_comm]
      have hk : root (z ++ y) = knotD (root z) (root y) := by
        have hzy : (z ++ y).length = 2 * 2 ^ j := by rw [List.length_append, hz, hy]; omega
        have hs : split (2 * 2 ^ j) = 2 ^ j := split_uniq (2 * 2 ^ j) j (by omega) (by omega) (Nat.le_refl _)
        rw [root_more (z ++ y) (by omega), hzy, hs, List.take_left' hz, List.drop_left' hz]
      rw [tz_even (2 * m + 1 + 1) (by omega) (by omega), show (2 * m + 1 + 1) / 2 = m + 1 by omega, Nat.add_comm 1, peaks_append j (2 * 2 ^ j * m) u z hu (Nat.mul_mod_right _ _) hz, List.reverse_append]
      show carry (tz (m + 1)) (peaks u).reverse (knotD (root z) (root y)) = _
      rw [← hk, ih m (by omega) (j + 1) u (z ++ y) (by rw [hu, hpow]) (by rw [List.length_append, hz, hy, hpow]; omega), List.append_assoc]
/-- The front of a list to which a leaf comes is that of the longer list. -/
theorem addP_peaks (l : List (List UInt8)) (d : List UInt8) : addP l.length (peaks l) d = peaks (l ++ [d]) := by
  unfold addP
  have := carry_peaks l.length 0 l [d] (by simp) (by simp)
  rw [show root [d] = d from root_one [d] rfl] at this
  rw [this, List.reverse_reverse]
end Go.Proofs.YtdnhnjimhbbababDoor

/- What tree.Split answers: the greatest power of 2 below a number. -/
namespace Go.Proofs.YtdnhnjimhbbababDoor
open Go.RowKit
set_option maxRecDepth 100000
set_option linter.unusedVariables false
set_option linter.unusedSimpArgs false
theorem bitLen_log (x : Nat) (h0 : x ≠ 0) (h : x < 2 ^ 64) : Lib.bitLen x = Nat.log2 x + 1 := by
  induction x using Nat.strongRecOn with
  | _ x ih =>
    rw [Lib.bitLen_half x h0 h, Nat.log2_def]
    by_cases h2 : 2 ≤ x
    · rw [if_pos h2, ih (x / 2) (by omega) (by omega) (by omega)]
      omega
    · obtain rfl : x = 1 := by omega
      decide +kernel
theorem log_end (x y z : Int) (k : Nat) (h0 : 0 ≤ x) (hx : x < 18446744073709551616) (hy0 : 0 ≤ y) (hy : y ≤ 255) (e : y.toNat = x.toNat / 2 ^ k) (hk : 2 ^ k ≤ x.toNat ∨ k = 0) (hz : z = (k : Int)) : z + Lib.len8 y = (Lib.bitLen x.toNat : Int) := by
  rw [Lib.len8_of y hy0 hy, e, hz]
  rcases hk with hk | rfl
  · rw [Lib.bitLen_shift k x.toNat hk (by omega)]; omega
  · rw [Nat.pow_zero, Nat.div_one]; omega
theorem len8_le (y : Int) (h0 : 0 ≤ y) (h1 : y ≤ 255) : 0 ≤ Lib.len8 y ∧ Lib.len8 y ≤ 8 := by
  rw [Lib.len8_of y h0 h1]
  have := Lib.bitLen_le8' y h0 h1
  omega
set_option maxHeartbeats 4000000 in
set_option maxRecDepth 100000 in
theorem len64_any (x : Int) (w : World) (h0 : 0 ≤ x) (h1 : x ≤ 9223372036854775807) :
    Calls Tryd.prog 88 #[.int .u64 x] w fun e w' => e = .returned (.int .i64 (Lib.bitLen x.toNat)) ∧ w = w' := by
  have all : ∀ Y : Int, 0 ≤ Y → Y ≤ 255 → ∃ v, Hid (v = Lib.len8 Y) ∧ (∀ W, (Instr.index 9 (.string Lib.len8tab) (.int .u8 Y)).run Tryd.prog W = .ok (.int .u8 v) W) ∧ 0 ≤ v ∧ v ≤ 8 := fun Y a b =>
    ⟨_, (rfl : Lib.len8 Y = _), fun W => Lib.run_index_len8tab W 9 .u8 Y Tryd.underlying9 a b, (len8_le Y a b).1, (len8_le Y a b).2⟩
  by_cases c0 : 4294967296 ≤ x
  · by_cases c1 : 65536 ≤ x / 4294967296
    · by_cases c2 : 256 ≤ x / 4294967296 / 65536
      · obtain ⟨v, HV, hi, hv0, hv1⟩ := all (x / 4294967296 / 65536 / 256) (by omega) (by omega)
        have e := log_end x (x / 4294967296 / 65536 / 256) 56 56 h0 (by omega) (by omega) (by omega) (by omega) (.inl (by omega)) rfl
        rw [← HV.out] at e
        clear all HV
        go_enter Tryd.func88, Tryd.ntmps88
        go_wp2
        go_ret
        refine ⟨congrArg Ending.returned (congrArg (Value.int IntKind.i64) ?_), rfl⟩
        rw [← e]
        first | done | (unfold wrap64; omega) | omega
      · obtain ⟨v, HV, hi, hv0, hv1⟩ := all (x / 4294967296 / 65536) (by omega) (by omega)
        have e := log_end x (x / 4294967296 / 65536) 48 48 h0 (by omega) (by omega) (by omega) (by omega) (.inl (by omega)) rfl
        rw [← HV.out] at e
        clear all HV
        go_enter Tryd.func88, Tryd.ntmps88
        go_wp2
        go_ret
        refine ⟨congrArg Ending.returned (congrArg (Value.int IntKind.i64) ?_), rfl⟩
        rw [← e]
        first | done | (unfold wrap64; omega) | omega
    · by_cases c2 : 256 ≤ x / 4294967296
      · obtain ⟨v, HV, hi, hv0, hv1⟩ := all (x / 4294967296 / 256) (by omega) (by omega)
        have e := log_end x (x / 4294967296 / 256) 40 40 h0 (by omega) (by omega) (by omega) (by omega) (.inl (by omega)) rfl
        rw [← HV.out] at e
        clear all HV
        go_enter Tryd.func88, Tryd.ntmps88
        go_wp2
        go_ret
        refine ⟨congrArg Ending.returned (congrArg (Value.int IntKind.i64) ?_), rfl⟩
        rw [← e]
        first | done | (unfold wrap64; omega) | omega
      · obtain ⟨v, HV, hi, hv0, hv1⟩ := all (x / 4294967296) (by omega) (by omega)
        have e := log_end x (x / 4294967296) 32 32 h0 (by omega) (by omega) (by omega) (by omega) (.inl (by omega)) rfl
        rw [← HV.out] at e
        clear all HV
        go_enter Tryd.func88, Tryd.ntmps88
        go_wp2
        go_ret
        refine ⟨congrArg Ending.returned (congrArg (Value.int IntKind.i64) ?_), rfl⟩
        rw [← e]
        first | done | (unfold wrap64; omega) | omega
  · by_cases c1 : 65536 ≤ x
    · by_cases c2 : 256 ≤ x / 65536
      · obtain ⟨v, HV, hi, hv0, hv1⟩ := all (x / 65536 / 256) (by omega) (by omega)
        have e := log_end x (x / 65536 / 256) 24 24 h0 (by omega) (by omega) (by omega) (by omega) (.inl (by omega)) rfl
        rw [← HV.out] at e
        clear all HV
        go_enter Tryd.func88, Tryd.ntmps88
        go_wp2
        go_ret
        refine ⟨congrArg Ending.returned (congrArg (Value.int IntKind.i64) ?_), rfl⟩
        rw [← e]
        first | done | (unfold wrap64; omega) | omega
      · obtain ⟨v, HV, hi, hv0, hv1⟩ := all (x / 65536) (by omega) (by omega)
        have e := log_end x (x / 65536) 16 16 h0 (by omega) (by omega) (by omega) (by omega) (.inl (by omega)) rfl
        rw [← HV.out] at e
        clear all HV
        go_enter Tryd.func88, Tryd.ntmps88
        go_wp2
        go_ret
        refine ⟨congrArg Ending.returned (congrArg (Value.int IntKind.i64) ?_), rfl⟩
        rw [← e]
        first | done | (unfold wrap64; omega) | omega
    · by_cases c2 : 256 ≤ x
      · obtain ⟨v, HV, hi, hv0, hv1⟩ := all (x / 256) (by omega) (by omega)
        have e := log_end x (x / 256) 8 8 h0 (by omega) (by omega) (by omega) (by omega) (.inl (by omega)) rfl
        rw [← HV.out] at e
        clear all HV
        go_enter Tryd.func88, Tryd.ntmps88
        go_wp2
        go_ret
        refine ⟨congrArg Ending.returned (congrArg (Value.int IntKind.i64) ?_), rfl⟩
        rw [← e]
        first | done | (unfold wrap64; omega) | omega
      · obtain ⟨v, HV, hi, hv0, hv1⟩ := all (x) (by omega) (by omega)
        have e := log_end x (x) 0 0 h0 (by omega) (by omega) (by omega) (by omega) (.inr rfl) rfl
        rw [← HV.out] at e
        clear all HV
        go_enter Tryd.func88, Tryd.ntmps88
        go_wp2
        go_ret
        refine ⟨congrArg Ending.returned (congrArg (Value.int IntKind.i64) ?_), rfl⟩
        rw [← e]
        first | done | (unfold wrap64; omega) | omega
set_option maxHeartbeats 1000000 in
theorem len_any (x : Int) (w : World) (h0 : 0 ≤ x) (h1 : x ≤ 9223372036854775807) :
    Calls Tryd.prog 83 #[.int .u64 x] w fun e w' => e = .returned (.int .i64 (Lib.bitLen x.toNat)) ∧ w = w' := by
  go_enter Tryd.func83, Tryd.ntmps83
  go_wp2_with fail
  refine (len64_any x _ h0 h1).mono ?_
  rintro e w1 ⟨rfl, rfl⟩
  go_wp2
  go_ret
  exact ⟨rfl, rfl⟩
set_option maxHeartbeats 1000000 in
theorem split_any (n : Int) (w : World) (h1 : n ≤ 9223372036854775807) :
    Calls Tryd.prog 68 #[.int .i64 n] w fun e w' => e = .returned (.int .i64 (split n.toNat)) ∧ w = w' := by
  by_cases h2 : n < 2
  · have e : split n.toNat = 0 := split_small _ (by omega)
    rw [e]
    go_enter Tryd.func68, Tryd.ntmps68
    go_wp2
    go_ret
    exact ⟨rfl, rfl⟩
  · obtain ⟨k, hk⟩ : ∃ k, k = Nat.log2 (n - 1).toNat := ⟨_, rfl⟩
    have hb := bitLen_log (n - 1).toNat (by omega) (by omega)
    have hs := split_two n.toNat (by omega)
    rw [show n.toNat - 1 = (n - 1).toNat by omega, ← hk] at hs
    rw [← hk] at hb
    have hlt := Nat.log2_lt (n := (n - 1).toNat) (k := 63) (by omega)
    have hk63 : k < 63 := by rw [hk]; exact hlt.2 (by omega)
    have hp : (2 : Nat) ^ k ≤ 2 ^ 62 := Nat.pow_le_pow_right (by omega) (by omega)
    have LN : Hid (∀ W, Calls Tryd.prog 83 #[.int .u64 (n - 1)] W fun e w' => e = .returned (.int .i64 ((k : Int) + 1)) ∧ W = w') := fun W => by
      have := len_any (n - 1) W (by omega) (by omega)
      rw [hb] at this
      exact this
    rw [hs]
    have hi : (0 : Int) ≤ k := by omega
    have hi2 : (k : Int) ≤ 64 := by omega
    have hw : IntKind.i64.wrap (2 ^ k) = 2 ^ k := by
      have : ((2 : Int) ^ k) = ((2 ^ k : Nat) : Int) := by simp
      rw [this]
      simp [IntKind.wrap, IntKind.bits, IntKind.signed]
      omega
    clear hk hb hs hlt hp
    go_enter Tryd.func68, Tryd.ntmps68
    go_wp2_with fail
    refine (LN.out _).mono ?_
    rintro e w1 ⟨rfl, rfl⟩
    go_wp2
    go_ret
    refine ⟨congrArg Ending.returned (congrArg (Value.int IntKind.i64) ?_), rfl⟩
    simp [hw]
end Go.Proofs.YtdnhnjimhbbababDoor

/- Arrays in memory and as values, bytes as cells. No program is spoken of. -/
namespace Go.Proofs.YtdnhnjimhbbababDoor
open Go.RowKit
set_option maxRecDepth 100000
/-- Bytes as cells. -/
def cellsOf (l : List UInt8) : List Value := l.map fun b => .int .u8 b.toNat
/-- A digest as a value. -/
def digV (l : List UInt8) : Value := .agg (cellsOf l).toArray
theorem cellsOf_length (l : List UInt8) : (cellsOf l).length = l.length := by simp [cellsOf]
theorem cellsOf_append (a b : List UInt8) : cellsOf (a ++ b) = cellsOf a ++ cellsOf b := by simp [cellsOf]
theorem cellsOf_set (l : List UInt8) (j : Nat) (b : UInt8) : (cellsOf l).set j (.int .u8 b.toNat) = cellsOf (l.set j b) := by simp [cellsOf, List.map_set]
theorem cellsOf_at (l : List UInt8) (j : Nat) (hj : j < l.length) : (cellsOf l)[j]? = some (.int .u8 l[j].toNat) := by simp [cellsOf, List.getElem?_eq_getElem hj]
theorem cellsOf_one (l : List UInt8) : ∀ u ∈ cellsOf l, u.oneCell' = true := by
  intro u hu
  obtain ⟨b, _, rfl⟩ := List.mem_map.1 hu
  rfl
theorem cellsOf_all (l : List UInt8) : (cellsOf l).toArray.all (·.oneCell') = true := by
  rw [Array.all_eq_true_iff_forall_mem]
  intro u hu
  exact cellsOf_one l u (by simpa using hu)
theorem add_plain (b o j : Nat) : (⟨b, o, none⟩ : Addr).add j = ⟨b, o + j, none⟩ := by unfold Addr.add; split <;> simp_all
/-- An array by value, indexed. -/
theorem run_index_agg {P : Program} (w : World) (t e : TypeId) (n : Nat) (cs : Array Value) (k : IntKind) (i : Nat) (z : Value) (ek : IntKind) (h : P.underlying t = some (.array n e)) (hu : P.underlying e = some (.int ek)) (hi : i < n)
    (hc : cs[i]? = some z) (he : (P.info? e).map (·.size) = some 1) : (Instr.index t (.agg cs) (.int k i)).run P w = .ok z w := by
  cases hq : P.info? e with
  | none => simp [hq] at he
  | some ie =>
    have hs : ie.size = 1 := by simpa [hq] using he
    simp [Instr.index, run_underlying h, asIntOf, hi, hs, sizeOf, typeInfo, hq, part, isAgg, run_underlying hu, hc]
theorem below_setRow {B : Nat} {a w : World} (h : Below B a w) {g : Nat} (hg : B ≤ g) (cs : Array Value) : Below B a (w.setRow g cs) :=
  ⟨h.os, h.tape, h.output, by rw [setRow_size]; exact h.size, fun k hk => by rw [setRow_other w g k cs (by omega)]; exact h.block k hk⟩
theorem heap_lt {w : World} {g : Nat} {o : Obj} (h : w.heap[g]? = some o) : g < w.heap.size := (Array.getElem?_eq_some_iff.1 h).1
/-- A block that is there is there behind an allocation. -/
theorem heap_keep {w : World} {g : Nat} {o o' : Obj} (h : w.heap[g]? = some o) : (w.alloc o').heap[g]? = some o := by
  rw [Below.heap_alloc w o' g (heap_lt h)]; exact h
/-- A variable that is an array, made. -/
theorem wpList_alloc_row {P : Program} {ops : Array Oper} {rest : List Oper} {o : Oper} {a : Act} {w : World} {Q : Exit → Act → World → Prop} (hg : o.guard = none) (t : TypeId) (ho : o.op = .alloc t)
    (cs : Array Value) (hz : (P.info? t).map (fun i => (i.zero, i.size)) = some (some (.agg cs), cs.size))
    (h : wpList P ops Q rest (a.put o.dst (.pointer (some ⟨w.heap.size, 0, none⟩))) (w.alloc (.cells cs t))) : wpList P ops Q (o :: rest) a w := by
  refine wpList_plain hg fun K hK => ?_
  have hk := hK _ _ h
  unfold Oper.wp execOp
  cases hq : P.info? t with
  | none => simp [hq] at hz
  | some i =>
    simp [hq] at hz
    simp [ho, Instr.alloc, newVar, zeroValue, typeInfo, hq, hz.1, go_sem]
    exact hk
/-- A literal of an array, made. -/
theorem wpList_build_row {P : Program} {ops : Array Oper} {rest : List Oper} {o : Oper} {a : Act} {w : World} {Q : Exit → Act → World → Prop} (hg : o.guard = none) (t : TypeId) (parts : Array (Nat × Operand)) (ho : o.op = .build t parts)
    (cs : Array Value) (hb : P.built t (parts.map fun (i, x) => (i, a.eval x)).toList = some cs) (h : wpList P ops Q rest (a.put o.dst (.agg cs)) w) : wpList P ops Q (o :: rest) a w := by
  refine wpList_build hg t parts ho (by rw [hb]; rfl) ?_
  rw [hb]
  exact h
theorem wpList_build_none {P : Program} {ops : Array Oper} {rest : List Oper} {o : Oper} {a : Act} {w : World} {Q : Exit → Act → World → Prop} (hg : o.guard = none) (t : TypeId) (ho : o.op = .build t #[])
    (cs : Array Value) (hb : P.built t [] = some cs) (h : wpList P ops Q rest (a.put o.dst (.agg cs)) w) : wpList P ops Q (o :: rest) a w :=
  wpList_build_row hg t #[] ho cs (by simpa using hb) h
/-- Two results, the first an array in a variable. -/
theorem results_row_tmp {P : Program} {fn : Func} {p q : Tmp} {ty : TypeId} (h : fn.results = #[.cell p ty, .tmp q]) (tmps : Array Value) (w : World) (g : Nat) (t : TypeId) (cs : Array Value) (fr : Nat × Nat) (d : TypeDesc)
    (hp : tmps.getD p undef = .pointer (some ⟨g, 0, none⟩)) (hg : w.heap[g]? = some (.cells cs t fr))
    (hu : P.underlying ty = some d) (hd : (match d with | .struct _ | .array _ _ => true | _ => false) = true) (hi : (P.info? ty).map (·.size) = some cs.size) :
    (results fn tmps).run P w = .ok (.tuple #[.agg cs, tmps.getD q undef]) w := by
  have hp' : tmps[p]?.getD undef = .pointer (some ⟨g, 0, none⟩) := by simpa using hp
  simp [results, h, hp', asAddr, run_loadVar_row w g t ty cs fr d hg hu hd hi]
/-- A whole array read, under a guard that says yes. -/
theorem wpList_load_row_w {P : Program} {ops : Array Oper} {rest : List Oper} {o : Oper} {a : Act} {w : World} {Q : Exit → Act → World → Prop} (hw : Region.wanted o (yielded ops a.tmps) = true) (ty : TypeId) (x : Operand) (ho : o.op = .load ty x)
    (g : Nat) (hx : a.eval x = .pointer (some ⟨g, 0, none⟩)) (t : TypeId) (cs : Array Value) (fr : Nat × Nat) (d : TypeDesc) (hg : w.heap[g]? = some (.cells cs t fr))
    (hu : P.underlying ty = some d) (hd : (match d with | .struct _ | .array _ _ => true | _ => false) = true) (hi : (P.info? ty).map (·.size) = some cs.size)
    (h : wpList P ops Q rest (a.put o.dst (.agg cs)) w) : wpList P ops Q (o :: rest) a w :=
  BigFrame.wpList_want hw fun _ hK => wp_load_row ty x ho g hx t cs fr d hg hu hd hi (hK _ _ h)
theorem new_var (w : World) (Z D : Array Value) (t : TypeId) : ((w.alloc (.cells Z t)).setRow w.heap.size D).heap[w.heap.size]? = some (.cells D t (0, 0)) := setRow_heap _ _ _ _ t _ (heap_alloc_new w _)
theorem keep_var {w : World} {g : Nat} {o : Obj} (h : w.heap[g]? = some o) (X : Obj) (Y : Array Value) : ((w.alloc X).setRow w.heap.size Y).heap[g]? = some o := by
  rw [setRow_other _ _ _ _ (Nat.ne_of_lt (heap_lt h))]
  exact heap_keep h
theorem below_var {B : Nat} {a w : World} (h : Below B a w) (hB : B ≤ w.heap.size) (X : Obj) (Y : Array Value) : Below B a ((w.alloc X).setRow w.heap.size Y) := below_setRow (h.alloc hB _) hB _
theorem wrap_int (z : Int) (h0 : -9223372036854775808 ≤ z) (h1 : z ≤ 9223372036854775807) : IntKind.i64.wrap z = z := by
  simp [IntKind.wrap, IntKind.bits, IntKind.signed]; omega
theorem cell_at {w : World} {B g n c : Nat} {l : List UInt8} (h : w.ownsRow B 5 1 (.slice (some ⟨g, 0, none⟩) n c) n (cellsOf l)) (hl : l.length = n) (j : Nat) (hj : j < n) :
    w.cell? ⟨g, j, none⟩ = some (.int .u8 (l.getD j 0).toNat) := by
  rw [h.cellAt j (by omega)]
  simp [cellsOf, List.getElem?_eq_getElem (show j < l.length by omega), List.getD]
theorem cells_at {w : World} {B g n c : Nat} {l : List UInt8} (h : w.ownsRow B 5 1 (.slice (some ⟨g, 0, none⟩) n c) n (cellsOf l)) (hl : l.length = n) :
    ∀ (j : Nat) (hj : j < l.length), w.cell? ((⟨g, 0, none⟩ : Addr).add j) = some (.int .u8 l[j].toNat) := by
  intro j hj
  rw [add_plain, Nat.zero_add, cell_at h hl j (by omega)]
  simp [List.getD, List.getElem?_eq_getElem hj]
end Go.Proofs.YtdnhnjimhbbababDoor

/- What sha.turned answers: a word turned round to the right. -/
namespace Go.Proofs.YtdnhnjimhbbababDoor
open Go.RowKit Sums
set_option maxRecDepth 100000
set_option linter.unusedVariables false
/-- n, 2 to the n, 2 to the 32 - n, for those n by which words are turned. -/
def Turn (n p q : Int) : Prop := (n = 2 ∧ p = 4 ∧ q = 1073741824) ∨ (n = 6 ∧ p = 64 ∧ q = 67108864) ∨ (n = 7 ∧ p = 128 ∧ q = 33554432) ∨ (n = 11 ∧ p = 2048 ∧ q = 2097152) ∨ (n = 13 ∧ p = 8192 ∧ q = 524288) ∨ (n = 17 ∧ p = 131072 ∧ q = 32768) ∨ (n = 18 ∧ p = 262144 ∧ q = 16384) ∨ (n = 19 ∧ p = 524288 ∧ q = 8192) ∨ (n = 22 ∧ p = 4194304 ∧ q = 1024) ∨ (n = 25 ∧ p = 33554432 ∧ q = 128)
theorem mask2 : bits .and .u64 (IntKind.u64.wrap (-2)) 31 = 30 := by decide +kernel
theorem mask6 : bits .and .u64 (IntKind.u64.wrap (-6)) 31 = 26 := by decide +kernel
theorem mask7 : bits .and .u64 (IntKind.u64.wrap (-7)) 31 = 25 := by decide +kernel
theorem mask11 : bits .and .u64 (IntKind.u64.wrap (-11)) 31 = 21 := by decide +kernel
theorem mask13 : bits .and .u64 (IntKind.u64.wrap (-13)) 31 = 19 := by decide +kernel
theorem mask17 : bits .and .u64 (IntKind.u64.wrap (-17)) 31 = 15 := by decide +kernel
theorem mask18 : bits .and .u64 (IntKind.u64.wrap (-18)) 31 = 14 := by decide +kernel
theorem mask19 : bits .and .u64 (IntKind.u64.wrap (-19)) 31 = 13 := by decide +kernel
theorem mask22 : bits .and .u64 (IntKind.u64.wrap (-22)) 31 = 10 := by decide +kernel
theorem mask25 : bits .and .u64 (IntKind.u64.wrap (-25)) 31 = 7 := by decide +kernel
set_option maxHeartbeats 1000000 in
theorem rotl_any (x n p q : Int) (w : World) (h0 : 0 ≤ x) (h1 : x ≤ 4294967295) (hk : Turn n p q) :
    Calls Tryd.prog 86 #[.int .u32 x, .int .i64 (-n)] w fun e w' => e = .returned (.int .u32 (rot x p q)) ∧ w = w' := by
  rcases hk with ⟨rfl, rfl, rfl⟩ | ⟨rfl, rfl, rfl⟩ | ⟨rfl, rfl, rfl⟩ | ⟨rfl, rfl, rfl⟩ | ⟨rfl, rfl, rfl⟩ | ⟨rfl, rfl, rfl⟩ | ⟨rfl, rfl, rfl⟩ | ⟨rfl, rfl, rfl⟩ | ⟨rfl, rfl, rfl⟩ | ⟨rfl, rfl, rfl⟩
  · have hb := mask2
    go_enter Tryd.func86, Tryd.ntmps86
    go_wp2
    go_ret
    exact ⟨rfl, rfl⟩
  · have hb := mask6
    go_enter Tryd.func86, Tryd.ntmps86
    go_wp2
    go_ret
    exact ⟨rfl, rfl⟩
  · have hb := mask7
    go_enter Tryd.func86, Tryd.ntmps86
    go_wp2
    go_ret
    exact ⟨rfl, rfl⟩
  · have hb := mask11
    go_enter Tryd.func86, Tryd.ntmps86
    go_wp2
    go_ret
    exact ⟨rfl, rfl⟩
  · have hb := mask13
    go_enter Tryd.func86, Tryd.ntmps86
    go_wp2
    go_ret
    exact ⟨rfl, rfl⟩
  · have hb := mask17
    go_enter Tryd.func86, Tryd.ntmps86
    go_wp2
    go_ret
    exact ⟨rfl, rfl⟩
  · have hb := mask18
    go_enter Tryd.func86, Tryd.ntmps86
    go_wp2
    go_ret
    exact ⟨rfl, rfl⟩
  · have hb := mask19
    go_enter Tryd.func86, Tryd.ntmps86
    go_wp2
    go_ret
    exact ⟨rfl, rfl⟩
  · have hb := mask22
    go_enter Tryd.func86, Tryd.ntmps86
    go_wp2
    go_ret
    exact ⟨rfl, rfl⟩
  · have hb := mask25
    go_enter Tryd.func86, Tryd.ntmps86
    go_wp2
    go_ret
    exact ⟨rfl, rfl⟩
set_option maxHeartbeats 1000000 in
theorem turned_any (x n p q : Int) (w : World) (h0 : 0 ≤ x) (h1 : x ≤ 4294967295) (hk : Turn n p q) :
    Calls Tryd.prog 76 #[.int .u32 x, .int .i64 n] w fun e w' => e = .returned (.int .u32 (rot x p q)) ∧ w = w' := by
  rcases hk with ⟨rfl, rfl, rfl⟩ | ⟨rfl, rfl, rfl⟩ | ⟨rfl, rfl, rfl⟩ | ⟨rfl, rfl, rfl⟩ | ⟨rfl, rfl, rfl⟩ | ⟨rfl, rfl, rfl⟩ | ⟨rfl, rfl, rfl⟩ | ⟨rfl, rfl, rfl⟩ | ⟨rfl, rfl, rfl⟩ | ⟨rfl, rfl, rfl⟩
  · have K : Hid (∀ w, Calls Tryd.prog 86 #[.int .u32 x, .int .i64 (-2)] w fun e w' => e = .returned (.int .u32 (rot x 4 1073741824)) ∧ w = w') := fun w => rotl_any x 2 4 1073741824 w h0 h1 (by unfold Turn; decide)
    go_enter Tryd.func76, Tryd.ntmps76
    go_wp2_with (go_at_call 86; refine (K.out _).mono ?_; rintro e w' ⟨rfl, rfl⟩)
    go_ret
    exact ⟨rfl, rfl⟩
  · have K : Hid (∀ w, Calls Tryd.prog 86 #[.int .u32 x, .int .i64 (-6)] w fun e w' => e = .returned (.int .u32 (rot x 64 67108864)) ∧ w = w') := fun w => rotl_any x 6 64 67108864 w h0 h1 (by unfold Turn; decide)
    go_enter Tryd.func76, Tryd.ntmps76
    go_wp2_with (go_at_call 86; refine (K.out _).mono ?_; rintro e w' ⟨rfl, rfl⟩)
    go_ret
    exact ⟨rfl, rfl⟩
  · have K : Hid (∀ w, Calls Tryd.prog 86 #[.int .u32 x, .int .i64 (-7)] w fun e w' => e = .returned (.int .u32 (rot x 128 33554432)) ∧ w = w') := fun w => rotl_any x 7 128 33554432 w h0 h1 (by unfold Turn; decide)
    go_enter Tryd.func76, Tryd.ntmps76
    go_wp2_with (go_at_call 86; refine (K.out _).mono ?_; rintro e w' ⟨rfl, rfl⟩)
    go_ret
    exact ⟨rfl, rfl⟩
  · have K : Hid (∀ w, Calls Tryd.prog 86 #[.int .u32 x, .int .i64 (-11)] w fun e w' => e = .returned (.int .u32 (rot x 2048 2097152)) ∧ w = w') := fun w => rotl_any x 11 2048 2097152 w h0 h1 (by unfold Turn; decide)
    go_enter Tryd.func76, Tryd.ntmps76
    go_wp2_with (go_at_call 86; refine (K.out _).mono ?_; rintro e w' ⟨rfl, rfl⟩)
    go_ret
    exact ⟨rfl, rfl⟩
  · have K : Hid (∀ w, Calls Tryd.prog 86 #[.int .u32 x, .int .i64 (-13)] w fun e w' => e = .returned (.int .u32 (rot x 8192 524288)) ∧ w = w') := fun w => rotl_any x 13 8192 524288 w h0 h1 (by unfold Turn; decide)
    go_enter Tryd.func76, Tryd.ntmps76
    go_wp2_with (go_at_call 86; refine (K.out _).mono ?_; rintro e w' ⟨rfl, rfl⟩)
    go_ret
    exact ⟨rfl, rfl⟩
  · have K : Hid (∀ w, Calls Tryd.prog 86 #[.int .u32 x, .int .i64 (-17)] w fun e w' => e = .returned (.int .u32 (rot x 131072 32768)) ∧ w = w') := fun w => rotl_any x 17 131072 32768 w h0 h1 (by unfold Turn; decide)
    go_enter Tryd.func76, Tryd.ntmps76
    go_wp2_with (go_at_call 86; refine (K.out _).mono ?_; rintro e w' ⟨rfl, rfl⟩)
    go_ret
    exact ⟨rfl, rfl⟩
  · have K : Hid (∀ w, Calls Tryd.prog 86 #[.int .u32 x, .int .i64 (-18)] w fun e w' => e = .returned (.int .u32 (rot x 262144 16384)) ∧ w = w') := fun w => rotl_any x 18 262144 16384 w h0 h1 (by unfold Turn; decide)
    go_enter Tryd.func76, Tryd.ntmps76
    go_wp2_with (go_at_call 86; refine (K.out _).mono ?_; rintro e w' ⟨rfl, rfl⟩)
    go_ret
    exact ⟨rfl, rfl⟩
  · have K : Hid (∀ w, Calls Tryd.prog 86 #[.int .u32 x, .int .i64 (-19)] w fun e w' => e = .returned (.int .u32 (rot x 524288 8192)) ∧ w = w') := fun w => rotl_any x 19 524288 8192 w h0 h1 (by unfold Turn; decide)
    go_enter Tryd.func76, Tryd.ntmps76
    go_wp2_with (go_at_call 86; refine (K.out _).mono ?_; rintro e w' ⟨rfl, rfl⟩)
    go_ret
    exact ⟨rfl, rfl⟩
  · have K : Hid (∀ w, Calls Tryd.prog 86 #[.int .u32 x, .int .i64 (-22)] w fun e w' => e = .returned (.int .u32 (rot x 4194304 1024)) ∧ w = w') := fun w => rotl_any x 22 4194304 1024 w h0 h1 (by unfold Turn; decide)
    go_enter Tryd.func76, Tryd.ntmps76
    go_wp2_with (go_at_call 86; refine (K.out _).mono ?_; rintro e w' ⟨rfl, rfl⟩)
    go_ret
    exact ⟨rfl, rfl⟩
  · have K : Hid (∀ w, Calls Tryd.prog 86 #[.int .u32 x, .int .i64 (-25)] w fun e w' => e = .returned (.int .u32 (rot x 33554432 128)) ∧ w = w') := fun w => rotl_any x 25 33554432 128 w h0 h1 (by unfold Turn; decide)
    go_enter Tryd.func76, Tryd.ntmps76
    go_wp2_with (go_at_call 86; refine (K.out _).mono ?_; rintro e w' ⟨rfl, rfl⟩)
    go_ret
    exact ⟨rfl, rfl⟩
end Go.Proofs.YtdnhnjimhbbababDoor

/- What sha.word answers, and what sha.putWord does: four bytes as a word, the highest first. -/
namespace Go.Proofs.YtdnhnjimhbbababDoor
open Go.RowKit Sums
set_option maxRecDepth 100000
set_option linter.unusedVariables false
set_option linter.unusedSimpArgs false
theorem or_add (a b k : Nat) (hb : b < 2 ^ k) : a * 2 ^ k ||| b = a * 2 ^ k + b := by
  have := Nat.shiftLeft_add_eq_or_of_lt hb a
  rw [Nat.shiftLeft_eq] at this
  exact this.symm
theorem or32_add (a b k p : Nat) (hp : p = 2 ^ k) (A B : Int) (hA : A = ((a * p : Nat) : Int)) (hB : B = (b : Int)) (hb : b < p) (ha : a * p + b < 4294967296) : bits .or .u32 A B = A + B := by
  subst hA hB hp
  rw [u32_or_nat _ _ (by omega) (by omega), or_add a b k hb]
  rfl
set_option maxHeartbeats 1000000 in
theorem word_any (b off len cap : Nat) (w : World) (c0 c1 c2 c3 : Nat) (h4 : 4 ≤ len) (g0 : c0 ≤ 255) (g1 : c1 ≤ 255) (g2 : c2 ≤ 255) (g3 : c3 ≤ 255)
    (h0 : w.cell? ⟨b, off, none⟩ = some (.int .u8 c0)) (h1 : w.cell? ⟨b, off + 1, none⟩ = some (.int .u8 c1))
    (h2 : w.cell? ⟨b, off + 2, none⟩ = some (.int .u8 c2)) (h3 : w.cell? ⟨b, off + 3, none⟩ = some (.int .u8 c3)) :
    Calls Tryd.prog 85 #[.slice (some ⟨b, off, none⟩) len cap] w fun e w' => e = .returned (.int .u32 ((c0 : Int) * 16777216 + (c1 : Int) * 65536 + (c2 : Int) * 256 + (c3 : Int))) ∧ ∃ n, w' = w.drewN n := by
  have l0 : (0 : Int) < (len : Int) := by omega
  have l1 : (1 : Int) < (len : Int) := by omega
  have l2 : (2 : Int) < (len : Int) := by omega
  have l3 : (3 : Int) < (len : Int) := by omega
  have o1 := or32_add c0 (c1 * 65536) 24 16777216 (by decide) ((c0 : Int) * 16777216) ((c1 : Int) * 65536) (by omega) (by omega) (by omega) (by omega)
  have o2 := or32_add (c0 * 256 + c1) (c2 * 256) 16 65536 (by decide) ((c0 : Int) * 16777216 + (c1 : Int) * 65536) ((c2 : Int) * 256) (by omega) (by omega) (by omega) (by omega)
  have o3 := or32_add (c0 * 65536 + c1 * 256 + c2) c3 8 256 (by decide) ((c0 : Int) * 16777216 + (c1 : Int) * 65536 + (c2 : Int) * 256) (c3 : Int) (by omega) (by omega) (by omega) (by omega)
  go_enter Tryd.func85, Tryd.ntmps85
  go_wp2
  go_quiet (fail)
  go_wp2
  go_ret
  exact ⟨rfl, _, rfl⟩
/-- Four bytes put into a row. -/
def put4 (l : List UInt8) (off : Nat) (z : Int) : List UInt8 := l.take off ++ bytes4 z ++ l.drop (off + 4)
theorem put4_length (l : List UInt8) (off : Nat) (z : Int) (h : off + 4 ≤ l.length) : (put4 l off z).length = l.length := by
  simp [put4, bytes4]; omega
theorem put4_sets (l : List UInt8) (off : Nat) (z : Int) (h : off + 4 ≤ l.length) (a b c d : UInt8) (hz : bytes4 z = [a, b, c, d]) :
    (((l.set off a).set (off + 1) b).set (off + 2) c).set (off + 3) d = put4 l off z := by
  unfold put4
  rw [hz]
  apply List.ext_getElem
  · simp; omega
  · intro i h1 h2
    simp only [List.length_set] at h1
    by_cases e0 : i < off
    · simp only [List.getElem_set, show off + 3 ≠ i by omega, show off + 2 ≠ i by omega, show off + 1 ≠ i by omega, show off ≠ i by omega, if_false]
      rw [List.getElem_append_left (by simp; omega), List.getElem_append_left (by simp; omega), List.getElem_take]
    · by_cases e4 : i < off + 4
      · have hi : i = off ∨ i = off + 1 ∨ i = off + 2 ∨ i = off + 3 := by omega
        rw [List.getElem_append_left (by simp; omega), List.getElem_append_right (by simp; omega)]
        rcases hi with rfl | rfl | rfl | rfl
        · simp [List.getElem_set, show min i l.length = i by omega]
        · simp [List.getElem_set, show min off l.length = off by omega]
        · simp [List.getElem_set, show min off l.length = off by omega]
        · simp [List.getElem_set, show min off l.length = off by omega]
      · simp only [List.getElem_set, show off + 3 ≠ i by omega, show off + 2 ≠ i by omega, show off + 1 ≠ i by omega, show off ≠ i by omega, if_false]
        rw [List.getElem_append_right (by simp; omega), List.getElem_drop]
        congr 1
        simp; omega
theorem row_set {w : World} {b t : Nat} {l : List UInt8} (hg : w.heap[b]? = some (.cells (cellsOf l).toArray t (0, 0))) (j : Nat) (x : UInt8) :
    w.setCell ⟨b, j, none⟩ (.int .u8 x.toNat) = w.setRow b (cellsOf (l.set j x)).toArray := by
  rw [setCell_eq_setRow w b j _ t (0, 0) _ hg, ← cellsOf_set]
  congr 1
  simp
set_option maxHeartbeats 1000000 in
theorem putWord_any (b off len cap t : Nat) (l : List UInt8) (z : Int) (w : World) (h4 : 4 ≤ len) (hl : off + 4 ≤ l.length) (z0 : 0 ≤ z) (z1 : z ≤ 4294967295) (hg : w.heap[b]? = some (.cells (cellsOf l).toArray t (0, 0))) :
    Calls Tryd.prog 52 #[.slice (some ⟨b, off, none⟩) len cap, .int .u32 z] w fun e w' => e = .returned (.tuple #[]) ∧ w' = w.setRow b (cellsOf (put4 l off z)).toArray := by
  have l0 : (0 : Int) < (len : Int) := by omega
  have l1 : (1 : Int) < (len : Int) := by omega
  have l2 : (2 : Int) < (len : Int) := by omega
  have l3 : (3 : Int) < (len : Int) := by omega
  have c0 : w.cell? ⟨b, off, none⟩ = some (.int .u8 (l[off]'(by omega)).toNat) := by rw [cell_of_row w b _ _ t (0, 0) hg]; simp [cellsOf_at l off (by omega)]
  have c1 : w.cell? ⟨b, off + 1, none⟩ = some (.int .u8 (l[off + 1]'(by omega)).toNat) := by rw [cell_of_row w b _ _ t (0, 0) hg]; simp [cellsOf_at l (off + 1) (by omega)]
  have c2 : w.cell? ⟨b, off + 2, none⟩ = some (.int .u8 (l[off + 2]'(by omega)).toNat) := by rw [cell_of_row w b _ _ t (0, 0) hg]; simp [cellsOf_at l (off + 2) (by omega)]
  have c3 : w.cell? ⟨b, off + 3, none⟩ = some (.int .u8 (l[off + 3]'(by omega)).toNat) := by rw [cell_of_row w b _ _ t (0, 0) hg]; simp [cellsOf_at l (off + 3) (by omega)]
  have f0 : w.frozen? ⟨b, off, none⟩ = false := frozen_of_row w _ _ _ t hg
  have f1 : w.frozen? ⟨b, off + 1, none⟩ = false := frozen_of_row w _ _ _ t hg
  have f2 : w.frozen? ⟨b, off + 2, none⟩ = false := frozen_of_row w _ _ _ t hg
  have f3 : w.frozen? ⟨b, off + 3, none⟩ = false := frozen_of_row w _ _ _ t hg
  have HG : Hid _ := hg
  clear hg
  go_enter Tryd.func52, Tryd.ntmps52
  go_wp2
  refine bodyPost_end (v := .tuple #[]) (by simp [results, Tryd.results52, go_sem]) rfl ⟨rfl, ?_⟩
  have e0 : (z / 16777216 : Int) = ((UInt8.ofNat (z / 16777216).toNat).toNat : Int) := by rw [UInt8.toNat_ofNat']; omega
  have e1 : (z / 65536 % 256 : Int) = ((UInt8.ofNat (z / 65536).toNat).toNat : Int) := by rw [UInt8.toNat_ofNat']; omega
  have e2 : (z / 256 % 256 : Int) = ((UInt8.ofNat (z / 256).toNat).toNat : Int) := by rw [UInt8.toNat_ofNat']; omega
  have e3 : (z % 256 : Int) = ((UInt8.ofNat z.toNat).toNat : Int) := by rw [UInt8.toNat_ofNat']; omega
  rw [e0, e1, e2, e3, row_set HG.out]
  have G1 := setRow_heap w b _ (cellsOf (l.set off (UInt8.ofNat (z / 16777216).toNat))).toArray t _ HG.out
  rw [row_set G1, setRow_setRow]
  have G2 := setRow_heap w b _ (cellsOf ((l.set off (UInt8.ofNat (z / 16777216).toNat)).set (off + 1) (UInt8.ofNat (z / 65536).toNat))).toArray t _ HG.out
  rw [row_set G2, setRow_setRow]
  have G3 := setRow_heap w b _ (cellsOf (((l.set off (UInt8.ofNat (z / 16777216).toNat)).set (off + 1) (UInt8.ofNat (z / 65536).toNat)).set (off + 2) (UInt8.ofNat (z / 256).toNat))).toArray t _ HG.out
  rw [row_set G3, setRow_setRow, put4_sets l off z hl _ _ _ _ rfl]
end Go.Proofs.YtdnhnjimhbbababDoor

/- What sha.schedule answers: W 0 to 63 of a block. -/
namespace Go.Proofs.YtdnhnjimhbbababDoor
open Go.RowKit Sums
set_option maxRecDepth 100000
set_option linter.unusedVariables false
set_option linter.unusedSimpArgs false
/-- Words as cells. -/
def wcells (l : List Int) : List Value := l.map fun z => .int .u32 z
theorem wcells_length (l : List Int) : (wcells l).length = l.length := by simp [wcells]
theorem wcells_set (l : List Int) (j : Nat) (z : Int) : (wcells l).set j (.int .u32 z) = wcells (l.set j z) := by simp [wcells, List.map_set]
theorem wcells_at (l : List Int) (j : Nat) (hj : j < l.length) : (wcells l)[j]? = some (.int .u32 l[j]) := by simp [wcells, List.getElem?_eq_getElem hj]
theorem wcells_all (l : List Int) : (wcells l).toArray.all (·.oneCell') = true := by
  rw [Array.all_eq_true_iff_forall_mem]
  intro u hu
  simp only [wcells, List.mem_toArray, List.mem_map] at hu
  obtain ⟨z, _, rfl⟩ := hu
  rfl
theorem wrow_set {w : World} {b t : Nat} {l : List Int} (hg : w.heap[b]? = some (.cells (wcells l).toArray t (0, 0))) (j : Nat) (x : Int) :
    (w.setCell ⟨b, j, none⟩ (.int .u32 x)).heap[b]? = some (.cells (wcells (l.set j x)).toArray t (0, 0)) := by
  rw [heap_setCell_same w b j _ t _ hg, ← wcells_set]
  simp
theorem wrow_cell {w : World} {b t : Nat} {l : List Int} (hg : w.heap[b]? = some (.cells (wcells l).toArray t (0, 0))) (j : Nat) (hj : j < l.length) :
    w.cell? ⟨b, j, none⟩ = some (.int .u32 l[j]) := by
  rw [cell_of_row w b j _ t (0, 0) hg]
  simp [wcells_at l j hj]
theorem size45 : (Tryd.prog.info? 138).map (·.size) = some 64 := by kernel_rfl
theorem zero45 : (Tryd.prog.info? 138).map (fun i => (i.zero, i.size)) = some (some (.agg (wcells (List.replicate 64 0)).toArray), 64) := by kernel_rfl
/-- What is known of an array of 64 noughts. -/
theorem noughts45 : ∃ Z : Array Value, Hid (Z = (wcells (List.replicate 64 0)).toArray) ∧ Hid ((Tryd.prog.info? 138).map (fun i => (i.zero, i.size)) = some (some (.agg Z), Z.size)) ∧
    Hid ((Tryd.prog.info? 138).map (·.size) = some Z.size) ∧ Hid (Z.all (·.oneCell') = true) ∧ Hid (Z.size = 64) :=
  ⟨(wcells (List.replicate 64 0)).toArray, (rfl : _ = _), zero45, size45, wcells_all _, (rfl : _ = _)⟩
/-- Bytes that lie in a block from a place on. -/
def Lies (w : World) (b off : Nat) (l : List UInt8) : Prop := ∀ i, (hi : i < l.length) → w.cell? ⟨b, off + i, none⟩ = some (.int .u8 l[i].toNat)
theorem Lies.keep {w w' : World} {b off B : Nat} {l : List UInt8} (h : Lies w b off l) (hb : Below B w w') (hB : b < B) : Lies w' b off l := fun i hi => by
  rw [hb.cell (p := ⟨b, off + i, none⟩) hB]; exact h i hi
theorem Lies.drop {w : World} {b off : Nat} {l : List UInt8} (h : Lies w b off l) (n : Nat) : Lies w b (off + n) (l.drop n) := fun i hi => by
  have := h (n + i) (by simp at hi; omega)
  rw [← Nat.add_assoc] at this
  rw [this]
  simp
theorem Lies.take {w : World} {b off : Nat} {l : List UInt8} (h : Lies w b off l) (n : Nat) : Lies w b off (l.take n) := fun i hi => by
  have := h i (by simp at hi; omega)
  rw [this]
  simp
def Ok (l : List Int) : Prop := ∀ z ∈ l, 0 ≤ z ∧ z ≤ 4294967295
theorem wordAt_range (b : List UInt8) (t : Nat) : 0 ≤ wordAt b t ∧ wordAt b t ≤ 4294967295 := by
  have h0 := (b.getD (4 * t) 0).toNat_lt
  have h1 := (b.getD (4 * t + 1) 0).toNat_lt
  have h2 := (b.getD (4 * t + 2) 0).toNat_lt
  have h3 := (b.getD (4 * t + 3) 0).toNat_lt
  unfold wordAt
  omega
theorem ok16 (b : List UInt8) : Ok (words16 b) := by
  intro z hz
  obtain ⟨t, _, rfl⟩ := List.mem_map.1 hz
  exact wordAt_range b t
theorem words16_length (b : List UInt8) : (words16 b).length = 16 := by simp [words16]
theorem add32_range (a b : Int) : 0 ≤ add32 a b ∧ add32 a b ≤ 4294967295 := by unfold add32; omega
theorem grow_length (l : List Int) (n : Nat) : (grow l n).length = l.length + n := by
  induction n with
  | zero => rfl
  | succ n ih => simp [grow, ih]; omega
theorem grow_ok (l : List Int) (n : Nat) (h : Ok l) : Ok (grow l n) := by
  induction n with
  | zero => exact h
  | succ n ih =>
    intro z hz
    simp only [grow, List.mem_append, List.mem_singleton] at hz
    rcases hz with hz | rfl
    · exact ih z hz
    · exact add32_range _ _
/-- The words so far, and noughts behind them. -/
def fill (l : List Int) : List Int := l ++ List.replicate (64 - l.length) 0
theorem fill_length (l : List Int) (h : l.length ≤ 64) : (fill l).length = 64 := by simp [fill]; omega
theorem fill_set (l : List Int) (z : Int) (h : l.length < 64) : (fill l).set l.length z = fill (l ++ [z]) := by
  unfold fill
  rw [List.set_append, if_neg (by omega), Nat.sub_self, show 64 - l.length = (64 - (l ++ [z]).length) + 1 by simp; omega, List.replicate_succ, List.set_cons_zero]
  simp
theorem fill_at (l : List Int) (j : Nat) (hj : j < l.length) (h : j < (fill l).length) : (fill l)[j] = l.getD j 0 := by
  have e : (fill l)[j]? = l[j]? := by unfold fill; rw [List.getElem?_append_left hj]
  rw [List.getElem?_eq_getElem h, List.getElem?_eq_getElem hj] at e
  simp [List.getD, List.getElem?_eq_getElem hj, Option.some.inj e]
theorem u32w (z : Int) : IntKind.u32.wrap z = z % 4294967296 := by
  simp [IntKind.wrap, IntKind.bits, IntKind.signed]
theorem idxW (W : World) (g j : Nat) (z : Int) (hz : z = j) (hj : j < 64) : (Instr.indexAt 138 (.pointer (some ⟨g, 0, none⟩)) (.int .i64 z)).run Tryd.prog W = .ok (.pointer (some ⟨g, j, none⟩)) W := by
  subst hz
  have hs : ∀ w, (sizeOf 97).run Tryd.prog w = .ok 1 w := by
    intro w
    have hq : (Tryd.prog.info? 97).map (·.size) = some 1 := by kernel_rfl
    cases h : Tryd.prog.info? 97 with
    | none => simp [h] at hq
    | some i => simp [h] at hq; simp [sizeOf, typeInfo, h, hq]
  simp [Instr.indexAt, run_underlying Tryd.underlying138, Instr.sureAddr, asIntOf, hj, hs, add_plain]
set_option maxHeartbeats 2000000 in
theorem sched_any (b off cap : Nat) (bl : List UInt8) (w : World) (hl : bl.length = 64) (hc : 64 ≤ cap) (hc2 : cap ≤ 9223372036854775807) (hb : b < w.heap.size) (hL : Lies w b off bl) :
    Calls Tryd.prog 75 #[.slice (some ⟨b, off, none⟩) 64 cap] w fun e w' => e = .returned (.agg (wcells (sched bl)).toArray) ∧ Below w.heap.size w w' := by
  obtain ⟨Z, HZ, HA, HS, H1, HZ64⟩ := noughts45
  have HL : Hid (Lies w b off bl) := hL
  have HLL : Hid (bl.length = 64) := hl
  clear hL hl
  go_enter Tryd.func75, Tryd.ntmps75
  go_wp2_with (first
    | (refine wpList_alloc_row rfl 138 rfl Z HA.out ?_)
    | fail)
  go_loopw [8] (fun i wr => ∃ k : Nat, k ≤ 16 ∧ i = .int .i64 k ∧ Hid (wr.heap[w.heap.size]? = some (.cells Z 138 (0, 0))) ∧
      Hid (wr.heap[w.heap.size + 1]? = some (.cells (wcells (fill ((words16 bl).take k))).toArray 138 (0, 0))) ∧ Below w.heap.size w wr)
    (fun i _ => 16 - (intOf i).toNat)
  case atStart =>
    refine ⟨0, by omega, rfl, heap_alloc2_old w _ _, ?_, ((Below.refl _ _).alloc (Nat.le_refl _) _).alloc (by simp) _⟩
    show _ = _
    have e : (wcells (fill ((words16 bl).take 0))).toArray = Z := by rw [HZ.out]; rfl
    rw [e]
    exact heap_alloc2_new w _ _
  case round =>
    obtain ⟨k, hk, rfl, HR, HD, hB⟩ := hrel
    by_cases hlt : k < 16
    · have hdi : decide ((k : Int) < 16) = true := by rw [decide_eq_true_eq]; omega
      have hlen := HLL.out
      have c0 := (HL.out.keep hB hb) (4 * k) (by omega)
      have c1 := (HL.out.keep hB hb) (4 * k + 1) (by omega)
      have c2 := (HL.out.keep hB hb) (4 * k + 2) (by omega)
      have c3 := (HL.out.keep hB hb) (4 * k + 3) (by omega)
      have HW : Hid (∀ len cap, 4 ≤ len → Calls Tryd.prog 85 #[.slice (some ⟨b, off + 4 * k, none⟩) len cap] wr fun e w' => e = .returned (.int .u32 (wordAt bl k)) ∧ ∃ n, w' = wr.drewN n) := by
        intro len cap h4
        have := word_any b (off + 4 * k) len cap wr _ _ _ _ h4 (by have := bl[4 * k].toNat_lt; omega) (by have := bl[4 * k + 1].toNat_lt; omega) (by have := bl[4 * k + 2].toNat_lt; omega) (by have := bl[4 * k + 3].toNat_lt; omega) c0 c1 c2 c3
        have e : wordAt bl k = (bl[4 * k].toNat : Int) * 16777216 + (bl[4 * k + 1].toNat : Int) * 65536 + (bl[4 * k + 2].toNat : Int) * 256 + (bl[4 * k + 3].toNat : Int) := by
          unfold wordAt
          simp [List.getD, List.getElem?_eq_getElem (show 4 * k < bl.length by omega), List.getElem?_eq_getElem (show 4 * k + 1 < bl.length by omega), List.getElem?_eq_getElem (show 4 * k + 2 < bl.length by omega), List.getElem?_eq_getElem (show 4 * k + 3 < bl.length by omega)]
        rw [e]
        exact this
      clear c0 c1 c2 c3
      have hw4 := wrap_int (4 * (k : Int)) (by omega) (by omega)
      have HT : Hid (((words16 bl).take k).length = k) := by show _ = _; simp [words16_length]; omega
      have hcell := wrow_cell HD.out k (by rw [fill_length _ (by rw [HT.out]; omega)]; omega)
      have hfz : wr.frozen? ⟨w.heap.size + 1, k, none⟩ = false := frozen_of_row wr _ k _ 138 HD.out
      clear hlen
      have HN : Hid (fill ((words16 bl).take (k + 1)) = (fill ((words16 bl).take k)).set k (wordAt bl k)) := by
        show _ = _
        have h16 := words16_length bl
        have e : (words16 bl).take (k + 1) = (words16 bl).take k ++ [wordAt bl k] := by
          rw [List.take_add_one, List.getElem?_eq_getElem (by omega)]
          simp [words16]
        have := fill_set ((words16 bl).take k) (wordAt bl k) (by rw [HT.out]; omega)
        rw [HT.out] at this
        rw [e, this]
      go_wp2_with fail
      refine (HW.out _ _ (by omega)).mono ?_
      rintro e w1 ⟨rfl, n, rfl⟩
      go_wp2
      go_roundw
      case rel =>
        refine ⟨k + 1, by omega, by go_num, ?_, ?_, (below_drewN hB n).setCell (by simp) _⟩
        · show _ = _
          rw [heap_setCell_other _ _ _ _ (by simp)]
          exact HR.out
        · show _ = _
          rw [HN.out]
          exact wrow_set (w := wr.drewN n) HD.out k _
      case measure => simp [intOf]; omega
    · obtain rfl : k = 16 := by omega
      have HD16 : Hid (wr.heap[w.heap.size + 1]? = some (.cells (wcells (fill (grow (words16 bl) 0))).toArray 138 (0, 0))) := by
        have := HD.out
        rw [List.take_of_length_le (by rw [words16_length]; exact Nat.le_refl _)] at this
        exact this
      clear HD
      simp only [Int.cast_ofNat_Int]
      go_wp2
      go_loopw [5] (fun i wt => ∃ k : Nat, k ≤ 48 ∧ i = .int .i64 ((k : Int) + 16) ∧ Hid (wt.heap[w.heap.size]? = some (.cells Z 138 (0, 0))) ∧
          Hid (wt.heap[w.heap.size + 1]? = some (.cells (wcells (fill (grow (words16 bl) k))).toArray 138 (0, 0))) ∧ Below w.heap.size w wt)
        (fun i _ => 64 - (intOf i).toNat)
      case atStart => exact ⟨0, by omega, rfl, HR, HD16, hB⟩
      case round =>
        clear HD16 HR hB
        obtain ⟨k, hk, rfl, HR, HD, hB⟩ := hrel
        by_cases hlt : k < 48
        · have hdi : decide ((k : Int) + 16 < 64) = true := by rw [decide_eq_true_eq]; omega
          have hw15 := wrap_int ((k : Int) + 16 - 15) (by omega) (by omega)
          have hw2 := wrap_int ((k : Int) + 16 - 2) (by omega) (by omega)
          have hw16 := wrap_int ((k : Int) + 16 - 16) (by omega) (by omega)
          have hw7 := wrap_int ((k : Int) + 16 - 7) (by omega) (by omega)
          rw [show (k : Int) + 16 - 15 = (k : Int) + 1 by omega] at hw15
          obtain ⟨l, HLW⟩ : ∃ l, Hid (l = grow (words16 bl) k) := ⟨_, (rfl : grow (words16 bl) k = _)⟩
          have HLn : Hid (l.length = k + 16) := by show _ = _; rw [HLW.out, grow_length, words16_length]; omega
          have HOK : Hid (Ok l) := by show Ok _; rw [HLW.out]; exact grow_ok _ _ (ok16 bl)
          rw [← HLW.out] at HD
          have HF : Hid ((fill l).length = 64) := fill_length _ (by have := HLn.out; omega)
          obtain ⟨x16, X16⟩ : ∃ x, Hid (x = l.getD k 0) := ⟨_, (rfl : l.getD k 0 = _)⟩
          obtain ⟨x15, X15⟩ : ∃ x, Hid (x = l.getD (k + 1) 0) := ⟨_, (rfl : l.getD (k + 1) 0 = _)⟩
          obtain ⟨x7, X7⟩ : ∃ x, Hid (x = l.getD (k + 9) 0) := ⟨_, (rfl : l.getD (k + 9) 0 = _)⟩
          obtain ⟨x2, X2⟩ : ∃ x, Hid (x = l.getD (k + 14) 0) := ⟨_, (rfl : l.getD (k + 14) 0 = _)⟩
          have at_ : ∀ j, j < k + 16 → wr.cell? ⟨w.heap.size + 1, j, none⟩ = some (.int .u32 (l.getD j 0)) := fun j hj => by
            have h1 := HLn.out
            have h2 := HF.out
            rw [wrow_cell HD.out j (by omega), fill_at l j (by omega)]
          have range : ∀ j, j < k + 16 → 0 ≤ l.getD j 0 ∧ l.getD j 0 ≤ 4294967295 := fun j hj => by
            have h1 := HLn.out
            simp only [List.getD, List.getElem?_eq_getElem (show j < l.length by omega), Option.getD_some]
            exact HOK.out _ (List.getElem_mem _)
          have c16 := at_ k (by omega)
          have c15 := at_ (k + 1) (by omega)
          have c7 := at_ (k + 9) (by omega)
          have c2 := at_ (k + 14) (by omega)
          have r15 := range (k + 1) (by omega)
          have r2 := range (k + 14) (by omega)
          rw [← X16.out] at c16
          rw [← X15.out] at c15 r15
          rw [← X7.out] at c7
          rw [← X2.out] at c2 r2
          have ho := wrow_cell HD.out (k + 16) (by have := HF.out; omega)
          have hfz : wr.frozen? ⟨w.heap.size + 1, k + 16, none⟩ = false := frozen_of_row wr _ _ _ 138 HD.out
          clear at_ range
          have T7 : Hid _ := fun w => turned_any x15 7 128 33554432 w r15.1 r15.2 (by unfold Turn; decide)
          have T18 : Hid _ := fun w => turned_any x15 18 262144 16384 w r15.1 r15.2 (by unfold Turn; decide)
          have T17 : Hid _ := fun w => turned_any x2 17 131072 32768 w r2.1 r2.2 (by unfold Turn; decide)
          have T19 : Hid _ := fun w => turned_any x2 19 524288 8192 w r2.1 r2.2 (by unfold Turn; decide)
          go_wp2
          go_quiet (fail)
          go_wp2
          have hv16 : IntKind.i64.wrap ((k : Int) + 16 - 16) = (k : Int) := by rw [show (k : Int) + 16 - 16 = (k : Int) by omega]; exact wrap_int _ (by omega) (by omega)
          have hv7 : IntKind.i64.wrap ((k : Int) + 16 - 7) = (k : Int) + 9 := by rw [show (k : Int) + 16 - 7 = (k : Int) + 9 by omega]; exact wrap_int _ (by omega) (by omega)
          have ia := fun W => idxW W (w.heap.size + 1) k (k : Int) rfl (by omega)
          have ib := fun W => idxW W (w.heap.size + 1) (k + 9) ((k : Int) + 9) (by omega) (by omega)
          have ic := fun W => idxW W (w.heap.size + 1) (k + 16) ((k : Int) + 16) (by omega) (by omega)
          refine wp_region_held_drew (S := (fun W => W.cell? ⟨w.heap.size + 1, k, none⟩ = some (.int .u32 x16) ∧ W.cell? ⟨w.heap.size + 1, k + 9, none⟩ = some (.int .u32 x7))) (by kernel_rfl) ⟨c16, c7⟩ (fun hHeld => ?_)
          refine wpAnyH_take (i := 0) (oi := { dst := some 31, op := Op.move (Operand.tmp 5), type := 3, pos := "sha.go:97", after := #[], guard := none }) (v := .int .i64 ((k : Int) + 16)) rfl (by kernel_rfl) (by kernel_rfl) (by kernel_rfl) (fun _ _ _ h => h) (Or.inl ⟨by rfl, by intro W hSw; go_simp⟩) hHeld ?_
          try simp only [Act.put, List.setIfInBounds_toArray, List.set_cons_zero, List.set_cons_succ]
          refine wpAnyH_take (i := 1) (oi := { dst := some 32, op := Op.move (Operand.tmp 5), type := 3, pos := "sha.go:97", after := #[], guard := none }) (v := .int .i64 ((k : Int) + 16)) rfl (by kernel_rfl) (by kernel_rfl) (by kernel_rfl) (fun _ _ _ h => h) (Or.inl ⟨by rfl, by intro W hSw; go_simp⟩) hHeld ?_
          try simp only [Act.put, List.setIfInBounds_toArray, List.set_cons_zero, List.set_cons_succ]
          refine wpAnyH_take (i := 2) (oi := { dst := some 33, op := Op.binOp BinOp.sub 3 (Operand.tmp 32) (Operand.const (Value.int IntKind.i64 16)) 3, type := 3, pos := "sha.go:97", after := #[{ on := 1, ground := Ground.data }], guard := none }) (v := .int .i64 ((k : Int))) rfl (by kernel_rfl) (by kernel_rfl) (by kernel_rfl) (fun _ _ _ h => h) (Or.inl ⟨by rfl, by intro W hSw; go_simp; first | done | exact u32w _ | (rw [u32w]; first | rfl | omega) | omega | exact wrap_int _ (by omega) (by omega)⟩) hHeld ?_
          try simp only [Act.put, List.setIfInBounds_toArray, List.set_cons_zero, List.set_cons_succ]
          refine wpAnyH_take (i := 3) (oi := { dst := some 34, op := Op.indexAddr 138 (Operand.tmp 3) (Operand.tmp 33), type := 0, pos := "sha.go:97", after := #[{ on := 2, ground := Ground.data }], guard := none }) (v := .pointer (some ⟨w.heap.size + 1, k, none⟩)) rfl (by kernel_rfl) (by kernel_rfl) (by kernel_rfl) (fun _ _ _ h => h) (Or.inl ⟨by rfl, by intro W hSw; go_simp⟩) hHeld ?_
          try simp only [Act.put, List.setIfInBounds_toArray, List.set_cons_zero, List.set_cons_succ]
          refine wpAnyH_take (i := 4) (oi := { dst := some 35, op := Op.load 97 (Operand.tmp 34), type := 97, pos := "sha.go:97", after := #[{ on := 3, ground := Ground.data }], guard := none }) (v := .int .u32 (x16)) rfl (by kernel_rfl) (by kernel_rfl) (by kernel_rfl) (fun _ _ _ h => h) (Or.inl ⟨by rfl, by intro W hSw; obtain ⟨s1, s2⟩ := hSw; go_simp⟩) hHeld ?_
          try simp only [Act.put, List.setIfInBounds_toArray, List.set_cons_zero, List.set_cons_succ]
          refine wpAnyH_take (i := 5) (oi := { dst := some 36, op := Op.move (Operand.tmp 5), type := 3, pos := "sha.go:97", after := #[], guard := none }) (v := .int .i64 ((k : Int) + 16)) rfl (by kernel_rfl) (by kernel_rfl) (by kernel_rfl) (fun _ _ _ h => h) (Or.inl ⟨by rfl, by intro W hSw; go_simp⟩) hHeld ?_
          try simp only [Act.put, List.setIfInBounds_toArray, List.set_cons_zero, List.set_cons_succ]
          refine wpAnyH_take (i := 6) (oi := { dst := some 37, op := Op.binOp BinOp.sub 3 (Operand.tmp 36) (Operand.const (Value.int IntKind.i64 7)) 3, type := 3, pos := "sha.go:97", after := #[{ on := 5, ground := Ground.data }], guard := none }) (v := .int .i64 ((k : Int) + 9)) rfl (by kernel_rfl) (by kernel_rfl) (by kernel_rfl) (fun _ _ _ h => h) (Or.inl ⟨by rfl, by intro W hSw; go_simp; first | done | exact u32w _ | (rw [u32w]; first | rfl | omega) | omega | exact wrap_int _ (by omega) (by omega)⟩) hHeld ?_
          try simp only [Act.put, List.setIfInBounds_toArray, List.set_cons_zero, List.set_cons_succ]
          refine wpAnyH_take (i := 7) (oi := { dst := some 38, op := Op.indexAddr 138 (Operand.tmp 3) (Operand.tmp 37), type := 0, pos := "sha.go:97", after := #[{ on := 6, ground := Ground.data }], guard := none }) (v := .pointer (some ⟨w.heap.size + 1, k + 9, none⟩)) rfl (by kernel_rfl) (by kernel_rfl) (by kernel_rfl) (fun _ _ _ h => h) (Or.inl ⟨by rfl, by intro W hSw; go_simp⟩) hHeld ?_
          try simp only [Act.put, List.setIfInBounds_toArray, List.set_cons_zero, List.set_cons_succ]
          refine wpAnyH_take (i := 8) (oi := { dst := some 39, op := Op.load 97 (Operand.tmp 38), type := 97, pos := "sha.go:97", after := #[{ on := 7, ground := Ground.data }], guard := none }) (v := .int .u32 (x7)) rfl (by kernel_rfl) (by kernel_rfl) (by kernel_rfl) (fun _ _ _ h => h) (Or.inl ⟨by rfl, by intro W hSw; obtain ⟨s1, s2⟩ := hSw; go_simp⟩) hHeld ?_
          try simp only [Act.put, List.setIfInBounds_toArray, List.set_cons_zero, List.set_cons_succ]
          refine wpAnyH_take (i := 9) (oi := { dst := some 40, op := Op.binOp BinOp.add 97 (Operand.tmp 35) (Operand.tmp 39) 97, type := 97, pos := "sha.go:97", after := #[{ on := 4, ground := Ground.data }, { on := 8, ground := Ground.data }], guard := none }) (v := .int .u32 (((x16) + (x7)) % 4294967296)) rfl (by kernel_rfl) (by kernel_rfl) (by kernel_rfl) (fun _ _ _ h => h) (Or.inl ⟨by rfl, by intro W hSw; go_simp; first | done | exact u32w _ | (rw [u32w]; first | rfl | omega) | omega | exact wrap_int _ (by omega) (by omega)⟩) hHeld ?_
          try simp only [Act.put, List.setIfInBounds_toArray, List.set_cons_zero, List.set_cons_succ]
          refine wpAnyH_take (i := 10) (oi := { dst := some 41, op := Op.move (Operand.tmp 6), type := 97, pos := "sha.go:97", after := #[], guard := none }) (v := .int .u32 (x15)) rfl (by kernel_rfl) (by kernel_rfl) (by kernel_rfl) (fun _ _ _ h => h) (Or.inl ⟨by rfl, by intro W hSw; go_simp⟩) hHeld ?_
          try simp only [Act.put, List.setIfInBounds_toArray, List.set_cons_zero, List.set_cons_succ]
          refine wpAnyH_take (i := 12) (oi := { dst := some 43, op := Op.move (Operand.tmp 6), type := 97, pos := "sha.go:97", after := #[], guard := none }) (v := .int .u32 (x15)) rfl (by kernel_rfl) (by kernel_rfl) (by kernel_rfl) (fun _ _ _ h => h) (Or.inl ⟨by rfl, by intro W hSw; go_simp⟩) hHeld ?_
          try simp only [Act.put, List.setIfInBounds_toArray, List.set_cons_zero, List.set_cons_succ]
          refine wpAnyH_take (i := 15) (oi := { dst := some 46, op := Op.move (Operand.tmp 6), type := 97, pos := "sha.go:97", after := #[], guard := none }) (v := .int .u32 (x15)) rfl (by kernel_rfl) (by kernel_rfl) (by kernel_rfl) (fun _ _ _ h => h) (Or.inl ⟨by rfl, by intro W hSw; go_simp⟩) hHeld ?_
          try simp only [Act.put, List.setIfInBounds_toArray, List.set_cons_zero, List.set_cons_succ]
          refine wpAnyH_take (i := 16) (oi := { dst := some 47, op := Op.binOp BinOp.shr 97 (Operand.tmp 46) (Operand.const (Value.int IntKind.u64 3)) 103, type := 97, pos := "sha.go:97", after := #[{ on := 15, ground := Ground.data }], guard := none }) (v := .int .u32 ((x15) / 8)) rfl (by kernel_rfl) (by kernel_rfl) (by kernel_rfl) (fun _ _ _ h => h) (Or.inl ⟨by rfl, by intro W hSw; go_simp; first | done | exact u32w _ | (rw [u32w]; first | rfl | omega) | omega | exact wrap_int _ (by omega) (by omega)⟩) hHeld ?_
          try simp only [Act.put, List.setIfInBounds_toArray, List.set_cons_zero, List.set_cons_succ]
          refine wpAnyH_take (i := 19) (oi := { dst := some 50, op := Op.move (Operand.tmp 7), type := 97, pos := "sha.go:97", after := #[], guard := none }) (v := .int .u32 (x2)) rfl (by kernel_rfl) (by kernel_rfl) (by kernel_rfl) (fun _ _ _ h => h) (Or.inl ⟨by rfl, by intro W hSw; go_simp⟩) hHeld ?_
          try simp only [Act.put, List.setIfInBounds_toArray, List.set_cons_zero, List.set_cons_succ]
          refine wpAnyH_take (i := 21) (oi := { dst := some 52, op := Op.move (Operand.tmp 7), type := 97, pos := "sha.go:97", after := #[], guard := none }) (v := .int .u32 (x2)) rfl (by kernel_rfl) (by kernel_rfl) (by kernel_rfl) (fun _ _ _ h => h) (Or.inl ⟨by rfl, by intro W hSw; go_simp⟩) hHeld ?_
          try simp only [Act.put, List.setIfInBounds_toArray, List.set_cons_zero, List.set_cons_succ]
          refine wpAnyH_take (i := 24) (oi := { dst := some 55, op := Op.move (Operand.tmp 7), type := 97, pos := "sha.go:97", after := #[], guard := none }) (v := .int .u32 (x2)) rfl (by kernel_rfl) (by kernel_rfl) (by kernel_rfl) (fun _ _ _ h => h) (Or.inl ⟨by rfl, by intro W hSw; go_simp⟩) hHeld ?_
          try simp only [Act.put, List.setIfInBounds_toArray, List.set_cons_zero, List.set_cons_succ]
          refine wpAnyH_take (i := 25) (oi := { dst := some 56, op := Op.binOp BinOp.shr 97 (Operand.tmp 55) (Operand.const (Value.int IntKind.u64 10)) 103, type := 97, pos := "sha.go:97", after := #[{ on := 24, ground := Ground.data }], guard := none }) (v := .int .u32 ((x2) / 1024)) rfl (by kernel_rfl) (by kernel_rfl) (by kernel_rfl) (fun _ _ _ h => h) (Or.inl ⟨by rfl, by intro W hSw; go_simp; first | done | exact u32w _ | (rw [u32w]; first | rfl | omega) | omega | exact wrap_int _ (by omega) (by omega)⟩) hHeld ?_
          try simp only [Act.put, List.setIfInBounds_toArray, List.set_cons_zero, List.set_cons_succ]
          refine wpAnyH_ready (rs := [11]) (by kernel_rfl) (by simp) ?_
          refine AllReadyH.cons (o := { dst := some 42, op := Op.call { callee := Callee.value (Operand.func 76), args := #[Operand.tmp 41, Operand.const (Value.int IntKind.i64 7)], argTypes := #[97, 3] }, type := 97, pos := "sha.go:97", after := #[{ on := 10, ground := Ground.data }], guard := none }) rfl (fun K hK => ?_) AllReadyH.nil
          go_simp
          refine (T7.out _).mono ?_
          rintro e w' ⟨rfl, rfl⟩
          go_wp2_with fail
          refine hK.out _ _ hHeld (fun hHeld => ?_)
          clear hK K
          try simp only [Act.put, List.setIfInBounds_toArray, List.set_cons_zero, List.set_cons_succ]
          refine wpAnyH_ready (rs := [13]) (by kernel_rfl) (by simp) ?_
          refine AllReadyH.cons (o := { dst := some 44, op := Op.call { callee := Callee.value (Operand.func 76), args := #[Operand.tmp 43, Operand.const (Value.int IntKind.i64 18)], argTypes := #[97, 3] }, type := 97, pos := "sha.go:97", after := #[{ on := 12, ground := Ground.data }, { on := 11, ground := Ground.chain }], guard := none }) rfl (fun K hK => ?_) AllReadyH.nil
          go_simp
          refine (T18.out _).mono ?_
          rintro e w' ⟨rfl, rfl⟩
          go_wp2_with fail
          refine hK.out _ _ hHeld (fun hHeld => ?_)
          clear hK K
          try simp only [Act.put, List.setIfInBounds_toArray, List.set_cons_zero, List.set_cons_succ]
          refine wpAnyH_take (i := 14) (oi := { dst := some 45, op := Op.binOp BinOp.xor 97 (Operand.tmp 42) (Operand.tmp 44) 97, type := 97, pos := "sha.go:97", after := #[{ on := 11, ground := Ground.data }, { on := 13, ground := Ground.data }], guard := none }) (v := .int .u32 (bits .xor .u32 (rot (x15) 128 33554432) (rot (x15) 262144 16384))) rfl (by kernel_rfl) (by kernel_rfl) (by kernel_rfl) (fun _ _ _ h => h) (Or.inl ⟨by rfl, by intro W hSw; go_simp; first | done | exact u32w _ | (rw [u32w]; first | rfl | omega) | omega | exact wrap_int _ (by omega) (by omega)⟩) hHeld ?_
          try simp only [Act.put, List.setIfInBounds_toArray, List.set_cons_zero, List.set_cons_succ]
          refine wpAnyH_take (i := 17) (oi := { dst := some 48, op := Op.binOp BinOp.xor 97 (Operand.tmp 45) (Operand.tmp 47) 97, type := 97, pos := "sha.go:97", after := #[{ on := 14, ground := Ground.data }, { on := 16, ground := Ground.data }], guard := none }) (v := .int .u32 (bits .xor .u32 (bits .xor .u32 (rot (x15) 128 33554432) (rot (x15) 262144 16384)) ((x15) / 8))) rfl (by kernel_rfl) (by kernel_rfl) (by kernel_rfl) (fun _ _ _ h => h) (Or.inl ⟨by rfl, by intro W hSw; go_simp; first | done | exact u32w _ | (rw [u32w]; first | rfl | omega) | omega | exact wrap_int _ (by omega) (by omega)⟩) hHeld ?_
          try simp only [Act.put, List.setIfInBounds_toArray, List.set_cons_zero, List.set_cons_succ]
          refine wpAnyH_take (i := 18) (oi := { dst := some 49, op := Op.binOp BinOp.add 97 (Operand.tmp 40) (Operand.tmp 48) 97, type := 97, pos := "sha.go:97", after := #[{ on := 9, ground := Ground.data }, { on := 17, ground := Ground.data }], guard := none }) (v := .int .u32 (((((x16) + (x7)) % 4294967296) + (bits .xor .u32 (bits .xor .u32 (rot (x15) 128 33554432) (rot (x15) 262144 16384)) ((x15) / 8))) % 4294967296)) rfl (by kernel_rfl) (by kernel_rfl) (by kernel_rfl) (fun _ _ _ h => h) (Or.inl ⟨by rfl, by intro W hSw; go_simp; first | done | exact u32w _ | (rw [u32w]; first | rfl | omega) | omega | exact wrap_int _ (by omega) (by omega)⟩) hHeld ?_
          try simp only [Act.put, List.setIfInBounds_toArray, List.set_cons_zero, List.set_cons_succ]
          refine wpAnyH_ready (rs := [20]) (by kernel_rfl) (by simp) ?_
          refine AllReadyH.cons (o := { dst := some 51, op := Op.call { callee := Callee.value (Operand.func 76), args := #[Operand.tmp 50, Operand.const (Value.int IntKind.i64 17)], argTypes := #[97, 3] }, type := 97, pos := "sha.go:97", after := #[{ on := 19, ground := Ground.data }, { on := 13, ground := Ground.chain }], guard := none }) rfl (fun K hK => ?_) AllReadyH.nil
          go_simp
          refine (T17.out _).mono ?_
          rintro e w' ⟨rfl, rfl⟩
          go_wp2_with fail
          refine hK.out _ _ hHeld (fun hHeld => ?_)
          clear hK K
          try simp only [Act.put, List.setIfInBounds_toArray, List.set_cons_zero, List.set_cons_succ]
          refine wpAnyH_ready (rs := [22]) (by kernel_rfl) (by simp) ?_
          refine AllReadyH.cons (o := { dst := some 53, op := Op.call { callee := Callee.value (Operand.func 76), args := #[Operand.tmp 52, Operand.const (Value.int IntKind.i64 19)], argTypes := #[97, 3] }, type := 97, pos := "sha.go:97", after := #[{ on := 21, ground := Ground.data }, { on := 20, ground := Ground.chain }], guard := none }) rfl (fun K hK => ?_) AllReadyH.nil
          go_simp
          refine (T19.out _).mono ?_
          rintro e w' ⟨rfl, rfl⟩
          go_wp2_with fail
          refine hK.out _ _ hHeld (fun hHeld => ?_)
          clear hK K
          try simp only [Act.put, List.setIfInBounds_toArray, List.set_cons_zero, List.set_cons_succ]
          refine wpAnyH_take (i := 23) (oi := { dst := some 54, op := Op.binOp BinOp.xor 97 (Operand.tmp 51) (Operand.tmp 53) 97, type := 97, pos := "sha.go:97", after := #[{ on := 20, ground := Ground.data }, { on := 22, ground := Ground.data }], guard := none }) (v := .int .u32 (bits .xor .u32 (rot (x2) 131072 32768) (rot (x2) 524288 8192))) rfl (by kernel_rfl) (by kernel_rfl) (by kernel_rfl) (fun _ _ _ h => h) (Or.inl ⟨by rfl, by intro W hSw; go_simp; first | done | exact u32w _ | (rw [u32w]; first | rfl | omega) | omega | exact wrap_int _ (by omega) (by omega)⟩) hHeld ?_
          try simp only [Act.put, List.setIfInBounds_toArray, List.set_cons_zero, List.set_cons_succ]
          refine wpAnyH_take (i := 26) (oi := { dst := some 57, op := Op.binOp BinOp.xor 97 (Operand.tmp 54) (Operand.tmp 56) 97, type := 97, pos := "sha.go:97", after := #[{ on := 23, ground := Ground.data }, { on := 25, ground := Ground.data }], guard := none }) (v := .int .u32 (bits .xor .u32 (bits .xor .u32 (rot (x2) 131072 32768) (rot (x2) 524288 8192)) ((x2) / 1024))) rfl (by kernel_rfl) (by kernel_rfl) (by kernel_rfl) (fun _ _ _ h => h) (Or.inl ⟨by rfl, by intro W hSw; go_simp; first | done | exact u32w _ | (rw [u32w]; first | rfl | omega) | omega | exact wrap_int _ (by omega) (by omega)⟩) hHeld ?_
          try simp only [Act.put, List.setIfInBounds_toArray, List.set_cons_zero, List.set_cons_succ]
          refine wpAnyH_take (i := 27) (oi := { dst := some 58, op := Op.binOp BinOp.add 97 (Operand.tmp 49) (Operand.tmp 57) 97, type := 97, pos := "sha.go:97", after := #[{ on := 18, ground := Ground.data }, { on := 26, ground := Ground.data }], guard := none }) (v := .int .u32 (((((((x16) + (x7)) % 4294967296) + (bits .xor .u32 (bits .xor .u32 (rot (x15) 128 33554432) (rot (x15) 262144 16384)) ((x15) / 8))) % 4294967296) + (bits .xor .u32 (bits .xor .u32 (rot (x2) 131072 32768) (rot (x2) 524288 8192)) ((x2) / 1024))) % 4294967296)) rfl (by kernel_rfl) (by kernel_rfl) (by kernel_rfl) (fun _ _ _ h => h) (Or.inl ⟨by rfl, by intro W hSw; go_simp; first | done | exact u32w _ | (rw [u32w]; first | rfl | omega) | omega | exact wrap_int _ (by omega) (by omega)⟩) hHeld ?_
          try simp only [Act.put, List.setIfInBounds_toArray, List.set_cons_zero, List.set_cons_succ]
          refine wpAnyH_take (i := 28) (oi := { dst := some 59, op := Op.indexAddr 138 (Operand.tmp 3) (Operand.tmp 31), type := 0, pos := "sha.go:97", after := #[{ on := 0, ground := Ground.data }, { on := 0, ground := Ground.phase }, { on := 1, ground := Ground.phase }, { on := 2, ground := Ground.phase }, { on := 3, ground := Ground.phase }, { on := 4, ground := Ground.phase }, { on := 5, ground := Ground.phase }, { on := 6, ground := Ground.phase }, { on := 7, ground := Ground.phase }, { on := 8, ground := Ground.phase }, { on := 9, ground := Ground.phase }, { on := 10, ground := Ground.phase }, { on := 11, ground := Ground.phase }, { on := 12, ground := Ground.phase }, { on := 13, ground := Ground.phase }, { on := 14, ground := Ground.phase }, { on := 15, ground := Ground.phase }, { on := 16, ground := Ground.phase }, { on := 17, ground := Ground.phase }, { on := 18, ground := Ground.phase }, { on := 19, ground := Ground.phase }, { on := 20, ground := Ground.phase }, { on := 21, ground := Ground.phase }, { on := 22, ground := Ground.phase }, { on := 23, ground := Ground.phase }, { on := 24, ground := Ground.phase }, { on := 25, ground := Ground.phase }, { on := 26, ground := Ground.phase }, { on := 27, ground := Ground.phase }], guard := none }) (v := .pointer (some ⟨w.heap.size + 1, k + 16, none⟩)) rfl (by kernel_rfl) (by kernel_rfl) (by kernel_rfl) (fun _ _ _ h => h) (Or.inl ⟨by rfl, by intro W hSw; go_simp⟩) hHeld ?_
          try simp only [Act.put, List.setIfInBounds_toArray, List.set_cons_zero, List.set_cons_succ]
          refine wpAnyH_ready (rs := [29]) (by kernel_rfl) (by simp) ?_
          refine AllReadyH.cons (o := { dst := none, op := Op.store 97 (Operand.tmp 59) (Operand.tmp 58), type := 0, pos := "sha.go:97", after := #[{ on := 28, ground := Ground.data }, { on := 27, ground := Ground.data }, { on := 22, ground := Ground.chain }, { on := 0, ground := Ground.phase }, { on := 1, ground := Ground.phase }, { on := 2, ground := Ground.phase }, { on := 3, ground := Ground.phase }, { on := 4, ground := Ground.phase }, { on := 5, ground := Ground.phase }, { on := 6, ground := Ground.phase }, { on := 7, ground := Ground.phase }, { on := 8, ground := Ground.phase }, { on := 9, ground := Ground.phase }, { on := 10, ground := Ground.phase }, { on := 11, ground := Ground.phase }, { on := 12, ground := Ground.phase }, { on := 13, ground := Ground.phase }, { on := 14, ground := Ground.phase }, { on := 15, ground := Ground.phase }, { on := 16, ground := Ground.phase }, { on := 17, ground := Ground.phase }, { on := 18, ground := Ground.phase }, { on := 19, ground := Ground.phase }, { on := 20, ground := Ground.phase }, { on := 21, ground := Ground.phase }, { on := 22, ground := Ground.phase }, { on := 23, ground := Ground.phase }, { on := 24, ground := Ground.phase }, { on := 25, ground := Ground.phase }, { on := 26, ground := Ground.phase }, { on := 27, ground := Ground.phase }], guard := none }) rfl (fun K hK => ?_) AllReadyH.nil
          go_simp
          try go_wp2_with fail
          refine hK.out _ _ ⟨(World.cell?_setCell_other _ _ _ _ (by simp)).trans c16, (World.cell?_setCell_other _ _ _ _ (by simp)).trans c7⟩ (fun hHeld => ?_)
          clear hK K
          try simp only [Act.put, List.setIfInBounds_toArray, List.set_cons_zero, List.set_cons_succ]
          refine wpAnyH_done (by kernel_rfl) ?_ _
          have HN : Hid ((x16 + x7 + bits .xor .u32 (bits .xor .u32 (rot x15 128 33554432) (rot x15 262144 16384)) (x15 / 8) + bits .xor .u32 (bits .xor .u32 (rot x2 131072 32768) (rot x2 524288 8192)) (x2 / 1024)) % 4294967296 = nextW l) := by
            show _ = _
            have h1 := HLn.out
            unfold nextW
            rw [h1, show k + 16 - 16 = k by omega, show k + 16 - 7 = k + 9 by omega, show k + 16 - 15 = k + 1 by omega, show k + 16 - 2 = k + 14 by omega, ← X16.out, ← X7.out, ← X15.out, ← X2.out]
            unfold add32 xor32
            omega
          have HFS : Hid (fill (grow (words16 bl) (k + 1)) = (fill l).set (k + 16) (nextW l)) := by
            show _ = _
            have h1 := HLn.out
            have := fill_set l (nextW l) (by omega)
            rw [h1] at this
            rw [this]
            unfold grow
            rw [← HLW.out]
          go_wp2
          rw [HN.out]
          go_roundw
          case rel =>
            refine ⟨k + 1, by omega, by go_num, ?_, ?_, (below_drewN hB _).setCell (by simp) _⟩
            · show _ = _
              rw [heap_setCell_other _ _ _ _ (by simp)]
              exact HR.out
            · show _ = _
              rw [HFS.out]
              exact wrow_set (w := wr.drewN _) HD.out (k + 16) _
          case measure => simp [intOf]; omega
        · obtain rfl : k = 48 := by omega
          obtain ⟨D, HDD⟩ : ∃ D, Hid (D = (wcells (sched bl)).toArray) := ⟨_, (rfl : (wcells (sched bl)).toArray = _)⟩
          have HDL : Hid (wr.heap[w.heap.size + 1]? = some (.cells D 138 (0, 0))) := by
            show _ = _
            rw [HDD.out]
            have := HD.out
            have e : fill (grow (words16 bl) 48) = sched bl := by
              unfold fill sched
              rw [grow_length, words16_length]
              simp
            rw [e] at this
            exact this
          have HD64 : Hid (Z.size = D.size) := by
            show _ = _
            rw [HZ64.out, HDD.out]
            simp [wcells_length, sched, grow_length, words16_length]
          have HSD : Hid ((Tryd.prog.info? 138).map (·.size) = some D.size) := by
            show _ = _
            rw [← HD64.out]; exact HS.out
          have H1D : Hid (D.all (·.oneCell') = true) := by
            show _ = _
            rw [HDD.out]; exact wcells_all _
          go_wp2_with (first
            | (refine wpList_load_row rfl 138 (.tmp 3) rfl (w.heap.size + 1) rfl 138 D (0, 0) _ HDL.out Tryd.underlying138 rfl HSD.out ?_)
            | (refine wpList_store_row rfl 138 (.tmp 2) (.tmp 60) rfl w.heap.size D rfl rfl 138 Z HR.out HSD.out HD64.out H1D.out ?_)
            | fail)
          refine bodyPost_ret (v := .agg D) ?_ rfl ⟨?_, ?_⟩
          · exact results_cell_row (p := 2) (ty := 138) rfl _ _ w.heap.size 138 D (0, 0) _ rfl (setRow_heap _ _ _ _ 138 _ HR.out) Tryd.underlying138 rfl HSD.out
          · rw [HDD.out]
          · exact below_setRow hB (Nat.le_refl _) _
end Go.Proofs.YtdnhnjimhbbababDoor

/- What sha.mixed answers: the state behind a block. -/
namespace Go.Proofs.YtdnhnjimhbbababDoor
open Go.RowKit Sums
set_option maxRecDepth 100000
set_option linter.unusedVariables false
set_option linter.unusedSimpArgs false
/-- The table of constants lies where it was laid. -/
def Table (g : Nat) (w : World) : Prop := g < w.heap.size ∧ ∀ k, k < 64 → w.cell? ⟨g, k, none⟩ = some (.int .u32 (kT.getD k 0))
theorem Table.keep {g : Nat} {w w' : World} (h : Table g w) (hb : Below w.heap.size w w') : Table g w' :=
  ⟨Nat.lt_of_lt_of_le h.1 hb.size, fun k hk => by rw [hb.cell (p := ⟨g, k, none⟩) h.1]; exact h.2 k hk⟩
def OkSt (s : St) : Prop := Ok s.list
theorem list_length (s : St) : s.list.length = 8 := rfl
theorem step_ok (s : St) (k w : Int) (h : OkSt s) : OkSt (Sums.step s k w) := by
  intro z hz
  simp only [Sums.step, St.list, List.mem_cons, List.not_mem_nil, or_false] at hz
  have H : ∀ y ∈ s.list, 0 ≤ y ∧ y ≤ 4294967295 := h
  simp only [St.list, List.mem_cons, List.not_mem_nil, or_false, forall_eq_or_imp, forall_eq] at H
  rcases hz with rfl | rfl | rfl | rfl | rfl | rfl | rfl | rfl
  · exact add32_range _ _
  · exact H.1
  · exact H.2.1
  · exact H.2.2.1
  · exact add32_range _ _
  · exact H.2.2.2.2.1
  · exact H.2.2.2.2.2.1
  · exact H.2.2.2.2.2.2.1
theorem run_ok (s : St) (w : List Int) (n : Nat) (h : OkSt s) : OkSt (Sums.run s w n) := by
  induction n with
  | zero => exact h
  | succ n ih => exact step_ok _ _ _ ih
theorem plus_ok (s r : St) : OkSt (plus s r) := by
  intro z hz
  simp only [plus, St.list, List.mem_cons, List.not_mem_nil, or_false] at hz
  rcases hz with rfl | rfl | rfl | rfl | rfl | rfl | rfl | rfl <;> exact add32_range _ _
theorem sched_length (b : List UInt8) : (sched b).length = 64 := by simp [sched, grow_length, words16_length]
theorem size38 : (Tryd.prog.info? 98).map (·.size) = some 8 := by kernel_rfl
theorem zero38 : (Tryd.prog.info? 98).map (fun i => (i.zero, i.size)) = some (some (.agg (wcells (List.replicate 8 0)).toArray), 8) := by kernel_rfl
theorem noughts38 : ∃ Z : Array Value, Hid ((Tryd.prog.info? 98).map (fun i => (i.zero, i.size)) = some (some (.agg Z), Z.size)) ∧
    Hid ((Tryd.prog.info? 98).map (·.size) = some Z.size) ∧ Hid (Z.size = 8) :=
  ⟨(wcells (List.replicate 8 0)).toArray, zero38, size38, (rfl : _ = _)⟩
/-- A row of words: what a walk asks of it. -/
theorem words_row (l : List Int) (t n : Nat) (hl : l.length = n) (hs : (Tryd.prog.info? t).map (·.size) = some n) : ∃ D : Array Value, Hid (D = (wcells l).toArray) ∧ Hid ((Tryd.prog.info? t).map (·.size) = some D.size) ∧ Hid (D.all (·.oneCell') = true) ∧ Hid (D.size = n) := by
  refine ⟨(wcells l).toArray, (rfl : _ = _), ?_, wcells_all l, ?_⟩
  · show _ = _
    rw [hs]; simp [wcells_length, hl]
  · show _ = _
    simp [wcells_length, hl]
set_option maxHeartbeats 2000000 in
set_option maxRecDepth 100000 in
theorem mixed_any (s : St) (b off cap : Nat) (bl : List UInt8) (w : World) (hs : OkSt s) (hl : bl.length = 64) (hc : 64 ≤ cap) (hc2 : cap ≤ 9223372036854775807) (hb : b < w.heap.size) (hL : Lies w b off bl) (hT : Table 0 w) :
    Calls Tryd.prog 51 #[.agg (wcells s.list).toArray, .slice (some ⟨b, off, none⟩) 64 cap] w fun e w' => e = .returned (.agg (wcells (block s bl).list).toArray) ∧ Below w.heap.size w w' := by
  obtain ⟨Z8, HA8, HS8, H8⟩ := noughts38
  obtain ⟨Z, HZ, HA, HS, H1, HZ64⟩ := noughts45
  obtain ⟨D, HD, HSD, H1D, H8D⟩ := words_row s.list 98 8 rfl size38
  obtain ⟨V, HV, HSV, H1V, H64V⟩ := words_row (sched bl) 138 64 (sched_length bl) size45
  have HZV : Hid (Z.size = V.size) := by show _ = _; rw [HZ64.out, H64V.out]
  have HTB : Hid (Table 0 w) := hT
  have HOK : Hid (OkSt s) := hs
  have HK : Hid (∀ w1, Below w.heap.size w w1 → Calls Tryd.prog 75 #[.slice (some ⟨b, off, none⟩) 64 cap] w1 fun e w' => e = .returned (.agg V) ∧ Below w1.heap.size w1 w') := by
    intro w1 hb1
    rw [HV.out]
    exact sched_any b off cap bl w1 hl hc hc2 (Nat.lt_of_lt_of_le hb hb1.size) (hL.keep hb1 hb)
  rw [← HD.out]
  clear hL hl hT hs
  go_enter Tryd.func51, Tryd.ntmps51
  go_wp2_with (first
    | (refine wpList_alloc_row rfl 98 rfl Z8 HA8.out ?_)
    | fail)
  have hB0 : Below w.heap.size w ((w.alloc (.cells D 98)).alloc (.cells Z8 98)) := ((Below.refl _ _).alloc (Nat.le_refl _) _).alloc (by simp) _
  refine (HK.out _ hB0).mono ?_
  rintro e w1 ⟨rfl, hb1⟩
  have hs1 := hb1.size
  simp only [World.size_alloc] at hs1
  go_wp2_with (first
    | (refine wpList_alloc_row rfl 138 rfl Z HA.out ?_)
    | (refine wpList_store_row rfl 138 (.tmp 5) (.tmp 18) rfl w1.heap.size V rfl rfl 138 Z (heap_alloc_new w1 _) HSV.out HZV.out H1V.out ?_)
    | fail)
  obtain ⟨w2, hw2⟩ : ∃ w2, w2 = (w1.alloc (.cells Z 138)).setRow w1.heap.size V := ⟨_, rfl⟩
  rw [← hw2]
  have HG : Hid (w2.heap[w.heap.size]? = some (.cells D 98 (0, 0)) ∧ w2.heap[w.heap.size + 1]? = some (.cells Z8 98 (0, 0)) ∧ w2.heap[w1.heap.size]? = some (.cells V 138 (0, 0))) := by
    rw [hw2]
    refine ⟨keep_var ?_ _ _, keep_var ?_ _ _, new_var w1 Z V 138⟩
    · rw [hb1.block _ (by simp only [World.size_alloc]; omega)]; exact heap_alloc2_old w _ _
    · rw [hb1.block _ (by simp only [World.size_alloc]; omega)]; exact heap_alloc2_new w _ _
  have hB2 : Below w.heap.size w w2 := by
    rw [hw2]
    exact below_var (hB0.trans (hb1.mono (by simp only [World.size_alloc]; omega))) (by omega) _ _
  have HT2 : Hid (Table 0 w2) := HTB.out.keep hB2
  obtain ⟨gw, HGW⟩ : ∃ gw, Hid (gw = w1.heap.size) := ⟨_, (rfl : w1.heap.size = _)⟩
  rw [← HGW.out] at HG ⊢
  clear hw2 hb1 hs1 hB0 HK HTB
  have D8 : ∀ j, (hj : j < 8) → w2.cell? ⟨w.heap.size, j, none⟩ = some (.int .u32 (s.list[j]'(by rw [list_length]; exact hj))) := fun j hj => by
    have := HG.out.1
    rw [HD.out] at this
    exact wrow_cell this j hj
  have d0 : w2.cell? ⟨w.heap.size, 0, none⟩ = some (.int .u32 s.a) := D8 0 (by omega)
  have d1 : w2.cell? ⟨w.heap.size, 1, none⟩ = some (.int .u32 s.b) := D8 1 (by omega)
  have d2 : w2.cell? ⟨w.heap.size, 2, none⟩ = some (.int .u32 s.c) := D8 2 (by omega)
  have d3 : w2.cell? ⟨w.heap.size, 3, none⟩ = some (.int .u32 s.d) := D8 3 (by omega)
  have d4 : w2.cell? ⟨w.heap.size, 4, none⟩ = some (.int .u32 s.e) := D8 4 (by omega)
  have d5 : w2.cell? ⟨w.heap.size, 5, none⟩ = some (.int .u32 s.f) := D8 5 (by omega)
  have d6 : w2.cell? ⟨w.heap.size, 6, none⟩ = some (.int .u32 s.g) := D8 6 (by omega)
  have d7 : w2.cell? ⟨w.heap.size, 7, none⟩ = some (.int .u32 s.h) := D8 7 (by omega)
  clear D8
  go_quiet (fail)
  go_wp2
  go_quiet (fail)
  go_wp2
  go_loopw [6, 7, 8, 9, 10, 11, 12, 13, 35] (fun v6 v7 v8 v9 v10 v11 v12 v13 v35 wr => ∃ (k : Nat) (r : St) (n : Nat), k ≤ 64 ∧ v35 = .int .i64 k ∧ v6 = .int .u32 r.a ∧ v7 = .int .u32 r.b ∧ v8 = .int .u32 r.c ∧ v9 = .int .u32 r.d ∧
      v10 = .int .u32 r.e ∧ v11 = .int .u32 r.f ∧ v12 = .int .u32 r.g ∧ v13 = .int .u32 r.h ∧ Hid (r = Sums.run s (sched bl) k) ∧ wr = w2.drewN n)
    (fun _ _ _ _ _ _ _ _ v _ => 64 - (intOf v).toNat)
  case atStart => exact ⟨0, s, _, by omega, rfl, rfl, rfl, rfl, rfl, rfl, rfl, rfl, rfl, (rfl : s = _), by rw [World.drewN_drewN]⟩
  case round =>
    obtain ⟨k, r, n, hk, rfl, rfl, rfl, rfl, rfl, rfl, rfl, rfl, rfl, HR, rfl⟩ := hrel
    by_cases hlt : k < 64
    · have hdi : decide ((k : Int) < 64) = true := by rw [decide_eq_true_eq]; omega
      have HOr : Hid (OkSt r) := by show OkSt _; rw [HR.out]; exact run_ok _ _ _ HOK.out
      obtain ⟨kk, HKK⟩ : ∃ kk, Hid (kk = kT.getD k 0) := ⟨_, (rfl : kT.getD k 0 = _)⟩
      obtain ⟨ww, HWW⟩ : ∃ ww, Hid (ww = (sched bl).getD k 0) := ⟨_, (rfl : (sched bl).getD k 0 = _)⟩
      have ck : (w2.drewN n).cell? ⟨0, k, none⟩ = some (.int .u32 kk) := by
        rw [HKK.out]; exact HT2.out.2 k hlt
      have cw : (w2.drewN n).cell? ⟨gw, k, none⟩ = some (.int .u32 ww) := by
        have h1 := HG.out.2.2
        rw [HV.out] at h1
        have := wrow_cell h1 k (by rw [sched_length]; omega)
        rw [HWW.out]
        simpa [List.getD, List.getElem?_eq_getElem (show k < (sched bl).length by rw [sched_length]; omega)] using this
      have HE : Hid (Sums.step r kk ww = Sums.run s (sched bl) (k + 1)) := by
        show _ = _
        rw [HKK.out, HWW.out, HR.out]
        rfl
      obtain ⟨ra, rb, rc, rd, re, rf, rg, rh⟩ := r
      have HB : Hid ((0 ≤ ra ∧ ra ≤ 4294967295) ∧ (0 ≤ re ∧ re ≤ 4294967295)) := ⟨HOr.out ra (by simp [St.list]), HOr.out re (by simp [St.list])⟩
      have T6 : Hid _ := fun w => turned_any re 6 64 67108864 w HB.out.2.1 HB.out.2.2 (by unfold Turn; decide)
      have T11 : Hid _ := fun w => turned_any re 11 2048 2097152 w HB.out.2.1 HB.out.2.2 (by unfold Turn; decide)
      have T25 : Hid _ := fun w => turned_any re 25 33554432 128 w HB.out.2.1 HB.out.2.2 (by unfold Turn; decide)
      have T2 : Hid _ := fun w => turned_any ra 2 4 1073741824 w HB.out.1.1 HB.out.1.2 (by unfold Turn; decide)
      have T13 : Hid _ := fun w => turned_any ra 13 8192 524288 w HB.out.1.1 HB.out.1.2 (by unfold Turn; decide)
      have T22 : Hid _ := fun w => turned_any ra 22 4194304 1024 w HB.out.1.1 HB.out.1.2 (by unfold Turn; decide)
      have ia := fun W => idxW W 0 k (k : Int) rfl hlt
      have ib := fun W => idxW W gw k (k : Int) rfl hlt
      clear HR HOr
      go_wp2
      refine wp_region_held_drew (S := (fun W => W.cell? ⟨0, k, none⟩ = some (.int .u32 kk) ∧ W.cell? ⟨gw, k, none⟩ = some (.int .u32 ww))) (by kernel_rfl) ⟨ck, cw⟩ (fun hHeld => ?_)
      refine wpAnyH_take (i := 0) (oi := { dst := some 38, op := Op.move (Operand.tmp 13), type := 97, pos := "sha.go:79", after := #[], guard := none }) (v := .int .u32 (rh)) rfl (by kernel_rfl) (by kernel_rfl) (by kernel_rfl) (fun _ _ _ h => h) (Or.inl ⟨by rfl, by intro W hSw; go_simp⟩) hHeld ?_
      try simp only [Act.put, List.setIfInBounds_toArray, List.set_cons_zero, List.set_cons_succ]
      refine wpAnyH_take (i := 1) (oi := { dst := some 39, op := Op.move (Operand.tmp 10), type := 97, pos := "sha.go:79", after := #[], guard := none }) (v := .int .u32 (re)) rfl (by kernel_rfl) (by kernel_rfl) (by kernel_rfl) (fun _ _ _ h => h) (Or.inl ⟨by rfl, by intro W hSw; go_simp⟩) hHeld ?_
      try simp only [Act.put, List.setIfInBounds_toArray, List.set_cons_zero, List.set_cons_succ]
      refine wpAnyH_take (i := 3) (oi := { dst := some 41, op := Op.move (Operand.tmp 10), type := 97, pos := "sha.go:79", after := #[], guard := none }) (v := .int .u32 (re)) rfl (by kernel_rfl) (by kernel_rfl) (by kernel_rfl) (fun _ _ _ h => h) (Or.inl ⟨by rfl, by intro W hSw; go_simp⟩) hHeld ?_
      try simp only [Act.put, List.setIfInBounds_toArray, List.set_cons_zero, List.set_cons_succ]
      refine wpAnyH_take (i := 6) (oi := { dst := some 44, op := Op.move (Operand.tmp 10), type := 97, pos := "sha.go:79", after := #[], guard := none }) (v := .int .u32 (re)) rfl (by kernel_rfl) (by kernel_rfl) (by kernel_rfl) (fun _ _ _ h => h) (Or.inl ⟨by rfl, by intro W hSw; go_simp⟩) hHeld ?_
      try simp only [Act.put, List.setIfInBounds_toArray, List.set_cons_zero, List.set_cons_succ]
      refine wpAnyH_take (i := 10) (oi := { dst := some 48, op := Op.move (Operand.tmp 10), type := 97, pos := "sha.go:79", after := #[], guard := none }) (v := .int .u32 (re)) rfl (by kernel_rfl) (by kernel_rfl) (by kernel_rfl) (fun _ _ _ h => h) (Or.inl ⟨by rfl, by intro W hSw; go_simp⟩) hHeld ?_
      try simp only [Act.put, List.setIfInBounds_toArray, List.set_cons_zero, List.set_cons_succ]
      refine wpAnyH_take (i := 11) (oi := { dst := some 49, op := Op.move (Operand.tmp 11), type := 97, pos := "sha.go:79", after := #[], guard := none }) (v := .int .u32 (rf)) rfl (by kernel_rfl) (by kernel_rfl) (by kernel_rfl) (fun _ _ _ h => h) (Or.inl ⟨by rfl, by intro W hSw; go_simp⟩) hHeld ?_
      try simp only [Act.put, List.setIfInBounds_toArray, List.set_cons_zero, List.set_cons_succ]
      refine wpAnyH_take (i := 12) (oi := { dst := some 50, op := Op.binOp BinOp.and 97 (Operand.tmp 48) (Operand.tmp 49) 97, type := 97, pos := "sha.go:79", after := #[{ on := 10, ground := Ground.data }, { on := 11, ground := Ground.data }], guard := none }) (v := .int .u32 (bits .and .u32 (re) (rf))) rfl (by kernel_rfl) (by kernel_rfl) (by kernel_rfl) (fun _ _ _ h => h) (Or.inl ⟨by rfl, by intro W hSw; go_simp; first | done | exact u32w _ | (rw [u32w]; first | rfl | omega) | omega | exact wrap_int _ (by omega) (by omega)⟩) hHeld ?_
      try simp only [Act.put, List.setIfInBounds_toArray, List.set_cons_zero, List.set_cons_succ]
      refine wpAnyH_take (i := 13) (oi := { dst := some 51, op := Op.move (Operand.tmp 10), type := 97, pos := "sha.go:79", after := #[], guard := none }) (v := .int .u32 (re)) rfl (by kernel_rfl) (by kernel_rfl) (by kernel_rfl) (fun _ _ _ h => h) (Or.inl ⟨by rfl, by intro W hSw; go_simp⟩) hHeld ?_
      try simp only [Act.put, List.setIfInBounds_toArray, List.set_cons_zero, List.set_cons_succ]
      refine wpAnyH_take (i := 14) (oi := { dst := some 52, op := Op.unOp UnOp.xor 97 (Operand.tmp 51), type := 97, pos := "sha.go:79", after := #[{ on := 13, ground := Ground.data }], guard := none }) (v := .int .u32 (bits .xor .u32 4294967295 (re))) rfl (by kernel_rfl) (by kernel_rfl) (by kernel_rfl) (fun _ _ _ h => h) (Or.inl ⟨by rfl, by intro W hSw; go_simp; first | done | rfl⟩) hHeld ?_
      try simp only [Act.put, List.setIfInBounds_toArray, List.set_cons_zero, List.set_cons_succ]
      refine wpAnyH_take (i := 15) (oi := { dst := some 53, op := Op.move (Operand.tmp 12), type := 97, pos := "sha.go:79", after := #[], guard := none }) (v := .int .u32 (rg)) rfl (by kernel_rfl) (by kernel_rfl) (by kernel_rfl) (fun _ _ _ h => h) (Or.inl ⟨by rfl, by intro W hSw; go_simp⟩) hHeld ?_
      try simp only [Act.put, List.setIfInBounds_toArray, List.set_cons_zero, List.set_cons_succ]
      refine wpAnyH_take (i := 16) (oi := { dst := some 54, op := Op.binOp BinOp.and 97 (Operand.tmp 52) (Operand.tmp 53) 97, type := 97, pos := "sha.go:79", after := #[{ on := 14, ground := Ground.data }, { on := 15, ground := Ground.data }], guard := none }) (v := .int .u32 (bits .and .u32 (bits .xor .u32 4294967295 (re)) (rg))) rfl (by kernel_rfl) (by kernel_rfl) (by kernel_rfl) (fun _ _ _ h => h) (Or.inl ⟨by rfl, by intro W hSw; go_simp; first | done | exact u32w _ | (rw [u32w]; first | rfl | omega) | omega | exact wrap_int _ (by omega) (by omega)⟩) hHeld ?_
      try simp only [Act.put, List.setIfInBounds_toArray, List.set_cons_zero, List.set_cons_succ]
      refine wpAnyH_take (i := 17) (oi := { dst := some 55, op := Op.binOp BinOp.xor 97 (Operand.tmp 50) (Operand.tmp 54) 97, type := 97, pos := "sha.go:79", after := #[{ on := 12, ground := Ground.data }, { on := 16, ground := Ground.data }], guard := none }) (v := .int .u32 (bits .xor .u32 (bits .and .u32 (re) (rf)) (bits .and .u32 (bits .xor .u32 4294967295 (re)) (rg)))) rfl (by kernel_rfl) (by kernel_rfl) (by kernel_rfl) (fun _ _ _ h => h) (Or.inl ⟨by rfl, by intro W hSw; go_simp; first | done | exact u32w _ | (rw [u32w]; first | rfl | omega) | omega | exact wrap_int _ (by omega) (by omega)⟩) hHeld ?_
      try simp only [Act.put, List.setIfInBounds_toArray, List.set_cons_zero, List.set_cons_succ]
      refine wpAnyH_take (i := 19) (oi := { dst := some 57, op := Op.move (Operand.tmp 14), type := 3, pos := "sha.go:79", after := #[], guard := none }) (v := .int .i64 (k : Int)) rfl (by kernel_rfl) (by kernel_rfl) (by kernel_rfl) (fun _ _ _ h => h) (Or.inl ⟨by rfl, by intro W hSw; go_simp⟩) hHeld ?_
      try simp only [Act.put, List.setIfInBounds_toArray, List.set_cons_zero, List.set_cons_succ]
      refine wpAnyH_take (i := 20) (oi := { dst := some 58, op := Op.indexAddr 138 (Operand.global 0) (Operand.tmp 57), type := 0, pos := "sha.go:79", after := #[{ on := 19, ground := Ground.data }], guard := none }) (v := .pointer (some ⟨0, k, none⟩)) rfl (by kernel_rfl) (by kernel_rfl) (by kernel_rfl) (fun _ _ _ h => h) (Or.inl ⟨by rfl, by intro W hSw; go_simp⟩) hHeld ?_
      try simp only [Act.put, List.setIfInBounds_toArray, List.set_cons_zero, List.set_cons_succ]
      refine wpAnyH_take (i := 21) (oi := { dst := some 59, op := Op.load 97 (Operand.tmp 58), type := 97, pos := "sha.go:79", after := #[{ on := 20, ground := Ground.data }], guard := none }) (v := .int .u32 (kk)) rfl (by kernel_rfl) (by kernel_rfl) (by kernel_rfl) (fun _ _ _ h => h) (Or.inl ⟨by rfl, by intro W hSw; obtain ⟨s1, s2⟩ := hSw; go_simp⟩) hHeld ?_
      try simp only [Act.put, List.setIfInBounds_toArray, List.set_cons_zero, List.set_cons_succ]
      refine wpAnyH_take (i := 23) (oi := { dst := some 61, op := Op.move (Operand.tmp 14), type := 3, pos := "sha.go:79", after := #[], guard := none }) (v := .int .i64 (k : Int)) rfl (by kernel_rfl) (by kernel_rfl) (by kernel_rfl) (fun _ _ _ h => h) (Or.inl ⟨by rfl, by intro W hSw; go_simp⟩) hHeld ?_
      try simp only [Act.put, List.setIfInBounds_toArray, List.set_cons_zero, List.set_cons_succ]
      refine wpAnyH_take (i := 24) (oi := { dst := some 62, op := Op.indexAddr 138 (Operand.tmp 5) (Operand.tmp 61), type := 0, pos := "sha.go:79", after := #[{ on := 23, ground := Ground.data }], guard := none }) (v := .pointer (some ⟨gw, k, none⟩)) rfl (by kernel_rfl) (by kernel_rfl) (by kernel_rfl) (fun _ _ _ h => h) (Or.inl ⟨by rfl, by intro W hSw; go_simp⟩) hHeld ?_
      try simp only [Act.put, List.setIfInBounds_toArray, List.set_cons_zero, List.set_cons_succ]
      refine wpAnyH_take (i := 25) (oi := { dst := some 63, op := Op.load 97 (Operand.tmp 62), type := 97, pos := "sha.go:79", after := #[{ on := 24, ground := Ground.data }], guard := none }) (v := .int .u32 (ww)) rfl (by kernel_rfl) (by kernel_rfl) (by kernel_rfl) (fun _ _ _ h => h) (Or.inl ⟨by rfl, by intro W hSw; obtain ⟨s1, s2⟩ := hSw; go_simp⟩) hHeld ?_
      try simp only [Act.put, List.setIfInBounds_toArray, List.set_cons_zero, List.set_cons_succ]
      refine wpAnyH_ready (rs := [2]) (by kernel_rfl) (by simp) ?_
      refine AllReadyH.cons (o := { dst := some 40, op := Op.call { callee := Callee.value (Operand.func 76), args := #[Operand.tmp 39, Operand.const (Value.int IntKind.i64 6)], argTypes := #[97, 3] }, type := 97, pos := "sha.go:79", after := #[{ on := 1, ground := Ground.data }], guard := none }) rfl (fun K hK => ?_) AllReadyH.nil
      go_simp
      refine (T6.out _).mono ?_
      rintro e w' ⟨rfl, rfl⟩
      go_wp2_with fail
      refine hK.out _ _ hHeld (fun hHeld => ?_)
      clear hK K
      try simp only [Act.put, List.setIfInBounds_toArray, List.set_cons_zero, List.set_cons_succ]
      refine wpAnyH_ready (rs := [4]) (by kernel_rfl) (by simp) ?_
      refine AllReadyH.cons (o := { dst := some 42, op := Op.call { callee := Callee.value (Operand.func 76), args := #[Operand.tmp 41, Operand.const (Value.int IntKind.i64 11)], argTypes := #[97, 3] }, type := 97, pos := "sha.go:79", after := #[{ on := 3, ground := Ground.data }, { on := 2, ground := Ground.chain }], guard := none }) rfl (fun K hK => ?_) AllReadyH.nil
      go_simp
      refine (T11.out _).mono ?_
      rintro e w' ⟨rfl, rfl⟩
      go_wp2_with fail
      refine hK.out _ _ hHeld (fun hHeld => ?_)
      clear hK K
      try simp only [Act.put, List.setIfInBounds_toArray, List.set_cons_zero, List.set_cons_succ]
      refine wpAnyH_take (i := 5) (oi := { dst := some 43, op := Op.binOp BinOp.xor 97 (Operand.tmp 40) (Operand.tmp 42) 97, type := 97, pos := "sha.go:79", after := #[{ on := 2, ground := Ground.data }, { on := 4, ground := Ground.data }], guard := none }) (v := .int .u32 (bits .xor .u32 (rot (re) 64 67108864) (rot (re) 2048 2097152))) rfl (by kernel_rfl) (by kernel_rfl) (by kernel_rfl) (fun _ _ _ h => h) (Or.inl ⟨by rfl, by intro W hSw; go_simp; first | done | exact u32w _ | (rw [u32w]; first | rfl | omega) | omega | exact wrap_int _ (by omega) (by omega)⟩) hHeld ?_
      try simp only [Act.put, List.setIfInBounds_toArray, List.set_cons_zero, List.set_cons_succ]
      refine wpAnyH_ready (rs := [7]) (by kernel_rfl) (by simp) ?_
      refine AllReadyH.cons (o := { dst := some 45, op := Op.call { callee := Callee.value (Operand.func 76), args := #[Operand.tmp 44, Operand.const (Value.int IntKind.i64 25)], argTypes := #[97, 3] }, type := 97, pos := "sha.go:79", after := #[{ on := 6, ground := Ground.data }, { on := 4, ground := Ground.chain }], guard := none }) rfl (fun K hK => ?_) AllReadyH.nil
      go_simp
      refine (T25.out _).mono ?_
      rintro e w' ⟨rfl, rfl⟩
      go_wp2_with fail
      refine hK.out _ _ hHeld (fun hHeld => ?_)
      clear hK K
      try simp only [Act.put, List.setIfInBounds_toArray, List.set_cons_zero, List.set_cons_succ]
      refine wpAnyH_take (i := 8) (oi := { dst := some 46, op := Op.binOp BinOp.xor 97 (Operand.tmp 43) (Operand.tmp 45) 97, type := 97, pos := "sha.go:79", after := #[{ on := 5, ground := Ground.data }, { on := 7, ground := Ground.data }], guard := none }) (v := .int .u32 (bits .xor .u32 (bits .xor .u32 (rot (re) 64 67108864) (rot (re) 2048 2097152)) (rot (re) 33554432 128))) rfl (by kernel_rfl) (by kernel_rfl) (by kernel_rfl) (fun _ _ _ h => h) (Or.inl ⟨by rfl, by intro W hSw; go_simp; first | done | exact u32w _ | (rw [u32w]; first | rfl | omega) | omega | exact wrap_int _ (by omega) (by omega)⟩) hHeld ?_
      try simp only [Act.put, List.setIfInBounds_toArray, List.set_cons_zero, List.set_cons_succ]
      refine wpAnyH_take (i := 9) (oi := { dst := some 47, op := Op.binOp BinOp.add 97 (Operand.tmp 38) (Operand.tmp 46) 97, type := 97, pos := "sha.go:79", after := #[{ on := 0, ground := Ground.data }, { on := 8, ground := Ground.data }], guard := none }) (v := .int .u32 (((rh) + (bits .xor .u32 (bits .xor .u32 (rot (re) 64 67108864) (rot (re) 2048 2097152)) (rot (re) 33554432 128))) % 4294967296)) rfl (by kernel_rfl) (by kernel_rfl) (by kernel_rfl) (fun _ _ _ h => h) (Or.inl ⟨by rfl, by intro W hSw; go_simp; first | done | exact u32w _ | (rw [u32w]; first | rfl | omega) | omega | exact wrap_int _ (by omega) (by omega)⟩) hHeld ?_
      try simp only [Act.put, List.setIfInBounds_toArray, List.set_cons_zero, List.set_cons_succ]
      refine wpAnyH_take (i := 18) (oi := { dst := some 56, op := Op.binOp BinOp.add 97 (Operand.tmp 47) (Operand.tmp 55) 97, type := 97, pos := "sha.go:79", after := #[{ on := 9, ground := Ground.data }, { on := 17, ground := Ground.data }], guard := none }) (v := .int .u32 (((((rh) + (bits .xor .u32 (bits .xor .u32 (rot (re) 64 67108864) (rot (re) 2048 2097152)) (rot (re) 33554432 128))) % 4294967296) + (bits .xor .u32 (bits .and .u32 (re) (rf)) (bits .and .u32 (bits .xor .u32 4294967295 (re)) (rg)))) % 4294967296)) rfl (by kernel_rfl) (by kernel_rfl) (by kernel_rfl) (fun _ _ _ h => h) (Or.inl ⟨by rfl, by intro W hSw; go_simp; first | done | exact u32w _ | (rw [u32w]; first | rfl | omega) | omega | exact wrap_int _ (by omega) (by omega)⟩) hHeld ?_
      try simp only [Act.put, List.setIfInBounds_toArray, List.set_cons_zero, List.set_cons_succ]
      refine wpAnyH_take (i := 22) (oi := { dst := some 60, op := Op.binOp BinOp.add 97 (Operand.tmp 56) (Operand.tmp 59) 97, type := 97, pos := "sha.go:79", after := #[{ on := 18, ground := Ground.data }, { on := 21, ground := Ground.data }], guard := none }) (v := .int .u32 (((((((rh) + (bits .xor .u32 (bits .xor .u32 (rot (re) 64 67108864) (rot (re) 2048 2097152)) (rot (re) 33554432 128))) % 4294967296) + (bits .xor .u32 (bits .and .u32 (re) (rf)) (bits .and .u32 (bits .xor .u32 4294967295 (re)) (rg)))) % 4294967296) + (kk)) % 4294967296)) rfl (by kernel_rfl) (by kernel_rfl) (by kernel_rfl) (fun _ _ _ h => h) (Or.inl ⟨by rfl, by intro W hSw; go_simp; first | done | exact u32w _ | (rw [u32w]; first | rfl | omega) | omega | exact wrap_int _ (by omega) (by omega)⟩) hHeld ?_
      try simp only [Act.put, List.setIfInBounds_toArray, List.set_cons_zero, List.set_cons_succ]
      refine wpAnyH_take (i := 26) (oi := { dst := some 64, op := Op.binOp BinOp.add 97 (Operand.tmp 60) (Operand.tmp 63) 97, type := 97, pos := "sha.go:79", after := #[{ on := 22, ground := Ground.data }, { on := 25, ground := Ground.data }], guard := none }) (v := .int .u32 (((((((((rh) + (bits .xor .u32 (bits .xor .u32 (rot (re) 64 67108864) (rot (re) 2048 2097152)) (rot (re) 33554432 128))) % 4294967296) + (bits .xor .u32 (bits .and .u32 (re) (rf)) (bits .and .u32 (bits .xor .u32 4294967295 (re)) (rg)))) % 4294967296) + (kk)) % 4294967296) + (ww)) % 4294967296)) rfl (by kernel_rfl) (by kernel_rfl) (by kernel_rfl) (fun _ _ _ h => h) (Or.inl ⟨by rfl, by intro W hSw; go_simp; first | done | exact u32w _ | (rw [u32w]; first | rfl | omega) | omega | exact wrap_int _ (by omega) (by omega)⟩) hHeld ?_
      try simp only [Act.put, List.setIfInBounds_toArray, List.set_cons_zero, List.set_cons_succ]
      refine wpAnyH_take (i := 27) (oi := { dst := some 15, op := Op.assign (Operand.tmp 64), type := 97, pos := "sha.go:79", after := #[{ on := 26, ground := Ground.data }, { on := 7, ground := Ground.chain }, { on := 0, ground := Ground.phase }, { on := 1, ground := Ground.phase }, { on := 2, ground := Ground.phase }, { on := 3, ground := Ground.phase }, { on := 4, ground := Ground.phase }, { on := 5, ground := Ground.phase }, { on := 6, ground := Ground.phase }, { on := 7, ground := Ground.phase }, { on := 8, ground := Ground.phase }, { on := 9, ground := Ground.phase }, { on := 10, ground := Ground.phase }, { on := 11, ground := Ground.phase }, { on := 12, ground := Ground.phase }, { on := 13, ground := Ground.phase }, { on := 14, ground := Ground.phase }, { on := 15, ground := Ground.phase }, { on := 16, ground := Ground.phase }, { on := 17, ground := Ground.phase }, { on := 18, ground := Ground.phase }, { on := 19, ground := Ground.phase }, { on := 20, ground := Ground.phase }, { on := 21, ground := Ground.phase }, { on := 22, ground := Ground.phase }, { on := 23, ground := Ground.phase }, { on := 24, ground := Ground.phase }, { on := 25, ground := Ground.phase }, { on := 26, ground := Ground.phase }], guard := none }) (v := .int .u32 (((((((((rh) + (bits .xor .u32 (bits .xor .u32 (rot (re) 64 67108864) (rot (re) 2048 2097152)) (rot (re) 33554432 128))) % 4294967296) + (bits .xor .u32 (bits .and .u32 (re) (rf)) (bits .and .u32 (bits .xor .u32 4294967295 (re)) (rg)))) % 4294967296) + (kk)) % 4294967296) + (ww)) % 4294967296)) rfl (by kernel_rfl) (by kernel_rfl) (by kernel_rfl) (fun _ _ _ h => h) (Or.inl ⟨by rfl, by intro W hSw; go_simp⟩) hHeld ?_
      try simp only [Act.put, List.setIfInBounds_toArray, List.set_cons_zero, List.set_cons_succ]
      refine wpAnyH_done (by kernel_rfl) ?_ _
      go_wp2_with (first
        | (go_at_call 76; refine (T2.out _).mono ?_; rintro e w' ⟨rfl, rfl⟩)
        | (go_at_call 76; refine (T13.out _).mono ?_; rintro e w' ⟨rfl, rfl⟩)
        | (go_at_call 76; refine (T22.out _).mono ?_; rintro e w' ⟨rfl, rfl⟩))
      go_roundw
      case rel =>
        refine ⟨k + 1, Sums.step ⟨ra, rb, rc, rd, re, rf, rg, rh⟩ kk ww, n + 1, by omega, by go_num, ?_, rfl, rfl, rfl, ?_, rfl, rfl, rfl, HE, rfl⟩
        · congr 1
          simp only [Sums.step, pOf, qOf, add32, xor32, and32, not32]
          omega
        · congr 1
          simp only [Sums.step, pOf, qOf, add32, xor32, and32, not32]
          omega
      case measure => simp [intOf]; omega
    · obtain rfl : k = 64 := by omega
      obtain ⟨ra, rb, rc, rd, re, rf, rg, rh⟩ := r
      have HE : Hid (block s bl = plus s ⟨ra, rb, rc, rd, re, rf, rg, rh⟩) := by
        show _ = _
        rw [HR.out]
        rfl
      have H8Z : Hid (w2.heap[w.heap.size + 1]? = some (.cells Z8 98 (0, 0))) := HG.out.2.1
      have F1 : Hid ((wcells (plus s ⟨ra, rb, rc, rd, re, rf, rg, rh⟩).list).toArray.size = 8) := (rfl : _ = _)
      have F2 : Hid ((Tryd.prog.info? 98).map (·.size) = some (wcells (plus s ⟨ra, rb, rc, rd, re, rf, rg, rh⟩).list).toArray.size) := by show _ = _; rw [F1.out]; exact size38
      have F3 : Hid (Z8.size = (wcells (plus s ⟨ra, rb, rc, rd, re, rf, rg, rh⟩).list).toArray.size) := by show _ = _; rw [F1.out]; exact H8.out
      have F4 : Hid ((wcells (plus s ⟨ra, rb, rc, rd, re, rf, rg, rh⟩).list).toArray.all (·.oneCell') = true) := wcells_all _
      go_wp2_with (first
        | (refine wpList_store_row rfl 98 (.tmp 4) (.tmp 130) rfl (w.heap.size + 1) (wcells (plus s ⟨ra, rb, rc, rd, re, rf, rg, rh⟩).list).toArray rfl (by rfl) 98 Z8 H8Z.out F2.out F3.out F4.out ?_)
        | fail)
      rw [HE.out]
      refine bodyPost_ret (v := .agg (wcells (plus s ⟨ra, rb, rc, rd, re, rf, rg, rh⟩).list).toArray) ?_ rfl ⟨rfl, ?_⟩
      · exact results_cell_row (p := 4) (ty := 98) rfl _ _ (w.heap.size + 1) 98 _ (0, 0) _ rfl (setRow_heap _ _ _ _ 98 _ H8Z.out) Tryd.underlying98 rfl F2.out
      · exact below_setRow (below_drewN hB2 _) (by omega) _
end Go.Proofs.YtdnhnjimhbbababDoor

/- What sha.message answers: the parts' bytes, and what fills them up to whole blocks. -/
namespace Go.Proofs.YtdnhnjimhbbababDoor
open Go.RowKit Sums
set_option maxRecDepth 100000
set_option linter.unusedVariables false
set_option linter.unusedSimpArgs false
theorem info5' : (Tryd.prog.info? 5).map (fun i => (i.zero, i.size, i.bytes)) = some (some (.int .u8 0), 1, 1) := by kernel_rfl
theorem size5' : (Tryd.prog.info? 5).map (·.size) = some 1 := by kernel_rfl
/-- How many bytes some texts have; these bytes. -/
def total : List ByteArray → Nat
  | [] => 0
  | s :: r => s.size + total r
def joinL (ss : List ByteArray) : List UInt8 := ss.flatMap fun s => s.data.toList
theorem joinL_length (ss : List ByteArray) : (joinL ss).length = total ss := by
  induction ss with
  | nil => rfl
  | cons s r ih => simp [joinL, total] at ih ⊢; rw [ih]
theorem joinL_append (a b : List ByteArray) : joinL (a ++ b) = joinL a ++ joinL b := by simp [joinL]
theorem total_append (a b : List ByteArray) : total (a ++ b) = total a + total b := by
  induction a with
  | nil => simp [total]
  | cons s r ih => simp [total, ih]; omega
theorem take_succ_parts (ss : List ByteArray) (k : Nat) (h : k < ss.length) : ss.take (k + 1) = ss.take k ++ [ss[k]] := by
  rw [List.take_add_one, List.getElem?_eq_getElem h]; rfl
theorem total_take (ss : List ByteArray) (k : Nat) : total (ss.take k) ≤ total ss := by
  have h := total_append (ss.take k) (ss.drop k)
  rw [List.take_append_drop] at h
  omega
theorem total_step (ss : List ByteArray) (k : Nat) (h : k < ss.length) : total (ss.take (k + 1)) = total (ss.take k) + ss[k].size := by
  rw [take_succ_parts ss k h, total_append]; rfl
/-- A slice of texts that can be read. -/
def Texts (w : World) (a : Option Addr) (len : Nat) (ss : List ByteArray) : Prop :=
  ss.length = len ∧ (len = 0 ∨ ∃ b off, a = some ⟨b, off, none⟩ ∧ b < w.heap.size ∧ ∀ i, (hi : i < ss.length) → w.cell? ⟨b, off + i, none⟩ = some (.string ss[i]))
theorem Texts.keep {w w' : World} {a : Option Addr} {len : Nat} {ss : List ByteArray} (h : Texts w a len ss) (hb : Below w.heap.size w w') : Texts w' a len ss := by
  refine ⟨h.1, ?_⟩
  rcases h.2 with h0 | ⟨b, off, rfl, hlt, hc⟩
  · exact .inl h0
  · exact .inr ⟨b, off, rfl, Nat.lt_of_lt_of_le hlt hb.size, fun i hi => by rw [hb.cell (p := ⟨b, off + i, none⟩) hlt]; exact hc i hi⟩
theorem own_row {w : World} {B g n : Nat} {l : List UInt8} (h : w.ownsRow B 5 1 (.slice (some ⟨g, 0, none⟩) n n) n (cellsOf l)) : w.heap[g]? = some (.cells (cellsOf l).toArray 5 (0, 0)) := by
  rcases h.2 with ⟨h0, _⟩ | ⟨g', cap, cur, hv, _, hg, _, _, hsz, ht⟩
  · cases h0
  · cases hv
    rw [hg]
    have : cur.toList = cellsOf l := by
      rw [← ht, List.take_of_length_le]
      simp [hsz]
    rw [← this]
theorem cells_made (n : Nat) : (madeCells #[Value.int .u8 0] n).toList = cellsOf (List.replicate n 0) := by
  rw [toList_madeCells_one]; simp [cellsOf]
/-- What lies in the row when k texts have been copied. -/
def filled (l : List UInt8) (n : Nat) : List UInt8 := l ++ List.replicate (n - l.length) 0
theorem filled_length (l : List UInt8) (n : Nat) (h : l.length ≤ n) : (filled l n).length = n := by simp [filled]; omega
theorem filled_copy (l x : List UInt8) (n : Nat) (h : l.length + x.length ≤ n) :
    (cellsOf (filled l n)).take l.length ++ cellsOf x ++ (cellsOf (filled l n)).drop (l.length + x.length) = cellsOf (filled (l ++ x) n) := by
  unfold filled
  rw [cellsOf_append, List.take_left' (by rw [cellsOf_length]), ← List.drop_drop, List.drop_left' (by rw [cellsOf_length]), cellsOf_append, cellsOf_append]
  simp [cellsOf, Nat.sub_sub]
theorem be8_bytes (n : Nat) (h : n < 18446744073709551616) : be8 n = bytes4 ((n / 4294967296 : Nat) : Int) ++ bytes4 ((n % 4294967296 : Nat) : Int) := by
  unfold be8 bytes4
  have e : ∀ a b : Nat, a % 256 = b % 256 → UInt8.ofNat a = UInt8.ofNat b := fun a b h => by
    apply UInt8.toNat_inj.mp
    rw [UInt8.toNat_ofNat', UInt8.toNat_ofNat']
    exact h
  simp only [List.cons_append, List.nil_append, List.cons.injEq, and_true]
  refine ⟨e _ _ (by omega), e _ _ (by omega), e _ _ (by omega), e _ _ (by omega), e _ _ (by omega), e _ _ (by omega), e _ _ (by omega), e _ _ (by omega)⟩
/-- The mark and the length, put into the filled row, make the message. -/
theorem pad_puts (l : List UInt8) (h : l.length ≤ 1000000) :
    put4 (put4 ((filled l (64 * nBlocks l.length)).set l.length 128) (64 * nBlocks l.length - 8) (((8 * l.length) / 4294967296 : Nat) : Int)) (64 * nBlocks l.length - 4) (((8 * l.length) % 4294967296 : Nat) : Int) = pad l := by
  have hn : l.length + 9 ≤ 64 * nBlocks l.length := by unfold nBlocks; omega
  unfold pad
  generalize 64 * nBlocks l.length = N at hn ⊢
  have e0 : (filled l N).set l.length 128 = l ++ 128 :: List.replicate (N - 9 - l.length) 0 ++ List.replicate 8 0 := by
    unfold filled
    rw [List.set_append, if_neg (by omega), Nat.sub_self, show N - l.length = (N - 9 - l.length) + 8 + 1 by omega, List.replicate_succ, List.set_cons_zero, List.append_assoc, List.cons_append, List.replicate_append_replicate]
  have pa : ∀ (A B : List UInt8) (o : Nat) (z : Int), o = A.length → put4 (A ++ B) o z = A ++ bytes4 z ++ B.drop 4 := by
    intro A B o z ho
    subst ho
    unfold put4
    rw [List.take_left' rfl, ← List.drop_drop, List.drop_left' rfl]
  rw [e0, pa _ _ _ _ (by simp; omega), pa _ _ _ _ (by simp [bytes4]; omega)]
  rw [be8_bytes _ (by omega)]
  simp
set_option maxHeartbeats 2000000 in
set_option maxRecDepth 100000 in
theorem message_any (a : Option Addr) (len cap : Nat) (ss : List ByteArray) (w : World) (hT : Texts w a len ss) (ht : total ss ≤ 1000000) (hlen : len ≤ 9223372036854775807) :
    Calls Tryd.prog 50 #[.slice a len cap] w fun e w' => ∃ g, e = .returned (.slice (some ⟨g, 0, none⟩) (64 * nBlocks (total ss)) (64 * nBlocks (total ss))) ∧
      w'.heap[g]? = some (.cells (cellsOf (pad (joinL ss))).toArray 5 (0, 0)) ∧ w.heap.size ≤ g ∧ Below w.heap.size w w' := by
  obtain ⟨i0, hi, hz0, hz1, hz2⟩ := info_parts info5'
  have HT : Hid (Texts w a len ss) := hT
  have HSL : Hid (ss.length = len) := hT.1
  have HTT : Hid (total ss ≤ 1000000) := ht
  have HI : Hid _ := hi
  have HZ : Hid (i0.zero = some (.int .u8 0) ∧ i0.size = 1 ∧ i0.bytes = 1) := ⟨hz0, hz1, hz2⟩
  clear hT ht hi hz0 hz1 hz2
  go_enter Tryd.func50, Tryd.ntmps50
  go_wp2
  go_loop [3, 14] (fun v i => ∃ k t : Nat, k ≤ len ∧ t ≤ 1000000 ∧ i = .int .i64 k ∧ v = .int .i64 t ∧ Hid (t = total (ss.take k))) (fun _ i => len - (intOf i).toNat)
  case atStart => exact ⟨0, 0, by omega, by omega, rfl, rfl, (rfl : 0 = _)⟩
  case round =>
    obtain ⟨k, t, hk, ht, rfl, rfl, HTK⟩ := hrel
    by_cases hlt : k < len
    · have hlk : k < ss.length := by have := HSL.out; omega
      obtain ⟨p, HP⟩ : ∃ p, Hid (p = ss[k]) := ⟨_, (rfl : ss[k] = _)⟩
      have HN : Hid (t + p.size = total (ss.take (k + 1))) := by
        show _ = _
        rw [total_step ss k hlk, HTK.out, HP.out]
      have hps : t + p.size ≤ 1000000 := by
        have h1 := total_take ss (k + 1)
        have h2 := HN.out
        have h3 := HTT.out
        omega
      obtain ⟨b, off, rfl, hcell⟩ : ∃ b off, a = some ⟨b, off, none⟩ ∧ w.cell? ⟨b, off + k, none⟩ = some (.string p) := by
        rcases HT.out.2 with h0 | ⟨b, off, e, _, hc⟩
        · omega
        · exact ⟨b, off, e, by rw [hc k hlk, HP.out]⟩
      have hlt' : (k : Int) < (len : Int) := by omega
      go_wp2
      go_round
      case rel => exact ⟨k + 1, t + p.size, by omega, by omega, by go_num, by go_num, HN⟩
      case measure => simp [intOf]; omega
    · obtain rfl : len = k := by omega
      have HTA : Hid (t = total ss) := by
        have := HTK.out
        rw [List.take_of_length_le (by have := HSL.out; omega)] at this
        exact this
      clear HTK
      obtain ⟨N, HN⟩ : ∃ N, Hid (N = 64 * nBlocks t) := ⟨_, (rfl : 64 * nBlocks t = _)⟩
      have hN9 : t + 9 ≤ N := by have := HN.out; unfold nBlocks at this; omega
      have hNm : N ≤ 1000100 := by have := HN.out; unfold nBlocks at this; omega
      have HNI : Hid (((t : Int) + 1 + 8 + 64 - 1) / 64 * 64 = (N : Int)) := by
        show _ = _
        have := HN.out
        unfold nBlocks at this
        omega
      go_wp2_with (first
        | (at_make; refine wpList_make_full _ rfl (.tmp 30) (.tmp 30) 43 rfl w.heap.size 5 i0 (.int .u8 0) 1 Tryd.underlying43 HI.out HZ.out.1 HZ.out.2.1 .i64 .i64 _ _ N rfl rfl ?c1 ?c2 ?c3 ?c4 ?c5 ?_)
        | fail)
      case c1 => exact HNI.out
      case c2 => exact HNI.out
      case c3 => rw [HZ.out.2.2]; omega
      case c4 => unfold maxLen; omega
      intro w1 hown hgrow
      have HG1 : Hid (w1.heap[w.heap.size]? = some (.cells (cellsOf (filled [] N)).toArray 5 (0, 0))) := by
        have h1 : w1.ownsRow w.heap.size 5 1 (.slice (some ⟨w.heap.size, 0, none⟩) N N) N (cellsOf (filled [] N)) := by
          have h2 := hown
          rw [cells_made] at h2
          exact h2
        exact own_row h1
      have hB1 : Below w.heap.size w w1 := (Below.refl _ _).grown hgrow (Nat.le_refl _) (by intro k hk; cases hk)
      clear hown hgrow HNI
      go_wp2
      go_loopw [8, 34] (fun v i wr => ∃ k q : Nat, k ≤ len ∧ q ≤ t ∧ i = .int .i64 k ∧ v = .int .i64 q ∧ Hid (q = total (ss.take k)) ∧ Hid (wr.heap[w.heap.size]? = some (.cells (cellsOf (filled (joinL (ss.take k)) N)).toArray 5 (0, 0))) ∧ Below w.heap.size w wr)
        (fun _ i _ => len - (intOf i).toNat)
      case atStart => exact ⟨0, 0, by omega, by omega, rfl, rfl, (rfl : 0 = _), HG1, hB1⟩
      case round =>
        clear HG1 hB1
        obtain ⟨k, q, hk, hq, rfl, rfl, HQ, HG, hB⟩ := hrel
        by_cases hlt : k < len
        · have hlk : k < ss.length := by have := HSL.out; omega
          obtain ⟨p, HP⟩ : ∃ p, Hid (p = ss[k]) := ⟨_, (rfl : ss[k] = _)⟩
          have HQ2 : Hid (q + p.size = total (ss.take (k + 1))) := by
            show _ = _
            rw [total_step ss k hlk, HQ.out, HP.out]
          have hps : q + p.size ≤ t := by
            have h1 := total_take ss (k + 1)
            have h2 := HQ2.out
            have h3 := HTA.out
            omega
          obtain ⟨b, off, rfl, hcell⟩ : ∃ b off, a = some ⟨b, off, none⟩ ∧ wr.cell? ⟨b, off + k, none⟩ = some (.string p) := by
            rcases (HT.out.keep hB).2 with h0 | ⟨b, off, e, _, hc⟩
            · omega
            · exact ⟨b, off, e, by rw [hc k hlk, HP.out]⟩
          have hlt' : (k : Int) < (len : Int) := by omega
          have HJ : Hid ((joinL (ss.take k)).length = q) := by show _ = _; rw [joinL_length, HQ.out]
          have hcopy := fun ty => Lib.run_copy_row_string (P := Tryd.prog) wr 43 9 ty 5 w.heap.size q (N - q) (N - q) p _ 5 Tryd.underlying43 size5' HG.out (by omega) (by
            have := filled_length (joinL (ss.take k)) N (by rw [HJ.out]; omega)
            simp [cellsOf_length, this]; omega)
          have HC : Hid ((List.take q (cellsOf (filled (joinL (ss.take k)) N)) ++ Lib.byteCells p.data.toList ++ List.drop (q + p.size) (cellsOf (filled (joinL (ss.take k)) N))).toArray = (cellsOf (filled (joinL (ss.take (k + 1))) N)).toArray) := by
            show _ = _
            have h1 := filled_copy (joinL (ss.take k)) p.data.toList N (by rw [HJ.out]; show q + p.size ≤ N; omega)
            rw [HJ.out] at h1
            have e : joinL (ss.take (k + 1)) = joinL (ss.take k) ++ p.data.toList := by
              rw [take_succ_parts ss k hlk, joinL_append, HP.out]
              simp [joinL]
            rw [e, ← h1]
            rfl
          rw [show (cellsOf (filled (joinL (ss.take k)) N)).toArray.toList = cellsOf (filled (joinL (ss.take k)) N) by simp, HC.out] at hcopy
          go_wp2
          go_roundw
          case rel => exact ⟨k + 1, q + p.size, by omega, by omega, by go_num, by go_num, HQ2, setRow_heap _ _ _ _ 5 _ HG.out, below_setRow hB (Nat.le_refl _) _⟩
          case measure => simp [intOf]; omega
        · obtain rfl : len = k := by omega
          obtain ⟨J, HJ⟩ : ∃ J, Hid (J = joinL ss) := ⟨_, (rfl : joinL ss = _)⟩
          have HJL : Hid (J.length = t) := by show _ = _; rw [HJ.out, joinL_length, HTA.out]
          have hqt : t = q := by
            have := HQ.out
            rw [List.take_of_length_le (by have := HSL.out; omega)] at this
            rw [this, HTA.out]
          subst hqt
          have HF : Hid (wr.heap[w.heap.size]? = some (.cells (cellsOf (filled J N)).toArray 5 (0, 0))) := by
            have := HG.out
            rw [List.take_of_length_le (by have := HSL.out; omega), ← HJ.out] at this
            exact this
          have HFL : Hid ((filled J N).length = N) := filled_length J N (by rw [HJL.out]; omega)
          have hcell : wr.cell? ⟨w.heap.size, t, none⟩ = some (.int .u8 (((filled J N)[t]'(by rw [HFL.out]; omega)).toNat : Int)) := by
            rw [cell_of_row wr _ _ _ 5 (0, 0) HF.out]; simp [cellsOf_at (filled J N) t (by rw [HFL.out]; omega)]
          have hfz : wr.frozen? ⟨w.heap.size, t, none⟩ = false := frozen_of_row wr _ _ _ 5 HF.out
          have HF2 : Hid ((wr.setCell ⟨w.heap.size, t, none⟩ (.int .u8 128)).heap[w.heap.size]? = some (.cells (cellsOf ((filled J N).set t 128)).toArray 5 (0, 0))) := by
            show _ = _
            have := row_set HF.out t 128
            rw [show ((128 : UInt8).toNat : Int) = 128 from rfl] at this
            rw [this]
            exact setRow_heap _ _ _ _ 5 _ HF.out
          clear HQ HG HSL
          have HL2 : Hid (((filled J N).set t 128).length = N) := by show _ = _; rw [List.length_set, HFL.out]
          go_wp2_with fail
          refine (putWord_any w.heap.size (N - 8) _ _ 5 ((filled J N).set t 128) _ _ (by omega) (by rw [HL2.out]; omega) (by omega) (by omega) HF2.out).mono ?_
          rintro e w3 ⟨rfl, rfl⟩
          have HF3 := setRow_heap _ _ _ (cellsOf (put4 ((filled J N).set t 128) (N - 8) ((t : Int) * 8 / 4294967296))).toArray 5 _ HF2.out
          have HL3 : Hid ((put4 ((filled J N).set t 128) (N - 8) ((t : Int) * 8 / 4294967296)).length = N) := by show _ = _; rw [put4_length _ _ _ (by rw [HL2.out]; omega), HL2.out]
          have HF4 : Hid _ := HF3
          clear HF3
          go_wp2_with fail
          refine (putWord_any w.heap.size (N - 4) _ _ 5 (put4 ((filled J N).set t 128) (N - 8) ((t : Int) * 8 / 4294967296)) _ _ (by omega) (by rw [HL3.out]; omega) (by omega) (by omega) HF4.out).mono ?_
          rintro e w4 ⟨rfl, rfl⟩
          go_wp2
          go_ret
          refine ⟨w.heap.size, ?_, ?_, Nat.le_refl _, below_setRow (below_setRow (hB.setCell (Nat.le_refl _) _) (Nat.le_refl _) _) (Nat.le_refl _) _⟩
          · rw [← HTA.out, ← HN.out]; rfl
          · have hp := pad_puts J (by rw [HJL.out]; omega)
            rw [HJL.out, ← HN.out, show (((8 * t) / 4294967296 : Nat) : Int) = (t : Int) * 8 / 4294967296 by omega, show (((8 * t) % 4294967296 : Nat) : Int) = (t : Int) * 8 by omega] at hp
            rw [hp, ← HJ.out]
            exact setRow_heap _ _ _ _ 5 _ HF4.out
end Go.Proofs.YtdnhnjimhbbababDoor

/- Sizes, and an append as a step of a region. -/
namespace Go.Proofs.YtdnhnjimhbbababDoor
open Go.RowKit
set_option maxRecDepth 100000
theorem info5 : (Tryd.prog.info? 5).map (fun i => (i.zero, i.size, i.bytes)) = some (some (.int .u8 0), 1, 1) := by kernel_rfl
theorem size5 : (Tryd.prog.info? 5).map (·.size) = some 1 := by kernel_rfl
theorem size23 : (Tryd.prog.info? 30).map (·.size) = some 32 := by kernel_rfl
/-- An append whose run is known, as one step of a region that draws its order. -/
theorem step_append_run {P : Program} {ops : Array Oper} {o : Oper} {a : Act} {w : World} {K : Act → World → Prop} {Q : Exit → Act → World → Prop} {E : Prop}
    (hg : o.guard = none) (s x : Operand) (t u : TypeId) (hop : o.op = Op.call { callee := Callee.builtin Builtin.append, args := #[s, x], argTypes := #[t, u] })
    (vs vx v' : Value) (w' : World) (hs : a.eval s = vs) (hx : a.eval x = vx) (hrun : (Builtin.append_ #[t, u] o.type #[vs, vx]).run P w = .ok v' w')
    (hK : K (a.put o.dst v') w') :
    if Region.wanted o (yielded ops a.tmps) = true then Oper.wp P o a w K Q else E := by
  have hw : Region.wanted o (yielded ops a.tmps) = true := by simp [Region.wanted, hg]
  rw [if_pos hw]
  unfold Oper.wp
  simp [execOp, hop, resolve, invoke, builtin, hs, hx, hrun, Result.andThen]
  exact hK
end Go.Proofs.YtdnhnjimhbbababDoor

/- What sha.Of answers: the sum of the parts' bytes, one part behind the other. -/
namespace Go.Proofs.YtdnhnjimhbbababDoor
open Go.RowKit Sums
set_option maxRecDepth 100000
set_option linter.unusedVariables false
set_option linter.unusedSimpArgs false
theorem zero27 : (Tryd.prog.info? 30).map (fun i => (i.zero, i.size)) = some (some (.agg (cellsOf (List.replicate 32 0)).toArray), 32) := by kernel_rfl
theorem noughts27 : ∃ Z : Array Value, Hid (Z = (cellsOf (List.replicate 32 0)).toArray) ∧ Hid ((Tryd.prog.info? 30).map (fun i => (i.zero, i.size)) = some (some (.agg Z), Z.size)) ∧
    Hid ((Tryd.prog.info? 30).map (·.size) = some Z.size) ∧ Hid (Z.all (·.oneCell') = true) ∧ Hid (Z.size = 32) :=
  ⟨(cellsOf (List.replicate 32 0)).toArray, (rfl : _ = _), zero27, size23, cellsOf_all _, (rfl : _ = _)⟩
theorem dig_row' (l : List UInt8) (hl : l.length = 32) : ∃ D : Array Value, Hid (D = (cellsOf l).toArray) ∧ Hid ((Tryd.prog.info? 30).map (·.size) = some D.size) ∧ Hid (D.all (·.oneCell') = true) ∧ Hid (D.size = 32) := by
  refine ⟨(cellsOf l).toArray, (rfl : _ = _), ?_, cellsOf_all l, ?_⟩
  · show _ = _
    rw [size23]; simp [cellsOf_length, hl]
  · show _ = _
    simp [cellsOf_length, hl]
/-- A whole array read, or stored, as one step of a region that draws its order. -/
theorem step_load_row {P : Program} {ops : Array Oper} {o : Oper} {a : Act} {w : World} {K : Act → World → Prop} {Q : Exit → Act → World → Prop} {E : Prop} (hw : Region.wanted o (yielded ops a.tmps) = true) (ty : TypeId) (x : Operand) (ho : o.op = .load ty x)
    (g : Nat) (hx : a.eval x = .pointer (some ⟨g, 0, none⟩)) (t : TypeId) (cs : Array Value) (fr : Nat × Nat) (d : TypeDesc) (hg : w.heap[g]? = some (.cells cs t fr))
    (hu : P.underlying ty = some d) (hd : (match d with | .struct _ | .array _ _ => true | _ => false) = true) (hi : (P.info? ty).map (·.size) = some cs.size)
    (h : K (a.put o.dst (.agg cs)) w) : if Region.wanted o (yielded ops a.tmps) = true then Oper.wp P o a w K Q else E := by
  rw [if_pos hw]
  exact wp_load_row ty x ho g hx t cs fr d hg hu hd hi h
theorem step_store_row {P : Program} {ops : Array Oper} {o : Oper} {a : Act} {w : World} {K : Act → World → Prop} {Q : Exit → Act → World → Prop} {E : Prop} (hw : Region.wanted o (yielded ops a.tmps) = true) (ty : TypeId) (x y : Operand) (ho : o.op = .store ty x y)
    (g : Nat) (cells : Array Value) (hx : a.eval x = .pointer (some ⟨g, 0, none⟩)) (hy : a.eval y = .agg cells)
    (t : TypeId) (old : Array Value) (hg : w.heap[g]? = some (.cells old t (0, 0))) (hi : (P.info? ty).map (·.size) = some cells.size)
    (hold : old.size = cells.size) (h1 : cells.all (·.oneCell') = true)
    (h : K (a.put o.dst undef) (w.setRow g cells)) : if Region.wanted o (yielded ops a.tmps) = true then Oper.wp P o a w K Q else E := by
  rw [if_pos hw]
  exact wp_store_row ty x y ho g cells hx hy t old hg hi hold h1 h
theorem pad_length (l : List UInt8) : (pad l).length = 64 * nBlocks l.length := by
  unfold pad be8
  simp
  unfold nBlocks
  omega
theorem first_ok : OkSt first := by
  intro z hz
  simp only [first, St.list, List.mem_cons, List.not_mem_nil, or_false] at hz
  rcases hz with rfl | rfl | rfl | rfl | rfl | rfl | rfl | rfl <;> omega
theorem blocks_ok (s : St) (m : List UInt8) (n : Nat) (h : OkSt s) : OkSt (blocks s m n) := by
  induction n with
  | zero => exact h
  | succ n ih => exact plus_ok _ _
theorem slice_from (w : World) (g i : Nat) (hi : i < 8) :
    (Instr.sliceAt 30 (.pointer (some ⟨g, 0, none⟩)) (some (.int .i64 (4 * (i : Int)))) none none).run Tryd.prog w = .ok (.slice (some ⟨g, 4 * i, none⟩) (32 - 4 * i) (32 - 4 * i)) w := by
  have h1 : 4 * (i : Int) ≤ 32 := by omega
  have h2 : 0 ≤ 4 * (i : Int) := by omega
  simp [Instr.sliceAt, Instr.slice, Instr.sliceBounds, Instr.sliceBound, asIntOf, run_underlying Tryd.underlying30, Instr.sureAddr, h1, h2]
  rw [show (4 * (i : Int)).toNat = 4 * i by omega, if_neg (by omega), add_plain]
  simp
theorem slice_all (w : World) (g : Nat) : (Instr.sliceAt 30 (.pointer (some ⟨g, 0, none⟩)) none none none).run Tryd.prog w = .ok (.slice (some ⟨g, 0, none⟩) 32 32) w := by
  simp [Instr.sliceAt, Instr.slice, Instr.sliceBounds, run_underlying Tryd.underlying30, Instr.sureAddr]
  rw [add_plain]
theorem flat4_length (l : List Int) : (l.flatMap bytes4).length = 4 * l.length := by
  induction l with
  | nil => rfl
  | cons z l ih => simp [bytes4] at ih ⊢; omega
/-- The first i words' bytes, and noughts behind them. -/
def part (l : List Int) (i : Nat) : List UInt8 := (l.take i).flatMap bytes4 ++ List.replicate (32 - 4 * i) 0
theorem part_length (l : List Int) (i : Nat) (hl : l.length = 8) (hi : i ≤ 8) : (part l i).length = 32 := by
  unfold part
  rw [List.length_append, flat4_length, List.length_take, List.length_replicate]
  omega
theorem part_put (l : List Int) (i : Nat) (hl : l.length = 8) (hi : i < 8) : put4 (part l i) (4 * i) l[i] = part l (i + 1) := by
  unfold part put4
  have h1 : ((l.take i).flatMap bytes4).length = 4 * i := by rw [flat4_length, List.length_take]; omega
  rw [List.take_left' h1, ← List.drop_drop, List.drop_left' h1, List.take_add_one, List.getElem?_eq_getElem (by omega), List.flatMap_append]
  simp
  omega
theorem part_all (l : List Int) (hl : l.length = 8) : part l 8 = l.flatMap bytes4 := by
  unfold part
  rw [List.take_of_length_le (by omega)]
  simp
theorem sumD_length (l : List UInt8) : (sumD l).length = 32 := by
  unfold sumD
  rw [flat4_length]
  rfl
set_option maxHeartbeats 2000000 in
set_option maxRecDepth 100000 in
theorem of_any (a : Option Addr) (len cap : Nat) (ss : List ByteArray) (w : World) (hT : Texts w a len ss) (ht : total ss ≤ 1000000) (hlen : len ≤ 9223372036854775807) (hK : Table 0 w) :
    Calls Tryd.prog 18 #[.slice a len cap] w fun e w' => e = .returned (digV (sumD (joinL ss))) ∧ Below w.heap.size w w' := by
  obtain ⟨Z, HZ, HA, HS, H1, H32⟩ := noughts27
  obtain ⟨Z8, HA8, HS8, H8⟩ := noughts38
  have HSF : Hid ((Tryd.prog.info? 98).map (·.size) = some (wcells first.list).toArray.size) := size38
  have HZF : Hid (Z8.size = (wcells first.list).toArray.size) := H8.out
  have H1F : Hid ((wcells first.list).toArray.all (·.oneCell') = true) := wcells_all _
  have HM : Hid (∀ w1, Below w.heap.size w w1 → Calls Tryd.prog 50 #[.slice a len cap] w1 fun e w' => ∃ g, e = .returned (.slice (some ⟨g, 0, none⟩) (64 * nBlocks (total ss)) (64 * nBlocks (total ss))) ∧
      w'.heap[g]? = some (.cells (cellsOf (pad (joinL ss))).toArray 5 (0, 0)) ∧ w1.heap.size ≤ g ∧ Below w1.heap.size w1 w') := fun w1 hb1 => message_any a len cap ss w1 (hT.keep hb1) ht hlen
  have HTB : Hid (Table 0 w) := hK
  have HTT : Hid (total ss ≤ 1000000) := ht
  clear hT hK ht
  go_enter Tryd.func18, Tryd.ntmps18
  go_wp2_with (first
    | (refine wpList_alloc_row rfl 30 rfl Z HA.out ?_)
    | (refine wpList_alloc_row rfl 98 rfl Z8 HA8.out ?_)
    | (refine wpList_store_row rfl 98 (.tmp 3) (.tmp 9) rfl (w.alloc (.cells Z 30)).heap.size (wcells first.list).toArray rfl (by rfl) 98 Z8 (heap_alloc_new (w.alloc (.cells Z 30)) _) HSF.out HZF.out H1F.out ?_)
    | fail)
  have hB0 : Below w.heap.size w (((w.alloc (.cells Z 30)).alloc (.cells Z8 98)).setRow (w.heap.size + 1) (wcells first.list).toArray) := below_setRow (((Below.refl _ _).alloc (Nat.le_refl _) _).alloc (by simp) _) (by omega) _
  refine (HM.out _ hB0).mono ?_
  rintro e w1 ⟨g, rfl, hg, hgs, hb1⟩
  have hgs' : w.heap.size + 2 ≤ g := by simp only [setRow_size, World.size_alloc] at hgs; omega
  obtain ⟨N, HN⟩ : ∃ N, Hid (N = nBlocks (total ss)) := ⟨_, (rfl : nBlocks (total ss) = _)⟩
  rw [← HN.out]
  have hN : N ≤ 20000 := by have := HN.out; have := HTT.out; unfold nBlocks at *; omega
  have HG0 : Hid (w1.heap[w.heap.size]? = some (.cells Z 30 (0, 0)) ∧ w1.heap[w.heap.size + 1]? = some (.cells (wcells (blocks first (pad (joinL ss)) 0).list).toArray 98 (0, 0))) := by
    refine ⟨?_, ?_⟩
    · rw [hb1.block _ (by simp only [setRow_size, World.size_alloc]; omega), setRow_other _ _ _ _ (by omega)]; exact heap_alloc2_old w _ _
    · rw [hb1.block _ (by simp only [setRow_size, World.size_alloc]; omega)]; exact setRow_heap _ _ _ _ 98 _ (heap_alloc2_new w _ _)
  have HGM : Hid (w1.heap[g]? = some (.cells (cellsOf (pad (joinL ss))).toArray 5 (0, 0))) := hg
  have hB1 : Below w.heap.size w w1 := hB0.trans (hb1.mono (by simp only [setRow_size, World.size_alloc]; omega))
  have hgw : g < w1.heap.size := heap_lt hg
  clear hg hgs hb1 hB0 HM
  go_wp2
  go_loopw [5] (fun v wr => ∃ k : Nat, k ≤ N ∧ v = .int .i64 (64 * (k : Int)) ∧ Hid (wr.heap[w.heap.size]? = some (.cells Z 30 (0, 0)) ∧ wr.heap[w.heap.size + 1]? = some (.cells (wcells (blocks first (pad (joinL ss)) k).list).toArray 98 (0, 0)) ∧
      wr.heap[g]? = some (.cells (cellsOf (pad (joinL ss))).toArray 5 (0, 0))) ∧ Below w.heap.size w wr)
    (fun v _ => 64 * N - (intOf v).toNat)
  case atStart => exact ⟨0, by omega, rfl, ⟨HG0.out.1, HG0.out.2, HGM.out⟩, hB1⟩
  case round =>
    clear HG0 HGM hB1
    obtain ⟨k, hk, rfl, HG, hB⟩ := hrel
    by_cases hlt : k < N
    · have hdi : decide ((64 : Int) * (k : Int) < 64 * (N : Int)) = true := by rw [decide_eq_true_eq]; omega
      have hw64 := wrap_int (64 * (k : Int) + 64) (by omega) (by omega)
      obtain ⟨m, HM⟩ : ∃ m, Hid (m = pad (joinL ss)) := ⟨_, (rfl : pad (joinL ss) = _)⟩
      have HML : Hid (m.length = 64 * N) := by show _ = _; rw [HM.out, pad_length, joinL_length, HN.out]
      obtain ⟨s, HSt⟩ : ∃ s, Hid (s = blocks first (pad (joinL ss)) k) := ⟨_, (rfl : blocks first (pad (joinL ss)) k = _)⟩
      obtain ⟨L, HL, HSL, H1L, H8L⟩ := words_row s.list 98 8 rfl size38
      obtain ⟨L2, HL2, HSL2, H1L2, H8L2⟩ := words_row (block s ((m.drop (64 * k)).take 64)).list 98 8 rfl size38
      have HLL : Hid (L.size = L2.size) := by show _ = _; rw [H8L.out, H8L2.out]
      have HGs : Hid (wr.heap[w.heap.size + 1]? = some (.cells L 98 (0, 0))) := by show _ = _; rw [HL.out, HSt.out]; exact HG.out.2.1
      have HKM : Hid (∀ w2, Below wr.heap.size wr w2 → Calls Tryd.prog 51 #[.agg L, .slice (some ⟨g, 64 * k, none⟩) 64 (64 * N - 64 * k)] w2 fun e w' => e = .returned (.agg L2) ∧ Below w2.heap.size w2 w') := by
        intro w2 hb2
        rw [HL.out, HL2.out]
        have hgr := heap_lt HG.out.2.2
        have hly : Lies wr g 0 m := fun i hi => by
          rw [Nat.zero_add, cell_of_row wr g i _ 5 (0, 0) HG.out.2.2, ← HM.out]
          simp [cellsOf_at m i hi]
        have hl2 : Lies w2 g (0 + 64 * k) ((m.drop (64 * k)).take 64) := ((hly.keep hb2 hgr).drop (64 * k)).take 64
        rw [Nat.zero_add] at hl2
        have hlen2 : ((m.drop (64 * k)).take 64).length = 64 := by
          have := HML.out
          simp; omega
        exact mixed_any s g (64 * k) (64 * N - 64 * k) _ w2 (by rw [HSt.out]; exact blocks_ok _ _ _ first_ok) hlen2 (by omega) (by omega) (Nat.lt_of_lt_of_le hgr hb2.size) hl2 ((HTB.out.keep hB).keep hb2)
      have hb0 : (0 : Int) ≤ 64 * (k : Int) := by omega
      have hb1 : 64 * (k : Int) ≤ 64 * (k : Int) + 64 := by omega
      have hb2 : 64 * (k : Int) + 64 ≤ 64 * (N : Int) := by omega
      go_wp2
      refine wp_region_held_drew (S := (fun _ => True)) (by kernel_rfl) trivial (fun hHeld => ?_)
      refine wpAnyH_take (i := 1) (oi := { dst := some 19, op := Op.move (Operand.tmp 4), type := 43, pos := "sha.go:33", after := #[], guard := none }) (v := .slice (some ⟨g, 0, none⟩) (64 * N) (64 * N)) rfl (by kernel_rfl) (by kernel_rfl) (by kernel_rfl) (fun _ _ _ h => h) (Or.inl ⟨by rfl, by intro w hSw; go_simp⟩) hHeld ?_
      try simp only [Act.put, List.setIfInBounds_toArray, List.set_cons_zero, List.set_cons_succ]
      refine wpAnyH_take (i := 2) (oi := { dst := some 20, op := Op.move (Operand.tmp 5), type := 3, pos := "sha.go:33", after := #[], guard := none }) (v := .int .i64 (64 * (k : Int))) rfl (by kernel_rfl) (by kernel_rfl) (by kernel_rfl) (fun _ _ _ h => h) (Or.inl ⟨by rfl, by intro w hSw; go_simp⟩) hHeld ?_
      try simp only [Act.put, List.setIfInBounds_toArray, List.set_cons_zero, List.set_cons_succ]
      refine wpAnyH_take (i := 3) (oi := { dst := some 21, op := Op.move (Operand.tmp 5), type := 3, pos := "sha.go:33", after := #[], guard := none }) (v := .int .i64 (64 * (k : Int))) rfl (by kernel_rfl) (by kernel_rfl) (by kernel_rfl) (fun _ _ _ h => h) (Or.inl ⟨by rfl, by intro w hSw; go_simp⟩) hHeld ?_
      try simp only [Act.put, List.setIfInBounds_toArray, List.set_cons_zero, List.set_cons_succ]
      refine wpAnyH_take (i := 4) (oi := { dst := some 22, op := Op.binOp BinOp.add 3 (Operand.tmp 21) (Operand.const (Value.int IntKind.i64 64)) 3, type := 3, pos := "sha.go:33", after := #[{ on := 3, ground := Ground.data }], guard := none }) (v := .int .i64 (64 * (k : Int) + 64)) rfl (by kernel_rfl) (by kernel_rfl) (by kernel_rfl) (fun _ _ _ h => h) (Or.inl ⟨by rfl, by intro w hSw; go_simp⟩) hHeld ?_
      try simp only [Act.put, List.setIfInBounds_toArray, List.set_cons_zero, List.set_cons_succ]
      refine wpAnyH_take (i := 5) (oi := { dst := some 23, op := Op.slice 43 (Operand.tmp 19) (some (Operand.tmp 20)) (some (Operand.tmp 22)) none, type := 43, pos := "sha.go:33", after := #[{ on := 1, ground := Ground.data }, { on := 2, ground := Ground.data }, { on := 4, ground := Ground.data }], guard := none }) (v := .slice (some ⟨g, 64 * k, none⟩) 64 (64 * N - 64 * k)) rfl (by kernel_rfl) (by kernel_rfl) (by kernel_rfl) (fun _ _ _ h => h) (Or.inl ⟨by rfl, by intro W hSw; go_simp; rw [show (64 * (k : Int)).toNat = 64 * k by omega, if_neg (by omega)]; exact ⟨rfl, by omega, rfl⟩⟩) hHeld ?_
      try simp only [Act.put, List.setIfInBounds_toArray, List.set_cons_zero, List.set_cons_succ]
      refine wpAnyH_ready (rs := [0]) (by kernel_rfl) (by simp) ?_
      refine AllReadyH.cons (o := { dst := some 18, op := Op.load 98 (Operand.tmp 3), type := 98, pos := "sha.go:33", after := #[], guard := none }) rfl (fun K hK => ?_) AllReadyH.nil
      refine step_load_row (by rfl) 98 (.tmp 3) rfl (w.heap.size + 1) rfl 98 L (0, 0) _ HGs.out Tryd.underlying98 rfl HSL.out ?_
      refine hK.out _ _ trivial (fun hHeld => ?_)
      clear hK K
      try simp only [Act.put, List.setIfInBounds_toArray, List.set_cons_zero, List.set_cons_succ]
      refine wpAnyH_ready (rs := [6]) (by kernel_rfl) (by simp) ?_
      refine AllReadyH.cons (o := { dst := some 24, op := Op.call { callee := Callee.value (Operand.func 51), args := #[Operand.tmp 18, Operand.tmp 23], argTypes := #[98, 43] }, type := 98, pos := "sha.go:33", after := #[{ on := 0, ground := Ground.data }, { on := 5, ground := Ground.data }], guard := none }) rfl (fun K hK => ?_) AllReadyH.nil
      go_simp
      refine (HKM.out _ (Below.refl _ _).drew).mono ?_
      rintro e w3 ⟨rfl, hb3⟩
      have HG3 : Hid (w3.heap[w.heap.size + 1]? = some (.cells L 98 (0, 0))) := (hb3.block _ (heap_lt HGs.out)).trans HGs.out
      go_wp2_with fail
      refine hK.out _ _ trivial (fun hHeld => ?_)
      clear hK K
      try simp only [Act.put, List.setIfInBounds_toArray, List.set_cons_zero, List.set_cons_succ]
      refine wpAnyH_ready (rs := [7]) (by kernel_rfl) (by simp) ?_
      refine AllReadyH.cons (o := { dst := none, op := Op.store 98 (Operand.tmp 3) (Operand.tmp 24), type := 0, pos := "sha.go:33", after := #[{ on := 6, ground := Ground.data }, { on := 6, ground := Ground.chain }, { on := 0, ground := Ground.phase }, { on := 1, ground := Ground.phase }, { on := 2, ground := Ground.phase }, { on := 3, ground := Ground.phase }, { on := 4, ground := Ground.phase }, { on := 5, ground := Ground.phase }, { on := 6, ground := Ground.phase }], guard := none }) rfl (fun K hK => ?_) AllReadyH.nil
      refine step_store_row (by rfl) 98 (.tmp 3) (.tmp 24) rfl (w.heap.size + 1) L2 rfl rfl 98 L HG3.out HSL2.out HLL.out H1L2.out ?_
      refine hK.out _ _ trivial (fun hHeld => ?_)
      clear hK K
      try simp only [Act.put, List.setIfInBounds_toArray, List.set_cons_zero, List.set_cons_succ]
      refine wpAnyH_done (by kernel_rfl) ?_ _
      have HN2 : Hid ((wcells (blocks first (pad (joinL ss)) (k + 1)).list).toArray = L2) := by
        show _ = _
        rw [HL2.out, HM.out]
        unfold blocks
        rw [← HSt.out]
      go_wp2
      go_roundw
      case rel =>
        refine ⟨k + 1, by omega, by go_num, ⟨?_, ?_, ?_⟩, below_setRow (hB.trans (((Below.refl _ _).drew.trans hb3).mono hB.size)) (by omega) _⟩
        · rw [setRow_other _ _ _ _ (by omega), hb3.block _ (heap_lt HG.out.1)]; exact HG.out.1
        · rw [HN2.out]; exact setRow_heap _ _ _ _ 98 _ HG3.out
        · rw [setRow_other _ _ _ _ (by omega), hb3.block _ (heap_lt HG.out.2.2)]; exact HG.out.2.2
      case measure => simp [intOf]; omega
    · obtain rfl : N = k := by omega
      obtain ⟨s, HSt⟩ : ∃ s, Hid (s = blocks first (pad (joinL ss)) N) := ⟨_, (rfl : blocks first (pad (joinL ss)) N = _)⟩
      obtain ⟨L, HL, HSL, H1L, H8L⟩ := words_row s.list 98 8 rfl size38
      have HGs : Hid (wr.heap[w.heap.size + 1]? = some (.cells L 98 (0, 0))) := by show _ = _; rw [HL.out, HSt.out]; exact HG.out.2.1
      have HOs : Hid (OkSt s) := by show OkSt _; rw [HSt.out]; exact blocks_ok _ _ _ first_ok
      have HE : Hid (sumD (joinL ss) = s.list.flatMap bytes4) := by
        show _ = _
        unfold sumD endOf
        rw [joinL_length, ← HN.out, ← HSt.out]
      go_wp2_with (first
        | (refine wpList_alloc_row rfl 30 rfl Z HA.out ?_)
        | (refine wpList_load_row rfl 98 (.tmp 3) rfl (w.heap.size + 1) rfl 98 L (0, 0) _ (heap_keep HGs.out) Tryd.underlying98 rfl HSL.out ?_)
        | fail)
      have hgd : w.heap.size + 2 ≤ wr.heap.size := by have := heap_lt HG.out.2.2; omega
      have HD0 : Hid ((wr.alloc (.cells Z 30)).heap[wr.heap.size]? = some (.cells (cellsOf (part s.list 0)).toArray 30 (0, 0)) ∧ (wr.alloc (.cells Z 30)).heap[w.heap.size]? = some (.cells Z 30 (0, 0))) := by
        refine ⟨?_, heap_keep HG.out.1⟩
        have e : (cellsOf (part s.list 0)).toArray = Z := by rw [HZ.out]; rfl
        rw [e]
        exact heap_alloc_new wr _
      have hB3 : Below w.heap.size w (wr.alloc (.cells Z 30)) := hB.alloc (by omega) _
      clear HG HGs hB
      generalize wr.heap.size = gd at hgd HD0 ⊢
      generalize wr.alloc (.cells Z 30) = w4 at HD0 hB3 ⊢
      go_loopw [26] (fun v wd => ∃ i : Nat, i ≤ 8 ∧ v = .int .i64 i ∧ Hid (wd.heap[gd]? = some (.cells (cellsOf (part s.list i)).toArray 30 (0, 0)) ∧ wd.heap[w.heap.size]? = some (.cells Z 30 (0, 0))) ∧ Below w.heap.size w wd)
        (fun v _ => 8 - (intOf v).toNat)
      case atStart => exact ⟨0, by omega, rfl, HD0, hB3⟩
      case round =>
        clear HD0 hB3
        obtain ⟨i, hi, rfl, HD, hB⟩ := hrel
        by_cases hlt : i < 8
        · have hdi : decide ((i : Int) < 8) = true := by rw [decide_eq_true_eq]; omega
          obtain ⟨z, HZi⟩ : ∃ z, Hid (z = s.list[i]'hlt) := ⟨_, (rfl : s.list[i]'hlt = _)⟩
          have hz : 0 ≤ z ∧ z ≤ 4294967295 := by rw [HZi.out]; exact HOs.out _ (List.getElem_mem _)
          have hidx : ∀ w, (Instr.index 98 (.agg L) (.int .i64 i)).run Tryd.prog w = .ok (.int .u32 z) w := fun w =>
            run_index_agg w 98 97 8 L .i64 i _ .u32 Tryd.underlying98 Tryd.underlying97 hlt (by rw [HL.out, HZi.out]; simp [wcells_at s.list i hlt]) (by kernel_rfl)
          have hw4 := wrap_int (4 * (i : Int)) (by omega) (by omega)
          have HP : Hid (put4 (part s.list i) (4 * i) z = part s.list (i + 1)) := by
            show _ = _
            rw [HZi.out]
            exact part_put s.list i rfl hlt
          have HPL : Hid ((part s.list i).length = 32) := part_length s.list i rfl (by omega)
          have hsl := fun w => slice_from w gd i hlt
          go_wp2_with fail
          refine (putWord_any gd (4 * i) _ _ 30 (part s.list i) z wr (by omega) (by rw [HPL.out]; omega) hz.1 hz.2 HD.out.1).mono ?_
          rintro e w5 ⟨rfl, rfl⟩
          rw [HP.out]
          go_wp2
          go_roundw
          case rel => exact ⟨i + 1, by omega, by go_num, ⟨setRow_heap _ _ _ _ 30 _ HD.out.1, by rw [setRow_other _ _ _ _ (by omega)]; exact HD.out.2⟩, below_setRow hB (by omega) _⟩
          case measure => simp [intOf]; omega
        · obtain rfl : i = 8 := by omega
          obtain ⟨D, HDD, HSD, H1D, H32D⟩ := dig_row' (sumD (joinL ss)) (sumD_length _)
          have HZD : Hid (Z.size = D.size) := by show _ = _; rw [H32.out, H32D.out]
          have HDs : Hid (wr.heap[gd]? = some (.cells D 30 (0, 0))) := by
            show _ = _
            have := HD.out.1
            rw [part_all s.list rfl, ← HE.out] at this
            rw [HDD.out]
            exact this
          go_wp2_with (first
            | (refine wpList_load_row rfl 30 (.tmp 6) rfl gd rfl 30 D (0, 0) _ HDs.out Tryd.underlying30 rfl HSD.out ?_)
            | (refine wpList_store_row rfl 30 (.tmp 2) (.tmp 36) rfl w.heap.size D rfl rfl 30 Z HD.out.2 HSD.out HZD.out H1D.out ?_)
            | fail)
          refine bodyPost_ret (v := .agg D) ?_ rfl ⟨?_, ?_⟩
          · exact results_cell_row (p := 2) (ty := 30) rfl _ _ w.heap.size 30 D (0, 0) _ rfl (setRow_heap _ _ _ _ 30 _ HD.out.2) Tryd.underlying30 rfl HSD.out
          · rw [HDD.out]; rfl
          · exact below_setRow hB (Nat.le_refl _) _
end Go.Proofs.YtdnhnjimhbbababDoor

/- What sha.Empty, sha.Leaf and sha.Knot answer. -/
namespace Go.Proofs.YtdnhnjimhbbababDoor
open Go.RowKit Sums
set_option maxRecDepth 100000
set_option linter.unusedVariables false
set_option linter.unusedSimpArgs false
/-- Texts in a new block. -/
theorem texts_new (w : World) (ss : List ByteArray) (t : TypeId) : Texts (w.alloc (.cells (ss.map Value.string).toArray t)) (some ⟨w.heap.size, 0, none⟩) ss.length ss := by
  refine ⟨rfl, .inr ⟨w.heap.size, 0, rfl, by simp, fun i hi => ?_⟩⟩
  rw [Nat.zero_add, cell_of_row _ _ i _ t (0, 0) (heap_alloc_new w _)]
  simp [List.getElem?_eq_getElem hi]
/-- Of, where a block of texts was just made. -/
theorem of_new (ss : List ByteArray) (t : TypeId) (w : World) (ht : total ss ≤ 1000000) (hlen : ss.length ≤ 9223372036854775807) (hK : Table 0 w) (D : Array Value) (HD : Hid (D = (cellsOf (sumD (joinL ss))).toArray)) (n cap g : Nat) (hn : n = ss.length) (hg : g = w.heap.size)
    (cs : Array Value) (hcs : cs = (ss.map Value.string).toArray) :
    Calls Tryd.prog 18 #[.slice (some ⟨g, 0, none⟩) n cap] (w.alloc (.cells cs t)) fun e w' => e = .returned (.agg D) ∧ Below w.heap.size w w' := by
  subst hcs hn hg
  have h := of_any _ ss.length cap ss _ (texts_new w ss t) ht hlen (hK.keep ((Below.refl _ _).alloc (Nat.le_refl _) _))
  refine h.mono ?_
  rintro e w' ⟨he, hb⟩
  refine ⟨?_, ((Below.refl _ _).alloc (Nat.le_refl _) _).trans (hb.mono (by simp))⟩
  rw [he, HD.out]
  rfl
theorem of_none (w : World) (hK : Table 0 w) (D : Array Value) (HD : Hid (D = (cellsOf (sumD [])).toArray)) :
    Calls Tryd.prog 18 #[.slice none 0 0] w fun e w' => e = .returned (.agg D) ∧ Below w.heap.size w w' := by
  have h := of_any none 0 0 [] w ⟨rfl, .inl rfl⟩ (by decide) (by decide) hK
  rw [HD.out]
  exact h
set_option maxHeartbeats 1000000 in
theorem empty_any (w : World) (hK : Table 0 w) (D : Array Value) (HD : Hid (D = (cellsOf (sumD [])).toArray)) :
    Calls Tryd.prog 17 #[] w fun e w' => e = .returned (.agg D) ∧ Below w.heap.size w w' := by
  obtain ⟨Z, HZ, HA, HS, H1, H32⟩ := noughts27
  have HSD : Hid ((Tryd.prog.info? 30).map (·.size) = some D.size) := by show _ = _; rw [size23, HD.out]; simp [cellsOf_length, sumD_length]
  have H1D : Hid (D.all (·.oneCell') = true) := by show _ = _; rw [HD.out]; exact cellsOf_all _
  have HZD : Hid (Z.size = D.size) := by show _ = _; rw [H32.out, HD.out]; simp [cellsOf_length, sumD_length]
  have KO : Hid (∀ w1, Below w.heap.size w w1 → Calls Tryd.prog 18 #[.slice none 0 0] w1 fun e w' => e = .returned (.agg D) ∧ Below w1.heap.size w1 w') := fun w1 hb => of_none w1 (hK.keep hb) D HD
  clear hK
  go_enter Tryd.func17, Tryd.ntmps17
  go_wp2_with (first
    | (refine wpList_alloc_row rfl 30 rfl Z HA.out ?_)
    | fail)
  refine (KO.out _ ((Below.refl _ _).alloc (Nat.le_refl _) _)).mono ?_
  rintro e w1 ⟨rfl, hb1⟩
  have HG : Hid (w1.heap[w.heap.size]? = some (.cells Z 30 (0, 0))) := (hb1.block _ (by simp)).trans (heap_alloc_new w _)
  have hB : Below w.heap.size w w1 := ((Below.refl _ _).alloc (Nat.le_refl _) _).trans (hb1.mono (by simp))
  clear hb1
  go_wp2_with (first
    | (refine wpList_store_row rfl 30 (.tmp 0) (.tmp 1) rfl w.heap.size D rfl rfl 30 Z HG.out HSD.out HZD.out H1D.out ?_)
    | fail)
  refine bodyPost_ret (v := .agg D) ?_ rfl ⟨rfl, below_setRow hB (Nat.le_refl _) _⟩
  exact results_cell_row (p := 0) (ty := 30) rfl _ _ w.heap.size 30 D (0, 0) _ rfl (setRow_heap _ _ _ _ 30 _ HG.out) Tryd.underlying30 rfl HSD.out
set_option maxHeartbeats 1000000 in
theorem leaf_any (s : ByteArray) (w : World) (hs : s.size ≤ 999000) (hK : Table 0 w) (D : Array Value) (HD : Hid (D = (cellsOf (sumD (0 :: s.data.toList))).toArray)) :
    Calls Tryd.prog 5 #[.string s] w fun e w' => e = .returned (.agg D) ∧ Below w.heap.size w w' := by
  obtain ⟨Z, HZ, HA, HS, H1, H32⟩ := noughts27
  have HSD : Hid ((Tryd.prog.info? 30).map (·.size) = some D.size) := by show _ = _; rw [size23, HD.out]; simp [cellsOf_length, sumD_length]
  have H1D : Hid (D.all (·.oneCell') = true) := by show _ = _; rw [HD.out]; exact cellsOf_all _
  have HZD : Hid (Z.size = D.size) := by show _ = _; rw [H32.out, HD.out]; simp [cellsOf_length, sumD_length]
  have KO : Hid (∀ w1 g, g = w1.heap.size → Below w.heap.size w w1 → Calls Tryd.prog 18 #[.slice (some ⟨g, 0, none⟩) 2 2] (w1.alloc (.cells #[.string ⟨#[0]⟩, .string s] 9)) fun e w' => e = .returned (.agg D) ∧ Below w1.heap.size w1 w') := fun w1 g hg hb =>
    of_new [⟨#[0]⟩, s] 9 w1 (by show 1 + (s.size + 0) ≤ 1000000; omega) (by show 2 ≤ _; decide) (hK.keep hb) D (by show _ = _; rw [HD.out]; simp [joinL]) 2 2 g rfl hg _ rfl
  clear hK
  go_enter Tryd.func5, Tryd.ntmps5
  go_wp2_with (first
    | (refine wpList_alloc_row rfl 30 rfl Z HA.out ?_)
    | fail)
  refine (KO.out _ _ (by simp) ((Below.refl _ _).alloc (Nat.le_refl _) _)).mono ?_
  rintro e w1 ⟨rfl, hb1⟩
  have HG : Hid (w1.heap[w.heap.size]? = some (.cells Z 30 (0, 0))) := (hb1.block _ (by simp)).trans (heap_alloc_new w _)
  have hB : Below w.heap.size w w1 := ((Below.refl _ _).alloc (Nat.le_refl _) _).trans (hb1.mono (by simp))
  clear hb1
  go_wp2_with (first
    | (refine wpList_store_row rfl 30 (.tmp 2) (.tmp 5) rfl w.heap.size D rfl rfl 30 Z HG.out HSD.out HZD.out H1D.out ?_)
    | fail)
  refine bodyPost_ret (v := .agg D) ?_ rfl ⟨rfl, below_setRow hB (Nat.le_refl _) _⟩
  exact results_cell_row (p := 2) (ty := 30) rfl _ _ w.heap.size 30 D (0, 0) _ rfl (setRow_heap _ _ _ _ 30 _ HG.out) Tryd.underlying30 rfl HSD.out
theorem range_keep {W W' : World} {g o : Nat} {l : List Value} (hb : Below W.heap.size W W') (h : W.rangeAt g o l) : W'.rangeAt g o l := fun j v hj => by
  have hc := h j v hj
  rw [hb.cell (World.block_lt_of_cell? _ _ hc)]
  exact hc
theorem range_row {W : World} {g : Nat} {l : List Value} {t : TypeId} {fr : Nat × Nat} (h : W.heap[g]? = some (.cells l.toArray t fr)) : W.rangeAt g 0 l := fun j v hj => by
  rw [Nat.zero_add, cell_of_row W g j _ t fr h]
  simpa using hj
theorem range_other {W : World} {g g' o : Nat} {l : List Value} {cs : Array Value} (h : W.rangeAt g o l) (hne : g ≠ g') : (W.setRow g' cs).rangeAt g o l := fun j v hj => by
  rw [cell_setRow_other W g' cs _ hne]
  exact h j v hj
theorem conv_dig (W : World) (g : Nat) (l : List UInt8) (hl : l.length = 32) (h : W.rangeAt g 0 (cellsOf l)) : Sem.run Tryd.prog (convert 43 9 (.slice (some ⟨g, 0, none⟩) 32 32)) W = .ok (.string ⟨l.toArray⟩) W := by
  have := run_convert_bytes_back (P := Tryd.prog) W 43 9 5 ⟨g, 0, none⟩ 32 l Tryd.underlying43 Tryd.underlying5 Tryd.underlying9 (fun j hj => by
    rw [add_plain]
    exact h j _ (cellsOf_at l j hj))
  rw [hl] at this
  exact this
theorem keep2 {w W W' : World} {g0 g1 : Nat} {A B : List Value} (hb : Below W.heap.size W W') (h : W.rangeAt g0 0 A ∧ W.rangeAt g1 0 B ∧ Below w.heap.size w W) :
    W'.rangeAt g0 0 A ∧ W'.rangeAt g1 0 B ∧ Below w.heap.size w W' :=
  ⟨range_keep hb h.1, range_keep hb h.2.1, h.2.2.trans (hb.mono h.2.2.size)⟩
set_option maxHeartbeats 1000000 in
theorem knot_any (l r : List UInt8) (hl : l.length = 32) (hr : r.length = 32) (w : World) (hK : Table 0 w) (D : Array Value) (HD : Hid (D = (cellsOf (sumD (1 :: (l ++ r)))).toArray)) :
    Calls Tryd.prog 22 #[.agg (cellsOf l).toArray, .agg (cellsOf r).toArray] w fun e w' => e = .returned (.agg D) ∧ Below w.heap.size w w' := by
  obtain ⟨Z, HZ, HA, HS, H1, H32⟩ := noughts27
  have HSD : Hid ((Tryd.prog.info? 30).map (·.size) = some D.size) := by show _ = _; rw [size23, HD.out]; simp [cellsOf_length, sumD_length]
  have H1D : Hid (D.all (·.oneCell') = true) := by show _ = _; rw [HD.out]; exact cellsOf_all _
  have HZD : Hid (Z.size = D.size) := by show _ = _; rw [H32.out, HD.out]; simp [cellsOf_length, sumD_length]
  obtain ⟨x, HX⟩ : ∃ x : ByteArray, Hid (x = ⟨l.toArray⟩) := ⟨_, (rfl : (⟨l.toArray⟩ : ByteArray) = _)⟩
  obtain ⟨y, HY⟩ : ∃ y : ByteArray, Hid (y = ⟨r.toArray⟩) := ⟨_, (rfl : (⟨r.toArray⟩ : ByteArray) = _)⟩
  obtain ⟨A, HAL⟩ : ∃ A, Hid (A = cellsOf l) := ⟨_, (rfl : cellsOf l = _)⟩
  obtain ⟨B, HBR⟩ : ∃ B, Hid (B = cellsOf r) := ⟨_, (rfl : cellsOf r = _)⟩
  have KO : Hid (∀ w1 g, g = w1.heap.size → Below w.heap.size w w1 → Calls Tryd.prog 18 #[.slice (some ⟨g, 0, none⟩) 3 3] (w1.alloc (.cells #[.string ⟨#[1]⟩, .string x, .string y] 9)) fun e w' => e = .returned (.agg D) ∧ Below w1.heap.size w1 w') := fun w1 g hg hb =>
    of_new [⟨#[1]⟩, x, y] 9 w1 (by rw [HX.out, HY.out]; show 1 + (l.toArray.size + (r.toArray.size + 0)) ≤ 1000000; simp [hl, hr]) (by show 3 ≤ _; decide) (hK.keep hb) D (by show _ = _; rw [HD.out, HX.out, HY.out]; simp [joinL]) 3 3 g rfl hg _ rfl
  have c0 : ∀ W, W.rangeAt w.heap.size 0 A → Sem.run Tryd.prog (convert 43 9 (.slice (some ⟨w.heap.size, 0, none⟩) 32 32)) W = .ok (.string x) W := fun W h => by
    rw [HX.out]; exact conv_dig W _ l hl (by rw [← HAL.out]; exact h)
  have c1 : ∀ W, W.rangeAt (w.heap.size + 1) 0 B → Sem.run Tryd.prog (convert 43 9 (.slice (some ⟨w.heap.size + 1, 0, none⟩) 32 32)) W = .ok (.string y) W := fun W h => by
    rw [HY.out]; exact conv_dig W _ r hr (by rw [← HBR.out]; exact h)
  have s0 := fun W => slice_all W w.heap.size
  have s1 := fun W => slice_all W (w.heap.size + 1)
  rw [← HAL.out, ← HBR.out]
  clear hK
  go_enter Tryd.func22, Tryd.ntmps22
  go_wp2_with (first
    | (refine wpList_alloc_row rfl 30 rfl Z HA.out ?_)
    | fail)
  obtain ⟨w0, hw0⟩ : ∃ w0, w0 = ((w.alloc (.cells A.toArray 30)).alloc (.cells B.toArray 30)).alloc (.cells Z 30) := ⟨_, rfl⟩
  have hS : w0.rangeAt w.heap.size 0 A ∧ w0.rangeAt (w.heap.size + 1) 0 B ∧ Below w.heap.size w w0 := by
    rw [hw0]
    exact ⟨range_row (heap_keep (heap_alloc2_old w _ _)), range_row (heap_keep (heap_alloc2_new w _ _)), (((Below.refl _ _).alloc (Nat.le_refl _) _).alloc (by simp) _).alloc (by simp; omega) _⟩
  have HG0 : Hid (w0.heap[w.heap.size + 2]? = some (.cells Z 30 (0, 0))) := by
    show _ = _
    rw [hw0]
    have := heap_alloc_new ((w.alloc (.cells A.toArray 30)).alloc (.cells B.toArray 30)) (.cells Z 30)
    simpa using this
  rw [← hw0]
  clear hw0
  refine wp_region_held_drew (S := (fun W => W.rangeAt w.heap.size 0 A ∧ W.rangeAt (w.heap.size + 1) 0 B ∧ Below w.heap.size w W)) (by kernel_rfl) (keep2 (Below.refl _ _).drew hS) (fun hHeld => ?_)
  refine wpAnyH_take (i := 0) (oi := { dst := some 5, op := Op.slice 30 (Operand.tmp 2) none none none, type := 43, pos := "sha.go:50", after := #[], guard := none }) (v := .slice (some ⟨w.heap.size, 0, none⟩) 32 32) rfl (by kernel_rfl) (by kernel_rfl) (by kernel_rfl) (fun _ _ _ h => h) (Or.inl ⟨by rfl, by intro w hSw; go_simp⟩) hHeld ?_
  try simp only [Act.put, List.setIfInBounds_toArray, List.set_cons_zero, List.set_cons_succ]
  refine wpAnyH_take (i := 1) (oi := { dst := some 6, op := Op.convert 43 9 (Operand.tmp 5), type := 9, pos := "sha.go:50", after := #[{ on := 0, ground := Ground.data }], guard := none }) (v := .string x) rfl (by kernel_rfl) (by kernel_rfl) (by kernel_rfl) (fun _ _ _ h => h) (Or.inl ⟨by rfl, by intro W hSw; have := c0 W hSw.1; go_simp⟩) hHeld ?_
  try simp only [Act.put, List.setIfInBounds_toArray, List.set_cons_zero, List.set_cons_succ]
  refine wpAnyH_take (i := 2) (oi := { dst := some 7, op := Op.slice 30 (Operand.tmp 3) none none none, type := 43, pos := "sha.go:50", after := #[], guard := none }) (v := .slice (some ⟨w.heap.size + 1, 0, none⟩) 32 32) rfl (by kernel_rfl) (by kernel_rfl) (by kernel_rfl) (fun _ _ _ h => h) (Or.inl ⟨by rfl, by intro w hSw; go_simp⟩) hHeld ?_
  try simp only [Act.put, List.setIfInBounds_toArray, List.set_cons_zero, List.set_cons_succ]
  refine wpAnyH_take (i := 3) (oi := { dst := some 8, op := Op.convert 43 9 (Operand.tmp 7), type := 9, pos := "sha.go:50", after := #[{ on := 2, ground := Ground.data }], guard := none }) (v := .string y) rfl (by kernel_rfl) (by kernel_rfl) (by kernel_rfl) (fun _ _ _ h => h) (Or.inl ⟨by rfl, by intro W hSw; have := c1 W hSw.2.1; go_simp⟩) hHeld ?_
  try simp only [Act.put, List.setIfInBounds_toArray, List.set_cons_zero, List.set_cons_succ]
  refine wpAnyH_ready (rs := [4]) (by kernel_rfl) (by simp) ?_
  refine AllReadyH.cons (o := { dst := some 9, op := Op.buildSlice 22 3 #[(0, Operand.const (Value.string { data := #[1] })), (1, Operand.tmp 6), (2, Operand.tmp 8)], type := 22, pos := "sha.go:50", after := #[{ on := 1, ground := Ground.data }, { on := 3, ground := Ground.data }], guard := none }) rfl (fun K hK => ?_) AllReadyH.nil
  go_simp
  refine hK.out _ _ (keep2 ((Below.refl _ _).alloc (Nat.le_refl _) _) hHeld) (fun hHeld => ?_)
  clear hK K
  try simp only [Act.put, List.setIfInBounds_toArray, List.set_cons_zero, List.set_cons_succ]
  refine wpAnyH_ready (rs := [5]) (by kernel_rfl) (by simp) ?_
  refine AllReadyH.cons (o := { dst := some 10, op := Op.call { callee := Callee.value (Operand.func 18), args := #[Operand.tmp 9], argTypes := #[22] }, type := 30, pos := "sha.go:50", after := #[{ on := 4, ground := Ground.data }], guard := none }) rfl (fun K hK => ?_) AllReadyH.nil
  go_simp
  refine (KO.out _ _ rfl hS.2.2.drew).mono ?_
  rintro e w1 ⟨rfl, hb1⟩
  go_wp2_with fail
  refine hK.out _ _ (keep2 (Below.trans (Below.refl _ _).drew hb1) hS) (fun hHeld => ?_)
  clear hK K
  try simp only [Act.put, List.setIfInBounds_toArray, List.set_cons_zero, List.set_cons_succ]
  have HG1 : Hid (w1.heap[w.heap.size + 2]? = some (.cells Z 30 (0, 0))) := (hb1.block _ (heap_lt HG0.out)).trans HG0.out
  refine wpAnyH_ready (rs := [6]) (by kernel_rfl) (by simp) ?_
  refine AllReadyH.cons (o := { dst := none, op := Op.store 30 (Operand.tmp 4) (Operand.tmp 10), type := 0, pos := "sha.go:50", after := #[{ on := 5, ground := Ground.data }, { on := 5, ground := Ground.chain }, { on := 0, ground := Ground.phase }, { on := 1, ground := Ground.phase }, { on := 2, ground := Ground.phase }, { on := 3, ground := Ground.phase }, { on := 4, ground := Ground.phase }, { on := 5, ground := Ground.phase }], guard := none }) rfl (fun K hK => ?_) AllReadyH.nil
  refine step_store_row (by rfl) 30 (.tmp 4) (.tmp 10) rfl (w.heap.size + 2) D rfl rfl 30 Z HG1.out HSD.out HZD.out H1D.out ?_
  refine hK.out _ _ ⟨range_other hHeld.1 (by omega), range_other hHeld.2.1 (by omega), below_setRow hHeld.2.2 (by omega) _⟩ (fun hHeld => ?_)
  clear hK K
  try simp only [Act.put, List.setIfInBounds_toArray, List.set_cons_zero, List.set_cons_succ]
  refine wpAnyH_done (by kernel_rfl) ?_ _
  go_wp2
  refine bodyPost_ret (v := .agg D) ?_ rfl ⟨rfl, hHeld.2.2⟩
  exact results_cell_row (p := 4) (ty := 30) rfl _ _ (w.heap.size + 2) 30 D (0, 0) _ rfl (setRow_heap _ _ _ _ 30 _ HG1.out) Tryd.underlying30 rfl HSD.out
end Go.Proofs.YtdnhnjimhbbababDoor

/- Digests held against one another; sums of texts that lie somewhere. -/
namespace Go.Proofs.YtdnhnjimhbbababDoor
open Go.RowKit Sums
set_option maxRecDepth 100000
set_option linter.unusedVariables false
theorem hidk {p : Prop} (h : p) : Hid p := h
theorem sizeOf5 (w : World) : (sizeOf 5).run Tryd.prog w = .ok 1 w := by
  cases hq : Tryd.prog.info? 5 with
  | none => have := size5; simp [hq] at this
  | some i => have := size5; simp [hq] at this; simp [sizeOf, typeInfo, hq, this]
theorem eqDig (xs ys : List UInt8) (hx : xs.length = 32) (hy : ys.length = 32) (w : World) : (binOp .eql 30 (.agg (cellsOf xs).toArray) (.agg (cellsOf ys).toArray)).run Tryd.prog w = .ok (.bool (xs == ys)) w :=
  run_eql_bytes w 30 5 32 Tryd.underlying30 Tryd.underlying5 sizeOf5 xs ys hx hy
theorem eqSelf (D : Array Value) (l : List UInt8) (hl : l.length = 32) (HD : Hid (D = (cellsOf l).toArray)) (w : World) : (binOp .eql 30 (.agg D) (.agg D)).run Tryd.prog w = .ok (.bool true) w := by
  rw [HD.out, eqDig l l hl hl]; simp
/-- Of, of texts that lie somewhere. -/
theorem of_lies (ss : List ByteArray) (ht : total ss ≤ 1000000) (hlen : ss.length ≤ 9223372036854775807) (D : Array Value) (HD : Hid (D = (cellsOf (sumD (joinL ss))).toArray)) (W : World) (a : Option Addr) (n cap : Nat)
    (hT : Texts W a n ss) (hK : Table 0 W) :
    Calls Tryd.prog 18 #[.slice a n cap] W fun e w' => e = .returned (.agg D) ∧ Below W.heap.size W w' := by
  have h := of_any _ n cap ss W hT ht (by rw [← hT.1]; exact hlen) hK
  rw [HD.out]
  exact h
end Go.Proofs.YtdnhnjimhbbababDoor

/- Slices of digests in memory, and their parts. -/
namespace Go.Proofs.YtdnhnjimhbbababDoor
open Go.RowKit Sums
set_option maxRecDepth 100000
set_option linter.unusedVariables false
set_option linter.unusedSimpArgs false
/-- A slice that reads as these digests. -/
def LReads (w : World) (a : Option Addr) (len cap : Nat) (l : List (List UInt8)) : Prop :=
  l.length = len ∧ Digs32 l ∧ len ≤ cap ∧ len ≤ maxLen ∧ (len = 0 ∨ ∃ g o, a = some ⟨g, o, none⟩ ∧ Lies w g o l.flatten)
theorem lies_lt {w : World} {g o : Nat} {l : List UInt8} (h : Lies w g o l) (hl : 0 < l.length) : g < w.heap.size := World.block_lt_of_cell? _ _ (h 0 hl)
theorem LReads.below {w w' : World} {a : Option Addr} {len cap B : Nat} {l : List (List UInt8)} (h : LReads w a len cap l) (hb : Below B w w') (hB : ∀ g o, a = some ⟨g, o, none⟩ → 0 < len → g < B) : LReads w' a len cap l := by
  obtain ⟨h1, h2, h3, h4, h5⟩ := h
  refine ⟨h1, h2, h3, h4, ?_⟩
  by_cases h0 : len = 0
  · exact .inl h0
  · rcases h5 with h5 | ⟨g, o, ha, hl⟩
    · exact .inl h5
    · exact .inr ⟨g, o, ha, hl.keep hb (hB g o ha (by omega))⟩
theorem LReads.keep {w w' : World} {a : Option Addr} {len cap : Nat} {l : List (List UInt8)} (h : LReads w a len cap l) (hb : Below w.heap.size w w') : LReads w' a len cap l := by
  refine h.below hb fun g o ha h0 => ?_
  obtain ⟨h1, h2, h3, h4, h5⟩ := h
  rcases h5 with h5 | ⟨g', o', ha', hl⟩
  · omega
  · rw [ha] at ha'
    cases ha'
    exact lies_lt hl (by rw [flat_length h2]; omega)
/-- Where one that is not empty lies. -/
theorem LReads.at {w : World} {a : Option Addr} {len cap : Nat} {l : List (List UInt8)} (h : LReads w a len cap l) (h0 : 0 < len) : ∃ g o, a = some ⟨g, o, none⟩ ∧ g < w.heap.size := by
  obtain ⟨h1, h2, h3, h4, h5⟩ := h
  rcases h5 with h5 | ⟨g, o, ha, hl⟩
  · omega
  · exact ⟨g, o, ha, lies_lt hl (by rw [flat_length h2]; omega)⟩
theorem LReads.take {w : World} {g o len cap : Nat} {l : List (List UInt8)} (h : LReads w (some ⟨g, o, none⟩) len cap l) (k : Nat) (hk : k ≤ len) : LReads w (some ⟨g, o, none⟩) k cap (l.take k) := by
  obtain ⟨h1, h2, h3, h4, h5⟩ := h
  refine ⟨by simp; omega, h2.take k, by omega, by omega, ?_⟩
  rcases h5 with h5 | ⟨g', o', ha, hl⟩
  · exact .inl (by omega)
  · cases ha
    refine .inr ⟨_, _, rfl, ?_⟩
    rw [flat_take h2]
    exact hl.take _
theorem LReads.drop {w : World} {g o len cap : Nat} {l : List (List UInt8)} (h : LReads w (some ⟨g, o, none⟩) len cap l) (k : Nat) (hk : k ≤ len) : LReads w (some ⟨g, o + 32 * k, none⟩) (len - k) (cap - k) (l.drop k) := by
  obtain ⟨h1, h2, h3, h4, h5⟩ := h
  refine ⟨by simp; omega, h2.drop k, by omega, by omega, ?_⟩
  rcases h5 with h5 | ⟨g', o', ha, hl⟩
  · exact .inl (by omega)
  · cases ha
    refine .inr ⟨_, _, rfl, ?_⟩
    rw [flat_drop h2]
    exact hl.drop _
/-- The cells of the digest in place i. -/
theorem LReads.range {w : World} {g o len cap : Nat} {l : List (List UInt8)} (h : LReads w (some ⟨g, o, none⟩) len cap l) (i : Nat) (hi : i < l.length) : w.rangeAt g (o + 32 * i) (cellsOf l[i]) := by
  obtain ⟨h1, h2, h3, h4, h5⟩ := h
  intro j v hj
  have h32 := h2 _ (List.getElem_mem hi)
  have hjl : j < l[i].length := by
    have := (List.getElem?_eq_some_iff.1 hj).1
    rwa [cellsOf_length] at this
  rcases h5 with h5 | ⟨g', o', ha, hl⟩
  · omega
  · cases ha
    have hf := flat_length h2
    have hx : 32 * i + j < l.flatten.length := by omega
    have hc := hl (32 * i + j) hx
    rw [Nat.add_assoc, hc]
    rw [cellsOf_at _ j hjl] at hj
    rw [← hj]
    have e := flat_at h2 i hi
    have : l.flatten[32 * i + j] = l[i][j] := by
      have e2 : ((l.flatten.drop (32 * i)).take 32)[j]? = l[i][j]? := by rw [e]
      rw [List.getElem?_take_of_lt (by omega), List.getElem?_drop, List.getElem?_eq_getElem hx, List.getElem?_eq_getElem hjl] at e2
      exact Option.some.inj e2
    rw [this]
theorem sizeOfD (w : World) : (sizeOf 30).run Tryd.prog w = .ok 32 w := by
  cases hq : Tryd.prog.info? 30 with
  | none => have := size23; simp [hq] at this
  | some i => have := size23; simp [hq] at this; simp [sizeOf, typeInfo, hq, this]
theorem slice_left (W : World) (g o len cap k : Nat) (hk : k ≤ cap) : (Instr.sliceAt 26 (.slice (some ⟨g, o, none⟩) len cap) none (some (.int .i64 k)) none).run Tryd.prog W = .ok (.slice (some ⟨g, o, none⟩) k cap) W := by
  simp [Instr.sliceAt, Instr.slice, Instr.sliceBounds, Instr.sliceBound, asIntOf, run_underlying Tryd.underlying26, sizeOfD, hk]
  rw [add_plain]
  simp
theorem slice_right (W : World) (g o len cap k : Nat) (hk : k ≤ len) (hc : len ≤ cap) (hlt : k < cap) : (Instr.sliceAt 26 (.slice (some ⟨g, o, none⟩) len cap) (some (.int .i64 k)) none none).run Tryd.prog W = .ok (.slice (some ⟨g, o + 32 * k, none⟩) (len - k) (cap - k)) W := by
  simp [Instr.sliceAt, Instr.slice, Instr.sliceBounds, Instr.sliceBound, asIntOf, run_underlying Tryd.underlying26, sizeOfD, hk]
  rw [if_neg (by omega), add_plain]
  simp [Nat.mul_comm]
theorem index_list (W : World) (g o len cap i : Nat) (k : IntKind) (hi : i < len) : (Instr.indexAt 26 (.slice (some ⟨g, o, none⟩) len cap) (.int k i)).run Tryd.prog W = .ok (.pointer (some ⟨g, o + 32 * i, none⟩)) W := by
  simp [Instr.indexAt, asIntOf, run_underlying Tryd.underlying26, sizeOfD, hi]
  rw [add_plain, Nat.mul_comm]
end Go.Proofs.YtdnhnjimhbbababDoor

/- What tree.parted and tree.Root answer. -/
namespace Go.Proofs.YtdnhnjimhbbababDoor
open Go.RowKit Sums
set_option maxRecDepth 100000
set_option linter.unusedVariables false
set_option linter.unusedSimpArgs false
set_option maxHeartbeats 1000000 in
theorem parted_any (g o len cap k : Nat) (w : World) (hk : k = split len) (h2 : 2 ≤ len) (hc : len ≤ cap) (hm : len ≤ maxLen) :
    Calls Tryd.prog 41 #[.slice (some ⟨g, o, none⟩) len cap] w fun e w' => e = .returned (.tuple #[.slice (some ⟨g, o, none⟩) k cap, .slice (some ⟨g, o + 32 * k, none⟩) (len - k) (cap - k)]) ∧ Below w.heap.size w w' := by
  have hl := split_lt len h2
  rw [← hk] at hl
  have hmx : len ≤ 9223372036854775807 := by unfold maxLen at hm; omega
  have S : Hid (∀ W, Calls Tryd.prog 68 #[.int .i64 len] W fun e w' => e = .returned (.int .i64 k) ∧ W = w') := fun W => by
    have := split_any (len : Int) W (by omega)
    rw [Int.toNat_natCast, ← hk] at this
    exact this
  have sl := fun W => slice_left W g o len cap k (by omega)
  have sr := fun W => slice_right W g o len cap k (by omega) hc (by omega)
  clear hk hm
  go_enter Tryd.func41, Tryd.ntmps41
  go_wp2_with fail
  refine (S.out _).mono ?_
  rintro e w1 ⟨rfl, rfl⟩
  go_wp2
  refine wp_region_held_drew (S := (fun _ => True)) (by kernel_rfl) trivial (fun hHeld => ?_)
  refine wpAnyH_take (i := 0) (oi := { dst := some 8, op := Op.move (Operand.tmp 0), type := 26, pos := "tree.go:22", after := #[], guard := none }) (v := .slice (some ⟨g, o, none⟩) len cap) rfl (by kernel_rfl) (by kernel_rfl) (by kernel_rfl) (fun _ _ _ h => h) (Or.inl ⟨by rfl, by intro w hSw; go_simp⟩) hHeld ?_
  try simp only [Act.put, List.setIfInBounds_toArray, List.set_cons_zero, List.set_cons_succ]
  refine wpAnyH_take (i := 1) (oi := { dst := some 9, op := Op.move (Operand.tmp 4), type := 3, pos := "tree.go:22", after := #[], guard := none }) (v := .int .i64 k) rfl (by kernel_rfl) (by kernel_rfl) (by kernel_rfl) (fun _ _ _ h => h) (Or.inl ⟨by rfl, by intro w hSw; go_simp⟩) hHeld ?_
  try simp only [Act.put, List.setIfInBounds_toArray, List.set_cons_zero, List.set_cons_succ]
  refine wpAnyH_take (i := 2) (oi := { dst := some 10, op := Op.slice 26 (Operand.tmp 8) none (some (Operand.tmp 9)) none, type := 26, pos := "tree.go:22", after := #[{ on := 0, ground := Ground.data }, { on := 1, ground := Ground.data }], guard := none }) (v := .slice (some ⟨g, o, none⟩) k cap) rfl (by kernel_rfl) (by kernel_rfl) (by kernel_rfl) (fun _ _ _ h => h) (Or.inl ⟨by rfl, by intro W hSw; have := sl W; go_simp⟩) hHeld ?_
  try simp only [Act.put, List.setIfInBounds_toArray, List.set_cons_zero, List.set_cons_succ]
  refine wpAnyH_take (i := 3) (oi := { dst := some 11, op := Op.move (Operand.tmp 0), type := 26, pos := "tree.go:22", after := #[], guard := none }) (v := .slice (some ⟨g, o, none⟩) len cap) rfl (by kernel_rfl) (by kernel_rfl) (by kernel_rfl) (fun _ _ _ h => h) (Or.inl ⟨by rfl, by intro w hSw; go_simp⟩) hHeld ?_
  try simp only [Act.put, List.setIfInBounds_toArray, List.set_cons_zero, List.set_cons_succ]
  refine wpAnyH_take (i := 4) (oi := { dst := some 12, op := Op.move (Operand.tmp 4), type := 3, pos := "tree.go:22", after := #[], guard := none }) (v := .int .i64 k) rfl (by kernel_rfl) (by kernel_rfl) (by kernel_rfl) (fun _ _ _ h => h) (Or.inl ⟨by rfl, by intro w hSw; go_simp⟩) hHeld ?_
  try simp only [Act.put, List.setIfInBounds_toArray, List.set_cons_zero, List.set_cons_succ]
  refine wpAnyH_take (i := 5) (oi := { dst := some 13, op := Op.slice 26 (Operand.tmp 11) (some (Operand.tmp 12)) none none, type := 26, pos := "tree.go:22", after := #[{ on := 3, ground := Ground.data }, { on := 4, ground := Ground.data }], guard := none }) (v := .slice (some ⟨g, o + 32 * k, none⟩) (len - k) (cap - k)) rfl (by kernel_rfl) (by kernel_rfl) (by kernel_rfl) (fun _ _ _ h => h) (Or.inl ⟨by rfl, by intro W hSw; have := sr W; go_simp⟩) hHeld ?_
  try simp only [Act.put, List.setIfInBounds_toArray, List.set_cons_zero, List.set_cons_succ]
  refine wpAnyH_take (i := 6) (oi := { dst := some 2, op := Op.assign (Operand.tmp 10), type := 26, pos := "tree.go:22", after := #[{ on := 2, ground := Ground.data }, { on := 0, ground := Ground.phase }, { on := 1, ground := Ground.phase }, { on := 2, ground := Ground.phase }, { on := 3, ground := Ground.textOnly Departure.lateStores }, { on := 4, ground := Ground.textOnly Departure.lateStores }, { on := 5, ground := Ground.textOnly Departure.lateStoresUnsure }], guard := none }) (v := .slice (some ⟨g, o, none⟩) k cap) rfl (by kernel_rfl) (by kernel_rfl) (by kernel_rfl) (fun _ _ _ h => h) (Or.inl ⟨by rfl, by intro w hSw; go_simp⟩) hHeld ?_
  try simp only [Act.put, List.setIfInBounds_toArray, List.set_cons_zero, List.set_cons_succ]
  refine wpAnyH_take (i := 7) (oi := { dst := some 3, op := Op.assign (Operand.tmp 13), type := 26, pos := "tree.go:22", after := #[{ on := 5, ground := Ground.data }, { on := 6, ground := Ground.chain }, { on := 0, ground := Ground.phase }, { on := 1, ground := Ground.phase }, { on := 2, ground := Ground.phase }, { on := 3, ground := Ground.phase }, { on := 4, ground := Ground.phase }, { on := 5, ground := Ground.phase }, { on := 6, ground := Ground.phase }], guard := none }) (v := .slice (some ⟨g, o + 32 * k, none⟩) (len - k) (cap - k)) rfl (by kernel_rfl) (by kernel_rfl) (by kernel_rfl) (fun _ _ _ h => h) (Or.inl ⟨by rfl, by intro w hSw; go_simp⟩) hHeld ?_
  try simp only [Act.put, List.setIfInBounds_toArray, List.set_cons_zero, List.set_cons_succ]
  refine wpAnyH_done (by kernel_rfl) ?_ _
  go_wp2
  go_ret2
  exact ⟨rfl, (Below.refl _ _).drew⟩
set_option maxHeartbeats 1000000 in
theorem root_any (n : Nat) (a : Option Addr) (len cap : Nat) (l : List (List UInt8)) (w : World) (hn : len = n) (hR : LReads w a len cap l) (hK : Table 0 w) (D : Array Value) (HD : Hid (D = (cellsOf (root l)).toArray)) :
    Calls Tryd.prog 42 #[.slice a len cap] w fun e w' => e = .returned (.agg D) ∧ Below w.heap.size w w' := by
  induction n using Nat.strongRecOn generalizing a len cap l w D with
  | _ n ih =>
    subst hn
    obtain ⟨Z, HZ, HA, HS, H1, H32⟩ := noughts27
    have h32 : (root l).length = 32 := root_length sumD_length l hR.2.1
    have HSD : Hid ((Tryd.prog.info? 30).map (·.size) = some D.size) := by show _ = _; rw [size23, HD.out]; simp [cellsOf_length, h32]
    have H1D : Hid (D.all (·.oneCell') = true) := by show _ = _; rw [HD.out]; exact cellsOf_all _
    have HZD : Hid (Z.size = D.size) := by show _ = _; rw [H32.out, HD.out]; simp [cellsOf_length, h32]
    have hlen := hR.1
    by_cases h0 : len = 0
    · have KE : Hid (∀ W, Below w.heap.size w W → Calls Tryd.prog 17 #[] W fun e w' => e = .returned (.agg D) ∧ Below W.heap.size W w') := fun W hb => empty_any W (hK.keep hb) D (by show _ = _; rw [HD.out, root_none l (by omega)])
      subst h0
      clear hK hR HD ih
      go_enter Tryd.func42, Tryd.ntmps42
      go_wp2_with (first
        | (refine wpList_alloc_row rfl 30 rfl Z HA.out ?_)
        | fail)
      refine (KE.out _ ((Below.refl _ _).alloc (Nat.le_refl _) _)).mono ?_
      rintro e w1 ⟨rfl, hb1⟩
      have HG : Hid (w1.heap[w.heap.size]? = some (.cells Z 30 (0, 0))) := (hb1.block _ (by simp)).trans (heap_alloc_new w _)
      have hB : Below w.heap.size w w1 := ((Below.refl _ _).alloc (Nat.le_refl _) _).trans (hb1.mono (by simp))
      clear hb1
      go_wp2_with (first
        | (refine wpList_store_row rfl 30 (.tmp 2) (.tmp 9) rfl w.heap.size D rfl rfl 30 Z HG.out HSD.out HZD.out H1D.out ?_)
        | fail)
      refine bodyPost_ret (v := .agg D) ?_ rfl ⟨rfl, below_setRow hB (Nat.le_refl _) _⟩
      exact results_cell_row (p := 2) (ty := 30) rfl _ _ w.heap.size 30 D (0, 0) _ rfl (setRow_heap _ _ _ _ 30 _ HG.out) Tryd.underlying30 rfl HSD.out
    · obtain ⟨g, o, rfl, hg⟩ := hR.at (by omega)
      by_cases h1 : len = 1
      · subst h1
        have hrange := hR.range 0 (by omega)
        have e0 : root l = l[0]'(by omega) := by
          rw [root_one l hlen]
          match l, hlen with
          | [d], _ => rfl
        rw [← e0, Nat.mul_zero, Nat.add_zero] at hrange
        obtain ⟨R, HR⟩ : ∃ R, Hid (R = cellsOf (root l)) := ⟨_, (rfl : cellsOf (root l) = _)⟩
        rw [← HR.out] at hrange
        have HDR : D = R.toArray := by rw [HD.out, HR.out]
        have HRG : Hid ((w.alloc (.cells Z 30)).rangeAt g o R) := range_keep ((Below.refl _ _).alloc (Nat.le_refl _) _) hrange
        have z0 : Hid ((Tryd.prog.info? 30).map (·.size) = some R.length) := by show _ = _; rw [size23, HR.out, cellsOf_length, h32]
        subst HDR
        clear hK hR HD ih hrange e0
        have ix := fun W => index_list W g o 1 cap 0 .i64 (by omega)
        simp only [Nat.mul_zero, Nat.add_zero, Int.cast_ofNat_Int] at ix
        go_enter Tryd.func42, Tryd.ntmps42
        go_wp2_with (first
          | (refine wpList_alloc_row rfl 30 rfl Z HA.out ?_)
          | (refine wpList_load_mid rfl 30 (.tmp 13) rfl g o rfl R _ HRG.out Tryd.underlying30 rfl z0.out ?_)
          | (refine wpList_store_row rfl 30 (.tmp 2) (.tmp 14) rfl w.heap.size R.toArray rfl rfl 30 Z (heap_alloc_new w _) HSD.out HZD.out H1D.out ?_)
          | fail)
        refine bodyPost_ret (v := .agg R.toArray) ?_ rfl ⟨rfl, below_setRow ((Below.refl _ _).alloc (Nat.le_refl _) _) (Nat.le_refl _) _⟩
        exact results_cell_row (p := 2) (ty := 30) rfl _ _ w.heap.size 30 R.toArray (0, 0) _ rfl (setRow_heap _ _ _ _ 30 _ (heap_alloc_new w _)) Tryd.underlying30 rfl HSD.out
      · have h2 : 2 ≤ len := by omega
        obtain ⟨k, hk⟩ : ∃ k, k = split len := ⟨_, rfl⟩
        have hkl := split_lt len h2
        have hkp := split_pos len h2
        rw [← hk] at hkl hkp
        have eR : root l = knotD (root (l.take k)) (root (l.drop k)) := by rw [root_more l (by omega), hlen, ← hk]
        have hcl := hR.2.2.1
        have hml := hR.2.2.2.1
        obtain ⟨D1, HD1⟩ : ∃ D1, Hid (D1 = (cellsOf (root (l.take k))).toArray) := ⟨_, (rfl : (cellsOf (root (l.take k))).toArray = _)⟩
        obtain ⟨D2, HD2⟩ : ∃ D2, Hid (D2 = (cellsOf (root (l.drop k))).toArray) := ⟨_, (rfl : (cellsOf (root (l.drop k))).toArray = _)⟩
        have P : Hid (∀ W, Calls Tryd.prog 41 #[.slice (some ⟨g, o, none⟩) len cap] W fun e w' => e = .returned (.tuple #[.slice (some ⟨g, o, none⟩) k cap, .slice (some ⟨g, o + 32 * k, none⟩) (len - k) (cap - k)]) ∧ Below W.heap.size W w') := fun W => parted_any g o len cap k W hk h2 hcl hml
        have R1 : Hid (∀ W, Below w.heap.size w W → Calls Tryd.prog 42 #[.slice (some ⟨g, o, none⟩) k cap] W fun e w' => e = .returned (.agg D1) ∧ Below W.heap.size W w') := fun W hb =>
          ih k hkl _ k cap (l.take k) W rfl ((hR.keep hb).take k (by omega)) (hK.keep hb) D1 HD1
        have R2 : Hid (∀ W, Below w.heap.size w W → Calls Tryd.prog 42 #[.slice (some ⟨g, o + 32 * k, none⟩) (len - k) (cap - k)] W fun e w' => e = .returned (.agg D2) ∧ Below W.heap.size W w') := fun W hb =>
          ih (len - k) (by omega) _ (len - k) (cap - k) (l.drop k) W rfl ((hR.keep hb).drop k (by omega)) (hK.keep hb) D2 HD2
        have K : Hid (∀ W, Below w.heap.size w W → Calls Tryd.prog 22 #[.agg D1, .agg D2] W fun e w' => e = .returned (.agg D) ∧ Below W.heap.size W w') := fun W hb => by
          rw [HD1.out, HD2.out]
          exact knot_any _ _ (root_length sumD_length _ (hR.2.1.take k)) (root_length sumD_length _ (hR.2.1.drop k)) W (hK.keep hb) D (by show _ = _; rw [HD.out, eR]; rfl)
        clear hK hR HD ih eR hk hlen HD1 HD2
        go_enter Tryd.func42, Tryd.ntmps42
        go_wp2_with (first
          | (refine wpList_alloc_row rfl 30 rfl Z HA.out ?_)
          | fail)
        refine (P.out _).mono ?_
        rintro e w1 ⟨rfl, hb1⟩
        have HG : Hid (w1.heap[w.heap.size]? = some (.cells Z 30 (0, 0))) := (hb1.block _ (by simp)).trans (heap_alloc_new w _)
        have hB : Below w.heap.size w w1 := ((Below.refl _ _).alloc (Nat.le_refl _) _).trans (hb1.mono (by simp))
        clear hb1 P
        go_wp2_with fail
        refine (R1.out _ hB).mono ?_
        rintro e w2 ⟨rfl, hb2⟩
        replace HG := hidk ((hb2.block _ (heap_lt HG.out)).trans HG.out)
        replace hB := hB.trans (hb2.mono hB.size)
        clear hb2 R1
        go_wp2_with fail
        refine (R2.out _ hB).mono ?_
        rintro e w3 ⟨rfl, hb3⟩
        replace HG := hidk ((hb3.block _ (heap_lt HG.out)).trans HG.out)
        replace hB := hB.trans (hb3.mono hB.size)
        clear hb3 R2
        go_wp2_with fail
        refine (K.out _ hB).mono ?_
        rintro e w4 ⟨rfl, hb4⟩
        replace HG := hidk ((hb4.block _ (heap_lt HG.out)).trans HG.out)
        replace hB := hB.trans (hb4.mono hB.size)
        clear hb4 K
        go_wp2_with (first
          | (refine wpList_store_row rfl 30 (.tmp 2) (.tmp 24) rfl w.heap.size D rfl rfl 30 Z HG.out HSD.out HZD.out H1D.out ?_)
          | fail)
        refine bodyPost_ret (v := .agg D) ?_ rfl ⟨rfl, below_setRow hB (Nat.le_refl _) _⟩
        exact results_cell_row (p := 2) (ty := 30) rfl _ _ w.heap.size 30 D (0, 0) _ rfl (setRow_heap _ _ _ _ 30 _ HG.out) Tryd.underlying30 rfl HSD.out
end Go.Proofs.YtdnhnjimhbbababDoor

/- Lists of digests that grow: an append, and a variable that holds one. -/
namespace Go.Proofs.YtdnhnjimhbbababDoor
open Go.RowKit Sums
set_option maxRecDepth 100000
set_option linter.unusedVariables false
set_option linter.unusedSimpArgs false
theorem own_below {B : Nat} {e : TypeId} {k : Nat} {v : Value} {n : Nat} {xs : List Value} {w w' : World} (h : w.ownsRow B e k v n xs) (hb : Below w.heap.size w w') : w'.ownsRow B e k v n xs :=
  h.kept (row := none) ⟨hb.os, hb.tape, hb.output, hb.size, fun j hj _ => hb.block j hj⟩ (by cases hv : v.ownBlock <;> simp)
theorem table_low {g B : Nat} {w w' : World} (h : Table g w) (hb : Below B w w') (hg : g < B) : Table g w' :=
  ⟨Nat.lt_of_lt_of_le h.1 hb.size, fun k hk => by rw [hb.cell hg]; exact h.2 k hk⟩
theorem infoD : (Tryd.prog.info? 30).map (fun i => (i.zero, i.size, i.bytes)) = some (some (.agg (cellsOf (List.replicate 32 0)).toArray), 32, 32) := by kernel_rfl
/-- Digests put behind those of a list of the call's own. -/
theorem run_append_digs (W : World) (B : Nat) (v : Value) (l news : List (List UInt8)) (hown : W.ownsRow B 30 32 v l.length (cellsOf l.flatten)) (a : Addr) (m c : Nat) (hm : news.length = m) (hd : Digs32 news)
    (hN : ∀ j u, (cellsOf news.flatten)[j]? = some u → W.cell? (a.add j) = some u) (hB : B ≤ W.heap.size) (hlen : l.length + m ≤ 1000000) :
    ∃ v' w', (Builtin.append_ #[26, 26] 26 #[v, .slice (some a) m c]).run Tryd.prog W = .ok v' w' ∧ w'.ownsRow B 30 32 v' (l.length + m) (cellsOf (l ++ news).flatten) ∧ W.grownBy w' v.ownBlock := by
  obtain ⟨i0, hi, hz0, hz1, hz2⟩ := info_parts infoD
  obtain ⟨v', w', hr, ho, hg, _⟩ := run_append_own (P := Tryd.prog) W B 26 26 30 i0 _ 32 32 Tryd.underlying26 hi hz0 hz1 hz2 (by rfl) (by decide) v l.length _ hown a m c (cellsOf news.flatten)
    (by rw [cellsOf_length, flat_length hd]; omega) hN (cellsOf_one _) (by unfold maxLen; omega) (by omega) hB
  refine ⟨v', w', hr, ?_, hg⟩
  rw [List.flatten_append, cellsOf_append]
  exact ho
/-- What a proof's variable and its function's variable hold while it grows. -/
structure Holds (B gp gf : Nat) (tf : TypeId) (F v : Value) (l : List (List UInt8)) (w : World) : Prop where
  proof : w.heap[gp]? = some (.cells #[v] 26 (0, 0))
  prove : w.heap[gf]? = some (.cells #[F] tf (0, 0))
  own : w.ownsRow B 30 32 v l.length (cellsOf l.flatten)
theorem Holds.keep {B gp gf : Nat} {tf : TypeId} {F v : Value} {l : List (List UInt8)} {w w' : World} (h : Holds B gp gf tf F v l w) (hb : Below w.heap.size w w') : Holds B gp gf tf F v l w' :=
  ⟨(hb.block _ (heap_lt h.proof)).trans h.proof, (hb.block _ (heap_lt h.prove)).trans h.prove, own_below h.own hb⟩
theorem Holds.drew {B gp gf : Nat} {tf : TypeId} {F v : Value} {l : List (List UInt8)} {w : World} (h : Holds B gp gf tf F v l w) : Holds B gp gf tf F v l w.drew := ⟨h.proof, h.prove, h.own⟩
theorem own_other {B : Nat} {v : Value} {l : List (List UInt8)} {w : World} {b : Nat} {c : Array Value} {t : TypeId} {m : Nat × Nat} (h : w.ownsRow B 30 32 v l.length (cellsOf l.flatten)) (hb : w.heap[b]? = some (.cells c t m)) (ht : t ≠ 30) : some b ≠ v.ownBlock := by
  intro e
  rcases h.2 with ⟨rfl, _⟩ | ⟨g, cap, cur, rfl, _, hgb, _⟩
  · simp [Value.ownBlock] at e
  · obtain rfl : b = g := by simpa [Value.ownBlock] using e
    rw [hgb] at hb
    cases hb
    exact ht rfl
theorem own_form {w : World} {B size n : Nat} {e : TypeId} {v : Value} {xs : List Value} (h : w.ownsRow B e size v n xs) (hn : 0 < n) : ∃ g cap, v = .slice (some ⟨g, 0, none⟩) n cap := by
  rcases h.2 with ⟨_, h0⟩ | ⟨g, cap, cur, hv, _⟩
  · omega
  · exact ⟨g, cap, hv⟩
/-- One digest put behind a list that grows: the literal's block is made, the append runs. -/
theorem Holds.append {B gp gf : Nat} {tf : TypeId} {F v : Value} {l : List (List UInt8)} {w : World} (h : Holds B gp gf tf F v l w) (htf : tf ≠ 30) (hB : B ≤ w.heap.size) (hlen : l.length + 1 ≤ 1000000) (d : List UInt8) (hd : d.length = 32) (D : Array Value) (HD : Hid (D = (cellsOf d).toArray)) :
    ∃ gn cn w', (Builtin.append_ #[26, 26] 26 #[v, .slice (some ⟨w.heap.size, 0, none⟩) 1 1]).run Tryd.prog (w.alloc (.cells D 30)) = .ok (.slice (some ⟨gn, 0, none⟩) (l.length + 1) cn) w' ∧
      w'.heap[gp]? = some (.cells #[v] 26 (0, 0)) ∧ w'.heap[gf]? = some (.cells #[F] tf (0, 0)) ∧ w'.ownsRow B 30 32 (.slice (some ⟨gn, 0, none⟩) (l.length + 1) cn) (l ++ [d]).length (cellsOf (l ++ [d]).flatten) ∧ Below B w w' := by
  have hb0 : Below w.heap.size w (w.alloc (.cells D 30)) := (Below.refl _ _).alloc (Nat.le_refl _) _
  have h' := h.keep hb0
  obtain ⟨v', w', hr, ho, hg⟩ := run_append_digs (w.alloc (.cells D 30)) B v l [d] h'.own ⟨w.heap.size, 0, none⟩ 1 1 rfl (.one hd) (by
    intro j u hj
    rw [add_plain, Nat.zero_add, cell_of_row _ _ j _ 30 (0, 0) (heap_alloc_new w _), HD.out]
    simpa using hj) (Nat.le_trans hB (by simp)) hlen
  obtain ⟨gn, cn, rfl⟩ := own_form ho (by omega)
  refine ⟨gn, cn, w', hr, ?_, ?_, by rw [List.length_append]; exact ho, ?_⟩
  · exact (hg.block _ (heap_lt h'.proof) (own_other h'.own h'.proof (by decide))).trans h'.proof
  · exact (hg.block _ (heap_lt h'.prove) (own_other h'.own h'.prove htf)).trans h'.prove
  · exact (hb0.mono hB).grown hg (Nat.le_trans hB (by simp)) (fun k hk => (h'.own.lt k hk).1)
/-- The variable is written. -/
theorem Holds.put {B gp gf : Nat} {tf : TypeId} {F v v' : Value} {l : List (List UInt8)} {w : World} (hne : gp ≠ gf) (h1 : w.heap[gp]? = some (.cells #[v] 26 (0, 0))) (h2 : w.heap[gf]? = some (.cells #[F] tf (0, 0))) (h3 : w.ownsRow B 30 32 v' l.length (cellsOf l.flatten)) :
    Holds B gp gf tf F v' l (w.setCell ⟨gp, 0, none⟩ v') := by
  refine ⟨?_, ?_, ?_⟩
  · exact one_setCell h1
  · rw [Below.heap_setCell _ _ _ _ (fun e => hne (by simpa using e.symm))]; exact h2
  · exact ownsRow_setCell_other h3 (own_other h3 h1 (by decide)).symm v'
end Go.Proofs.YtdnhnjimhbbababDoor

/- Lists of the call's own: an append in a plain region; such a list can be read. -/
namespace Go.Proofs.YtdnhnjimhbbababDoor
open Go.RowKit Sums
set_option maxRecDepth 100000
set_option linter.unusedVariables false
set_option linter.unusedSimpArgs false
/-- An append whose run is known, in a plain region. -/
theorem wpList_append_run {P : Program} {ops : Array Oper} {rest : List Oper} {o : Oper} {a : Act} {w : World} {Q : Exit → Act → World → Prop}
    (hg : o.guard = none) (s x : Operand) (t u : TypeId) (hop : o.op = Op.call { callee := Callee.builtin Builtin.append, args := #[s, x], argTypes := #[t, u] })
    (vs vx v' : Value) (w' : World) (hs : a.eval s = vs) (hx : a.eval x = vx) (hrun : (Builtin.append_ #[t, u] o.type #[vs, vx]).run P w = .ok v' w')
    (h : wpList P ops Q rest (a.put o.dst v') w') : wpList P ops Q (o :: rest) a w := by
  refine wpList_plain hg fun K hK => ?_
  unfold Oper.wp
  simp [execOp, hop, resolve, invoke, builtin, hs, hx, hrun, Result.andThen]
  exact hK _ _ h
/-- A list of the call's own can be read. -/
theorem LReads.own {w : World} {B : Nat} {v : Value} {l : List (List UInt8)} (h : w.ownsRow B 30 32 v l.length (cellsOf l.flatten)) (hd : Digs32 l) : ∃ a cap, v = .slice a l.length cap ∧ LReads w a l.length cap l ∧ (∀ g o, a = some ⟨g, o, none⟩ → B ≤ g) := by
  rcases h.2 with ⟨rfl, h0⟩ | ⟨g, cap, cur, rfl, hb, hg, hc, hm, hs, ht⟩
  · exact ⟨none, 0, by rw [h0], ⟨rfl, hd, by omega, by omega, .inl h0⟩, fun g o e => by cases e⟩
  · refine ⟨some ⟨g, 0, none⟩, cap, rfl, ⟨rfl, hd, hc, by omega, .inr ⟨g, 0, rfl, fun i hi => ?_⟩⟩, fun g' o' e => by cases e; exact hb⟩
    rw [Nat.zero_add, cell_of_row w g i cur 30 (0, 0) hg]
    have hfl := flat_length hd
    have e : (cellsOf l.flatten)[i]? = cur.toList[i]? := by
      rw [← ht, List.getElem?_take, if_pos (by omega)]
    rw [cellsOf_at _ i hi] at e
    simpa using e.symm
end Go.Proofs.YtdnhnjimhbbababDoor

/- Literals of lists of digests. -/
namespace Go.Proofs.YtdnhnjimhbbababDoor
open Go.RowKit Sums
set_option maxRecDepth 100000
set_option linter.unusedVariables false
set_option linter.unusedSimpArgs false
theorem fold_set (D : List Value) : ∀ (k off : Nat) (cs : Array Value) (pre old rest : List Value), cs.toList = pre ++ old ++ rest → pre.length = off + k → old.length = D.length →
    ((D.zipIdx k).foldl (fun cs (c, j) => cs.setIfInBounds (off + j) c) cs).toList = pre ++ D ++ rest := by
  induction D with
  | nil =>
    intro k off cs pre old rest h hp ho
    have : old = [] := List.eq_nil_of_length_eq_zero ho
    subst this
    simpa using h
  | cons d D ih =>
    intro k off cs pre old rest h hp ho
    match old, ho with
    | x :: old, ho =>
      rw [List.zipIdx_cons, List.foldl_cons]
      have := ih (k + 1) off (cs.setIfInBounds (off + k) d) (pre ++ [d]) old rest (by
        rw [Array.toList_setIfInBounds, h, ← hp]
        simp) (by simp; omega) (by simpa using ho)
      rw [this]
      simp
theorem fill_rows (ds : List (List Value)) : ∀ (k : Nat) (cs : Array Value) (pre old : List Value), cs.toList = pre ++ old → pre.length = k * 32 → (∀ d ∈ ds, d.length = 32) → old.length = ds.length * 32 →
    Instr.fill (fun i => some (i * 32, 32)) cs ((ds.zipIdx k).map fun x => (x.2, Value.agg x.1.toArray)) = some (pre ++ ds.flatten).toArray := by
  induction ds with
  | nil =>
    intro k cs pre old h hp hd ho
    have : old = [] := List.eq_nil_of_length_eq_zero (by simpa using ho)
    subst this
    simp only [List.zipIdx_nil, List.map_nil, Instr.fill, List.flatten_nil, ← h]
  | cons d ds ih =>
    intro k cs pre old h hp hd ho
    have h32 := hd d (List.mem_cons_self ..)
    simp only [List.length_cons] at ho
    have hcs : cs.size = k * 32 + old.length := by rw [← Array.length_toList, h, List.length_append, hp]
    rw [List.zipIdx_cons, List.map_cons]
    unfold Instr.fill
    have hsz : (Value.agg d.toArray).cells.size = 32 := by show d.toArray.size = 32; simp [h32]
    simp only [hsz]
    rw [if_neg (by simp; omega)]
    refine (ih (k + 1) _ (pre ++ d) (old.drop 32) ?_ (by simp; omega) (fun x hx => hd x (List.mem_cons_of_mem _ hx)) (by simp; omega)).trans (by simp)
    have := fold_set d 0 (k * 32) cs pre (old.take 32) (old.drop 32) (by rw [h, List.append_assoc, List.take_append_drop]) (by omega) (by simp; omega)
    rw [← this, ← Array.foldl_toList]
    congr 2
    simp [Value.cells]
/-- A literal of digests: its cells, one digest behind the other. -/
theorem run_build_digs (w : World) (n : Nat) (ds : List (List UInt8)) (hd : Digs32 ds) (hn : ds.length = n) (h1 : 0 < n) (h2 : n ≤ 100) (parts : Array (Nat × Value)) (hp : parts.toList = ((ds.map cellsOf).zipIdx 0).map fun x => (x.2, Value.agg x.1.toArray)) :
    (Instr.buildSlice 26 n parts).run Tryd.prog w = .ok (.slice (some ⟨w.heap.size, 0, none⟩) n n) (w.alloc (.cells (cellsOf ds.flatten).toArray 30)) := by
  cases hie : Tryd.prog.info? 30 with
  | none => have := zero27; simp [hie] at this
  | some ie =>
    have hz := zero27
    rw [hie] at hz
    simp only [Option.map_some, Option.some.injEq, Prod.mk.injEq] at hz
    obtain ⟨hz, hs⟩ := hz
    refine run_buildSlice w 26 30 n parts _ ie _ Tryd.underlying26 hie hz (by rw [hs]; omega) (by rw [hs]; omega) ?_
    rw [hs, hp]
    have e : (ds.map cellsOf).flatten = cellsOf ds.flatten := by
      unfold cellsOf
      rw [List.map_flatten]
    generalize hcs : Array.map _ (Array.range (n * 32)) = cs
    have hcz : cs.size = n * 32 := by rw [← hcs]; simp
    rw [fill_rows (ds.map cellsOf) 0 cs [] cs.toList rfl rfl (fun d h => by
      obtain ⟨x, hx, rfl⟩ := List.mem_map.1 h
      rw [cellsOf_length]; exact hd x hx) (by simp [hcz, hn]), e]
    rfl
theorem build_one (w : World) (d : List UInt8) (hd : d.length = 32) (D : Array Value) (HD : Hid (D = (cellsOf d).toArray)) :
    (Instr.buildSlice 26 1 #[(0, .agg D)]).run Tryd.prog w = .ok (.slice (some ⟨w.heap.size, 0, none⟩) 1 1) (w.alloc (.cells D 30)) := by
  rw [HD.out, run_build_digs w 1 [d] (.one hd) rfl (by omega) (by omega) _ (by simp)]
  simp
/-- A literal of a list, as one step of a region that draws its order, and of a plain one. -/
theorem wp_build_run {P : Program} {o : Oper} {a : Act} {w : World} {K : Act → World → Prop} {Q : Exit → Act → World → Prop} (t : TypeId) (n : Nat) (parts : Array (Nat × Operand)) (ho : o.op = .buildSlice t n parts) (vals : Array (Nat × Value)) (hv : (parts.toList.map fun p => (p.1, a.eval p.2)) = vals.toList)
    (s : Value) (w' : World) (hrun : (Instr.buildSlice t n vals).run P w = .ok s w') (h : K (a.put o.dst s) w') : o.wp P a w K Q := by
  have hv' : (parts.map fun (i, x) => (i, a.eval x)) = vals := by
    apply Array.ext'
    rw [Array.toList_map, ← hv]
  subst hv'
  unfold Oper.wp execOp
  simp only [ho, Sem.run_bind, hrun, Result.andThen_ok]
  exact h
theorem step_build_run {P : Program} {ops : Array Oper} {o : Oper} {a : Act} {w : World} {K : Act → World → Prop} {Q : Exit → Act → World → Prop} {E : Prop} (hw : Region.wanted o (yielded ops a.tmps) = true) (t : TypeId) (n : Nat) (parts : Array (Nat × Operand)) (ho : o.op = .buildSlice t n parts) (vals : Array (Nat × Value)) (hv : (parts.toList.map fun p => (p.1, a.eval p.2)) = vals.toList)
    (s : Value) (w' : World) (hrun : (Instr.buildSlice t n vals).run P w = .ok s w') (h : K (a.put o.dst s) w') : if Region.wanted o (yielded ops a.tmps) = true then Oper.wp P o a w K Q else E := by
  rw [if_pos hw]
  exact wp_build_run t n parts ho vals hv s w' hrun h
theorem wpList_build_run {P : Program} {ops : Array Oper} {rest : List Oper} {o : Oper} {a : Act} {w : World} {Q : Exit → Act → World → Prop} (hg : o.guard = none) (t : TypeId) (n : Nat) (parts : Array (Nat × Operand)) (ho : o.op = .buildSlice t n parts) (vals : Array (Nat × Value)) (hv : (parts.toList.map fun p => (p.1, a.eval p.2)) = vals.toList)
    (s : Value) (w' : World) (hrun : (Instr.buildSlice t n vals).run P w = .ok s w') (h : wpList P ops Q rest (a.put o.dst s) w') : wpList P ops Q (o :: rest) a w :=
  wpList_plain hg fun _ hK => wp_build_run t n parts ho vals hv s w' hrun (hK _ _ h)
/-- A variable that is an array, made and filled. -/
theorem wpList_new_row {P : Program} {ops : Array Oper} {rest : List Oper} {o1 o2 : Oper} {a : Act} {w : World} {Q : Exit → Act → World → Prop} (hg1 : o1.guard = none) (hg2 : o2.guard = none) (t : TypeId) (ho1 : o1.op = .alloc t) (x y : Operand) (ho2 : o2.op = .store t x y)
    (Z D : Array Value) (hz : (P.info? t).map (fun i => (i.zero, i.size)) = some (some (.agg Z), Z.size)) (hx : ∀ v, (a.put o1.dst v).eval x = v) (hy : ∀ v, (a.put o1.dst v).eval y = .agg D)
    (hi : (P.info? t).map (·.size) = some D.size) (hold : Z.size = D.size) (h1 : D.all (·.oneCell') = true)
    (h : ∀ g w', Hid (g = w.heap.size ∧ w'.heap[g]? = some (.cells D t (0, 0)) ∧ Below w.heap.size w w') → wpList P ops Q rest ((a.put o1.dst (.pointer (some ⟨g, 0, none⟩))).put o2.dst undef) w') : wpList P ops Q (o1 :: o2 :: rest) a w := by
  refine wpList_alloc_row hg1 t ho1 Z hz ?_
  refine wpList_store_row hg2 t x y ho2 w.heap.size D (hx _) (hy _) t Z (heap_alloc_new w _) hi hold h1 ?_
  exact h w.heap.size _ ⟨rfl, new_var w Z D t, below_var (Below.refl _ _) (Nat.le_refl _) _ _⟩
/-- A digest whose first byte alone is not 0. -/
def dig1 (b : UInt8) : List UInt8 := b :: List.replicate 31 0
/-- A literal of digests that has just been laid can be read. -/
theorem LReads.new (W : World) (ds : List (List UInt8)) (n : Nat) (hn : ds.length = n) (hd : Digs32 ds) (h1 : n ≤ 100) (L : Array Value) (HL : Hid (L = (cellsOf ds.flatten).toArray)) : LReads (W.alloc (.cells L 30)) (some ⟨W.heap.size, 0, none⟩) n n ds := by
  refine ⟨hn, hd, Nat.le_refl _, by unfold maxLen; omega, .inr ⟨_, _, rfl, fun i hi => ?_⟩⟩
  rw [Nat.zero_add, cell_of_row _ _ i _ 30 (0, 0) (heap_alloc_new W _), HL.out]
  simp [cellsOf_at _ i hi]
end Go.Proofs.YtdnhnjimhbbababDoor

/- What the document's Many, Right, Root, Of and Add (of fronts) answer. -/
namespace Go.Proofs.YtdnhnjimhbbababDoor
open Go.RowKit Sums
set_option maxRecDepth 100000
set_option linter.unusedVariables false
set_option linter.unusedSimpArgs false
theorem many_le (n : Nat) : many n ≤ n := by
  induction n using Nat.strongRecOn with
  | _ n ih =>
    by_cases h0 : n = 0
    · subst h0; exact Nat.le_refl _
    · have := ih (n / 2) (by omega)
      rw [many_step n]
      omega
/-- Is a front of n and so many peaks right? -/
def isRight (n : Int) (len : Nat) : Prop := 0 ≤ n ∧ n ≤ 100000 ∧ len = many n.toNat
theorem rootP_digs (hs : ∀ l, (sumD l).length = 32) (ps : List (List UInt8)) (h : Digs32 ps) : (rootP ps).length = 32 := by
  match ps, h with
  | [], _ => exact hs _
  | [d], h => exact h d (by simp)
  | d :: e :: r, _ => exact hs _
theorem rootP_drop (ps : List (List UInt8)) (t : Nat) (ht : t + 1 < ps.length) : rootP (ps.drop t) = knotD ps[t] (rootP (ps.drop (t + 1))) := by
  rw [List.drop_eq_getElem_cons (show t < ps.length by omega)]
  refine rootP_cons _ _ ?_
  intro e
  have := congrArg List.length e
  simp only [List.length_drop, List.length_nil] at this
  omega
theorem rootP_last (ps : List (List UInt8)) (t : Nat) (ht : t + 1 = ps.length) : rootP (ps.drop t) = ps[t] := by
  rw [List.drop_eq_getElem_cons (show t < ps.length by omega), List.drop_eq_nil_of_le (by omega)]
  rfl
end Go.Proofs.YtdnhnjimhbbababDoor

/- What the document's Of (of fronts) answers. -/
namespace Go.Proofs.YtdnhnjimhbbababDoor
open Go.RowKit Sums
set_option maxRecDepth 100000
set_option linter.unusedVariables false
set_option linter.unusedSimpArgs false
theorem LReads.rest {w : World} {g o o' len cap k : Nat} {l : List (List UInt8)} (h : LReads w (some ⟨g, o, none⟩) len cap l) (hk : k ≤ len) (ho : k < len → o' = o + 32 * k) : LReads w (some ⟨g, o', none⟩) (len - k) (cap - k) (l.drop k) := by
  by_cases h0 : k < len
  · rw [ho h0]; exact h.drop k hk
  · exact ⟨by rw [List.length_drop, h.1], h.2.1.drop k, by have := h.2.2.1; omega, by have := h.2.2.2.1; omega, .inl (by omega)⟩
end Go.Proofs.YtdnhnjimhbbababDoor

/- What the document's Add (of fronts) answers. -/
namespace Go.Proofs.YtdnhnjimhbbababDoor
open Go.RowKit Sums
set_option maxRecDepth 100000
set_option linter.unusedVariables false
set_option linter.unusedSimpArgs false
theorem carry_digs (hs : ∀ l, (sumD l).length = 32) (t : Nat) : ∀ (r : List (List UInt8)) (d : List UInt8), Digs32 r → d.length = 32 → Digs32 (carry t r d) := by
  induction t with
  | zero =>
    intro r d hr hd x hx
    rcases List.mem_cons.1 hx with rfl | hx
    · exact hd
    · exact hr x hx
  | succ t ih =>
    intro r d hr hd
    match r, hr with
    | [], _ => exact .one hd
    | p :: r, hr => exact ih r _ (fun x hx => hr x (List.mem_cons_of_mem _ hx)) (hs _)
theorem Digs32.reverse {l : List (List UInt8)} (h : Digs32 l) : Digs32 l.reverse := fun d hd => h d (List.mem_reverse.1 hd)
theorem addP_digs (hs : ∀ l, (sumD l).length = 32) (n : Nat) (ps : List (List UInt8)) (d : List UInt8) (h : Digs32 ps) (hd : d.length = 32) : Digs32 (addP n ps d) := (carry_digs hs _ _ _ h.reverse hd).reverse
/-- A variable that is an array, made, as one step of a region that draws its order. -/
theorem step_alloc_row {P : Program} {ops : Array Oper} {o : Oper} {a : Act} {w : World} {K : Act → World → Prop} {Q : Exit → Act → World → Prop} {E : Prop} (hw : Region.wanted o (yielded ops a.tmps) = true) (t : TypeId) (ho : o.op = .alloc t)
    (cs : Array Value) (hz : (P.info? t).map (fun i => (i.zero, i.size)) = some (some (.agg cs), cs.size)) (h : K (a.put o.dst (.pointer (some ⟨w.heap.size, 0, none⟩))) (w.alloc (.cells cs t))) : if Region.wanted o (yielded ops a.tmps) = true then Oper.wp P o a w K Q else E := by
  rw [if_pos hw]
  unfold Oper.wp execOp
  cases hq : P.info? t with
  | none => simp [hq] at hz
  | some i =>
    simp [hq] at hz
    simp [ho, Instr.alloc, newVar, zeroValue, typeInfo, hq, hz.1, go_sem]
    exact h
/-- An own list cut: still one's own. -/
theorem own_cut {w : World} {B g n cap : Nat} {l : List (List UInt8)} (h : w.ownsRow B 30 32 (.slice (some ⟨g, 0, none⟩) n cap) l.length (cellsOf l.flatten)) (hd : Digs32 l) (k : Nat) (hk : k ≤ l.length) : w.ownsRow B 30 32 (.slice (some ⟨g, 0, none⟩) k cap) (l.take k).length (cellsOf (l.take k).flatten) := by
  have hlk : (l.take k).length = k := by rw [List.length_take]; omega
  rcases h.2 with ⟨hv, _⟩ | ⟨g', c, cur, hv, hb, hg, hc, hm, hs, ht⟩
  · cases hv
  · cases hv
    refine ⟨by rw [cellsOf_length, flat_length (hd.take k)]; omega, .inr ⟨g, cap, cur, by rw [hlk], hb, hg, by omega, hm, hs, ?_⟩⟩
    rw [hlk, flat_take hd]
    have : cellsOf (l.flatten.take (32 * k)) = (cellsOf l.flatten).take (32 * k) := by unfold cellsOf; rw [List.map_take]
    rw [this, ← ht, List.take_take]
    congr 1
    omega
end Go.Proofs.YtdnhnjimhbbababDoor
