/- Texts of our own that the row of PathMakes leans on, part 1. -/
import Derived.WalkKit
/- Sums as the document words them: words of 32 bits, the schedule, a round, a block, the message, the digest. No program is spoken of. -/
namespace Go.Proofs.YtkmedlfbkddmoaaGreatDoor
set_option maxRecDepth 100000
namespace Sums
def kT : List Int := [1116352408, 1899447441, 3049323471, 3921009573, 961987163, 1508970993, 2453635748, 2870763221, 3624381080, 310598401, 607225278, 1426881987, 1925078388, 2162078206, 2614888103, 3248222580, 3835390401, 4022224774, 264347078, 604807628, 770255983, 1249150122, 1555081692, 1996064986, 2554220882, 2821834349, 2952996808, 3210313671, 3336571891, 3584528711, 113926993, 338241895, 666307205, 773529912, 1294757372, 1396182291, 1695183700, 1986661051, 2177026350, 2456956037, 2730485921, 2820302411, 3259730800, 3345764771, 3516065817, 3600352804, 4094571909, 275423344, 430227734, 506948616, 659060556, 883997877, 958139571, 1322822218, 1537002063, 1747873779, 1955562222, 2024104815, 2227730452, 2361852424, 2428436474, 2756734187, 3204031479, 3329325298]
def xor32 (a b : Int) : Int := bits .xor .u32 a b
def and32 (a b : Int) : Int := bits .and .u32 a b
def or32 (a b : Int) : Int := bits .or .u32 a b
def not32 (a : Int) : Int := bits .xor .u32 4294967295 a
def add32 (a b : Int) : Int := (a + b) % 4294967296
def rot (x p q : Int) : Int := or32 (x * q % 4294967296) (x / p)
structure St where
  a : Int
  b : Int
  c : Int
  d : Int
  e : Int
  f : Int
  g : Int
  h : Int
def pOf (s : St) (k w : Int) : Int :=
  add32 (add32 (add32 (add32 s.h (xor32 (xor32 (rot s.e 64 67108864) (rot s.e 2048 2097152)) (rot s.e 33554432 128))) (xor32 (and32 s.e s.f) (and32 (not32 s.e) s.g))) k) w
def qOf (s : St) : Int :=
  add32 (xor32 (xor32 (rot s.a 4 1073741824) (rot s.a 8192 524288)) (rot s.a 4194304 1024)) (xor32 (xor32 (and32 s.a s.b) (and32 s.a s.c)) (and32 s.b s.c))
def step (s : St) (k w : Int) : St := ⟨add32 (pOf s k w) (qOf s), s.a, s.b, s.c, add32 s.d (pOf s k w), s.e, s.f, s.g⟩
def run (s : St) (w : List Int) : Nat → St
  | 0 => s
  | t + 1 => step (run s w t) (kT.getD t 0) (w.getD t 0)
def nextW (l : List Int) : Int :=
  add32 (add32 (add32 (l.getD (l.length - 16) 0) (l.getD (l.length - 7) 0))
    (xor32 (xor32 (rot (l.getD (l.length - 15) 0) 128 33554432) (rot (l.getD (l.length - 15) 0) 262144 16384)) (l.getD (l.length - 15) 0 / 8)))
    (xor32 (xor32 (rot (l.getD (l.length - 2) 0) 131072 32768) (rot (l.getD (l.length - 2) 0) 524288 8192)) (l.getD (l.length - 2) 0 / 1024))
def grow (l : List Int) : Nat → List Int
  | 0 => l
  | n + 1 => grow l n ++ [nextW (grow l n)]
def wordAt (b : List UInt8) (t : Nat) : Int := (b.getD (4 * t) 0).toNat * 16777216 + (b.getD (4 * t + 1) 0).toNat * 65536 + (b.getD (4 * t + 2) 0).toNat * 256 + (b.getD (4 * t + 3) 0).toNat
def words16 (b : List UInt8) : List Int := (List.range 16).map (wordAt b)
def sched (b : List UInt8) : List Int := grow (words16 b) 48
def plus (s r : St) : St := ⟨add32 s.a r.a, add32 s.b r.b, add32 s.c r.c, add32 s.d r.d, add32 s.e r.e, add32 s.f r.f, add32 s.g r.g, add32 s.h r.h⟩
def block (s : St) (b : List UInt8) : St := plus s (run s (sched b) 64)
def blocks (s : St) (m : List UInt8) : Nat → St
  | 0 => s
  | n + 1 => block (blocks s m n) ((m.drop (64 * n)).take 64)
def be8 (n : Nat) : List UInt8 := [UInt8.ofNat (n / 72057594037927936), UInt8.ofNat (n / 281474976710656), UInt8.ofNat (n / 1099511627776), UInt8.ofNat (n / 4294967296), UInt8.ofNat (n / 16777216), UInt8.ofNat (n / 65536), UInt8.ofNat (n / 256), UInt8.ofNat n]
def nBlocks (n : Nat) : Nat := (n + 72) / 64
def pad (l : List UInt8) : List UInt8 := l ++ 128 :: (List.replicate (64 * nBlocks l.length - 9 - l.length) 0 ++ be8 (8 * l.length))
def first : St := ⟨1779033703, 3144134277, 1013904242, 2773480762, 1359893119, 2600822924, 528734635, 1541459225⟩
def St.list (s : St) : List Int := [s.a, s.b, s.c, s.d, s.e, s.f, s.g, s.h]
def bytes4 (z : Int) : List UInt8 := [UInt8.ofNat (z / 16777216).toNat, UInt8.ofNat (z / 65536).toNat, UInt8.ofNat (z / 256).toNat, UInt8.ofNat z.toNat]
def endOf (l : List UInt8) : St := blocks first (pad l) (nBlocks l.length)
def sumD (l : List UInt8) : List UInt8 := (endOf l).list.flatMap bytes4
end Sums
end Go.Proofs.YtkmedlfbkddmoaaGreatDoor
/- Hash trees of lists, as the document defines them: splits, roots, proofs. No program is spoken of. -/
namespace Go.Proofs.YtkmedlfbkddmoaaGreatDoor
open Sums
set_option maxRecDepth 100000
set_option linter.unusedVariables false
def split (n : Nat) : Nat := if n < 2 then 0 else 2 ^ Nat.log2 (n - 1)
theorem split_two (n : Nat) (h : 2 ≤ n) : split n = 2 ^ Nat.log2 (n - 1) := by unfold split; rw [if_neg (by omega)]
theorem split_small (n : Nat) (h : n < 2) : split n = 0 := by unfold split; rw [if_pos h]
theorem split_lt (n : Nat) (h : 2 ≤ n) : split n < n := by
  rw [split_two n h]
  have := Nat.log2_self_le (n := n - 1) (by omega)
  omega
theorem split_pos (n : Nat) (h : 2 ≤ n) : 1 ≤ split n := by
  rw [split_two n h]
  exact Nat.one_le_two_pow
theorem split_dbl (n : Nat) (h : 2 ≤ n) : n ≤ 2 * split n := by
  rw [split_two n h]
  have := Nat.lt_log2_self (n := n - 1)
  rw [Nat.pow_succ] at this
  omega
theorem split_uniq (n k : Nat) (h : 2 ≤ n) (h1 : 2 ^ k < n) (h2 : n ≤ 2 * 2 ^ k) : split n = 2 ^ k := by
  rw [split_two n h]
  congr 1
  refine (Nat.log2_eq_iff (by omega)).2 ⟨by omega, ?_⟩
  rw [Nat.pow_succ]
  omega
def knotD (a b : List UInt8) : List UInt8 := sumD (1 :: (a ++ b))
def rootF : Nat → List (List UInt8) → List UInt8
  | 0, _ => []
  | f + 1, l => if l.length = 0 then sumD [] else if l.length = 1 then l.headD [] else knotD (rootF f (l.take (split l.length))) (rootF f (l.drop (split l.length)))
theorem rootF_step (f : Nat) (l : List (List UInt8)) : rootF (f + 1) l = if l.length = 0 then sumD [] else if l.length = 1 then l.headD [] else knotD (rootF f (l.take (split l.length))) (rootF f (l.drop (split l.length))) := rfl
def root (l : List (List UInt8)) : List UInt8 := rootF (l.length + 1) l
theorem rootF_fuel (f : Nat) : ∀ (g : Nat) (l : List (List UInt8)), l.length < f → l.length < g → rootF f l = rootF g l := by
  induction f with
  | zero => intro g l h; omega
  | succ f ih =>
    intro g l hf hg
    match g, hg with
    | g + 1, hg =>
      unfold rootF
      by_cases h0 : l.length = 0
      · rw [if_pos h0, if_pos h0]
      · rw [if_neg h0, if_neg h0]
        by_cases h1 : l.length = 1
        · rw [if_pos h1, if_pos h1]
        · rw [if_neg h1, if_neg h1]
          have hl := split_lt l.length (by omega)
          have hp := split_pos l.length (by omega)
          rw [ih g (l.take (split l.length)) (by simp only [List.length_take]; omega) (by simp only [List.length_take]; omega), ih g (l.drop (split l.length)) (by simp only [List.length_drop]; omega) (by simp only [List.length_drop]; omega)]
theorem root_none (l : List (List UInt8)) (h : l.length = 0) : root l = sumD [] := by unfold root rootF; rw [if_pos h]
theorem root_one (l : List (List UInt8)) (h : l.length = 1) : root l = l.headD [] := by unfold root rootF; rw [if_neg (by omega), if_pos h]
theorem root_more (l : List (List UInt8)) (h : 2 ≤ l.length) : root l = knotD (root (l.take (split l.length))) (root (l.drop (split l.length))) := by
  have hl := split_lt l.length h
  have hp := split_pos l.length h
  show rootF (l.length + 1) l = knotD (rootF ((l.take (split l.length)).length + 1) _) (rootF ((l.drop (split l.length)).length + 1) _)
  rw [rootF_step l.length l, if_neg (by omega), if_neg (by omega)]
  rw [rootF_fuel l.length ((l.take (split l.length)).length + 1) (l.take (split l.length)) (by simp only [List.length_take]; omega) (by omega), rootF_fuel l.length ((l.drop (split l.length)).length + 1) (l.drop (split l.length)) (by simp only [List.length_drop]; omega) (by omega)]
def inclF : Nat → List (List UInt8) → Nat → List (List UInt8)
  | 0, _, _ => []
  | f + 1, l, i => if l.length < 2 then [] else if i < split l.length then inclF f (l.take (split l.length)) i ++ [root (l.drop (split l.length))] else inclF f (l.drop (split l.length)) (i - split l.length) ++ [root (l.take (split l.length))]
theorem inclF_step (f : Nat) (l : List (List UInt8)) (i : Nat) : inclF (f + 1) l i = if l.length < 2 then [] else if i < split l.length then inclF f (l.take (split l.length)) i ++ [root (l.drop (split l.length))] else inclF f (l.drop (split l.length)) (i - split l.length) ++ [root (l.take (split l.length))] := rfl
def incl (l : List (List UInt8)) (i : Nat) : List (List UInt8) := inclF (l.length + 1) l i
theorem inclF_fuel (f : Nat) : ∀ (g : Nat) (l : List (List UInt8)) (i : Nat), l.length < f → l.length < g → inclF f l i = inclF g l i := by
  induction f with
  | zero => intro g l i h; omega
  | succ f ih =>
    intro g l i hf hg
    match g, hg with
    | g + 1, hg =>
      unfold inclF
      by_cases h2 : l.length < 2
      · rw [if_pos h2, if_pos h2]
      · rw [if_neg h2, if_neg h2]
        have hl := split_lt l.length (by omega)
        have hp := split_pos l.length (by omega)
        rw [ih g (l.take (split l.length)) i (by simp only [List.length_take]; omega) (by simp only [List.length_take]; omega), ih g (l.drop (split l.length)) (i - split l.length) (by simp only [List.length_drop]; omega) (by simp only [List.length_drop]; omega)]
theorem incl_one (l : List (List UInt8)) (i : Nat) (h : l.length < 2) : incl l i = [] := by unfold incl inclF; rw [if_pos h]
theorem incl_left (l : List (List UInt8)) (i : Nat) (h : 2 ≤ l.length) (hi : i < split l.length) : incl l i = incl (l.take (split l.length)) i ++ [root (l.drop (split l.length))] := by
  have hl := split_lt l.length h
  show inclF (l.length + 1) l i = inclF ((l.take (split l.length)).length + 1) _ i ++ _
  rw [inclF_step l.length l i, if_neg (by omega), if_pos hi]
  rw [inclF_fuel l.length ((l.take (split l.length)).length + 1) (l.take (split l.length)) i (by simp only [List.length_take]; omega) (by omega)]
theorem incl_right (l : List (List UInt8)) (i : Nat) (h : 2 ≤ l.length) (hi : split l.length ≤ i) : incl l i = incl (l.drop (split l.length)) (i - split l.length) ++ [root (l.take (split l.length))] := by
  have hp := split_pos l.length h
  show inclF (l.length + 1) l i = inclF ((l.drop (split l.length)).length + 1) _ _ ++ _
  rw [inclF_step l.length l i, if_neg (by omega), if_neg (by omega)]
  rw [inclF_fuel l.length ((l.drop (split l.length)).length + 1) (l.drop (split l.length)) (i - split l.length) (by simp only [List.length_drop]; omega) (by omega)]
def goesF : Nat → List (List UInt8) → Nat → Bool → List (List UInt8)
  | 0, _, _, _ => []
  | f + 1, l, m, known => if m = l.length then (if known then [] else [root l]) else
    if l.length < 2 then [] else if m ≤ split l.length then goesF f (l.take (split l.length)) m known ++ [root (l.drop (split l.length))] else goesF f (l.drop (split l.length)) (m - split l.length) false ++ [root (l.take (split l.length))]
def goes (l : List (List UInt8)) (m : Nat) (known : Bool) : List (List UInt8) := goesF (l.length + 1) l m known
def Digs32 (l : List (List UInt8)) : Prop := ∀ d ∈ l, d.length = 32
theorem Digs32.take {l : List (List UInt8)} (h : Digs32 l) (n : Nat) : Digs32 (l.take n) := fun d hd => h d (List.mem_of_mem_take hd)
theorem Digs32.drop {l : List (List UInt8)} (h : Digs32 l) (n : Nat) : Digs32 (l.drop n) := fun d hd => h d (List.mem_of_mem_drop hd)
theorem Digs32.append {l k : List (List UInt8)} (h : Digs32 l) (g : Digs32 k) : Digs32 (l ++ k) := fun d hd => by
  rcases List.mem_append.1 hd with hd | hd
  · exact h d hd
  · exact g d hd
theorem Digs32.one {d : List UInt8} (h : d.length = 32) : Digs32 [d] := fun x hx => by
  rw [List.mem_singleton.1 hx]; exact h
theorem flat_length {l : List (List UInt8)} (h : Digs32 l) : l.flatten.length = 32 * l.length := by
  induction l with
  | nil => rfl
  | cons d l ih =>
    have := ih (fun x hx => h x (List.mem_cons_of_mem _ hx))
    have := h d (List.mem_cons_self ..)
    simp only [List.flatten_cons, List.length_append, List.length_cons]
    omega
theorem flat_take {l : List (List UInt8)} (h : Digs32 l) (n : Nat) : (l.take n).flatten = l.flatten.take (32 * n) := by
  induction l generalizing n with
  | nil => simp
  | cons d l ih =>
    cases n with
    | zero => simp
    | succ n =>
      have hd := h d (List.mem_cons_self ..)
      rw [List.take_succ_cons, List.flatten_cons, List.flatten_cons, ih (fun x hx => h x (List.mem_cons_of_mem _ hx)), List.take_append, hd]
      rw [List.take_of_length_le (show d.length ≤ 32 * (n + 1) by omega), show 32 * (n + 1) - 32 = 32 * n by omega]
theorem flat_drop {l : List (List UInt8)} (h : Digs32 l) (n : Nat) : (l.drop n).flatten = l.flatten.drop (32 * n) := by
  induction l generalizing n with
  | nil => simp
  | cons d l ih =>
    cases n with
    | zero => simp
    | succ n =>
      have hd := h d (List.mem_cons_self ..)
      rw [List.drop_succ_cons, List.flatten_cons, ih (fun x hx => h x (List.mem_cons_of_mem _ hx)), List.drop_append, hd]
      rw [List.drop_eq_nil_of_le (show d.length ≤ 32 * (n + 1) by omega), show 32 * (n + 1) - 32 = 32 * n by omega]
      rfl
theorem flat_at {l : List (List UInt8)} (h : Digs32 l) (i : Nat) (hi : i < l.length) : (l.flatten.drop (32 * i)).take 32 = l[i] := by
  rw [← flat_drop h, List.drop_eq_getElem_cons hi, List.flatten_cons, List.take_left' (h _ (List.getElem_mem hi))]
theorem headD_mem (l : List (List UInt8)) (h : l.length = 1) : l.headD [] ∈ l := by
  match l, h with
  | [d], _ => simp
theorem root_length (hs : ∀ l, (sumD l).length = 32) (l : List (List UInt8)) (h : Digs32 l) : (root l).length = 32 := by
  by_cases h0 : l.length = 0
  · rw [root_none l h0]; exact hs _
  · by_cases h1 : l.length = 1
    · rw [root_one l h1]; exact h _ (headD_mem l h1)
    · rw [root_more l (by omega)]; exact hs _
theorem incl_digs (hs : ∀ l, (sumD l).length = 32) (n : Nat) (l : List (List UInt8)) (i : Nat) (hn : l.length = n) (h : Digs32 l) : Digs32 (incl l i) := by
  induction n using Nat.strongRecOn generalizing l i with
  | _ n ih =>
    by_cases h2 : l.length < 2
    · rw [incl_one l i h2]; intro d hd; cases hd
    · have hl := split_lt l.length (by omega)
      have hp := split_pos l.length (by omega)
      by_cases hi : i < split l.length
      · rw [incl_left l i (by omega) hi]
        exact (ih _ (by rw [← hn]; exact hl) _ i (by simp; omega) (h.take _)).append (.one (root_length hs _ (h.drop _)))
      · rw [incl_right l i (by omega) (by omega)]
        exact (ih (l.length - split l.length) (by omega) _ _ (by simp) (h.drop _)).append (.one (root_length hs _ (h.take _)))
theorem incl_len (l : List (List UInt8)) (i : Nat) (h : 1 ≤ l.length) : (incl l i).length + 1 ≤ l.length := by
  obtain ⟨n, hn⟩ : ∃ n, n = l.length := ⟨_, rfl⟩
  induction n using Nat.strongRecOn generalizing l i with
  | _ n ih =>
    by_cases h2 : l.length < 2
    · rw [incl_one l i h2]; simpa using h
    · have hl := split_lt l.length (by omega)
      have hp := split_pos l.length (by omega)
      by_cases hi : i < split l.length
      · rw [incl_left l i (by omega) hi, List.length_append]
        have := ih _ (by rw [hn]; exact hl) (l.take (split l.length)) i (by simp; omega) (by simp; omega)
        simp only [List.length_take, List.length_singleton] at this ⊢; omega
      · rw [incl_right l i (by omega) (by omega), List.length_append]
        have := ih (l.length - split l.length) (by omega) (l.drop (split l.length)) (i - split l.length) (by simp; omega) (by simp)
        simp only [List.length_drop, List.length_singleton] at this ⊢; omega
def blockD (key : List UInt8) (turn : UInt8) : List UInt8 := (key ++ List.replicate 32 0).map (· ^^^ turn)
theorem blockD_length (key : List UInt8) (turn : UInt8) (h : key.length = 32) : (blockD key turn).length = 64 := by unfold blockD; simp [h]
def macD (key data : List UInt8) : List UInt8 := sumD (blockD key 92 ++ sumD (blockD key 54 ++ data))
def owner (r n : Int) : Bool := decide (1 ≤ r) && decide (r ≤ 5) && decide (1 ≤ n) && decide (n ≤ 3)
theorem owner_iff (r n : Int) : owner r n = true ↔ (1 ≤ r ∧ r ≤ 5 ∧ 1 ≤ n ∧ n ≤ 3) := by unfold owner; simp only [Bool.and_eq_true, decide_eq_true_eq]; omega
def keyD (master : List UInt8) (r n : Int) : List UInt8 := macD master [75, UInt8.ofNat r.toNat, UInt8.ofNat n.toNat]
def keyO (master : List UInt8) (r n : Int) : List UInt8 := if owner r n = true then keyD master r n else List.replicate 32 0
def keyE (r n : Int) : Int := if owner r n = true then 0 else 50
def holdE (master : List UInt8) (r n : Int) (data t : List UInt8) : Int := if owner r n = true then (if macD (keyD master r n) data = t then 0 else 72) else 50
theorem holdE_in (master : List UInt8) (r n : Int) (data t : List UInt8) (h : owner r n = true) : holdE master r n data t = if macD (keyD master r n) data = t then 0 else 72 := by unfold holdE; rw [if_pos h]
theorem holdE_out (master : List UInt8) (r n : Int) (data t : List UInt8) (h : ¬ owner r n = true) : holdE master r n data t = 50 := by unfold holdE; rw [if_neg h]
theorem keyO_in (master : List UInt8) (r n : Int) (h : owner r n = true) : keyO master r n = keyD master r n := by unfold keyO; rw [if_pos h]
theorem keyO_out (master : List UInt8) (r n : Int) (h : ¬ owner r n = true) : keyO master r n = List.replicate 32 0 := by unfold keyO; rw [if_neg h]
theorem keyD_length (hs : ∀ l, (sumD l).length = 32) (k : List UInt8) (r n : Int) : (keyD k r n).length = 32 := hs _
theorem keyO_length (hs : ∀ l, (sumD l).length = 32) (k : List UInt8) (r n : Int) : (keyO k r n).length = 32 := by
  unfold keyO; split
  · exact hs _
  · simp
end Go.Proofs.YtkmedlfbkddmoaaGreatDoor
/- What a leaf and a proof make, what a proof of consistency makes, and what two leaves at one place tell, as the document defines them (proofs from the last digest to the first). No program is spoken of. -/
namespace Go.Proofs.YtkmedlfbkddmoaaGreatDoor.P5
open Sums
set_option maxRecDepth 100000
set_option linter.unusedVariables false
def mkR : List (List UInt8) → Nat → Nat → List UInt8 → List UInt8 × Bool
  | [], s, _, x => (x, decide (s = 1))
  | d :: r, s, i, x => if s = 1 then (x, false) else if i < split s then (knotD (mkR r (split s) i x).1 d, (mkR r (split s) i x).2) else (knotD d (mkR r (s - split s) (i - split s) x).1, (mkR r (s - split s) (i - split s) x).2)
theorem mkR_one (d : List UInt8) (r : List (List UInt8)) (i : Nat) (x : List UInt8) : mkR (d :: r) 1 i x = (x, false) := rfl
theorem mkR_left (d : List UInt8) (r : List (List UInt8)) (s i : Nat) (x : List UInt8) (h : s ≠ 1) (hi : i < split s) : mkR (d :: r) s i x = (knotD (mkR r (split s) i x).1 d, (mkR r (split s) i x).2) := by
  unfold mkR; rw [if_neg h, if_pos hi]; cases r <;> rfl
theorem mkR_right (d : List UInt8) (r : List (List UInt8)) (s i : Nat) (x : List UInt8) (h : s ≠ 1) (hi : ¬ i < split s) : mkR (d :: r) s i x = (knotD d (mkR r (s - split s) (i - split s) x).1, (mkR r (s - split s) (i - split s) x).2) := by
  unfold mkR; rw [if_neg h, if_neg hi]; cases r <;> rfl
theorem mkR_length (hs : ∀ l, (sumD l).length = 32) : ∀ (r : List (List UInt8)) (s i : Nat) (x : List UInt8), x.length = 32 → (mkR r s i x).1.length = 32
  | [], s, i, x, h => h
  | d :: r, s, i, x, h => by
    by_cases h1 : s = 1
    · subst h1; exact h
    · by_cases hi : i < split s
      · rw [mkR_left d r s i x h1 hi]; exact hs _
      · rw [mkR_right d r s i x h1 hi]; exact hs _
theorem mkR_incl (n : Nat) : ∀ (l : List (List UInt8)) (i : Nat) (hn : l.length = n) (hi : i < l.length), mkR (incl l i).reverse n i (l[i]) = (root l, true) := by
  induction n using Nat.strongRecOn with
  | _ n ih =>
    intro l i hn hi
    by_cases h1 : n = 1
    · rw [incl_one l i (by omega), root_one l (by omega), h1]
      obtain rfl : i = 0 := by omega
      match l, hn with
      | [], hn => simp at hi
      | d :: r, _ => simp [mkR]
    · have hs1 := split_lt n (by omega)
      have hs2 := split_pos n (by omega)
      by_cases hlt : i < split n
      · rw [incl_left l i (by omega) (by rw [hn]; exact hlt), hn, List.reverse_append]
        show mkR (root (l.drop (split n)) :: (incl (l.take (split n)) i).reverse) n i l[i] = _
        have ht : (l.take (split n)).length = split n := by rw [List.length_take]; omega
        have := ih (split n) hs1 (l.take (split n)) i ht (by omega)
        rw [List.getElem_take] at this
        rw [mkR_left _ _ _ _ _ h1 hlt, this, root_more l (by omega), hn]
      · rw [incl_right l i (by omega) (by rw [hn]; omega), hn, List.reverse_append]
        show mkR (root (l.take (split n)) :: (incl (l.drop (split n)) (i - split n)).reverse) n i l[i] = _
        have hd : (l.drop (split n)).length = n - split n := by rw [List.length_drop]; omega
        have := ih (n - split n) (by omega) (l.drop (split n)) (i - split n) hd (by omega)
        rw [List.getElem_drop] at this
        have e : split n + (i - split n) = i := by omega
        simp only [e] at this
        rw [mkR_right _ _ _ _ _ h1 hlt, this, root_more l (by omega), hn]
theorem mkR_short (k : Nat) : ∀ (r : List (List UInt8)) (s i : Nat) (x : List UInt8), 1 ≤ s → s ≤ 2 ^ k → (mkR r s i x).2 = true → r.length ≤ k := by
  induction k with
  | zero =>
    intro r s i x h0 h1 h
    obtain rfl : s = 1 := by simp at h1; omega
    cases r with
    | nil => simp
    | cons d r => rw [mkR_one] at h; cases h
  | succ k ih =>
    intro r s i x h0 h1 h
    cases r with
    | nil => simp
    | cons d r =>
      by_cases hs : s = 1
      · subst hs; rw [mkR_one] at h; cases h
      · have s1 := split_lt s (by omega)
        have s2 := split_pos s (by omega)
        have s3 := split_dbl s (by omega)
        have hk : split s ≤ 2 ^ k := by
          rw [split_two s (by omega)]
          refine Nat.pow_le_pow_right (by omega) ?_
          have : Nat.log2 (s - 1) < k + 1 := (Nat.log2_lt (by omega)).2 (by omega)
          omega
        simp only [List.length_cons]
        by_cases hi : i < split s
        · rw [mkR_left d r s i x hs hi] at h
          have := ih r (split s) i x s2 hk h
          omega
        · rw [mkR_right d r s i x hs hi] at h
          have := ih r (s - split s) (i - split s) x (by omega) (by omega) h
          omega
end Go.Proofs.YtkmedlfbkddmoaaGreatDoor.P5
/- The knots on the way of a leaf, from the leaf up, each as the 64 bytes of its two digests. No program is spoken of. -/
namespace Go.Proofs.YtkmedlfbkddmoaaGreatDoor.P5
open Sums
set_option maxRecDepth 100000
set_option linter.unusedVariables false
def Digs64 (l : List (List UInt8)) : Prop := ∀ d ∈ l, d.length = 64
theorem Digs64.one {d : List UInt8} (h : d.length = 64) : Digs64 [d] := fun x hx => by simp at hx; rw [hx]; exact h
theorem Digs64.app {l r : List (List UInt8)} (h1 : Digs64 l) (h2 : Digs64 r) : Digs64 (l ++ r) := fun x hx => (List.mem_append.1 hx).elim (h1 x) (h2 x)
def kn : List (List UInt8) → Nat → Nat → List UInt8 → List (List UInt8)
  | [], _, _, _ => []
  | d :: r, s, i, x => if i < split s then kn r (split s) i x ++ [(mkR r (split s) i x).1 ++ d] else kn r (s - split s) (i - split s) x ++ [d ++ (mkR r (s - split s) (i - split s) x).1]
theorem kn_left (d : List UInt8) (r : List (List UInt8)) (s i : Nat) (x : List UInt8) (hi : i < split s) : kn (d :: r) s i x = kn r (split s) i x ++ [(mkR r (split s) i x).1 ++ d] := by
  show (if i < split s then _ else _) = _; rw [if_pos hi]
theorem kn_right (d : List UInt8) (r : List (List UInt8)) (s i : Nat) (x : List UInt8) (hi : ¬ i < split s) : kn (d :: r) s i x = kn r (s - split s) (i - split s) x ++ [d ++ (mkR r (s - split s) (i - split s) x).1] := by
  show (if i < split s then _ else _) = _; rw [if_neg hi]
theorem kn_length : ∀ (r : List (List UInt8)) (s i : Nat) (x : List UInt8), (kn r s i x).length = r.length
  | [], _, _, _ => rfl
  | d :: r, s, i, x => by
    by_cases hi : i < split s
    · rw [kn_left d r s i x hi, List.length_append, kn_length r]; rfl
    · rw [kn_right d r s i x hi, List.length_append, kn_length r]; rfl
end Go.Proofs.YtkmedlfbkddmoaaGreatDoor.P5
