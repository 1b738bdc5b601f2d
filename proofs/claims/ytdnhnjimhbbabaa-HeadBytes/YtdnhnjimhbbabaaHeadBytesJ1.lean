/- Texts of our own that the row of HeadBytes leans on, part 1. -/
import Derived.Test.YtdnhnjimhbbabaaProg
import Derived.Lib.BitFns
import GoSem.Op.String
import Derived.WalkKit
import Derived.Lib.Walk
import Derived.Lib.Bytealg
import Derived.Below
import Derived.Deep.WholeRow
import Derived.Deep.MidRow
import Derived.Stop.BytesEq
import Derived.WalkSpells
import Derived.WalkLawsBesides
import Derived.Deep.RegionHeld3
import Derived.Lib.BufferWrite
import Derived.OwnWalk
import Derived.BigQuiet
import Derived.OneCell
import Derived.Laws.BitsAllLaws
import Derived.Lib.AppendStr
import Derived.Deep.QuietTactic
import Derived.RangeFuncNested
import Derived.RangeFuncBound
import Derived.RangeFuncCalls
import Derived.RangeFuncLeaves
import Derived.RangeFuncBox
import Derived.Shelf.Abstract
import Derived.Shelf.RegionOpen
import Derived.OwnWalkIn
import Derived.TacticsInMore
import Derived.LoopNIn
import Derived.LoopIn

/- Plain arithmetic on numbers as bytes, the highest first: no program is named here. -/
namespace Go.Proofs.Ytdnhnjimhbbabaa.Nums
/-- The last k bytes of N, the highest first. -/
def be : Nat → Nat → List UInt8
  | 0, _ => []
  | k + 1, N => UInt8.ofNat (N / 256 ^ k % 256) :: be k N
/-- The number that bytes tell, the highest first. -/
def val (l : List UInt8) : Nat := l.foldl (fun a b => 256 * a + b.toNat) 0
/-- How many bytes N needs. -/
def nb (N : Nat) : Nat := (Lib.bitLen N + 7) / 8
/-- k bytes are the fewest that do for N. -/
def Fits (k N : Nat) : Prop := N < 256 ^ k ∧ (k = 0 ∨ 256 ^ (k - 1) ≤ N)
theorem be_length : ∀ k N, (be k N).length = k
  | 0, _ => rfl
  | k + 1, N => by simp [be, be_length k N]
theorem val_snoc (l : List UInt8) (b : UInt8) : val (l ++ [b]) = 256 * val l + b.toNat := by simp [val]
theorem foldl_val : ∀ (l : List UInt8) (a : Nat), l.foldl (fun a b => 256 * a + b.toNat) a = a * 256 ^ l.length + val l
  | [], a => by simp [val]
  | b :: l, a => by
    have h1 := foldl_val l (256 * a + b.toNat)
    have h2 := foldl_val l (256 * 0 + b.toNat)
    simp only [val, List.foldl_cons, List.length_cons] at h1 h2 ⊢
    rw [h1, h2, Nat.pow_succ, Nat.add_mul, Nat.mul_comm 256 a, Nat.mul_assoc, Nat.mul_comm 256 (256 ^ l.length)]
    simp only [Nat.mul_zero, Nat.zero_add]
    omega
theorem val_cons (b : UInt8) (l : List UInt8) : val (b :: l) = b.toNat * 256 ^ l.length + val l := by
  have := foldl_val l (256 * 0 + b.toNat)
  simp only [val, List.foldl_cons] at this ⊢
  rw [this]; simp
theorem val_be : ∀ k N, val (be k N) = N % 256 ^ k
  | 0, N => by simp [be, val, Nat.mod_one]
  | k + 1, N => by
    rw [be, val_cons, be_length, val_be k N, Nat.pow_succ, Nat.mod_mul]
    have : (UInt8.ofNat (N / 256 ^ k % 256)).toNat = N / 256 ^ k % 256 := by
      rw [UInt8.toNat_ofNat']; omega
    rw [this, Nat.mul_comm (N / 256 ^ k % 256)]; omega
theorem fits_unique {a b N : Nat} (ha : Fits a N) (hb : Fits b N) : a = b := by
  have key : ∀ {a b : Nat}, Fits a N → Fits b N → ¬ a < b := by
    intro a b ha hb h
    rcases hb.2 with h0 | h0
    · omega
    · have := Nat.pow_le_pow_right (show 0 < 256 by decide) (show a ≤ b - 1 by omega)
      have := ha.1
      omega
  have := key ha hb
  have := key hb ha
  omega
theorem bitLenAux_bounds : ∀ f x, x < 2 ^ f → x < 2 ^ Lib.bitLenAux f x ∧ (x ≠ 0 → 2 ^ (Lib.bitLenAux f x - 1) ≤ x ∧ 0 < Lib.bitLenAux f x) ∧ Lib.bitLenAux f x ≤ f
  | 0, x, h => by simp at h; subst h; simp [Lib.bitLenAux]
  | f + 1, x, h => by
    rw [Lib.bitLenAux]
    by_cases hx : x = 0
    · simp [hx]
    · rw [if_neg hx]
      have hh : x / 2 < 2 ^ f := by rw [Nat.pow_succ] at h; omega
      obtain ⟨h1, h2, h3⟩ := bitLenAux_bounds f (x / 2) hh
      refine ⟨?_, fun _ => ⟨?_, by omega⟩, by omega⟩
      · rw [Nat.add_comm, Nat.pow_succ]; omega
      · rw [Nat.add_sub_cancel_left]
        by_cases hz : x / 2 = 0
        · have : Lib.bitLenAux f (x / 2) = 0 := by
            rw [hz]; cases f <;> simp [Lib.bitLenAux]
          rw [this]; simp; omega
        · obtain ⟨h4, h5⟩ := h2 hz
          have : Lib.bitLenAux f (x / 2) = Lib.bitLenAux f (x / 2) - 1 + 1 := by omega
          rw [this, Nat.pow_succ]; omega
theorem fits_nb (N : Nat) (h : N < 2 ^ 64) : Fits (nb N) N := by
  obtain ⟨h1, h2, _⟩ := bitLenAux_bounds 64 N h
  change N < 2 ^ Lib.bitLen N at h1
  change N ≠ 0 → 2 ^ (Lib.bitLen N - 1) ≤ N ∧ 0 < Lib.bitLen N at h2
  have e : ∀ k, 256 ^ k = 2 ^ (8 * k) := fun k => by rw [Nat.pow_mul]
  unfold Fits nb
  rw [e, e]
  refine ⟨Nat.lt_of_lt_of_le h1 (Nat.pow_le_pow_right (by decide) (by omega)), ?_⟩
  by_cases hz : N = 0
  · left; subst hz; decide
  · obtain ⟨h3, h4⟩ := h2 hz
    right
    exact Nat.le_trans (Nat.pow_le_pow_right (by decide) (by omega)) h3
theorem nb_le (N : Nat) (h : N < 2 ^ 64) : nb N ≤ 8 := by
  obtain ⟨_, _, h3⟩ := bitLenAux_bounds 64 N h
  change Lib.bitLen N ≤ 64 at h3
  unfold nb; omega
/-- The bytes of the number N. -/
def num (N : Nat) : List UInt8 := be (nb N) N
theorem num_of_fits {k N : Nat} (h : N < 2 ^ 64) (hk : Fits k N) : be k N = num N := by
  rw [num, fits_unique hk (fits_nb N h)]
theorem val_num (N : Nat) (h : N < 2 ^ 64) : val (num N) = N := by
  rw [num, val_be, Nat.mod_eq_of_lt (fits_nb N h).1]
theorem num_length (N : Nat) : (num N).length = nb N := be_length _ _
end Go.Proofs.Ytdnhnjimhbbabaa.Nums

/- Rows, fields and numbers as bytes, as plain functions: what is laid, what is read, and back. No program is spoken of. -/
namespace Go.Proofs.Ytdnhnjimhbbabaa
open Go.RowKit Nums
set_option linter.unusedVariables false
/-- Are these bytes a number's? -/
def isNum (l : List UInt8) : Bool := decide (l.length ≤ 8 ∧ l[0]? ≠ some 0 ∧ val l < 4611686018427387904)
def vOf (l : List UInt8) : Int := if isNum l then val l else 0
def eOf (l : List UInt8) : Int := if isNum l then 0 else 11
/-- What Number answers. -/
def nOf (n : Int) : ByteArray := if 0 ≤ n ∧ n ≤ 4611686018427387903 then ⟨(num n.toNat).toArray⟩ else ByteArray.empty
def neOf (n : Int) : Int := if 0 ≤ n ∧ n ≤ 4611686018427387903 then 0 else 1
theorem v_yes {l : List UInt8} (h : isNum l = true) : vOf l = val l ∧ eOf l = 0 := by simp [vOf, eOf, h]
theorem v_no {l : List UInt8} (h : isNum l = false) : vOf l = 0 ∧ eOf l = 11 := by simp [vOf, eOf, h]
/-- A field's bytes: its tag, how many bytes its data has (three bytes), and these. -/
def fieldBytes (tag : Nat) (d : List UInt8) : List UInt8 :=
  UInt8.ofNat (tag % 256) :: UInt8.ofNat (d.length / 65536 % 256) :: UInt8.ofNat (d.length / 256 % 256) :: UInt8.ofNat (d.length % 256) :: d
def faultOf (last tag : Int) (size : Nat) : Int := if tag ≤ last ∨ 255 < tag then 1 else if 65536 < size then 2 else 0
theorem byte_mod (n : Nat) : ((UInt8.ofNat (n % 256)).toNat : Int) = (n : Int) % 256 := by rw [UInt8.toNat_ofNat']; omega
theorem fieldBytes_length (tag : Nat) (l : List UInt8) : (fieldBytes tag l).length = 4 + l.length := by simp [fieldBytes]; omega
def fieldBytesI (tag : Int) (d : List UInt8) : List UInt8 :=
  UInt8.ofNat (tag % 256).toNat :: UInt8.ofNat (d.length / 65536 % 256) :: UInt8.ofNat (d.length / 256 % 256) :: UInt8.ofNat (d.length % 256) :: d
theorem fieldBytesI_nat (tag : Int) (d : List UInt8) (h : 1 ≤ tag ∧ tag ≤ 255) : fieldBytesI tag d = fieldBytes tag.toNat d := by
  have e : (tag % 256).toNat = tag.toNat % 256 := by omega
  rw [fieldBytesI, fieldBytes, e]
theorem fieldBytesI_length (tag : Int) (l : List UInt8) : (fieldBytesI tag l).length = 4 + l.length := by simp [fieldBytesI]; omega
def size3 (l : List UInt8) : Nat := 65536 * (l.getD 1 0).toNat + 256 * (l.getD 2 0).toNat + (l.getD 3 0).toNat
def gE (l : List UInt8) : Nat := if l.length < 4 then 10 else if (l.getD 0 0).toNat = 0 ∨ 65536 < size3 l then 11 else if l.length < 4 + size3 l then 10 else 0
def gT (l : List UInt8) : Nat := if gE l = 0 then (l.getD 0 0).toNat else 0
def gD (l : List UInt8) : List UInt8 := if gE l = 0 then (l.drop 4).take (size3 l) else []
def gN (l : List UInt8) : Nat := if gE l = 0 then 4 + size3 l else 0
theorem or_low (a b k p : Nat) (hp : p = 2 ^ k) (hb : b < p) : a * p ||| b = a * p + b := by
  subst hp
  have h := Nat.shiftLeft_add_eq_or_of_lt hb a
  rw [Nat.shiftLeft_eq] at h
  exact h.symm
theorem or3 (c1 c2 c3 : Nat) (h1 : c1 < 256) (h2 : c2 < 256) (h3 : c3 < 256) :
    bits .or .i64 (bits .or .i64 ((c1 : Int) * 65536) ((c2 : Int) * 256)) (c3 : Int) = ((65536 * c1 + 256 * c2 + c3 : Nat) : Int) := by
  have key : ∀ a b : Nat, a < 4294967296 → b < 4294967296 → bits .or .i64 (a : Int) (b : Int) = ((a ||| b : Nat) : Int) := by
    intro a b ha hb
    have hx : a ||| b < 2 ^ 32 := Nat.or_lt_two_pow (by omega) (by omega)
    have h1 : (BitVec.ofInt 64 (a : Int)).toNat = a := by
      rw [BitVec.ofInt_natCast, BitVec.toNat_ofNat]; exact Nat.mod_eq_of_lt (by omega)
    have h2 : (BitVec.ofInt 64 (b : Int)).toNat = b := by
      rw [BitVec.ofInt_natCast, BitVec.toNat_ofNat]; exact Nat.mod_eq_of_lt (by omega)
    show IntKind.i64.wrap ((BitVec.ofInt 64 (a : Int) ||| BitVec.ofInt 64 (b : Int)).toNat : Int) = _
    rw [BitVec.toNat_or, h1, h2, IntKind.wrap_i64]
    omega
  have e1 : (c1 : Int) * 65536 = ((c1 * 65536 : Nat) : Int) := by omega
  have e2 : (c2 : Int) * 256 = ((c2 * 256 : Nat) : Int) := by omega
  rw [e1, e2, key _ _ (by omega) (by omega)]
  rw [or_low c1 (c2 * 256) 16 65536 (by decide) (by omega), key _ _ (by omega) (by omega)]
  have e3 : c1 * 65536 + c2 * 256 = (c1 * 256 + c2) * 256 := by omega
  rw [e3, or_low (c1 * 256 + c2) c3 8 256 (by decide) h3]
  omega
theorem gE_short {l : List UInt8} (h : l.length < 4) : gE l = 10 := by rw [gE, if_pos h]
theorem gE_form {l : List UInt8} (h : ¬ l.length < 4) (h2 : (l.getD 0 0).toNat = 0 ∨ 65536 < size3 l) : gE l = 11 := by rw [gE, if_neg h, if_pos h2]
theorem gE_cut {l : List UInt8} (h : ¬ l.length < 4) (h2 : ¬ ((l.getD 0 0).toNat = 0 ∨ 65536 < size3 l)) (h3 : l.length < 4 + size3 l) : gE l = 10 := by rw [gE, if_neg h, if_neg h2, if_pos h3]
theorem gE_ok {l : List UInt8} (h : ¬ l.length < 4) (h2 : ¬ ((l.getD 0 0).toNat = 0 ∨ 65536 < size3 l)) (h3 : ¬ l.length < 4 + size3 l) : gE l = 0 := by rw [gE, if_neg h, if_neg h2, if_neg h3]
/-- A field that was gone through, with what is wrong with it. -/
structure Jd where
  tag : Int
  d : ByteArray
  e : Int
  ok : e = 0 → d.size ≤ 65536
theorem fault_ok (last tag : Int) (d : ByteArray) (h : faultOf last tag d.size = 0) : d.size ≤ 65536 := by
  unfold faultOf at h
  by_cases h1 : tag ≤ last ∨ 255 < tag
  · rw [if_pos h1] at h; omega
  · rw [if_neg h1] at h
    by_cases h2 : 65536 < d.size
    · rw [if_pos h2] at h; omega
    · omega
def judge (last : Int) : List (Int × ByteArray) → List Jd
  | [] => []
  | f :: r => ⟨f.1, f.2, faultOf last f.1 f.2.size, fault_ok last f.1 f.2⟩ :: judge f.1 r
/-- A field that was read, with what is wrong with it. -/
structure Pd where
  tag : Nat
  d : List UInt8
  e : Nat
/-- What is wrong with the first field of bytes, behind a tag. -/
def pE (last : Nat) (l : List UInt8) : Nat := if gE l = 0 then (if faultOf last (gT l) (gD l).length = 0 then 0 else 11) else gE l
def pX (last : Nat) (l : List UInt8) : Pd := ⟨gT l, gD l, pE last l⟩
def parse : Nat → Nat → List UInt8 → List Pd
  | 0, _, _ => []
  | k + 1, last, l => if l = [] then [] else pX last l :: if pE last l = 0 then parse k (gT l) (l.drop (gN l)) else []
theorem gN_le {l : List UInt8} (h : gE l = 0) : 4 ≤ gN l ∧ gN l ≤ l.length ∧ gT l ≤ 255 ∧ (gD l).length ≤ 65536 ∧ 1 ≤ gT l := by
  have h0 := h
  unfold gE at h
  by_cases h1 : l.length < 4
  · rw [if_pos h1] at h; omega
  · rw [if_neg h1] at h
    by_cases h2 : (l.getD 0 0).toNat = 0 ∨ 65536 < size3 l
    · rw [if_pos h2] at h; omega
    · rw [if_neg h2] at h
      by_cases h3 : l.length < 4 + size3 l
      · rw [if_pos h3] at h; omega
      · have := (l.getD 0 0).toNat_lt
        rw [gN, gT, gD, if_pos h0, if_pos h0, if_pos h0]
        refine ⟨by omega, by omega, by omega, ?_, by omega⟩
        rw [List.length_take]; omega
theorem gD_le (l : List UInt8) : (gD l).length ≤ 65536 := by
  by_cases h : gE l = 0
  · exact (gN_le h).2.2.2.1
  · rw [gD, if_neg h]; simp
/-- More fuel than there are bytes changes nothing. -/
theorem pE_ok {last : Nat} {l : List UInt8} (h : gE l = 0) (hf : faultOf last (gT l) (gD l).length = 0) : pE last l = 0 := by rw [pE, if_pos h, if_pos hf]
theorem parse_cons {k last : Nat} {l : List UInt8} (h : l ≠ []) : parse (k + 1) last l = pX last l :: if pE last l = 0 then parse k (gT l) (l.drop (gN l)) else [] := by rw [parse, if_neg h]
theorem parse_fuel : ∀ (k m last : Nat) (l : List UInt8), l.length ≤ k → k ≤ m → parse m last l = parse k last l
  | 0, m, last, l, h, _ => by
    have : l = [] := List.eq_nil_of_length_eq_zero (by omega)
    subst this
    cases m <;> simp [parse]
  | k + 1, m, last, l, h, hm => by
    obtain ⟨m', rfl⟩ : ∃ m', m = m' + 1 := ⟨m - 1, by omega⟩
    simp only [parse]
    by_cases hl : l = []
    · simp [hl]
    · rw [if_neg hl, if_neg hl]
      by_cases he : pE last l = 0
      · rw [if_pos he, if_pos he]
        have hg : gE l = 0 := by
          unfold pE at he
          by_cases h0 : gE l = 0
          · exact h0
          · rw [if_neg h0] at he; exact absurd he h0
        have hn := gN_le hg
        rw [parse_fuel k m' (gT l) (l.drop (gN l)) (by rw [List.length_drop]; omega) (by omega)]
      · rw [if_neg he, if_neg he]
/-- Fields as cells. -/
def fcells : List (Int × ByteArray) → List Value
  | [] => []
  | f :: r => .int .i64 f.1 :: .string f.2 :: fcells r
theorem fcells_length : ∀ fs, (fcells fs).length = fs.length * 2
  | [] => rfl
  | f :: r => by simp [fcells, fcells_length r]; omega
theorem fcells_append : ∀ a b, fcells (a ++ b) = fcells a ++ fcells b
  | [], _ => rfl
  | f :: r, b => by simp [fcells, fcells_append r b]
def toF (ps : List Pd) : List (Int × ByteArray) := ps.map fun x => ((x.tag : Int), ⟨x.d.toArray⟩)
theorem toF_snoc (ps : List Pd) (x : Pd) : toF (ps ++ [x]) = toF ps ++ [((x.tag : Int), ⟨x.d.toArray⟩)] := by simp [toF]
theorem toF_length (ps : List Pd) : (toF ps).length = ps.length := by simp [toF]
def layE : Int → List (Int × ByteArray) → Int
  | _, [] => 0
  | last, f :: r => if faultOf last f.1 f.2.size = 0 then layE f.1 r else faultOf last f.1 f.2.size
def rowB : List (Int × ByteArray) → List UInt8
  | [] => []
  | f :: r => fieldBytesI f.1 f.2.data.toList ++ rowB r
def rowOf (fs : List (Int × ByteArray)) : List UInt8 := if layE 0 fs = 0 then rowB fs else []
theorem rowB_append : ∀ a b, rowB (a ++ b) = rowB a ++ rowB b
  | [], _ => rfl
  | f :: r, b => by simp [rowB, rowB_append r b]
theorem layE_all : ∀ (last : Int) (fs : List (Int × ByteArray)), (∀ x ∈ judge last fs, x.e = 0) → layE last fs = 0
  | _, [], _ => rfl
  | last, f :: r, h => by
    have h1 : faultOf last f.1 f.2.size = 0 := h _ List.mem_cons_self
    rw [layE, if_pos h1]
    exact layE_all f.1 r (fun x hx => h x (List.mem_cons_of_mem _ hx))
theorem layE_first : ∀ (pre : List Jd) (last : Int) (fs : List (Int × ByteArray)) (x : Jd), (pre ++ [x]) <+: judge last fs → (∀ y ∈ pre, y.e = 0) → x.e ≠ 0 → layE last fs = x.e
  | [], last, [], x, h, _, _ => by simp [judge] at h
  | [], last, f :: r, x, h, _, hx => by
    rw [judge, List.nil_append, List.cons_prefix_cons] at h
    obtain ⟨rfl, _⟩ := h
    rw [layE, if_neg hx]
  | y :: pre, last, [], x, h, _, _ => by simp [judge] at h
  | y :: pre, last, f :: r, x, h, hz, hx => by
    rw [judge, List.cons_append, List.cons_prefix_cons] at h
    obtain ⟨rfl, h2⟩ := h
    have h1 : faultOf last f.1 f.2.size = 0 := hz _ List.mem_cons_self
    rw [layE, if_pos h1]
    exact layE_first pre f.1 r x h2 (fun z hz' => hz z (List.mem_cons_of_mem _ hz')) hx
def firstE : List Pd → Nat
  | [] => 0
  | x :: r => if x.e = 0 then firstE r else x.e
def readE (bs : List UInt8) : Nat := firstE (parse (bs.length + 1) 0 bs)
def readF (bs : List UInt8) : List (Int × ByteArray) := if readE bs = 0 then toF (parse (bs.length + 1) 0 bs) else []
theorem firstE_all : ∀ ps : List Pd, (∀ x ∈ ps, x.e = 0) → firstE ps = 0
  | [], _ => rfl
  | x :: r, h => by rw [firstE, if_pos (h x List.mem_cons_self)]; exact firstE_all r (fun y hy => h y (List.mem_cons_of_mem _ hy))
theorem firstE_first : ∀ (pre ps : List Pd) (x : Pd), (pre ++ [x]) <+: ps → (∀ y ∈ pre, y.e = 0) → x.e ≠ 0 → firstE ps = x.e
  | [], [], x, h, _, _ => by simp at h
  | [], p :: r, x, h, _, hx => by
    rw [List.nil_append, List.cons_prefix_cons] at h
    obtain ⟨rfl, _⟩ := h
    rw [firstE, if_neg hx]
  | y :: pre, [], x, h, _, _ => by simp at h
  | y :: pre, p :: r, x, h, hz, hx => by
    rw [List.cons_append, List.cons_prefix_cons] at h
    obtain ⟨rfl, h2⟩ := h
    rw [firstE, if_pos (hz _ List.mem_cons_self)]
    exact firstE_first pre r x h2 (fun z hz' => hz z (List.mem_cons_of_mem _ hz')) hx
theorem fault_pos {last tag : Int} {size : Nat} (hl : 0 ≤ last) (h : faultOf last tag size = 0) : 1 ≤ tag ∧ tag ≤ 255 ∧ size ≤ 65536 := by
  unfold faultOf at h
  by_cases h1 : tag ≤ last ∨ 255 < tag
  · rw [if_pos h1] at h; omega
  · rw [if_neg h1] at h
    by_cases h2 : 65536 < size
    · rw [if_pos h2] at h; omega
    · omega
theorem got_field (tag : Nat) (d more : List UInt8) (ht : 1 ≤ tag ∧ tag ≤ 255) (hd : d.length ≤ 65536) :
    gE (fieldBytes tag d ++ more) = 0 ∧ gT (fieldBytes tag d ++ more) = tag ∧ gD (fieldBytes tag d ++ more) = d ∧ gN (fieldBytes tag d ++ more) = (fieldBytes tag d).length := by
  have e0 : ((fieldBytes tag d ++ more).getD 0 0).toNat = tag := by
    simp [fieldBytes]; omega
  have es : size3 (fieldBytes tag d ++ more) = d.length := by
    simp [fieldBytes, size3]; omega
  have el : (fieldBytes tag d ++ more).length = 4 + d.length + more.length := by rw [List.length_append, fieldBytes_length]
  have h0 : gE (fieldBytes tag d ++ more) = 0 := gE_ok (by omega) (by rw [e0, es]; omega) (by rw [es, el]; omega)
  refine ⟨h0, by rw [gT, if_pos h0, e0], ?_, by rw [gN, if_pos h0, es, fieldBytes_length]⟩
  rw [gD, if_pos h0, es]
  simp [fieldBytes]
/-- A field that was laid, as it is read. -/
def asPd (f : Int × ByteArray) : Pd := ⟨f.1.toNat, f.2.data.toList, 0⟩
theorem toF_asPd (fs : List (Int × ByteArray)) (h : ∀ f ∈ fs, 0 ≤ f.1) : toF (fs.map asPd) = fs := by
  induction fs with
  | nil => rfl
  | cons f r ih =>
    have h1 := h f List.mem_cons_self
    have h2 := ih (fun g hg => h g (List.mem_cons_of_mem _ hg))
    unfold toF at h2 ⊢
    rw [List.map_cons, List.map_cons, h2]
    congr 1
    obtain ⟨t, d⟩ := f
    simp only [asPd]
    simp only at h1
    congr 1
    omega
theorem lay_cons {last : Int} {f : Int × ByteArray} {r : List (Int × ByteArray)} (h : layE last (f :: r) = 0) : faultOf last f.1 f.2.size = 0 ∧ layE f.1 r = 0 := by
  rw [layE] at h
  by_cases h1 : faultOf last f.1 f.2.size = 0
  · rw [if_pos h1] at h; exact ⟨h1, h⟩
  · rw [if_neg h1] at h; exact absurd h h1
theorem lay_pos : ∀ (last : Int) (fs : List (Int × ByteArray)), 0 ≤ last → layE last fs = 0 → ∀ f ∈ fs, 0 ≤ f.1
  | _, [], _, _, f, hf => by simp at hf
  | last, g :: r, hl, h, f, hf => by
    obtain ⟨h1, h2⟩ := lay_cons h
    have hp := fault_pos hl h1
    rcases List.mem_cons.1 hf with rfl | hf
    · omega
    · exact lay_pos g.1 r (by omega) h2 f hf
/-- The first field of a row's bytes. -/
theorem row_first {last : Nat} {f : Int × ByteArray} {r : List (Int × ByteArray)} {more : List UInt8} (h : faultOf last f.1 f.2.size = 0) (hr : more = rowB r) :
    let l := rowB (f :: r)
    l ≠ [] ∧ gE l = 0 ∧ gT l = f.1.toNat ∧ gD l = f.2.data.toList ∧ l.drop (gN l) = more ∧ pE last l = 0 ∧ gN l = 4 + f.2.data.toList.length := by
  have hp := fault_pos (Int.natCast_nonneg last) h
  have hd : f.2.data.toList.length ≤ 65536 := by simpa using hp.2.2
  have e : rowB (f :: r) = fieldBytes f.1.toNat f.2.data.toList ++ rowB r := by rw [rowB, fieldBytesI_nat _ _ ⟨hp.1, hp.2.1⟩]
  obtain ⟨g1, g2, g3, g4⟩ := got_field f.1.toNat f.2.data.toList (rowB r) (by omega) hd
  intro l
  show rowB (f :: r) ≠ [] ∧ _
  rw [show l = rowB (f :: r) from rfl, e]
  refine ⟨by simp [fieldBytes], g1, g2, g3, by rw [g4, List.drop_left, hr], ?_, by rw [g4, fieldBytes_length]⟩
  refine pE_ok g1 ?_
  rw [g2, g3]
  have e1 : ((f.1.toNat : Nat) : Int) = f.1 := by omega
  have e2 : f.2.data.toList.length = f.2.size := by simp
  rw [e1, e2]
  exact h
theorem parse_row : ∀ (fs : List (Int × ByteArray)) (k last : Nat), layE last fs = 0 → (rowB fs).length ≤ k → parse k last (rowB fs) = fs.map asPd
  | [], k, last, _, _ => by cases k <;> simp [parse, rowB]
  | f :: r, k, last, h, hk => by
    obtain ⟨h1, h2⟩ := lay_cons h
    obtain ⟨ne, g1, g2, g3, g4, g5, g6⟩ := row_first (r := r) h1 rfl
    have hp := fault_pos (Int.natCast_nonneg last) h1
    have hlen : (rowB (f :: r)).length = 4 + f.2.data.toList.length + (rowB r).length := by
      rw [rowB, List.length_append, fieldBytesI_length]
    obtain ⟨k', rfl⟩ : ∃ k', k = k' + 1 := ⟨k - 1, by omega⟩
    rw [parse_cons ne, if_pos g5, g2, g4]
    have ih := parse_row r k' f.1.toNat (by rw [show ((f.1.toNat : Nat) : Int) = f.1 by omega]; exact h2) (by omega)
    rw [ih, List.map_cons]
    congr 1
    unfold pX asPd
    rw [g2, g3, g5]
theorem read_row {fs : List (Int × ByteArray)} (h : layE 0 fs = 0) : readE (rowB fs) = 0 ∧ readF (rowB fs) = fs := by
  have hp := parse_row fs ((rowB fs).length + 1) 0 h (by omega)
  have h0 : readE (rowB fs) = 0 := by
    rw [readE, hp]
    apply firstE_all
    intro x hx
    obtain ⟨f, _, rfl⟩ := List.mem_map.1 hx
    rfl
  refine ⟨h0, ?_⟩
  rw [readF, if_pos h0, hp]
  exact toF_asPd fs (lay_pos 0 fs (by decide) h)
/-- Bytes whose first field is right are that field's and the rest. -/
theorem bytes_first {l : List UInt8} (h : gE l = 0) : l = fieldBytes (gT l) (gD l) ++ l.drop (gN l) ∧ (gD l).length ≤ 65536 := by
  have h0 := h
  have hn := gN_le h
  refine ⟨?_, hn.2.2.2.1⟩
  match l, hn.2.1 with
  | [], hl => simp at hl; omega
  | [_], hl => simp at hl; omega
  | [_, _], hl => simp at hl; omega
  | [_, _, _], hl => simp at hl; omega
  | a :: b :: c :: d :: r, hl =>
    have ht : gT (a :: b :: c :: d :: r) = a.toNat := by rw [gT, if_pos h]; rfl
    have hs : size3 (a :: b :: c :: d :: r) = 65536 * b.toNat + 256 * c.toNat + d.toNat := rfl
    have hN : gN (a :: b :: c :: d :: r) = 4 + size3 (a :: b :: c :: d :: r) := by rw [gN, if_pos h]
    have hD : gD (a :: b :: c :: d :: r) = r.take (size3 (a :: b :: c :: d :: r)) := by rw [gD, if_pos h]; rfl
    have hlr : (r.take (size3 (a :: b :: c :: d :: r))).length = size3 (a :: b :: c :: d :: r) := by
      rw [List.length_take]
      rw [hN] at hl
      simp only [List.length_cons] at hl
      omega
    have hb := b.toNat_lt
    have hc := c.toNat_lt
    have hd := d.toNat_lt
    have ha := a.toNat_lt
    rw [ht, hD, hN, fieldBytes, hlr, hs]
    have e1 : UInt8.ofNat (a.toNat % 256) = a := by rw [Nat.mod_eq_of_lt ha]; exact UInt8.ofNat_toNat
    have e2 : UInt8.ofNat ((65536 * b.toNat + 256 * c.toNat + d.toNat) / 65536 % 256) = b := by
      rw [show (65536 * b.toNat + 256 * c.toNat + d.toNat) / 65536 % 256 = b.toNat by omega]; exact UInt8.ofNat_toNat
    have e3 : UInt8.ofNat ((65536 * b.toNat + 256 * c.toNat + d.toNat) / 256 % 256) = c := by
      rw [show (65536 * b.toNat + 256 * c.toNat + d.toNat) / 256 % 256 = c.toNat by omega]; exact UInt8.ofNat_toNat
    have e4 : UInt8.ofNat ((65536 * b.toNat + 256 * c.toNat + d.toNat) % 256) = d := by
      rw [show (65536 * b.toNat + 256 * c.toNat + d.toNat) % 256 = d.toNat by omega]; exact UInt8.ofNat_toNat
    rw [e1, e2, e3, e4]
    simp only [List.cons_append, List.drop_succ_cons, Nat.add_comm 4]
    rw [List.take_append_drop]
theorem lay_parse : ∀ (k last : Nat) (l : List UInt8), l.length ≤ k → firstE (parse k last l) = 0 → layE last (toF (parse k last l)) = 0 ∧ rowB (toF (parse k last l)) = l ∧ (parse k last l).length + last ≤ 255 + (if parse k last l = [] then last else 0)
  | 0, last, l, hk, _ => by
    have : l = [] := List.eq_nil_of_length_eq_zero (by omega)
    subst this
    simp [parse, toF, layE, rowB]
  | k + 1, last, l, hk, h => by
    by_cases hl : l = []
    · subst hl; simp [parse, toF, layE, rowB]
    · rw [parse_cons hl] at h ⊢
      rw [firstE] at h
      have he : pE last l = 0 := by
        by_cases he : pE last l = 0
        · exact he
        · rw [if_neg (show ¬ (pX last l).e = 0 from he)] at h; exact absurd h he
      rw [if_pos (show (pX last l).e = 0 from he), if_pos he] at h
      rw [if_pos he]
      have hg : gE l = 0 := by
        unfold pE at he
        by_cases h0 : gE l = 0
        · exact h0
        · rw [if_neg h0] at he; exact absurd he h0
      have hf : faultOf last (gT l) (gD l).length = 0 := by
        unfold pE at he
        rw [if_pos hg] at he
        by_cases hf : faultOf last (gT l) (gD l).length = 0
        · exact hf
        · rw [if_neg hf] at he; omega
      have hn := gN_le hg
      obtain ⟨i1, i2, i3⟩ := lay_parse k (gT l) (l.drop (gN l)) (by rw [List.length_drop]; omega) h
      obtain ⟨b1, b2⟩ := bytes_first hg
      have hds : (⟨(gD l).toArray⟩ : ByteArray).size = (gD l).length := by show (gD l).toArray.size = _; simp
      have hrise : (last : Int) < (gT l : Int) := by
        unfold faultOf at hf
        by_cases hh : (gT l : Int) ≤ (last : Int) ∨ 255 < (gT l : Int)
        · rw [if_pos hh] at hf; omega
        · omega
      refine ⟨?_, ?_, ?_⟩
      · show layE last (((gT l : Int), ⟨(gD l).toArray⟩) :: toF (parse k (gT l) (l.drop (gN l)))) = 0
        rw [layE]
        show (if faultOf last (gT l) (⟨(gD l).toArray⟩ : ByteArray).size = 0 then layE (gT l) _ else _) = 0
        rw [hds, if_pos hf]
        exact i1
      · show rowB (((gT l : Int), ⟨(gD l).toArray⟩) :: toF (parse k (gT l) (l.drop (gN l)))) = l
        rw [rowB, i2]
        show fieldBytesI (gT l) (gD l).toArray.toList ++ _ = l
        rw [fieldBytesI_nat _ _ (by omega)]
        exact b1.symm
      · rw [if_neg (by simp), List.length_cons]
        by_cases hnil : parse k (gT l) (l.drop (gN l)) = []
        · rw [hnil]; simp; omega
        · rw [if_neg hnil] at i3; omega
theorem lay_read {bs : List UInt8} (h : readE bs = 0) : layE 0 (readF bs) = 0 ∧ rowOf (readF bs) = bs ∧ (readF bs).length ≤ 255 := by
  obtain ⟨i1, i2, i3⟩ := lay_parse (bs.length + 1) 0 bs (by omega) h
  rw [readF, if_pos h]
  have i1' : layE 0 (toF (parse (bs.length + 1) 0 bs)) = 0 := i1
  refine ⟨i1', by rw [rowOf, if_pos i1']; exact i2, ?_⟩
  rw [toF_length]
  by_cases hnil : parse (bs.length + 1) 0 bs = []
  · rw [hnil]; simp
  · rw [if_neg hnil] at i3; omega
theorem num_isNum (N : Nat) (h : N < 4611686018427387904) : isNum (num N) = true := by
  have hN : N < 2 ^ 64 := by omega
  unfold isNum
  rw [decide_eq_true_eq, num_length, val_num N hN]
  refine ⟨nb_le N hN, ?_, h⟩
  have hf := fits_nb N hN
  unfold num
  generalize nb N = k at hf
  match k with
  | 0 => simp [be]
  | k + 1 =>
    obtain ⟨h1, h2⟩ := hf
    simp at h2
    have hd : 0 < N / 256 ^ k := Nat.div_pos h2 (Nat.pow_pos (by decide))
    have hl : N / 256 ^ k < 256 := by
      rw [Nat.div_lt_iff_lt_mul (Nat.pow_pos (by decide)), Nat.mul_comm, ← Nat.pow_succ]; exact h1
    simp only [be, List.getElem?_cons_zero, ne_eq, Option.some.injEq]
    intro e
    have := congrArg UInt8.toNat e
    rw [UInt8.toNat_ofNat'] at this
    simp at this
    omega
end Go.Proofs.Ytdnhnjimhbbabaa

/- Sums as the document words them: words of 32 bits, the schedule, a round, a block, the message, the digest. No program is spoken of. -/
namespace Go.Proofs.Ytdnhnjimhbbabaa
namespace Sums
def kT : List Int := [1116352408, 1899447441, 3049323471, 3921009573, 961987163, 1508970993, 2453635748, 2870763221, 3624381080, 310598401, 607225278, 1426881987, 1925078388, 2162078206, 2614888103, 3248222580, 3835390401, 4022224774, 264347078, 604807628, 770255983, 1249150122, 1555081692, 1996064986, 2554220882, 2821834349, 2952996808, 3210313671, 3336571891, 3584528711, 113926993, 338241895, 666307205, 773529912, 1294757372, 1396182291, 1695183700, 1986661051, 2177026350, 2456956037, 2730485921, 2820302411, 3259730800, 3345764771, 3516065817, 3600352804, 4094571909, 275423344, 430227734, 506948616, 659060556, 883997877, 958139571, 1322822218, 1537002063, 1747873779, 1955562222, 2024104815, 2227730452, 2361852424, 2428436474, 2756734187, 3204031479, 3329325298]
def xor32 (a b : Int) : Int := bits .xor .u32 a b
def and32 (a b : Int) : Int := bits .and .u32 a b
def or32 (a b : Int) : Int := bits .or .u32 a b
def not32 (a : Int) : Int := bits .xor .u32 4294967295 a
def add32 (a b : Int) : Int := (a + b) % 4294967296
/-- R(x, n): p is 2 to the n, q 2 to the 32 - n. -/
def rot (x p q : Int) : Int := or32 (x * q % 4294967296) (x / p)
structure St where
  a : Int
  b : Int
  c : Int
  d : Int
  e : Int
  f : Int
  g : Int
  h : Int
def pOf (s : St) (k w : Int) : Int :=
  add32 (add32 (add32 (add32 s.h (xor32 (xor32 (rot s.e 64 67108864) (rot s.e 2048 2097152)) (rot s.e 33554432 128))) (xor32 (and32 s.e s.f) (and32 (not32 s.e) s.g))) k) w
def qOf (s : St) : Int :=
  add32 (xor32 (xor32 (rot s.a 4 1073741824) (rot s.a 8192 524288)) (rot s.a 4194304 1024)) (xor32 (xor32 (and32 s.a s.b) (and32 s.a s.c)) (and32 s.b s.c))
def step (s : St) (k w : Int) : St := ⟨add32 (pOf s k w) (qOf s), s.a, s.b, s.c, add32 s.d (pOf s k w), s.e, s.f, s.g⟩
def run (s : St) (w : List Int) : Nat → St
  | 0 => s
  | t + 1 => step (run s w t) (kT.getD t 0) (w.getD t 0)
/-- W t out of the words ahead of it. -/
def nextW (l : List Int) : Int :=
  add32 (add32 (add32 (l.getD (l.length - 16) 0) (l.getD (l.length - 7) 0))
    (xor32 (xor32 (rot (l.getD (l.length - 15) 0) 128 33554432) (rot (l.getD (l.length - 15) 0) 262144 16384)) (l.getD (l.length - 15) 0 / 8)))
    (xor32 (xor32 (rot (l.getD (l.length - 2) 0) 131072 32768) (rot (l.getD (l.length - 2) 0) 524288 8192)) (l.getD (l.length - 2) 0 / 1024))
def grow (l : List Int) : Nat → List Int
  | 0 => l
  | n + 1 => grow l n ++ [nextW (grow l n)]
def wordAt (b : List UInt8) (t : Nat) : Int := (b.getD (4 * t) 0).toNat * 16777216 + (b.getD (4 * t + 1) 0).toNat * 65536 + (b.getD (4 * t + 2) 0).toNat * 256 + (b.getD (4 * t + 3) 0).toNat
def words16 (b : List UInt8) : List Int := (List.range 16).map (wordAt b)
def sched (b : List UInt8) : List Int := grow (words16 b) 48
def plus (s r : St) : St := ⟨add32 s.a r.a, add32 s.b r.b, add32 s.c r.c, add32 s.d r.d, add32 s.e r.e, add32 s.f r.f, add32 s.g r.g, add32 s.h r.h⟩
def block (s : St) (b : List UInt8) : St := plus s (run s (sched b) 64)
def blocks (s : St) (m : List UInt8) : Nat → St
  | 0 => s
  | n + 1 => block (blocks s m n) ((m.drop (64 * n)).take 64)
def first : St := ⟨1779033703, 3144134277, 1013904242, 2773480762, 1359893119, 2600822924, 528734635, 1541459225⟩
def bytes4 (z : Int) : List UInt8 := [UInt8.ofNat (z / 16777216).toNat, UInt8.ofNat (z / 65536).toNat, UInt8.ofNat (z / 256).toNat, UInt8.ofNat z.toNat]
end Sums
end Go.Proofs.Ytdnhnjimhbbabaa

/- Heads as bytes, signed by a node, as the document defines them. No program is spoken of. -/
namespace Go.Proofs.Ytdnhnjimhbbabaa
open Nums Sums
set_option linter.unusedVariables false
def bA (l : List UInt8) : ByteArray := ⟨l.toArray⟩
theorem bA_list (l : List UInt8) : (bA l).data.toList = l := rfl
theorem bA_size (l : List UInt8) : (bA l).size = l.length := by show l.toArray.size = _; simp
/-! Numbers, and back. -/
/-- A number; -1: it is none. -/
def valO (l : List UInt8) : Int := if isNum l then val l else -1
theorem nOf_list (n : Int) (h : 0 ≤ n ∧ n ≤ 4611686018427387903) : (nOf n).data.toList = num n.toNat := by unfold nOf; rw [if_pos h]
theorem nOf_size (n : Int) : (nOf n).size ≤ 8 := by
  unfold nOf
  split
  · rename_i h
    show (num n.toNat).toArray.size ≤ 8
    have := nb_le n.toNat (by omega)
    simpa [num_length] using this
  · show 0 ≤ 8; omega
theorem valO_nOf (n : Int) (h : 0 ≤ n ∧ n ≤ 4611686018427387903) : valO (nOf n).data.toList = n := by
  rw [nOf_list n h, valO, num_isNum n.toNat (by omega), if_pos rfl, val_num n.toNat (by omega)]
  omega
/-! A row whose fields have the tags 1 to n. -/
def tagsN (n : Nat) : List Int := (List.range n).map fun (i : Nat) => (Int.ofNat i) + 1
/-- What the fields of a row have, if their tags are 1 to n. -/
def partsO (bs : List UInt8) (n : Nat) : Option (List ByteArray) := if readE bs = 0 ∧ (readF bs).map (·.1) = tagsN n then some ((readF bs).map (·.2)) else none
def fieldsN (l : List ByteArray) : List (Int × ByteArray) := (tagsN l.length).zip l
theorem tagsN_length (n : Nat) : (tagsN n).length = n := by simp [tagsN]
theorem fieldsN_fst (l : List ByteArray) : (fieldsN l).map (·.1) = tagsN l.length := by
  unfold fieldsN
  rw [List.map_fst_zip (by rw [tagsN_length]; exact Nat.le_refl _)]
theorem fieldsN_snd (l : List ByteArray) : (fieldsN l).map (·.2) = l := by
  unfold fieldsN
  rw [List.map_snd_zip (by rw [tagsN_length]; exact Nat.le_refl _)]
theorem zip_fst_snd : ∀ (fs : List (Int × ByteArray)), (fs.map (·.1)).zip (fs.map (·.2)) = fs
  | [] => rfl
  | f :: r => by simp [zip_fst_snd r]
/-- What is laid is read. -/
theorem parts_row (l : List ByteArray) (h : layE 0 (fieldsN l) = 0) : partsO (rowB (fieldsN l)) l.length = some l := by
  obtain ⟨h1, h2⟩ := read_row h
  unfold partsO
  rw [h2, if_pos ⟨h1, fieldsN_fst l⟩, fieldsN_snd]
/-- What is read is laid as the same bytes. -/
theorem row_parts {bs : List UInt8} {n : Nat} {l : List ByteArray} (h : partsO bs n = some l) : l.length = n ∧ layE 0 (fieldsN l) = 0 ∧ rowB (fieldsN l) = bs := by
  unfold partsO at h
  split at h
  · rename_i hh
    have hl : (readF bs).map (·.2) = l := Option.some.inj h
    have hlen : l.length = n := by
      rw [← hl, List.length_map, ← List.length_map (f := (·.1)), hh.2, tagsN_length]
    have he : fieldsN l = readF bs := by
      unfold fieldsN
      rw [hlen, ← hh.2, ← hl, zip_fst_snd]
    obtain ⟨a, b, _⟩ := lay_read hh.1
    refine ⟨hlen, by rw [he]; exact a, ?_⟩
    rw [he]
    unfold rowOf at b
    rwa [if_pos a] at b
  · cases h
/-! Heads. -/
structure HdT where
  r : Int
  e : Int
  s : Int
  d : List UInt8
  t : Int
/-- Is a head right? -/
def rightH (h : HdT) : Bool := decide (1 ≤ h.r) && decide (h.r ≤ 5) && decide (1 ≤ h.e) && decide (h.e ≤ 900000000) && decide (0 ≤ h.s) && decide (h.s ≤ 100000) && decide (0 ≤ h.t) && decide (h.t ≤ 900000000)
theorem rightH_iff (h : HdT) : rightH h = true ↔ (1 ≤ h.r ∧ h.r ≤ 5 ∧ 1 ≤ h.e ∧ h.e ≤ 900000000 ∧ 0 ≤ h.s ∧ h.s ≤ 100000 ∧ 0 ≤ h.t ∧ h.t ≤ 900000000) := by
  unfold rightH
  simp only [Bool.and_eq_true, decide_eq_true_eq]
  omega
def hL (h : HdT) : List ByteArray := [nOf h.r, nOf h.e, nOf h.s, bA h.d, nOf h.t]
/-- A right head's bytes. -/
def headB (h : HdT) : List UInt8 := rowB (fieldsN (hL h))
theorem fault_none (last tag : Int) (n : Nat) (h : last < tag ∧ tag ≤ 255) (hn : n ≤ 65536) : faultOf last tag n = 0 := by
  unfold faultOf
  rw [if_neg (by omega), if_neg (by omega)]
theorem layE_hL (h : HdT) (hd : h.d.length = 32) : layE 0 (fieldsN (hL h)) = 0 := by
  have e : fieldsN (hL h) = [(1, nOf h.r), (2, nOf h.e), (3, nOf h.s), (4, bA h.d), (5, nOf h.t)] := rfl
  have b1 := nOf_size h.r
  have b2 := nOf_size h.e
  have b3 := nOf_size h.s
  have b5 := nOf_size h.t
  have b4 : (bA h.d).size = 32 := by rw [bA_size]; exact hd
  rw [e]
  simp only [layE]
  rw [if_pos (fault_none _ _ _ (by omega) (by omega)), if_pos (fault_none _ _ _ (by omega) (by omega)), if_pos (fault_none _ _ _ (by omega) (by omega)), if_pos (fault_none _ _ _ (by omega) (by omega)), if_pos (fault_none _ _ _ (by omega) (by omega))]
def headOf (x1 x2 x3 x4 x5 : ByteArray) : HdT := ⟨valO x1.data.toList, valO x2.data.toList, valO x3.data.toList, x4.data.toList, valO x5.data.toList⟩
/-- The right head whose bytes these are. -/
def getO (bs : List UInt8) : Option HdT :=
  match partsO bs 5 with
  | some [x1, x2, x3, x4, x5] => if x4.size = 32 ∧ rightH (headOf x1 x2 x3 x4 x5) = true then some (headOf x1 x2 x3 x4 x5) else none
  | _ => none
theorem headOf_hL (h : HdT) (hr : rightH h = true) : headOf (nOf h.r) (nOf h.e) (nOf h.s) (bA h.d) (nOf h.t) = h := by
  have hb := (rightH_iff h).1 hr
  unfold headOf
  rw [valO_nOf h.r (by omega), valO_nOf h.e (by omega), valO_nOf h.s (by omega), valO_nOf h.t (by omega), bA_list]
theorem getO_head (h : HdT) (hr : rightH h = true) (hd : h.d.length = 32) : getO (headB h) = some h := by
  unfold getO headB
  have hp : partsO (rowB (fieldsN (hL h))) 5 = some (hL h) := parts_row (hL h) (layE_hL h hd)
  rw [hp]
  show (if (bA h.d).size = 32 ∧ rightH (headOf (nOf h.r) (nOf h.e) (nOf h.s) (bA h.d) (nOf h.t)) = true then some (headOf (nOf h.r) (nOf h.e) (nOf h.s) (bA h.d) (nOf h.t)) else none) = some h
  rw [headOf_hL h hr, if_pos ⟨by rw [bA_size]; exact hd, hr⟩]
theorem rowB_length : ∀ (fs : List (Int × ByteArray)), (rowB fs).length = 4 * fs.length + (fs.map fun f => f.2.size).sum
  | [] => rfl
  | f :: r => by
    show (fieldBytesI f.1 f.2.data.toList ++ rowB r).length = _
    rw [List.length_append, rowB_length r, fieldBytesI_length]
    simp only [List.length_cons, List.map_cons, List.sum_cons]
    have : f.2.data.toList.length = f.2.size := rfl
    omega
theorem headB_length (h : HdT) (hd : h.d.length = 32) : (headB h).length ≤ 84 := by
  have b1 := nOf_size h.r
  have b2 := nOf_size h.e
  have b3 := nOf_size h.s
  have b5 := nOf_size h.t
  have b4 : (bA h.d).size = 32 := by rw [bA_size]; exact hd
  unfold headB
  rw [rowB_length]
  show 4 * 5 + ((nOf h.r).size + ((nOf h.e).size + ((nOf h.s).size + ((bA h.d).size + ((nOf h.t).size + 0))))) ≤ 84
  omega
/-! Signed heads. -/
structure SgT where
  h : HdT
  n : Int
  g : List UInt8
end Go.Proofs.Ytdnhnjimhbbabaa

/- math/bits.Len, as this program bears it, answers how many bits its argument has, for every uint64, and leaves the world as it was. -/
namespace Go.Proofs.Ytdnhnjimhbbabaa
/-- One way through the table: k bits were cut off, the rest is a byte. -/
theorem cut_bits (x e c : Int) (k p : Nat) (hp : p = 2 ^ k) (hk : k ≤ 56) (h0 : 0 ≤ x) (hlo : k = 0 ∨ (p : Int) ≤ x) (hhi : x < 256 * (p : Int)) (he : e = x / (p : Int)) (hc : c = k) :
    c + Lib.len8 (e % 256) = Lib.bitLen x.toNat ∧ 0 ≤ Lib.len8 (e % 256) ∧ Lib.len8 (e % 256) ≤ 8 := by
  have hp0 : 0 < p := by rw [hp]; exact Nat.pow_pos (by decide)
  obtain ⟨n, rfl⟩ : ∃ n : Nat, x = n := ⟨x.toNat, by omega⟩
  have en : e = ((n / p : Nat) : Int) := by rw [he]; exact (Int.natCast_ediv n p).symm
  have hn : n / p < 256 := by rw [Nat.div_lt_iff_lt_mul hp0]; omega
  have e1 : e % 256 = ((n / p : Nat) : Int) := by
    rw [en]; exact Int.emod_eq_of_lt (Int.natCast_nonneg _) (Int.ofNat_lt.mpr hn)
  rw [e1, Lib.len8_of _ (Int.natCast_nonneg _) (Int.lt_add_one_iff.mp (Int.ofNat_lt.mpr hn)), hc, Int.toNat_natCast, Int.toNat_natCast]
  refine ⟨?_, Int.natCast_nonneg _, Int.ofNat_le.mpr (Lib.bitLen_le8 ⟨n / p, hn⟩)⟩
  rcases hlo with rfl | hlo
  · simp at hp; subst hp; simp
  · have hb : n < 2 ^ 64 := by
      have : p ≤ 2 ^ 56 := by rw [hp]; exact Nat.pow_le_pow_right (by decide) hk
      omega
    have := Lib.bitLen_shift k n (by omega) hb
    rw [this, hp]; omega
set_option maxHeartbeats 2000000 in
set_option maxRecDepth 100000 in
theorem len64_any (x : Int) (w : World) (h0 : 0 ≤ x) (h1 : x ≤ 18446744073709551615) :
    Calls Try.prog 39 #[.int .u64 x] w fun e w' => e = .returned (.int .i64 (Lib.bitLen x.toNat)) ∧ w = w' := by
  go_enter Try.func39, Try.ntmps39
  go_wp2
  all_goals (go_ret; refine ⟨congrArg Ending.returned (congrArg (Value.int IntKind.i64) ?_), rfl⟩)
  all_goals first
    | (have h := cut_bits x (x / 4294967296 / 65536 / 256) 56 56 72057594037927936 (by decide +kernel) (by decide) h0 (by omega) (by omega) (by omega) rfl; obtain ⟨h, hl, hu⟩ := h; omega)
    | (have h := cut_bits x (x / 4294967296 / 65536) 48 48 281474976710656 (by decide +kernel) (by decide) h0 (by omega) (by omega) (by omega) rfl; obtain ⟨h, hl, hu⟩ := h; omega)
    | (have h := cut_bits x (x / 4294967296 / 256) 40 40 1099511627776 (by decide +kernel) (by decide) h0 (by omega) (by omega) (by omega) rfl; obtain ⟨h, hl, hu⟩ := h; omega)
    | (have h := cut_bits x (x / 4294967296) 32 32 4294967296 (by decide +kernel) (by decide) h0 (by omega) (by omega) (by omega) rfl; obtain ⟨h, hl, hu⟩ := h; omega)
    | (have h := cut_bits x (x / 65536 / 256) 24 24 16777216 (by decide +kernel) (by decide) h0 (by omega) (by omega) (by omega) rfl; obtain ⟨h, hl, hu⟩ := h; omega)
    | (have h := cut_bits x (x / 65536) 16 16 65536 (by decide +kernel) (by decide) h0 (by omega) (by omega) (by omega) rfl; obtain ⟨h, hl, hu⟩ := h; omega)
    | (have h := cut_bits x (x / 256) 8 8 256 (by decide +kernel) (by decide) h0 (by omega) (by omega) (by omega) rfl; obtain ⟨h, hl, hu⟩ := h; omega)
    | (have h := cut_bits x x 0 0 1 (by decide) (by decide) h0 (.inl rfl) (by omega) (by omega) rfl; obtain ⟨h, hl, hu⟩ := h; omega)
theorem len_any (x : Int) (w : World) (h0 : 0 ≤ x) (h1 : x ≤ 18446744073709551615) :
    Calls Try.prog 34 #[.int .u64 x] w fun e w' => e = .returned (.int .i64 (Lib.bitLen x.toNat)) ∧ w = w' := by
  go_enter Try.func34, Try.ntmps34
  go_wp2_with (go_at_call 39; refine (len64_any x _ h0 h1).mono ?_; rintro e w' ⟨rfl, rfl⟩)
  go_ret
  exact ⟨rfl, rfl⟩
end Go.Proofs.Ytdnhnjimhbbabaa

/- Digits of base 16: what a digest's digits are, and which digest some digits are. No program is spoken of. -/
namespace Go.Proofs.Ytdnhnjimhbbabaa
namespace Digs
end Digs
end Go.Proofs.Ytdnhnjimhbbabaa

/- Arrays in memory and as values, bytes as cells. No program is spoken of. -/
namespace Go.Proofs.Ytdnhnjimhbbabaa
open Go.RowKit
/-- Bytes as cells. -/
def cellsOf (l : List UInt8) : List Value := l.map fun b => .int .u8 b.toNat
theorem cellsOf_length (l : List UInt8) : (cellsOf l).length = l.length := by simp [cellsOf]
theorem cellsOf_append (a b : List UInt8) : cellsOf (a ++ b) = cellsOf a ++ cellsOf b := by simp [cellsOf]
theorem cellsOf_set (l : List UInt8) (j : Nat) (b : UInt8) : (cellsOf l).set j (.int .u8 b.toNat) = cellsOf (l.set j b) := by simp [cellsOf, List.map_set]
theorem cellsOf_at (l : List UInt8) (j : Nat) (hj : j < l.length) : (cellsOf l)[j]? = some (.int .u8 l[j].toNat) := by simp [cellsOf, List.getElem?_eq_getElem hj]
theorem cellsOf_one (l : List UInt8) : ∀ u ∈ cellsOf l, u.oneCell' = true := by
  intro u hu
  obtain ⟨b, _, rfl⟩ := List.mem_map.1 hu
  rfl
theorem cellsOf_all (l : List UInt8) : (cellsOf l).toArray.all (·.oneCell') = true := by
  rw [Array.all_eq_true_iff_forall_mem]
  intro u hu
  exact cellsOf_one l u (by simpa using hu)
theorem add_plain (b o j : Nat) : (⟨b, o, none⟩ : Addr).add j = ⟨b, o + j, none⟩ := by unfold Addr.add; split <;> simp_all
theorem below_setRow {B : Nat} {a w : World} (h : Below B a w) {g : Nat} (hg : B ≤ g) (cs : Array Value) : Below B a (w.setRow g cs) :=
  ⟨h.os, h.tape, h.output, by rw [setRow_size]; exact h.size, fun k hk => by rw [setRow_other w g k cs (by omega)]; exact h.block k hk⟩
theorem heap_lt {w : World} {g : Nat} {o : Obj} (h : w.heap[g]? = some o) : g < w.heap.size := (Array.getElem?_eq_some_iff.1 h).1
/-- A block that is there is there behind an allocation. -/
theorem heap_keep {w : World} {g : Nat} {o o' : Obj} (h : w.heap[g]? = some o) : (w.alloc o').heap[g]? = some o := by
  rw [Below.heap_alloc w o' g (heap_lt h)]; exact h
/-- A variable that is an array, made. -/
theorem wpList_alloc_row {P : Program} {ops : Array Oper} {rest : List Oper} {o : Oper} {a : Act} {w : World} {Q : Exit → Act → World → Prop} (hg : o.guard = none) (t : TypeId) (ho : o.op = .alloc t)
    (cs : Array Value) (hz : (P.info? t).map (fun i => (i.zero, i.size)) = some (some (.agg cs), cs.size))
    (h : wpList P ops Q rest (a.put o.dst (.pointer (some ⟨w.heap.size, 0, none⟩))) (w.alloc (.cells cs t))) : wpList P ops Q (o :: rest) a w := by
  refine wpList_plain hg fun K hK => ?_
  have hk := hK _ _ h
  unfold Oper.wp execOp
  cases hq : P.info? t with
  | none => simp [hq] at hz
  | some i =>
    simp [hq] at hz
    simp [ho, Instr.alloc, newVar, zeroValue, typeInfo, hq, hz.1, go_sem]
    exact hk
/-- A literal of an array, made. -/
theorem wpList_build_row {P : Program} {ops : Array Oper} {rest : List Oper} {o : Oper} {a : Act} {w : World} {Q : Exit → Act → World → Prop} (hg : o.guard = none) (t : TypeId) (parts : Array (Nat × Operand)) (ho : o.op = .build t parts)
    (cs : Array Value) (hb : P.built t (parts.map fun (i, x) => (i, a.eval x)).toList = some cs) (h : wpList P ops Q rest (a.put o.dst (.agg cs)) w) : wpList P ops Q (o :: rest) a w := by
  refine wpList_build hg t parts ho (by rw [hb]; rfl) ?_
  rw [hb]
  exact h
theorem wpList_build_none {P : Program} {ops : Array Oper} {rest : List Oper} {o : Oper} {a : Act} {w : World} {Q : Exit → Act → World → Prop} (hg : o.guard = none) (t : TypeId) (ho : o.op = .build t #[])
    (cs : Array Value) (hb : P.built t [] = some cs) (h : wpList P ops Q rest (a.put o.dst (.agg cs)) w) : wpList P ops Q (o :: rest) a w :=
  wpList_build_row hg t #[] ho cs (by simpa using hb) h
/-- Two results, the first an array in a variable. -/
theorem results_row_tmp {P : Program} {fn : Func} {p q : Tmp} {ty : TypeId} (h : fn.results = #[.cell p ty, .tmp q]) (tmps : Array Value) (w : World) (g : Nat) (t : TypeId) (cs : Array Value) (fr : Nat × Nat) (d : TypeDesc)
    (hp : tmps.getD p undef = .pointer (some ⟨g, 0, none⟩)) (hg : w.heap[g]? = some (.cells cs t fr))
    (hu : P.underlying ty = some d) (hd : (match d with | .struct _ | .array _ _ => true | _ => false) = true) (hi : (P.info? ty).map (·.size) = some cs.size) :
    (results fn tmps).run P w = .ok (.tuple #[.agg cs, tmps.getD q undef]) w := by
  have hp' : tmps[p]?.getD undef = .pointer (some ⟨g, 0, none⟩) := by simpa using hp
  simp [results, h, hp', asAddr, run_loadVar_row w g t ty cs fr d hg hu hd hi]
/-- A whole array read, under a guard that says yes. -/
theorem wpList_load_row_w {P : Program} {ops : Array Oper} {rest : List Oper} {o : Oper} {a : Act} {w : World} {Q : Exit → Act → World → Prop} (hw : Region.wanted o (yielded ops a.tmps) = true) (ty : TypeId) (x : Operand) (ho : o.op = .load ty x)
    (g : Nat) (hx : a.eval x = .pointer (some ⟨g, 0, none⟩)) (t : TypeId) (cs : Array Value) (fr : Nat × Nat) (d : TypeDesc) (hg : w.heap[g]? = some (.cells cs t fr))
    (hu : P.underlying ty = some d) (hd : (match d with | .struct _ | .array _ _ => true | _ => false) = true) (hi : (P.info? ty).map (·.size) = some cs.size)
    (h : wpList P ops Q rest (a.put o.dst (.agg cs)) w) : wpList P ops Q (o :: rest) a w :=
  BigFrame.wpList_want hw fun _ hK => wp_load_row ty x ho g hx t cs fr d hg hu hd hi (hK _ _ h)
theorem wrap_int (z : Int) (h0 : -9223372036854775808 ≤ z) (h1 : z ≤ 9223372036854775807) : IntKind.i64.wrap z = z := by
  simp [IntKind.wrap, IntKind.bits, IntKind.signed]; omega
theorem cell_at {w : World} {B g n c : Nat} {l : List UInt8} (h : w.ownsRow B 5 1 (.slice (some ⟨g, 0, none⟩) n c) n (cellsOf l)) (hl : l.length = n) (j : Nat) (hj : j < n) :
    w.cell? ⟨g, j, none⟩ = some (.int .u8 (l.getD j 0).toNat) := by
  rw [h.cellAt j (by omega)]
  simp [cellsOf, List.getElem?_eq_getElem (show j < l.length by omega), List.getD]
theorem cells_at {w : World} {B g n c : Nat} {l : List UInt8} (h : w.ownsRow B 5 1 (.slice (some ⟨g, 0, none⟩) n c) n (cellsOf l)) (hl : l.length = n) :
    ∀ (j : Nat) (hj : j < l.length), w.cell? ((⟨g, 0, none⟩ : Addr).add j) = some (.int .u8 l[j].toNat) := by
  intro j hj
  rw [add_plain, Nat.zero_add, cell_at h hl j (by omega)]
  simp [List.getD, List.getElem?_eq_getElem hj]
end Go.Proofs.Ytdnhnjimhbbabaa

/- What sha.Hex answers: two digits a byte. -/
namespace Go.Proofs.Ytdnhnjimhbbabaa
open Go.RowKit Digs
theorem info5 : (Try.prog.info? 5).map (fun i => (i.zero, i.size, i.bytes)) = some (some (.int .u8 0), 1, 1) := by kernel_rfl
theorem size5 : (Try.prog.info? 5).map (·.size) = some 1 := by kernel_rfl
theorem size23 : (Try.prog.info? 23).map (·.size) = some 32 := by kernel_rfl
end Go.Proofs.Ytdnhnjimhbbabaa

/- Bytes as cells of a row that the call itself owns. -/
namespace Go.Proofs.Ytdnhnjimhbbabaa
open Go.RowKit Nums
theorem be_row (j m N : Nat) : ((List.replicate (j + 1) (0 : UInt8)) ++ be m N).set j (UInt8.ofNat (N / 256 ^ m % 256)) = List.replicate j 0 ++ be (m + 1) N := by
  rw [List.replicate_succ', List.append_assoc, List.set_append, if_neg (by simp)]
  simp [be]
theorem cells_made0 (n N : Nat) : (madeCells #[Value.int .u8 0] n).toList = cellsOf (List.replicate n 0 ++ be 0 N) := by
  rw [toList_madeCells_one]; simp [cellsOf, be]
end Go.Proofs.Ytdnhnjimhbbabaa

/- What pack.Number answers: the fewest bytes of a number, the highest first, or ErrArg. -/
namespace Go.Proofs.Ytdnhnjimhbbabaa
open Go.RowKit Nums
set_option maxRecDepth 100000
theorem number_no (n : Int) (w : World) (h : n < 0 ∨ 4611686018427387903 < n) :
    Calls Try.prog 24 #[.int .i64 n] w fun e w' => e = .returned (.tuple #[.string ByteArray.empty, .int .i64 1]) ∧ w = w' := by
  rcases h with h | h
  · go_enter Try.func24, Try.ntmps24
    go_wp2
    go_ret2
    exact ⟨rfl, rfl⟩
  · have h' : ¬ n < 0 := by omega
    go_enter Try.func24, Try.ntmps24
    go_wp2
    go_ret2
    exact ⟨rfl, rfl⟩
theorem bitLen_le (N : Nat) (h : N < 2 ^ 64) : Lib.bitLen N ≤ 64 := (bitLenAux_bounds 64 N h).2.2
set_option maxRecDepth 100000 in
set_option maxHeartbeats 1000000 in
theorem number_yes (N : Nat) (w : World) (h1 : (N : Int) ≤ 4611686018427387903) :
    Calls Try.prog 24 #[.int .i64 N] w fun e w' => e = .returned (.tuple #[.string ⟨(num N).toArray⟩, .int .i64 0]) ∧ Below w.heap.size w w' := by
  obtain ⟨i0, hi, hz0, hz1, hz2⟩ := info_parts info5
  have h0' : ¬ (N : Int) < 0 := by omega
  have hbl := bitLen_le N (by omega)
  have hnb : nb N ≤ 8 := nb_le N (by omega)
  have len := fun w => len_any (N : Int) w (by omega) (by omega)
  have LEN : Hid (∀ w, Calls Try.prog 34 #[.int .u64 N] w fun e w' => e = .returned (.int .i64 (Lib.bitLen N)) ∧ w = w') := len
  clear len
  go_enter Try.func24, Try.ntmps24
  go_wp2_with (first
    | (go_at_call 34; refine (LEN.out _).mono ?_; rintro e w' ⟨rfl, rfl⟩)
    | (at_make; refine wpList_make_full _ rfl (.tmp 16) (.tmp 16) 26 rfl w.heap.size 5 i0 (.int .u8 0) 1 Try.underlying26 hi hz0 hz1 .i64 .i64 _ _ (nb N) rfl rfl ?c1 ?c2 ?c3 ?c4 ?c5 ?_)
    | fail)
  case c1 => unfold nb; omega
  case c2 => unfold nb; omega
  case c3 => rw [hz2]; omega
  case c4 => unfold maxLen; omega
  case c5 => exact Nat.le_refl _
  intro w1 hown hgrow
  rw [cells_made0 _ N] at hown
  have hB : Below w.heap.size w w1 := (Below.refl _ _).grown hgrow (Nat.le_refl _) (by intro k hk; cases hk)
  clear hgrow LEN hi hz0 hz1 hz2
  go_wp2
  go_loopw [0, 5] (fun v i wr => ∃ j m q : Nat, j + m = nb N ∧ Hid (q = N / 256 ^ m) ∧ v = .int .i64 (q : Int) ∧ i = .int .i64 ((j : Int) - 1) ∧
      wr.ownsRow w.heap.size 5 1 (.slice (some ⟨w.heap.size, 0, none⟩) (nb N) (nb N)) (nb N) (cellsOf (List.replicate j 0 ++ be m N)) ∧ Below w.heap.size w wr)
    (fun _ i _ => (intOf i + 1).toNat)
  case atStart => exact ⟨nb N, 0, N, rfl, (by simp : N = N / 256 ^ 0), rfl, rfl, hown, hB⟩
  case round =>
    clear hown hB
    obtain ⟨j, m, q, hjm, HQ, rfl, hi, hown, hB⟩ := hrel
    cases j with
    | zero =>
      obtain rfl := hi
      have hm : m = nb N := by omega
      have hc := run_convert_bytes_back (P := Try.prog) wr 26 9 5 ⟨w.heap.size, 0, none⟩ (nb N) (be m N) Try.underlying26 Try.underlying5 Try.underlying9 (cells_at (by simpa using hown) (by rw [be_length, hm]))
      rw [be_length] at hc
      subst hm
      clear hown hjm
      go_wp2
      go_ret2
      exact ⟨rfl, hB⟩
    | succ j =>
      obtain rfl := hi
      have hq : (q : Int) ≤ 4611686018427387903 := by
        have := Nat.div_le_self N (256 ^ m)
        rw [← HQ.out] at this; omega
      have hfz := hown.frozenAt j
      have hcell := cell_at hown (by simp [be_length]; omega) j (by omega)
      have hst := hown.stored j (.int .u8 ((UInt8.ofNat (N / 256 ^ m % 256)).toNat))
      rw [cellsOf_set, be_row] at hst
      have HST : Hid _ := hst.1
      have HB : Hid (Below w.heap.size w (wr.setCell ⟨w.heap.size, j, none⟩ (.int .u8 ((UInt8.ofNat (N / 256 ^ m % 256)).toNat)))) := hB.setCell (Nat.le_refl _) _
      have e : ((UInt8.ofNat (N / 256 ^ m % 256)).toNat : Int) = (q : Int) % 256 := by
        rw [UInt8.toNat_ofNat', HQ.out]; omega
      rw [e] at HST HB
      clear hst hown hB e
      go_wp2
      go_roundw
      case rel =>
        refine ⟨j, m + 1, q / 256, by omega, ?_, by go_num, by go_num, HST.out, HB.out⟩
        show q / 256 = _
        rw [HQ.out, Nat.div_div_eq_div_mul, Nat.pow_succ]
      case measure => simp [intOf]
end Go.Proofs.Ytdnhnjimhbbabaa

/- What pack.Value answers: the number that bytes tell, or ErrPackForm. -/
namespace Go.Proofs.Ytdnhnjimhbbabaa
open Go.RowKit Nums
set_option maxRecDepth 100000
theorem number_any (n : Int) (w : World) :
    Calls Try.prog 24 #[.int .i64 n] w fun e w' => e = .returned (.tuple #[.string (nOf n), .int .i64 (neOf n)]) ∧ Below w.heap.size w w' := by
  by_cases h : 0 ≤ n ∧ n ≤ 4611686018427387903
  · obtain ⟨N, rfl⟩ : ∃ N : Nat, n = N := ⟨n.toNat, by omega⟩
    refine (number_yes N w h.2).mono fun e w' ⟨he, hb⟩ => ⟨?_, hb⟩
    rw [he, nOf, neOf, if_pos h, if_pos h, Int.toNat_natCast]
  · refine (number_no n w (by omega)).mono fun e w' ⟨he, hw⟩ => ⟨?_, ?_⟩
    · rw [he, nOf, neOf, if_neg h, if_neg h]
    · subst hw; exact Below.refl _ _
theorem take_snoc (s : ByteArray) (k : Nat) (h : k < s.size) : s.data.toList.take (k + 1) = s.data.toList.take k ++ [s[k]] := by
  rw [List.take_succ_eq_append_getElem (by simpa using h)]; rfl
theorem head_of (s : ByteArray) (h0 : 0 < s.size) : s.data.toList[0]? = some (s[0]'h0) := by
  rw [List.getElem?_eq_getElem (by simpa using h0)]; rfl
theorem or_byte (V b : Nat) (hV : V < 72057594037927936) (hb : b < 256) :
    bits .or .u64 (IntKind.u64.wrap ((V : Int) * 256)) (IntKind.u64.wrap (b : Int)) = ((256 * V + b : Nat) : Int) := by
  have e1 : IntKind.u64.wrap ((V : Int) * 256) = ((256 * V : Nat) : Int) := by rw [IntKind.wrap_u64]; omega
  have e2 : IntKind.u64.wrap (b : Int) = (b : Int) := by rw [IntKind.wrap_u64]; omega
  rw [e1, e2, bits_or_u64_nat _ _ (by omega) (by omega)]
  have : 256 * V ||| b = 256 * V + b := by
    have := Nat.shiftLeft_add_eq_or_of_lt (show b < 2 ^ 8 from hb) V
    rw [Nat.shiftLeft_eq] at this
    rw [Nat.mul_comm 256 V, ← this]
  rw [this]
theorem value_long (s : ByteArray) (w : World) (h : 8 < s.size) (hs : s.size ≤ maxLen) :
    Calls Try.prog 31 #[.string s] w fun e w' => e = .returned (.tuple #[.int .i64 0, .int .i64 11]) ∧ w = w' := by
  unfold maxLen at hs
  go_enter Try.func31, Try.ntmps31
  go_wp2
  go_ret2
  exact ⟨rfl, rfl⟩
theorem value_zero (s : ByteArray) (w : World) (h : s.size ≤ 8) (h0 : 0 < s.size) (hz : (((s[0]'h0).toNat : Int) == 0) = true) :
    Calls Try.prog 31 #[.string s] w fun e w' => e = .returned (.tuple #[.int .i64 0, .int .i64 11]) ∧ w = w' := by
  have hg : decide ((8 : Int) < (s.size : Int)) = false := by simp; omega
  go_enter Try.func31, Try.ntmps31
  go_wp2
  go_ret2
  exact ⟨rfl, rfl⟩
def capV (V : Nat) : Int := if V < 4611686018427387904 then V else 0
def capE (V : Nat) : Int := if V < 4611686018427387904 then 0 else 11
set_option maxHeartbeats 400000 in
theorem value_empty (s : ByteArray) (w : World) (h : s.size = 0) :
    Calls Try.prog 31 #[.string s] w fun e w' => e = .returned (.tuple #[.int .i64 0, .int .i64 0]) ∧ w = w' := by
  go_enter Try.func31, Try.ntmps31
  go_wp2
  go_loop [4, 5, 21] (fun n _ i => i = .int .i64 0 ∧ n = .int .u64 0) (fun _ _ _ => 0)
  case atStart => exact ⟨rfl, rfl⟩
  case round =>
    obtain ⟨rfl, rfl⟩ := hrel
    go_wp2
    go_ret2
    exact ⟨rfl, rfl⟩
set_option maxHeartbeats 1000000 in
theorem value_loop (s : ByteArray) (w : World) (h : s.size ≤ 8) (h0 : 0 < s.size) (hz0 : (((s[0]'h0).toNat : Int) == 0) = false) :
    Calls Try.prog 31 #[.string s] w fun e w' => e = .returned (.tuple #[.int .i64 (capV (val s.data.toList)), .int .i64 (capE (val s.data.toList))]) ∧ w = w' := by
  have hg : decide ((8 : Int) < (s.size : Int)) = false := by simp; omega
  go_enter Try.func31, Try.ntmps31
  go_wp2
  go_loop [4, 5, 21] (fun n _ i => ∃ k V : Nat, k ≤ s.size ∧ V < 256 ^ k ∧ Hid (V = val (s.data.toList.take k)) ∧ i = .int .i64 k ∧ n = .int .u64 (V : Int)) (fun _ _ i => s.size - (intOf i).toNat)
  case atStart => exact ⟨0, 0, Nat.zero_le _, by decide, (rfl : 0 = val _), rfl, rfl⟩
  case round =>
    obtain ⟨k, V, hk, hV, HV, rfl, rfl⟩ := hrel
    by_cases hlt : k < s.size
    · have HO : Hid (bits .or .u64 (IntKind.u64.wrap ((V : Int) * 256)) (IntKind.u64.wrap (((s[k]).toNat : Nat) : Int)) = ((256 * V + (s[k]).toNat : Nat) : Int)) := by
        refine or_byte V _ ?_ s[k].toNat_lt
        have := Nat.pow_le_pow_right (show 0 < 256 by decide) (show k ≤ 7 by omega)
        omega
      have HN : Hid (256 * V + (s[k]).toNat = val (s.data.toList.take (k + 1))) := by
        show 256 * V + (s[k]).toNat = _
        rw [take_snoc s k hlt, val_snoc, ← HV.out]
      have HL : Hid (256 * V + (s[k]).toNat < 256 ^ (k + 1)) := by
        show 256 * V + (s[k]).toNat < _
        have := s[k].toNat_lt
        rw [Nat.pow_succ]; omega
      clear hV
      go_wp2
      go_round
      case rel => exact ⟨k + 1, 256 * V + (s[k]).toNat, by omega, HL.out, HN, by go_num, by rw [HO.out]⟩
      case measure => simp [intOf]; omega
    · have hks : s.data.toList.take k = s.data.toList := List.take_of_length_le (by simp; omega)
      have HV2 : Hid (V = val s.data.toList) := by have := HV.out; rw [hks] at this; exact this
      clear HV hks hV
      by_cases hm : V < 4611686018427387904
      · have hm' : ¬ (4611686018427387903 : Int) < (V : Int) := by omega
        have HE : Hid (capV V = V ∧ capE V = 0) := ⟨if_pos hm, if_pos hm⟩
        go_wp2
        go_ret2
        rw [← HV2.out, HE.out.1, HE.out.2]
        exact ⟨rfl, rfl⟩
      · have hm' : (4611686018427387903 : Int) < (V : Int) := by omega
        have HE : Hid (capV V = 0 ∧ capE V = 11) := ⟨if_neg hm, if_neg hm⟩
        go_wp2
        go_ret2
        rw [← HV2.out, HE.out.1, HE.out.2]
        exact ⟨rfl, rfl⟩
theorem size_list (s : ByteArray) : s.data.toList.length = s.size := by simp
theorem value_any (s : ByteArray) (w : World) (hs : s.size ≤ maxLen) :
    Calls Try.prog 31 #[.string s] w fun e w' => e = .returned (.tuple #[.int .i64 (vOf s.data.toList), .int .i64 (eOf s.data.toList)]) ∧ w = w' := by
  have hlen := size_list s
  by_cases h8 : 8 < s.size
  · have : isNum s.data.toList = false := by unfold isNum; rw [decide_eq_false_iff_not]; intro h; omega
    rw [(v_no this).1, (v_no this).2]
    exact value_long s w h8 hs
  · by_cases h0 : 0 < s.size
    · cases hz : (((s[0]'h0).toNat : Int) == 0)
      · have hh : s.data.toList[0]? ≠ some 0 := by
          rw [head_of s h0]; intro e; simp at e; rw [e] at hz; simp at hz
        refine (value_loop s w (by omega) h0 hz).mono fun e w' ⟨he, hw⟩ => ⟨?_, hw⟩
        rw [he, vOf, eOf, capV, capE]
        by_cases hv : val s.data.toList < 4611686018427387904
        · have : isNum s.data.toList = true := by unfold isNum; rw [decide_eq_true_eq]; exact ⟨by omega, hh, hv⟩
          simp only [this, if_pos hv, if_true]
        · have : isNum s.data.toList = false := by unfold isNum; rw [decide_eq_false_iff_not]; exact fun h => hv h.2.2
          simp only [this, if_neg hv]; rfl
      · have : isNum s.data.toList = false := by
          unfold isNum; rw [decide_eq_false_iff_not]; intro h
          apply h.2.1
          rw [head_of s h0]
          simp at hz
          exact congrArg some (UInt8.toNat_inj.mp (by simpa using hz))
        rw [(v_no this).1, (v_no this).2]
        exact value_zero s w (by omega) h0 hz
    · have hnil : s.data.toList = [] := List.length_eq_zero_iff.mp (by omega)
      have : isNum s.data.toList = true := by rw [hnil]; decide
      rw [(v_yes this).1, (v_yes this).2, hnil]
      exact value_empty s w (by omega)
end Go.Proofs.Ytdnhnjimhbbabaa

/- What the document's own Number answers: the same as nOf, neOf tell. -/
namespace Go.Proofs.Ytdnhnjimhbbabaa
open Go.RowKit Nums
set_option maxRecDepth 100000
theorem refNumber_no (n : Int) (w : World) (h : n < 0 ∨ 4611686018427387903 < n) :
    Calls Try.prog 36 #[.int .i64 n] w fun e w' => e = .returned (.tuple #[.string ByteArray.empty, .int .i64 1]) ∧ w = w' := by
  rcases h with h | h
  · go_enter Try.func36, Try.ntmps36
    go_wp2
    go_ret2
    exact ⟨rfl, rfl⟩
  · have h' : ¬ n < 0 := by omega
    go_enter Try.func36, Try.ntmps36
    go_wp2
    go_ret2
    exact ⟨rfl, rfl⟩
theorem one_byte (W : World) (q : Nat) :
    Sem.run Try.prog (convert 26 9 (.slice (some ⟨W.heap.size, 0, none⟩) 1 1)) (W.alloc (.cells #[.int .u8 ((q : Int) % 256)] 5)) =
      .ok (.string ⟨#[UInt8.ofNat (q % 256)]⟩) (W.alloc (.cells #[.int .u8 ((q : Int) % 256)] 5)) := by
  refine run_convert_bytes_back (P := Try.prog) _ 26 9 5 ⟨W.heap.size, 0, none⟩ 1 [UInt8.ofNat (q % 256)] Try.underlying26 Try.underlying5 Try.underlying9 ?_
  intro j hj
  match j, hj with
  | 0, _ => rw [add_plain]; simp
theorem bytes_front (x : UInt8) (b : ByteArray) : ((⟨#[x]⟩ : ByteArray) ++ b).data.toList = x :: b.data.toList := by
  simp [ByteArray.data_append]
theorem fits_step {m N : Nat} (h : 0 < N / 256 ^ m) : 256 ^ (m + 1 - 1) ≤ N := by
  rw [Nat.add_sub_cancel]
  exact (Nat.div_pos_iff.mp h).2
theorem fits_end {m N : Nat} (h : N / 256 ^ m = 0) (h2 : m = 0 ∨ 256 ^ (m - 1) ≤ N) : Fits m N := by
  refine ⟨?_, h2⟩
  have hp : 0 < 256 ^ m := Nat.pow_pos (by decide)
  exact (Nat.div_eq_zero_iff_lt hp).mp h
theorem few {m N : Nat} (hN : N < 2 ^ 62) (h2 : m = 0 ∨ 256 ^ (m - 1) ≤ N) : m ≤ 8 := by
  rcases h2 with h | h
  · omega
  · by_cases hm : m ≤ 8
    · exact hm
    · have := Nat.pow_le_pow_right (show 0 < 256 by decide) (show 8 ≤ m - 1 by omega)
      omega
set_option maxHeartbeats 1000000 in
theorem refNumber_yes (N : Nat) (w : World) (h1 : (N : Int) ≤ 4611686018427387903) :
    Calls Try.prog 36 #[.int .i64 N] w fun e w' => e = .returned (.tuple #[.string ⟨(num N).toArray⟩, .int .i64 0]) ∧ Below w.heap.size w w' := by
  have h0' : ¬ (N : Int) < 0 := by omega
  go_enter Try.func36, Try.ntmps36
  go_wp2
  go_loopw [0, 4] (fun v s wr => ∃ m q : Nat, ∃ b : ByteArray, q ≤ N ∧ Hid (q = N / 256 ^ m) ∧ Hid (m = 0 ∨ 256 ^ (m - 1) ≤ N) ∧ v = .int .i64 (q : Int) ∧ s = .string b ∧ Hid (b.data.toList = be m N) ∧ b.size ≤ 8 ∧ Below w.heap.size w wr)
    (fun v _ _ => (intOf v).toNat)
  case atStart => exact ⟨0, N, ⟨#[]⟩, Nat.le_refl _, (by simp : N = N / 256 ^ 0), Or.inl rfl, rfl, rfl, (rfl : _ = be 0 N), (by decide), Below.refl _ _⟩
  case round =>
    obtain ⟨m, q, b, hqN, HQ, HM, rfl, rfl, HB, hb8, hB⟩ := hrel
    by_cases hq : (0 : Int) < (q : Int)
    · have hconv := one_byte wr q
      have HM1 : Hid (m + 1 = 0 ∨ 256 ^ (m + 1 - 1) ≤ N) := by
        have := HQ.out
        exact Or.inr (fits_step (by omega))
      have HB1 : Hid (((⟨#[UInt8.ofNat (q % 256)]⟩ : ByteArray) ++ b).data.toList = be (m + 1) N) := by
        show _ = _
        rw [bytes_front, HB.out, be, HQ.out]
      have HS : Hid (((⟨#[UInt8.ofNat (q % 256)]⟩ : ByteArray) ++ b).size ≤ 8) := by
        show _ ≤ _
        have := few (N := N) (by omega) HM1.out
        have e := congrArg List.length HB1.out
        rw [be_length] at e
        simp only [Array.length_toList] at e
        exact Nat.le_trans (Nat.le_of_eq e) this
      go_wp2
      go_roundw
      case rel =>
        refine ⟨m + 1, q / 256, _, by omega, ?_, HM1, by go_num, rfl, HB1, HS.out, ?_⟩
        · show q / 256 = _
          rw [HQ.out, Nat.div_div_eq_div_mul, Nat.pow_succ]
        · exact hB.alloc hB.size _
      case measure => simp [intOf]; omega
    · have HF : Hid (b = ⟨(num N).toArray⟩) := by
        show b = _
        have hq0 : N / 256 ^ m = 0 := by have := HQ.out; omega
        have := num_of_fits (N := N) (by omega) (fits_end hq0 HM.out)
        rw [← this, ← HB.out]
      go_wp2
      go_ret2
      rw [← HF.out]
      exact ⟨rfl, hB⟩
theorem refNumber_any (n : Int) (w : World) :
    Calls Try.prog 36 #[.int .i64 n] w fun e w' => e = .returned (.tuple #[.string (nOf n), .int .i64 (neOf n)]) ∧ Below w.heap.size w w' := by
  by_cases h : 0 ≤ n ∧ n ≤ 4611686018427387903
  · obtain ⟨N, rfl⟩ : ∃ N : Nat, n = N := ⟨n.toNat, by omega⟩
    refine (refNumber_yes N w h.2).mono fun e w' ⟨he, hb⟩ => ⟨?_, hb⟩
    rw [he, nOf, neOf, if_pos h, if_pos h, Int.toNat_natCast]
  · refine (refNumber_no n w (by omega)).mono fun e w' ⟨he, hw⟩ => ⟨?_, ?_⟩
    · rw [he, nOf, neOf, if_neg h, if_neg h]
    · subst hw; exact Below.refl _ _
end Go.Proofs.Ytdnhnjimhbbabaa

/- What sha.schedule answers: W 0 to 63 of a block. -/
namespace Go.Proofs.Ytdnhnjimhbbabaa
open Go.RowKit Sums
set_option linter.unusedVariables false
set_option linter.unusedSimpArgs false
/-- Bytes that lie in a block from a place on. -/
def Lies (w : World) (b off : Nat) (l : List UInt8) : Prop := ∀ i, (hi : i < l.length) → w.cell? ⟨b, off + i, none⟩ = some (.int .u8 l[i].toNat)
theorem Lies.keep {w w' : World} {b off B : Nat} {l : List UInt8} (h : Lies w b off l) (hb : Below B w w') (hB : b < B) : Lies w' b off l := fun i hi => by
  rw [hb.cell (p := ⟨b, off + i, none⟩) hB]; exact h i hi
theorem Lies.drop {w : World} {b off : Nat} {l : List UInt8} (h : Lies w b off l) (n : Nat) : Lies w b (off + n) (l.drop n) := fun i hi => by
  have := h (n + i) (by simp at hi; omega)
  rw [← Nat.add_assoc] at this
  rw [this]
  simp
theorem Lies.take {w : World} {b off : Nat} {l : List UInt8} (h : Lies w b off l) (n : Nat) : Lies w b off (l.take n) := fun i hi => by
  have := h i (by simp at hi; omega)
  rw [this]
  simp
end Go.Proofs.Ytdnhnjimhbbabaa

/- What sha.mixed answers: the state behind a block. -/
namespace Go.Proofs.Ytdnhnjimhbbabaa
open Go.RowKit Sums
set_option linter.unusedVariables false
set_option linter.unusedSimpArgs false
/-- The table of constants lies where it was laid. -/
def Table (g : Nat) (w : World) : Prop := g < w.heap.size ∧ ∀ k, k < 64 → w.cell? ⟨g, k, none⟩ = some (.int .u32 (kT.getD k 0))
theorem Table.keep {g : Nat} {w w' : World} (h : Table g w) (hb : Below w.heap.size w w') : Table g w' :=
  ⟨Nat.lt_of_lt_of_le h.1 hb.size, fun k hk => by rw [hb.cell (p := ⟨g, k, none⟩) h.1]; exact h.2 k hk⟩
end Go.Proofs.Ytdnhnjimhbbabaa

/- What sha.message answers: the parts' bytes, and what fills them up to whole blocks. -/
namespace Go.Proofs.Ytdnhnjimhbbabaa
open Go.RowKit Sums
set_option linter.unusedVariables false
set_option linter.unusedSimpArgs false
/-- A slice of texts that can be read. -/
def Texts (w : World) (a : Option Addr) (len : Nat) (ss : List ByteArray) : Prop :=
  ss.length = len ∧ (len = 0 ∨ ∃ b off, a = some ⟨b, off, none⟩ ∧ b < w.heap.size ∧ ∀ i, (hi : i < ss.length) → w.cell? ⟨b, off + i, none⟩ = some (.string ss[i]))
theorem Texts.keep {w w' : World} {a : Option Addr} {len : Nat} {ss : List ByteArray} (h : Texts w a len ss) (hb : Below w.heap.size w w') : Texts w' a len ss := by
  refine ⟨h.1, ?_⟩
  rcases h.2 with h0 | ⟨b, off, rfl, hlt, hc⟩
  · exact .inl h0
  · exact .inr ⟨b, off, rfl, Nat.lt_of_lt_of_le hlt hb.size, fun i hi => by rw [hb.cell (p := ⟨b, off + i, none⟩) hlt]; exact hc i hi⟩
/-- What lies in the row when k texts have been copied. -/
def filled (l : List UInt8) (n : Nat) : List UInt8 := l ++ List.replicate (n - l.length) 0
end Go.Proofs.Ytdnhnjimhbbabaa

/- What sha.Of answers: the sum of the parts' bytes, one part behind the other. -/
namespace Go.Proofs.Ytdnhnjimhbbabaa
open Go.RowKit Sums
set_option linter.unusedVariables false
set_option linter.unusedSimpArgs false
theorem zero27 : (Try.prog.info? 23).map (fun i => (i.zero, i.size)) = some (some (.agg (cellsOf (List.replicate 32 0)).toArray), 32) := by kernel_rfl
theorem noughts27 : ∃ Z : Array Value, Hid (Z = (cellsOf (List.replicate 32 0)).toArray) ∧ Hid ((Try.prog.info? 23).map (fun i => (i.zero, i.size)) = some (some (.agg Z), Z.size)) ∧
    Hid ((Try.prog.info? 23).map (·.size) = some Z.size) ∧ Hid (Z.all (·.oneCell') = true) ∧ Hid (Z.size = 32) :=
  ⟨(cellsOf (List.replicate 32 0)).toArray, (rfl : _ = _), zero27, size23, cellsOf_all _, (rfl : _ = _)⟩
theorem dig_row' (l : List UInt8) (hl : l.length = 32) : ∃ D : Array Value, Hid (D = (cellsOf l).toArray) ∧ Hid ((Try.prog.info? 23).map (·.size) = some D.size) ∧ Hid (D.all (·.oneCell') = true) ∧ Hid (D.size = 32) := by
  refine ⟨(cellsOf l).toArray, (rfl : _ = _), ?_, cellsOf_all l, ?_⟩
  · show _ = _
    rw [size23]; simp [cellsOf_length, hl]
  · show _ = _
    simp [cellsOf_length, hl]
theorem slice_all (w : World) (g : Nat) : (Instr.sliceAt 23 (.pointer (some ⟨g, 0, none⟩)) none none none).run Try.prog w = .ok (.slice (some ⟨g, 0, none⟩) 32 32) w := by
  simp [Instr.sliceAt, Instr.slice, Instr.sliceBounds, run_underlying Try.underlying23, Instr.sureAddr]
  rw [add_plain]
/-- The first i words' bytes, and noughts behind them. -/
def part (l : List Int) (i : Nat) : List UInt8 := (l.take i).flatMap bytes4 ++ List.replicate (32 - 4 * i) 0
end Go.Proofs.Ytdnhnjimhbbabaa

/- What sha.Empty, sha.Leaf and sha.Knot answer. -/
namespace Go.Proofs.Ytdnhnjimhbbabaa
open Go.RowKit Sums
set_option linter.unusedVariables false
set_option linter.unusedSimpArgs false
/-- Texts in a new block. -/
theorem texts_new (w : World) (ss : List ByteArray) (t : TypeId) : Texts (w.alloc (.cells (ss.map Value.string).toArray t)) (some ⟨w.heap.size, 0, none⟩) ss.length ss := by
  refine ⟨rfl, .inr ⟨w.heap.size, 0, rfl, by simp, fun i hi => ?_⟩⟩
  rw [Nat.zero_add, cell_of_row _ _ i _ t (0, 0) (heap_alloc_new w _)]
  simp [List.getElem?_eq_getElem hi]
theorem range_keep {W W' : World} {g o : Nat} {l : List Value} (hb : Below W.heap.size W W') (h : W.rangeAt g o l) : W'.rangeAt g o l := fun j v hj => by
  have hc := h j v hj
  rw [hb.cell (World.block_lt_of_cell? _ _ hc)]
  exact hc
theorem range_row {W : World} {g : Nat} {l : List Value} {t : TypeId} {fr : Nat × Nat} (h : W.heap[g]? = some (.cells l.toArray t fr)) : W.rangeAt g 0 l := fun j v hj => by
  rw [Nat.zero_add, cell_of_row W g j _ t fr h]
  simpa using hj
theorem conv_dig (W : World) (g : Nat) (l : List UInt8) (hl : l.length = 32) (h : W.rangeAt g 0 (cellsOf l)) : Sem.run Try.prog (convert 26 9 (.slice (some ⟨g, 0, none⟩) 32 32)) W = .ok (.string ⟨l.toArray⟩) W := by
  have := run_convert_bytes_back (P := Try.prog) W 26 9 5 ⟨g, 0, none⟩ 32 l Try.underlying26 Try.underlying5 Try.underlying9 (fun j hj => by
    rw [add_plain]
    exact h j _ (cellsOf_at l j hj))
  rw [hl] at this
  exact this
end Go.Proofs.Ytdnhnjimhbbabaa

/- Digests held against one another; sums of texts that lie somewhere. -/
namespace Go.Proofs.Ytdnhnjimhbbabaa
open Go.RowKit Sums
set_option linter.unusedVariables false
theorem hidk {p : Prop} (h : p) : Hid p := h
theorem sizeOf5 (w : World) : (sizeOf 5).run Try.prog w = .ok 1 w := by
  cases hq : Try.prog.info? 5 with
  | none => have := size5; simp [hq] at this
  | some i => have := size5; simp [hq] at this; simp [sizeOf, typeInfo, hq, this]
end Go.Proofs.Ytdnhnjimhbbabaa

/- Laws of memory: variables that are arrays, made, read and written; digests and keys held against one another. -/
namespace Go.Proofs.Ytdnhnjimhbbabaa
open Go.RowKit Sums
set_option linter.unusedVariables false
set_option linter.unusedSimpArgs false
/-- An array read by its row, where the order is drawn. -/
theorem yieldsIf_row {P : Program} {ops : Array Oper} {S : World → Prop} {o : Oper} {a : Act} (hw : Region.wanted o (yielded ops a.tmps) = true) (ty : TypeId) (x : Operand) (ho : o.op = .load ty x) (g : Nat) (hx : a.eval x = .pointer (some ⟨g, 0, none⟩)) (t : TypeId) (cs : Array Value) (fr : Nat × Nat) (d : TypeDesc) (hg : ∀ w, S w → w.heap[g]? = some (.cells cs t fr))
    (hu : P.underlying ty = some d) (hd : d.isRow = true) (hi : (P.info? ty).map (·.size) = some cs.size) : YieldsIf P ops S o (.agg cs) a := by
  have := yieldsIf_load_mid (P := P) (ops := ops) (S := S) hw ty x ho g 0 hx cs.toList d (fun w h => range_row (t := t) (fr := fr) (by simpa using hg w h)) hu hd (by simpa using hi)
  simpa using this
/-- What a write of a whole row leaves. -/
structure Wrote (g : Nat) (D : Array Value) (t : TypeId) (w w' : World) : Prop where
  row : w'.heap[g]? = some (.cells D t (0, 0))
  other : ∀ k, k ≠ g → w'.heap[k]? = w.heap[k]?
  below : ∀ (B : Nat) (a : World), Below B a w → B ≤ g → Below B a w'
theorem wrote_row {w : World} {g : Nat} {Z D : Array Value} {t : TypeId} (h : w.heap[g]? = some (.cells Z t (0, 0))) : Wrote g D t w (w.setRow g D) :=
  ⟨setRow_heap _ _ _ _ t _ h, fun k hk => setRow_other _ _ _ _ hk, fun B a hb hg => below_setRow hb hg _⟩
/-- What a new variable leaves. -/
structure Made (g : Nat) (Z : Array Value) (t : TypeId) (w w' : World) : Prop where
  new : g = w.heap.size
  row : w'.heap[g]? = some (.cells Z t (0, 0))
  below : Below w.heap.size w w'
theorem alloc_size (w : World) (o : Obj) : (w.alloc o).heap.size = w.heap.size + 1 := by simp
/-- A variable that is an array, made; the world behind it is a letter. -/
theorem wpList_new_var {P : Program} {ops : Array Oper} {rest : List Oper} {o : Oper} {a : Act} {w : World} {Q : Exit → Act → World → Prop} (hg : o.guard = none) (t : TypeId) (ho : o.op = .alloc t)
    (cs : Array Value) (hz : (P.info? t).map (fun i => (i.zero, i.size)) = some (some (.agg cs), cs.size)) (h : ∀ g w', Hid (Made g cs t w w') → wpList P ops Q rest (a.put o.dst (.pointer (some ⟨g, 0, none⟩))) w') : wpList P ops Q (o :: rest) a w :=
  wpList_alloc_row hg t ho cs hz (h w.heap.size _ ⟨rfl, heap_alloc_new w _, (Below.refl _ _).alloc (Nat.le_refl _) _⟩)
theorem wpList_set_var {P : Program} {ops : Array Oper} {rest : List Oper} {o : Oper} {a : Act} {w : World} {Q : Exit → Act → World → Prop} (hgd : o.guard = none) (t : TypeId) (x y : Operand) (ho : o.op = .store t x y)
    (g : Nat) (D : Array Value) (hx : a.eval x = .pointer (some ⟨g, 0, none⟩)) (hy : a.eval y = .agg D) (t' : TypeId) (Z : Array Value) (hg : w.heap[g]? = some (.cells Z t' (0, 0))) (hi : (P.info? t).map (·.size) = some D.size) (hold : Z.size = D.size) (h1 : D.all (·.oneCell') = true)
    (h : ∀ w', Hid (Wrote g D t' w w') → wpList P ops Q rest (a.put o.dst undef) w') : wpList P ops Q (o :: rest) a w :=
  wpList_store_row hgd t x y ho g D hx hy t' Z hg hi hold h1 (h _ (wrote_row hg))
/-- An array read out of the midst of a row. -/
theorem yieldsIf_mid {P : Program} {ops : Array Oper} {S : World → Prop} {op : Oper} {a : Act} (hw : Region.wanted op (yielded ops a.tmps) = true) (ty : TypeId) (x : Operand) (ho : op.op = .load ty x)
    (b o : Nat) (hx : a.eval x = .pointer (some ⟨b, o, none⟩)) (D : Array Value) (d : TypeDesc) (hS : ∀ w, S w → w.rangeAt b o D.toList)
    (hu : P.underlying ty = some d) (hd : d.isRow = true) (hi : (P.info? ty).map (·.size) = some D.size) : YieldsIf P ops S op (.agg D) a := by
  have := yieldsIf_load_mid (P := P) (ops := ops) (S := S) hw ty x ho b o hx D.toList d hS hu hd (by simpa using hi)
  simpa using this
theorem slice_at (w : World) (g o : Nat) : (Instr.sliceAt 23 (.pointer (some ⟨g, o, none⟩)) none none none).run Try.prog w = .ok (.slice (some ⟨g, o, none⟩) 32 32) w := by
  simp [Instr.sliceAt, Instr.slice, Instr.sliceBounds, run_underlying Try.underlying23, Instr.sureAddr]
  rw [add_plain]
  simp
theorem conv_at (W : World) (g o : Nat) (l : List UInt8) (hl : l.length = 32) (h : W.rangeAt g o (cellsOf l)) : Sem.run Try.prog (convert 26 9 (.slice (some ⟨g, o, none⟩) 32 32)) W = .ok (.string ⟨l.toArray⟩) W := by
  have := run_convert_bytes_back (P := Try.prog) W 26 9 5 ⟨g, o, none⟩ 32 l Try.underlying26 Try.underlying5 Try.underlying9 (fun j hj => by
    rw [add_plain]
    exact h j _ (cellsOf_at l j hj))
  rw [hl] at this
  exact this
end Go.Proofs.Ytdnhnjimhbbabaa

/- What the document's small functions on heads answer: is a head right; numbers and digests. -/
namespace Go.Proofs.Ytdnhnjimhbbabaa
open Go.RowKit Sums Nums
set_option linter.unusedVariables false
set_option linter.unusedSimpArgs false
set_option maxRecDepth 100000
theorem within_any (n a b : Int) (w : World) : Calls Try.prog 25 #[.int .i64 n, .int .i64 a, .int .i64 b] w fun e w' => e = .returned (.bool (decide (a ≤ n) && decide (n ≤ b))) ∧ w' = w := by
  by_cases h1 : a ≤ n
  · have d1 : decide (a ≤ n) = true := by rw [decide_eq_true_eq]; exact h1
    obtain ⟨x, hx⟩ : ∃ x, decide (n ≤ b) = x := ⟨_, rfl⟩
    rw [d1, hx]
    clear h1
    go_enter Try.func25, Try.ntmps25
    go_wp2
    go_ret
    exact ⟨rfl, rfl⟩
  · have d1 : decide (a ≤ n) = false := by rw [decide_eq_false_iff_not]; exact h1
    rw [d1]
    clear h1
    go_enter Try.func25, Try.ntmps25
    go_wp2
    go_ret
    exact ⟨rfl, rfl⟩
set_option maxHeartbeats 1000000 in
theorem refNum_any (n : Int) (w : World) : Calls Try.prog 27 #[.int .i64 n] w fun e w' => e = .returned (.string (nOf n)) ∧ Below w.heap.size w w' := by
  have NB : Hid (∀ W, Calls Try.prog 36 #[.int .i64 n] W fun e w' => e = .returned (.tuple #[.string (nOf n), .int .i64 (neOf n)]) ∧ Below W.heap.size W w') := fun W => refNumber_any n W
  obtain ⟨s, hs⟩ : ∃ s, s = nOf n := ⟨_, rfl⟩
  obtain ⟨k, hk⟩ : ∃ k, k = neOf n := ⟨_, rfl⟩
  rw [← hs, ← hk] at NB
  rw [← hs]
  clear hs hk
  go_enter Try.func27, Try.ntmps27
  go_wp2_with fail
  refine (NB.out _).mono ?_
  rintro e w1 ⟨rfl, hb⟩
  have HB := hidk hb
  clear hb
  go_wp2
  go_ret
  exact ⟨rfl, HB.out⟩
/-! Heads in memory: three numbers, a digest, a number. -/
def hcells (h : HdT) : List Value := [.int .i64 h.r, .int .i64 h.e, .int .i64 h.s] ++ cellsOf h.d ++ [.int .i64 h.t]
theorem hcells_length (h : HdT) (hd : h.d.length = 32) : (hcells h).length = 36 := by simp [hcells, cellsOf_length, hd]
/-- What the parts of a head's row read as. -/
structure HRow (W : World) (g o : Nat) (h : HdT) : Prop where
  r : W.cell? ⟨g, o, none⟩ = some (.int .i64 h.r)
  e : W.cell? ⟨g, o + 1, none⟩ = some (.int .i64 h.e)
  s : W.cell? ⟨g, o + 2, none⟩ = some (.int .i64 h.s)
  d : W.rangeAt g (o + 3) (cellsOf h.d)
  t : W.cell? ⟨g, o + 35, none⟩ = some (.int .i64 h.t)
theorem hrow_of {W : World} {g o : Nat} {h : HdT} (hd : h.d.length = 32) (hr : W.rangeAt g o (hcells h)) : HRow W g o h := by
  refine ⟨?_, ?_, ?_, ?_, ?_⟩
  · have := hr 0 (.int .i64 h.r) rfl; simpa using this
  · exact hr 1 (.int .i64 h.e) rfl
  · exact hr 2 (.int .i64 h.s) rfl
  · intro j v hj
    have hlt := (List.getElem?_eq_some_iff.1 hj).1
    have := hr (3 + j) v (by
      unfold hcells
      rw [List.append_assoc, List.getElem?_append_right (by simp), List.getElem?_append_left (by simpa using hlt)]
      simpa using hj)
    rw [Nat.add_assoc]; exact this
  · have := hr 35 (.int .i64 h.t) (by
      unfold hcells
      rw [List.getElem?_append_right (by simp [cellsOf_length, hd])]
      simp [cellsOf_length, hd])
    exact this
theorem hrow_new (w : World) (h : HdT) (hd : h.d.length = 32) (C : Array Value) (HC : Hid (C = (hcells h).toArray)) (t : TypeId) : HRow (w.alloc (.cells C t)) w.heap.size 0 h := by
  refine hrow_of hd ?_
  intro j v hj
  rw [Nat.zero_add, cell_of_row _ _ j _ t (0, 0) (heap_alloc_new w _), HC.out]
  simpa using hj
set_option maxHeartbeats 2000000 in
theorem refRight_any (h : HdT) (hd : h.d.length = 32) (w : World) (C : Array Value) (HC : Hid (C = (hcells h).toArray)) :
    Calls Try.prog 12 #[.agg C] w fun e w' => e = .returned (.bool (rightH h)) ∧ Below w.heap.size w w' := by
  have HR := hrow_new w h hd C HC 25
  have HB : Hid (Below w.heap.size w (w.alloc (.cells C 25))) := (Below.refl _ _).alloc (Nat.le_refl _) _
  have c0 := HR.r
  have c1 := HR.e
  have c2 := HR.s
  have c4 := HR.t
  simp only [Nat.zero_add] at c1 c2 c4
  have WI : Hid (∀ (n a b : Int) (W : World), Calls Try.prog 25 #[.int .i64 n, .int .i64 a, .int .i64 b] W fun e w' => e = .returned (.bool (decide (a ≤ n) && decide (n ≤ b))) ∧ w' = W) := within_any
  obtain ⟨b1, hb1⟩ : ∃ b, (decide (1 ≤ h.r) && decide (h.r ≤ 5)) = b := ⟨_, rfl⟩
  obtain ⟨b2, hb2⟩ : ∃ b, (decide (1 ≤ h.e) && decide (h.e ≤ 900000000)) = b := ⟨_, rfl⟩
  obtain ⟨b3, hb3⟩ : ∃ b, (decide (0 ≤ h.s) && decide (h.s ≤ 100000)) = b := ⟨_, rfl⟩
  obtain ⟨b4, hb4⟩ : ∃ b, (decide (0 ≤ h.t) && decide (h.t ≤ 900000000)) = b := ⟨_, rfl⟩
  have W1 := hidk (WI.out h.r 1 5)
  have W2 := hidk (WI.out h.e 1 900000000)
  have W3 := hidk (WI.out h.s 0 100000)
  have W4 := hidk (WI.out h.t 0 900000000)
  rw [hb1] at W1
  rw [hb2] at W2
  rw [hb3] at W3
  rw [hb4] at W4
  have hE : rightH h = (b1 && (b2 && (b3 && b4))) := by
    rw [← hb1, ← hb2, ← hb3, ← hb4]
    unfold rightH
    simp only [Bool.and_assoc]
  rw [hE]
  obtain ⟨r, hr⟩ : ∃ r, r = h.r := ⟨_, rfl⟩
  obtain ⟨e, he⟩ : ∃ r, r = h.e := ⟨_, rfl⟩
  obtain ⟨s, hs⟩ : ∃ r, r = h.s := ⟨_, rfl⟩
  obtain ⟨t, ht⟩ : ∃ r, r = h.t := ⟨_, rfl⟩
  rw [← hr] at c0 W1
  rw [← he] at c1 W2
  rw [← hs] at c2 W3
  rw [← ht] at c4 W4
  clear hE hb1 hb2 hb3 hb4 WI HR hr he hs ht HC
  cases b1
  · go_enter Try.func12, Try.ntmps12
    go_wp2_with fail
    refine (W1.out _).mono ?_
    rintro e w1 ⟨rfl, rfl⟩
    go_wp2
    go_ret
    exact ⟨rfl, HB.out⟩
  cases b2
  · go_enter Try.func12, Try.ntmps12
    go_wp2_with fail
    refine (W1.out _).mono ?_
    rintro e w1 ⟨rfl, rfl⟩
    go_wp2_with fail
    refine (W2.out _).mono ?_
    rintro e w1 ⟨rfl, rfl⟩
    go_wp2
    go_ret
    exact ⟨rfl, HB.out⟩
  cases b3
  · go_enter Try.func12, Try.ntmps12
    go_wp2_with fail
    refine (W1.out _).mono ?_
    rintro e w1 ⟨rfl, rfl⟩
    go_wp2_with fail
    refine (W2.out _).mono ?_
    rintro e w1 ⟨rfl, rfl⟩
    go_wp2_with fail
    refine (W3.out _).mono ?_
    rintro e w1 ⟨rfl, rfl⟩
    go_wp2
    go_ret
    exact ⟨rfl, HB.out⟩
  · go_enter Try.func12, Try.ntmps12
    go_wp2_with fail
    refine (W1.out _).mono ?_
    rintro e w1 ⟨rfl, rfl⟩
    go_wp2_with fail
    refine (W2.out _).mono ?_
    rintro e w1 ⟨rfl, rfl⟩
    go_wp2_with fail
    refine (W3.out _).mono ?_
    rintro e w1 ⟨rfl, rfl⟩
    go_wp2_with fail
    refine (W4.out _).mono ?_
    rintro e w1 ⟨rfl, rfl⟩
    go_wp2
    go_ret
    exact ⟨rfl, HB.out⟩
end Go.Proofs.Ytdnhnjimhbbabaa

/- Rows of bytes: made, and written byte by byte; the new world is a letter. -/
namespace Go.Proofs.Ytdnhnjimhbbabaa
open Go.RowKit Sums
set_option linter.unusedVariables false
set_option linter.unusedSimpArgs false
theorem wrote_cell {w : World} {g i : Nat} {cs : Array Value} {t : TypeId} (v : Value) (h : w.heap[g]? = some (.cells cs t (0, 0))) : Wrote g (cs.setIfInBounds i v) t w (w.setCell ⟨g, i, none⟩ v) :=
  ⟨Go.heap_setCell_same w g i cs t v h, fun k hk => Below.heap_setCell _ _ _ _ hk, fun B a hb hg => hb.setCell hg _⟩
end Go.Proofs.Ytdnhnjimhbbabaa

/- What pack's fault and appendField do: the fault of a field; a field's bytes behind bytes that are owned. -/
namespace Go.Proofs.Ytdnhnjimhbbabaa
open Go.RowKit Nums
set_option maxRecDepth 100000
theorem cellsOf_str (s : ByteArray) : Lib.strCells s = cellsOf s.data.toList := rfl
theorem fault_any (last tag : Int) (d : ByteArray) (w : World) (hd : d.size ≤ maxLen) :
    Calls Try.prog 33 #[.int .i64 last, .agg #[.int .i64 tag, .string d]] w fun e w' => e = .returned (.int .i64 (faultOf last tag d.size)) ∧ Below w.heap.size w w' := by
  unfold maxLen at hd
  have hb : Below w.heap.size w (w.alloc (.cells #[.int .i64 tag, .string d] 37)) := (Below.refl _ _).alloc (Nat.le_refl _) _
  by_cases h1 : tag ≤ last
  · have HF : Hid (faultOf last tag d.size = 1) := by simp [Hid, faultOf, h1]
    go_enter Try.func33, Try.ntmps33
    go_wp2
    go_ret
    rw [HF.out]
    exact ⟨rfl, hb⟩
  · by_cases h2 : 255 < tag
    · have HF : Hid (faultOf last tag d.size = 1) := by simp [Hid, faultOf, h2]
      go_enter Try.func33, Try.ntmps33
      go_wp2
      go_ret
      rw [HF.out]
      exact ⟨rfl, hb⟩
    · by_cases h3 : (65536 : Int) < (d.size : Int)
      · have HF : Hid (faultOf last tag d.size = 2) := by
          show _ = _
          rw [faultOf, if_neg (by omega), if_pos (by omega)]
        go_enter Try.func33, Try.ntmps33
        go_wp2
        go_ret
        rw [HF.out]
        exact ⟨rfl, hb⟩
      · have HF : Hid (faultOf last tag d.size = 0) := by
          show _ = _
          rw [faultOf, if_neg (by omega), if_neg (by omega)]
        go_enter Try.func33, Try.ntmps33
        go_wp2
        go_ret
        rw [HF.out]
        exact ⟨rfl, hb⟩
theorem row_low {w : World} {B : Nat} {v : Value} {n : Nat} {xs : List Value} (h : w.ownsRow B 5 1 v n xs) : ∀ k, v.ownBlock = some k → B ≤ k := fun k hk => (h.lt k hk).1
theorem head_cells (tag : Nat) (d : ByteArray) (htag : tag ≤ 255) (hd : d.size ≤ 65536) :
    [Value.int .u8 (tag : Int), .int .u8 ((d.size : Int) / 65536), .int .u8 ((d.size : Int) / 256 % 256), .int .u8 ((d.size : Int) % 256)] ++ Lib.strCells d = cellsOf (fieldBytes tag d.data.toList) := by
  have hl : d.data.toList.length = d.size := by simp
  have e1 : (tag : Int) = (tag : Int) % 256 := by omega
  have e2 : (d.size : Int) / 65536 = (d.size : Int) / 65536 % 256 := by omega
  rw [cellsOf_str, fieldBytes, hl, e1, e2]
  simp only [cellsOf, List.map_cons, List.cons_append, List.nil_append, byte_mod]
  rfl
end Go.Proofs.Ytdnhnjimhbbabaa

/- What pack.Get answers. -/
namespace Go.Proofs.Ytdnhnjimhbbabaa
open Go.RowKit Nums
set_option maxRecDepth 100000
theorem get_short (a : Option Addr) (len cap : Nat) (w : World) (h : len < 4) :
    Calls Try.prog 41 #[.slice a len cap] w fun e w' => e = .returned (.tuple #[.agg #[.int .i64 0, .string ⟨#[]⟩], .int .i64 0, .int .i64 10]) ∧ Below w.heap.size w w' := by
  go_enter Try.func41, Try.ntmps41
  go_wp2
  refine bodyPost_ret (v := .tuple #[.agg #[.int .i64 0, .string ⟨#[]⟩], .int .i64 0, .int .i64 10]) (by simp [results, Try.results41, go_sem]) rfl ⟨rfl, ?_⟩
  exact (Below.refl _ _).alloc (Nat.le_refl _) _
/-- The world in which Get's answer lies: a block of its own. -/
theorem below_get (w : World) (nq : Nat) (x y : Value) :
    Below w.heap.size w ((((w.alloc (.cells #[.int .i64 0, .string ⟨#[]⟩] 37)).drewN nq).setCell ⟨w.heap.size, 0, none⟩ x).setCell ⟨w.heap.size, 1, none⟩ y) :=
  ((below_drewN ((Below.refl _ _).alloc (Nat.le_refl _) _) nq).setCell (Nat.le_refl _) _).setCell (Nat.le_refl _) _
set_option maxHeartbeats 1000000 in
theorem get_form (b off len cap : Nat) (w : World) (h : 4 ≤ len) (c0 c1 c2 c3 N : Nat) (hb : b < w.heap.size)
    (h0 : w.cell? ⟨b, off, none⟩ = some (.int .u8 c0)) (h1 : w.cell? ⟨b, off + 1, none⟩ = some (.int .u8 c1))
    (h2 : w.cell? ⟨b, off + 2, none⟩ = some (.int .u8 c2)) (h3 : w.cell? ⟨b, off + 3, none⟩ = some (.int .u8 c3))
    (g0 : (c0 : Int) ≤ 255) (g1 : (c1 : Int) ≤ 255) (g2 : (c2 : Int) ≤ 255) (g3 : (c3 : Int) ≤ 255) (hN : (N : Int) ≤ 16777215)
    (hbits : bits .or .i64 (bits .or .i64 ((c1 : Int) * 65536) ((c2 : Int) * 256)) (c3 : Int) = (N : Int))
    (hc : ((c0 : Int) == 0) = true ∨ (((c0 : Int) == 0) = false ∧ (65536 : Int) < (N : Int))) :
    Calls Try.prog 41 #[.slice (some ⟨b, off, none⟩) len cap] w fun e w' => e = .returned (.tuple #[.agg #[.int .i64 0, .string ⟨#[]⟩], .int .i64 0, .int .i64 11]) ∧ Below w.heap.size w w' := by
  have l0 : (0 : Int) < (len : Int) := by omega
  have l1 : (1 : Int) < (len : Int) := by omega
  have l2 : (2 : Int) < (len : Int) := by omega
  have l3 : (3 : Int) < (len : Int) := by omega
  rcases hc with hc | ⟨hc, hc2⟩
  all_goals
    go_enter Try.func41, Try.ntmps41
    go_wp2
    go_quiet (fail)
    go_wp2
    exact bodyPost_ret (v := .tuple #[.agg #[.int .i64 0, .string ⟨#[]⟩], .int .i64 0, .int .i64 11]) (by simp [results, Try.results41, go_sem]) rfl ⟨rfl, below_get _ _ _ _⟩
set_option maxHeartbeats 1000000 in
theorem get_cut (b off len cap : Nat) (w : World) (h : 4 ≤ len) (c0 c1 c2 c3 N : Nat) (hb : b < w.heap.size)
    (h0 : w.cell? ⟨b, off, none⟩ = some (.int .u8 c0)) (h1 : w.cell? ⟨b, off + 1, none⟩ = some (.int .u8 c1))
    (h2 : w.cell? ⟨b, off + 2, none⟩ = some (.int .u8 c2)) (h3 : w.cell? ⟨b, off + 3, none⟩ = some (.int .u8 c3))
    (g0 : (c0 : Int) ≤ 255) (g1 : (c1 : Int) ≤ 255) (g2 : (c2 : Int) ≤ 255) (g3 : (c3 : Int) ≤ 255) (hN : (N : Int) ≤ 65536)
    (hbits : bits .or .i64 (bits .or .i64 ((c1 : Int) * 65536) ((c2 : Int) * 256)) (c3 : Int) = (N : Int))
    (hc : ((c0 : Int) == 0) = false) (hl : (len : Int) < 4 + (N : Int)) :
    Calls Try.prog 41 #[.slice (some ⟨b, off, none⟩) len cap] w fun e w' => e = .returned (.tuple #[.agg #[.int .i64 0, .string ⟨#[]⟩], .int .i64 0, .int .i64 10]) ∧ Below w.heap.size w w' := by
  have l0 : (0 : Int) < (len : Int) := by omega
  have l1 : (1 : Int) < (len : Int) := by omega
  have l2 : (2 : Int) < (len : Int) := by omega
  have l3 : (3 : Int) < (len : Int) := by omega
  have hn : ¬ (65536 : Int) < (N : Int) := by omega
  go_enter Try.func41, Try.ntmps41
  go_wp2
  go_quiet (fail)
  go_wp2
  exact bodyPost_ret (v := .tuple #[.agg #[.int .i64 0, .string ⟨#[]⟩], .int .i64 0, .int .i64 10]) (by simp [results, Try.results41, go_sem]) rfl ⟨rfl, below_get _ _ _ _⟩
set_option maxHeartbeats 1000000 in
theorem get_field (b off len cap : Nat) (w : World) (h : 4 ≤ len) (c0 c1 c2 c3 N : Nat) (hb : b < w.heap.size) (hlc : len ≤ cap) (hcm : cap ≤ 9223372036854775807)
    (h0 : w.cell? ⟨b, off, none⟩ = some (.int .u8 c0)) (h1 : w.cell? ⟨b, off + 1, none⟩ = some (.int .u8 c1))
    (h2 : w.cell? ⟨b, off + 2, none⟩ = some (.int .u8 c2)) (h3 : w.cell? ⟨b, off + 3, none⟩ = some (.int .u8 c3))
    (g0 : (c0 : Int) ≤ 255) (g1 : (c1 : Int) ≤ 255) (g2 : (c2 : Int) ≤ 255) (g3 : (c3 : Int) ≤ 255) (hN : (N : Int) ≤ 65536)
    (hbits : bits .or .i64 (bits .or .i64 ((c1 : Int) * 65536) ((c2 : Int) * 256)) (c3 : Int) = (N : Int))
    (hc : ((c0 : Int) == 0) = false) (hl : 4 + (N : Int) ≤ (len : Int)) (d : List UInt8) (hd : d.length = N) (hdata : ∀ (j : Nat) (hj : j < d.length), w.cell? ⟨b, off + 4 + j, none⟩ = some (.int .u8 d[j].toNat)) :
    Calls Try.prog 41 #[.slice (some ⟨b, off, none⟩) len cap] w fun e w' => e = .returned (.tuple #[.agg #[.int .i64 c0, .string ⟨d.toArray⟩], .int .i64 (4 + N), .int .i64 0]) ∧ Below w.heap.size w w' := by
  have l0 : (0 : Int) < (len : Int) := by omega
  have l1 : (1 : Int) < (len : Int) := by omega
  have l2 : (2 : Int) < (len : Int) := by omega
  have l3 : (3 : Int) < (len : Int) := by omega
  have hn : ¬ (65536 : Int) < (N : Int) := by omega
  have hl' : ¬ (len : Int) < 4 + (N : Int) := by omega
  by_cases hcap : cap = 4
  · have hlen : len = 4 := by omega
    have hN0 : N = 0 := by omega
    subst hN0 hlen hcap
    have hd0 : d = [] := List.eq_nil_of_length_eq_zero hd
    subst hd0
    have hconv : ∀ nq, Sem.run Try.prog (convert 26 9 (.slice (some ⟨b, off, none⟩) 0 0)) ((w.alloc (.cells #[.int .i64 0, .string ⟨#[]⟩] 37)).drewN nq) = .ok (.string ⟨#[]⟩) ((w.alloc (.cells #[.int .i64 0, .string ⟨#[]⟩] 37)).drewN nq) :=
      fun nq => run_convert_bytes_back (P := Try.prog) _ 26 9 5 ⟨b, off, none⟩ 0 [] Try.underlying26 Try.underlying5 Try.underlying9 (fun j hj => by simp at hj)
    clear hdata hd
    go_enter Try.func41, Try.ntmps41
    go_wp2
    go_quiet (fail)
    go_wp2
    exact bodyPost_ret (v := .tuple #[.agg #[.int .i64 c0, .string ⟨#[]⟩], .int .i64 4, .int .i64 0]) (by simp [results, Try.results41, go_sem]) rfl ⟨rfl, below_get _ _ _ _⟩
  · have hconv : ∀ nq, Sem.run Try.prog (convert 26 9 (.slice (some ⟨b, off + 4, none⟩) N (cap - 4))) ((w.alloc (.cells #[.int .i64 0, .string ⟨#[]⟩] 37)).drewN nq) = .ok (.string ⟨d.toArray⟩) ((w.alloc (.cells #[.int .i64 0, .string ⟨#[]⟩] 37)).drewN nq) := by
      intro nq
      have := run_convert_bytes_back (P := Try.prog) ((w.alloc (.cells #[.int .i64 0, .string ⟨#[]⟩] 37)).drewN nq) 26 9 5 ⟨b, off + 4, none⟩ (cap - 4) d Try.underlying26 Try.underlying5 Try.underlying9 (fun j hj => by
        rw [add_plain]
        have h1 : Below w.heap.size w ((w.alloc (.cells #[.int .i64 0, .string ⟨#[]⟩] 37)).drewN nq) := below_drewN ((Below.refl _ _).alloc (Nat.le_refl _) _) nq
        rw [h1.cell (p := ⟨b, off + 4 + j, none⟩) hb]
        exact hdata j hj)
      rw [hd] at this
      exact this
    clear hdata hd
    go_enter Try.func41, Try.ntmps41
    go_wp2
    go_quiet (fail)
    go_wp2
    exact bodyPost_ret (v := .tuple #[.agg #[.int .i64 c0, .string ⟨d.toArray⟩], .int .i64 (4 + N), .int .i64 0]) (by simp [results, Try.results41, go_sem]) rfl ⟨rfl, below_get _ _ _ _⟩
end Go.Proofs.Ytdnhnjimhbbabaa

/- Both Gets answer as one plain function of the bytes. -/
namespace Go.Proofs.Ytdnhnjimhbbabaa
open Go.RowKit Nums
set_option maxRecDepth 100000
/-- A slice of bytes that can be read: its bytes are l. -/
def Reads (w : World) (a : Option Addr) (len cap : Nat) (l : List UInt8) : Prop :=
  l.length = len ∧ len ≤ cap ∧ cap ≤ 9223372036854775807 ∧
  ((a = none ∧ cap = 0) ∨ (∃ ad, a = some ad ∧ len = 0) ∨ ∃ b off, a = some ⟨b, off, none⟩ ∧ b < w.heap.size ∧ ∀ (i : Nat) (h : i < l.length), w.cell? ⟨b, off + i, none⟩ = some (.int .u8 l[i].toNat))
theorem Reads.below {w w' : World} {a : Option Addr} {len cap : Nat} {l : List UInt8} (h : Reads w a len cap l) (hb : Below w.heap.size w w') : Reads w' a len cap l := by
  obtain ⟨h1, h2, h3, h4⟩ := h
  refine ⟨h1, h2, h3, ?_⟩
  rcases h4 with h4 | h4 | ⟨b, off, e, hlt, hc⟩
  · exact .inl h4
  · exact .inr (.inl h4)
  · refine .inr (.inr ?_)
    exact ⟨b, off, e, Nat.lt_of_lt_of_le hlt hb.size, fun i hi => (hb.cell (p := ⟨b, off + i, none⟩) hlt).trans (hc i hi)⟩
def gotten (l : List UInt8) : Ending := .returned (.tuple #[.agg #[.int .i64 (gT l), .string ⟨(gD l).toArray⟩], .int .i64 (gN l), .int .i64 (gE l)])
theorem gotten_no {l : List UInt8} {k : Nat} (h : gE l = k) (hk : k ≠ 0) : gotten l = .returned (.tuple #[.agg #[.int .i64 0, .string ⟨#[]⟩], .int .i64 0, .int .i64 k]) := by
  have h0 : gE l ≠ 0 := by omega
  rw [gotten, gT, gD, gN, if_neg h0, if_neg h0, if_neg h0, h]; rfl
theorem gotten_yes {l : List UInt8} (h : gE l = 0) : gotten l = .returned (.tuple #[.agg #[.int .i64 ((l.getD 0 0).toNat : Nat), .string ⟨((l.drop 4).take (size3 l)).toArray⟩], .int .i64 (4 + (size3 l : Int)), .int .i64 0]) := by
  simp [gotten, gT, gD, gN, h]
/-- What a walk needs to know of bytes that are long enough. -/
theorem Reads.heads {w : World} {a : Option Addr} {len cap : Nat} {l : List UInt8} (h : Reads w a len cap l) (h4 : 4 ≤ len) :
    ∃ b off, a = some ⟨b, off, none⟩ ∧ b < w.heap.size ∧ w.cell? ⟨b, off, none⟩ = some (.int .u8 (l.getD 0 0).toNat) ∧ w.cell? ⟨b, off + 1, none⟩ = some (.int .u8 (l.getD 1 0).toNat) ∧
      w.cell? ⟨b, off + 2, none⟩ = some (.int .u8 (l.getD 2 0).toNat) ∧ w.cell? ⟨b, off + 3, none⟩ = some (.int .u8 (l.getD 3 0).toNat) ∧
      ∀ (n : Nat), 4 + n ≤ len → ((l.drop 4).take n).length = n ∧ ∀ (j : Nat) (hj : j < ((l.drop 4).take n).length), w.cell? ⟨b, off + 4 + j, none⟩ = some (.int .u8 ((l.drop 4).take n)[j].toNat) := by
  obtain ⟨h1, h2, h3, ⟨_, h0⟩ | ⟨_, _, h0⟩ | ⟨b, off, e, hlt, hc⟩⟩ := h
  · omega
  · omega
  · have hg : ∀ i, i < len → w.cell? ⟨b, off + i, none⟩ = some (.int .u8 (l.getD i 0).toNat) := fun i hi => by
      rw [hc i (by omega), List.getD, List.getElem?_eq_getElem (by omega)]; rfl
    refine ⟨b, off, e, hlt, hg 0 (by omega), hg 1 (by omega), hg 2 (by omega), hg 3 (by omega), ?_⟩
    intro n hn
    refine ⟨by simp; omega, fun j hj => ?_⟩
    have hj' : j < n := by simp at hj; omega
    have := hc (4 + j) (by omega)
    rw [← Nat.add_assoc] at this
    rw [this]
    simp
theorem get_any (a : Option Addr) (len cap : Nat) (l : List UInt8) (w : World) (h : Reads w a len cap l) :
    Calls Try.prog 41 #[.slice a len cap] w fun e w' => e = gotten l ∧ Below w.heap.size w w' := by
  by_cases h4 : len < 4
  · rw [gotten_no (gE_short (by rw [h.1]; exact h4)) (by decide)]
    exact get_short a len cap w h4
  · obtain ⟨b, off, rfl, hlt, h0, h1, h2, h3, hd⟩ := h.heads (by omega)
    have n0 : ¬ l.length < 4 := by rw [h.1]; exact h4
    have b0 := (l.getD 0 0).toNat_lt
    have b1 := (l.getD 1 0).toNat_lt
    have b2 := (l.getD 2 0).toNat_lt
    have b3 := (l.getD 3 0).toNat_lt
    have hb := or3 _ _ _ b1 b2 b3
    change _ = ((size3 l : Nat) : Int) at hb
    have hs : size3 l ≤ 16777215 := by unfold size3; omega
    by_cases hf : (l.getD 0 0).toNat = 0 ∨ 65536 < size3 l
    · rw [gotten_no (gE_form n0 hf) (by decide)]
      exact get_form b off len cap w (by omega) _ _ _ _ (size3 l) hlt h0 h1 h2 h3 (by omega) (by omega) (by omega) (by omega) (by omega) hb (by
        by_cases hz : (l.getD 0 0).toNat = 0
        · left; rw [hz]; rfl
        · right; exact ⟨by simpa using hz, by omega⟩)
    · have hz : (((l.getD 0 0).toNat : Int) == 0) = false := by
        have : ¬ (l.getD 0 0).toNat = 0 := fun h => hf (.inl h)
        simpa using this
      by_cases hc : l.length < 4 + size3 l
      · rw [gotten_no (gE_cut n0 hf hc) (by decide)]
        exact get_cut b off len cap w (by omega) _ _ _ _ (size3 l) hlt h0 h1 h2 h3 (by omega) (by omega) (by omega) (by omega) (by omega) hb hz (by rw [h.1] at hc; omega)
      · rw [gotten_yes (gE_ok n0 hf hc)]
        have hl : 4 + size3 l ≤ len := by rw [h.1] at hc; omega
        exact get_field b off len cap w (by omega) _ _ _ _ (size3 l) hlt h.2.1 h.2.2.1 h0 h1 h2 h3 (by omega) (by omega) (by omega) (by omega) (by omega) hb hz (by omega) _ (hd _ hl).1 (hd _ hl).2
end Go.Proofs.Ytdnhnjimhbbabaa

/- Rows that the call owns, and bytes that can be read: what appends do to them. -/
namespace Go.Proofs.Ytdnhnjimhbbabaa
open Go.RowKit Nums
set_option maxRecDepth 100000
theorem own_lower {w : World} {B B' e size n : Nat} {v : Value} {xs : List Value} (h : w.ownsRow B e size v n xs) (hB : B' ≤ B) : w.ownsRow B' e size v n xs := by
  refine ⟨h.1, ?_⟩
  rcases h.2 with h2 | ⟨g, cap, cur, e1, hb, r⟩
  · exact .inl h2
  · exact .inr ⟨g, cap, cur, e1, Nat.le_trans hB hb, r⟩
theorem reads_none (w : World) : Reads w none 0 0 [] := ⟨rfl, Nat.le_refl _, by decide, .inl ⟨rfl, rfl⟩⟩
/-- What is owned can be read. -/
theorem reads_own {w : World} {B : Nat} {v : Value} {l : List UInt8} (h : w.ownsRow B 5 1 v l.length (cellsOf l)) : ∃ a cap, v = .slice a l.length cap ∧ Reads w a l.length cap l := by
  rcases h.2 with ⟨rfl, h0⟩ | ⟨g, cap, cur, rfl, hb, hg, hn, hm, hs, ht⟩
  · refine ⟨none, 0, by rw [h0], rfl, by omega, by decide, .inl ⟨rfl, rfl⟩⟩
  · have hlt := (h.lt g rfl).2
    refine ⟨_, _, rfl, rfl, hn, by unfold maxLen at hm; omega, .inr (.inr ⟨g, 0, rfl, hlt, fun i hi => ?_⟩)⟩
    have := cells_at h rfl i hi
    rwa [add_plain] at this
end Go.Proofs.Ytdnhnjimhbbabaa

/- What the document's own Bytes answers. -/
namespace Go.Proofs.Ytdnhnjimhbbabaa
open Go.RowKit Nums

set_option maxRecDepth 100000
set_option maxHeartbeats 1000000 in
theorem bytes_any (tag : Nat) (d : ByteArray) (w : World) (hd : d.size ≤ 65536) (htag : tag ≤ 255) :
    Calls Try.prog 35 #[.int .i64 tag, .string d] w fun e w' => ∃ v', e = .returned v' ∧
      w'.ownsRow w.heap.size 5 1 v' (fieldBytes tag d.data.toList).length (cellsOf (fieldBytes tag d.data.toList)) ∧ Below w.heap.size w w' := by
  obtain ⟨i0, hi, hz0, hz1, hz2⟩ := info_parts info5
  have hown : (w.alloc (.cells #[.int .u8 (tag : Int), .int .u8 ((d.size : Int) / 65536), .int .u8 ((d.size : Int) / 256 % 256), .int .u8 ((d.size : Int) % 256)] 5)).ownsRow w.heap.size 5 1 (.slice (some ⟨w.heap.size, 0, none⟩) 4 4) 4 [.int .u8 (tag : Int), .int .u8 ((d.size : Int) / 65536), .int .u8 ((d.size : Int) / 256 % 256), .int .u8 ((d.size : Int) % 256)] :=
    World.ownsRow_lit w _ 4 (Nat.le_refl _) (by decide) rfl
  have HOWN : Hid _ := hown
  clear hown
  have HB : Hid (∀ o, Below w.heap.size w (w.alloc o)) := fun o => (Below.refl _ _).alloc (Nat.le_refl _) _
  go_enter Try.func35, Try.ntmps35
  go_wp2_with (first
    | (at_builtin; refine Lib.wpList_append_own_string _ rfl (.tmp 20) (.tmp 21) 26 9 rfl w.heap.size 5 i0 Try.underlying26 Try.underlying9 hi hz0 hz1 hz2 _ _ _ rfl HOWN.out d rfl ?d1 ?d2 ?d3 ?_)
    | fail)
  case d1 => unfold maxLen; omega
  case d2 => omega
  case d3 => simp
  intro v2 w2 hown2 hgrow2 _
  have hb2 : Below w.heap.size w w2 := (HB.out _).grown hgrow2 (by simp) (by intro k hk; simp [Value.ownBlock] at hk; omega)
  have hown3 : w2.ownsRow w.heap.size 5 1 v2 (fieldBytes tag d.data.toList).length (cellsOf (fieldBytes tag d.data.toList)) := by
    have e1 : (fieldBytes tag d.data.toList).length = 4 + d.size := by rw [fieldBytes_length]; simp
    rw [e1, ← head_cells tag d htag hd]
    simpa only [List.append_assoc, List.cons_append, List.nil_append] using hown2
  clear hown2 hgrow2
  go_wp2
  go_ret
  exact ⟨_, rfl, hown3, hb2⟩
end Go.Proofs.Ytdnhnjimhbbabaa

/- What the keeper's Lent and Kept do: bytes in memory of their own with seven marked places behind them; are they as they were? -/
namespace Go.Proofs.Ytdnhnjimhbbabaa
open Go.RowKit Nums
set_option maxRecDepth 100000
theorem wpList_append_run {P : Program} {w : World} {ops : Array Oper} {rest : List Oper} {o : Oper} {a : Act} {Q : Exit → Act → World → Prop} (hgd : o.guard = none) (s x : Operand) (t u : TypeId)
    (ho : o.op = .call { callee := .builtin .append, args := #[s, x], argTypes := #[t, u] }) (vs vx v' : Value) (w' : World) (hs : a.eval s = vs) (hx : a.eval x = vx)
    (hrun : (Builtin.append_ #[t, u] o.type #[vs, vx]).run P w = .ok v' w') (h : wpList P ops Q rest (a.put o.dst v') w') : wpList P ops Q (o :: rest) a w := by
  refine wpList_plain hgd fun K hK => ?_
  unfold Oper.wp execOp
  simp only [ho, resolve, invoke, builtin, Sem.run_bind, Sem.run_pure, Result.andThen_ok, List.map_toArray, List.map_cons, List.map_nil, hs, hx, hrun]
  exact hK _ _ h
/-- Bytes that can be read, appended to a row that is owned, whether there is room or not. -/
theorem run_append_grows {w : World} {a : Option Addr} {len cap : Nat} {l : List UInt8} (h : Reads w a len cap l) (B n ty : Nat) (v : Value) (xs : List UInt8)
    (hown : w.ownsRow B 5 1 v n (cellsOf xs)) (hB : B ≤ w.heap.size) (hb : n + len ≤ 140737488355328) :
    ∃ v' w', (Builtin.append_ #[26, 26] ty #[v, .slice a len cap]).run Try.prog w = .ok v' w' ∧
      w'.ownsRow B 5 1 v' (n + len) (cellsOf (xs ++ l)) ∧ w.grownBy w' v.ownBlock := by
  obtain ⟨i0, hi, hz0, hz1, hz2⟩ := info_parts info5
  obtain ⟨h1, h2, h3, ⟨rfl, h0⟩ | ⟨ad, rfl, h0⟩ | ⟨b, off, rfl, hlt, hc⟩⟩ := h
  · have hl0 : len = 0 := by omega
    subst h0 hl0
    have hl : l = [] := List.eq_nil_of_length_eq_zero h1
    subst hl
    refine ⟨v, w, run_append_owned_none (P := Try.prog) w B 26 ty 5 i0 1 Try.underlying26 hi _ n _ hown, ?_, World.grownBy.refl _ _⟩
    simpa using hown
  · subst h0
    have hl : l = [] := List.eq_nil_of_length_eq_zero h1
    subst hl
    obtain ⟨v', w', hr, ho, hg, _⟩ := run_append_own (P := Try.prog) w B 26 ty 5 i0 (.int .u8 0) 1 1 Try.underlying26 hi hz0 hz1 hz2 rfl (by decide) v n _ hown ad 0 cap [] rfl (by simp) (by simp) (by unfold maxLen; omega) (by omega) hB
    refine ⟨v', w', hr, ?_, hg⟩
    simpa using ho
  · obtain ⟨v', w', hr, ho, hg, _⟩ := run_append_own (P := Try.prog) w B 26 ty 5 i0 (.int .u8 0) 1 1 Try.underlying26 hi hz0 hz1 hz2 rfl (by decide) v n _ hown ⟨b, off, none⟩ len cap (cellsOf l) (by rw [cellsOf_length, h1]; omega) (fun j u hj => by
      rw [add_plain]
      have hjl : j < l.length := by
        rcases Nat.lt_or_ge j l.length with h | h
        · exact h
        · rw [List.getElem?_eq_none (by rw [cellsOf_length]; exact h)] at hj; cases hj
      rw [hc j hjl]
      simpa [cellsOf, List.getElem?_eq_getElem hjl] using hj) (cellsOf_one l) (by unfold maxLen; omega) (by omega) hB
    refine ⟨v', w', hr, ?_, hg⟩
    rw [cellsOf_append]
    exact ho
end Go.Proofs.Ytdnhnjimhbbabaa

/- What the document's Digest and Row answer. -/
namespace Go.Proofs.Ytdnhnjimhbbabaa
open Go.RowKit Sums Nums
set_option linter.unusedVariables false
set_option linter.unusedSimpArgs false
set_option maxRecDepth 100000
/-! A row of the tags from 1 on. -/
theorem tagsN_succ (n : Nat) : tagsN (n + 1) = tagsN n ++ [(n : Int) + 1] := by unfold tagsN; rw [List.range_succ, List.map_append]; rfl
theorem fieldsN_snoc (l : List ByteArray) (x : ByteArray) : fieldsN (l ++ [x]) = fieldsN l ++ [((l.length : Int) + 1, x)] := by
  unfold fieldsN
  rw [List.length_append, List.length_singleton, tagsN_succ, List.zip_append (by rw [tagsN_length])]
  rfl
theorem row_next (l : List ByteArray) (k : Nat) (hk : k < l.length) : rowB (fieldsN (l.take (k + 1))) = rowB (fieldsN (l.take k)) ++ fieldBytesI ((k : Int) + 1) (l[k]).data.toList := by
  rw [List.take_add_one, List.getElem?_eq_getElem hk]
  simp only [Option.toList_some]
  rw [fieldsN_snoc, rowB_append, List.length_take, Nat.min_eq_left (by omega)]
  simp [rowB]
theorem rowB_small : ∀ (fs : List (Int × ByteArray)), (∀ f ∈ fs, f.2.size ≤ 65536) → (rowB fs).length ≤ 65540 * fs.length
  | [], _ => by simp [rowB]
  | f :: r, h => by
    have h1 := h f (by simp)
    have h2 := rowB_small r (fun x hx => h x (List.mem_cons_of_mem _ hx))
    show (fieldBytesI f.1 f.2.data.toList ++ rowB r).length ≤ _
    rw [List.length_append, fieldBytesI_length]
    have : f.2.data.toList.length = f.2.size := rfl
    simp only [List.length_cons]
    omega
theorem fieldsN_mem {l : List ByteArray} {f : Int × ByteArray} (h : f ∈ fieldsN l) : f.2 ∈ l := by
  unfold fieldsN at h
  exact (List.of_mem_zip h).2
theorem fieldsN_length (l : List ByteArray) : (fieldsN l).length = l.length := by
  unfold fieldsN
  rw [List.length_zip, tagsN_length, Nat.min_self]
set_option maxHeartbeats 4000000 in
theorem refRow_any (a : Option Addr) (len cap : Nat) (l : List ByteArray) (w : World) (hT : Texts w a len l) (hl : len ≤ 200) (hs : ∀ s ∈ l, s.size ≤ 65536) :
    Calls Try.prog 26 #[.slice a len cap] w fun e w' => ∃ v, e = .returned v ∧ w'.ownsRow w.heap.size 5 1 v (rowB (fieldsN l)).length (cellsOf (rowB (fieldsN l))) ∧ Below w.heap.size w w' := by
  have hlen : l.length = len := hT.1
  have HT := hidk hT
  have HS := hidk hs
  have HN0 : Hid (w.ownsRow w.heap.size 5 1 (.slice none 0 0) (rowB (fieldsN (l.take 0))).length (cellsOf (rowB (fieldsN (l.take 0))))) := World.ownsRow_nil _ _ _ _
  clear hT hs
  go_enter Try.func26, Try.ntmps26
  go_wp2
  go_loopw [3, 4] (fun v i wr => ∃ k : Nat, k ≤ len ∧ i = .int .i64 k ∧ Hid (wr.ownsRow w.heap.size 5 1 v (rowB (fieldsN (l.take k))).length (cellsOf (rowB (fieldsN (l.take k)))) ∧ Below w.heap.size w wr)) (fun _ i _ => len - (intOf i).toNat)
  case atStart => exact ⟨0, by omega, rfl, HN0.out, Below.refl _ _⟩
  case round =>
    clear HN0
    obtain ⟨k, hk, rfl, HO⟩ := hrel
    by_cases hlt : k < len
    · have hkl : k < l.length := by omega
      obtain ⟨p, HP⟩ : ∃ p, Hid (p = l[k]) := ⟨l[k], hidk rfl⟩
      obtain ⟨b, off, rfl, hcell⟩ : ∃ b off, a = some ⟨b, off, none⟩ ∧ wr.cell? ⟨b, off + k, none⟩ = some (.string p) := by
        rcases (HT.out.keep HO.out.2).2 with h0 | ⟨b, off, e, _, hc⟩
        · omega
        · exact ⟨b, off, e, by rw [hc k hkl, HP.out]⟩
      have hps : p.size ≤ 65536 := by rw [HP.out]; exact HS.out _ (List.getElem_mem hkl)
      have hlt' : (k : Int) < (len : Int) := by omega
      have BY : Hid (Calls Try.prog 35 #[.int .i64 ((k : Int) + 1), .string p] wr fun e w' => ∃ v', e = .returned v' ∧ w'.ownsRow wr.heap.size 5 1 v' (fieldBytesI ((k : Int) + 1) p.data.toList).length (cellsOf (fieldBytesI ((k : Int) + 1) p.data.toList)) ∧ Below wr.heap.size wr w') := by
        have := bytes_any (k + 1) p wr hps (by omega)
        rw [show (((k + 1 : Nat)) : Int) = (k : Int) + 1 by omega] at this
        rw [fieldBytesI_nat _ _ (by omega), show ((k : Int) + 1).toNat = k + 1 by omega]
        exact this
      have hbnd : (rowB (fieldsN (l.take k))).length ≤ 65540 * 200 := by
        have h1 := rowB_small (fieldsN (l.take k)) (fun f hf => HS.out _ (List.mem_of_mem_take (fieldsN_mem hf)))
        rw [fieldsN_length, List.length_take] at h1
        have : 65540 * min k l.length ≤ 65540 * 200 := Nat.mul_le_mul_left _ (by omega)
        omega
      have hnx := row_next l k hkl
      rw [← HP.out] at hnx
      have HNX := hidk hnx
      have wrk := wrap_int ((k : Int) + 1) (by omega) (by omega)
      clear hnx
      go_wp2_with fail
      refine BY.out.mono ?_
      rintro e w1 ⟨v1, rfl, ho1, hb1⟩
      obtain ⟨a1, c1, rfl, hr1⟩ := reads_own ho1
      have hfl : (fieldBytesI ((k : Int) + 1) p.data.toList).length ≤ 65540 := by rw [fieldBytesI_length]; have : p.data.toList.length = p.size := rfl; omega
      have hoK : w1.ownsRow w.heap.size 5 1 u3 (rowB (fieldsN (l.take k))).length (cellsOf (rowB (fieldsN (l.take k)))) := HO.out.1.kept (row := none) ⟨hb1.os, hb1.tape, hb1.output, hb1.size, fun j hj _ => hb1.block j hj⟩ (by cases hv : u3.ownBlock <;> simp)
      have hBw1 : Below w.heap.size w w1 := HO.out.2.trans (hb1.mono HO.out.2.size)
      obtain ⟨v2, w2, hrun, ho2, hg2⟩ := run_append_grows hr1 w.heap.size _ 26 u3 _ hoK hBw1.size (by omega)
      have HO2 : Hid (w2.ownsRow w.heap.size 5 1 v2 (rowB (fieldsN (l.take (k + 1)))).length (cellsOf (rowB (fieldsN (l.take (k + 1))))) ∧ Below w.heap.size w w2) := by
        refine ⟨?_, hBw1.grown hg2 hBw1.size (fun q e => (hoK.lt q e).1)⟩
        rw [HNX.out, List.length_append]
        exact ho2
      have HRUN := hidk hrun
      clear hrun ho2 hg2 hoK hBw1 ho1 hr1 hb1 HO BY HNX
      go_wp2_with (first
        | (show wpList _ _ _ ({ dst := some 21, op := _, type := _, pos := _, after := _, guard := _ } :: _) _ _; refine wpList_append_run rfl (.tmp 19) (.tmp 20) 26 26 rfl _ _ _ w2 rfl rfl HRUN.out ?_; try simp only [Act.put, List.setIfInBounds_toArray, List.set_cons_zero, List.set_cons_succ])
        | fail)
      go_roundw
      case rel => exact ⟨k + 1, by omega, by go_num, HO2⟩
      case measure => simp [intOf]; omega
    · obtain rfl : k = len := by omega
      have HO' := HO.out
      rw [List.take_of_length_le (by omega)] at HO'
      have HF := hidk HO'
      clear HO' HO
      go_wp2
      go_ret
      exact ⟨_, rfl, HF.out⟩
end Go.Proofs.Ytdnhnjimhbbabaa

/- What the document's Text, Leaf and Knot answer. -/
namespace Go.Proofs.Ytdnhnjimhbbabaa
open Go.RowKit Sums
set_option linter.unusedVariables false
set_option linter.unusedSimpArgs false
set_option maxHeartbeats 1000000 in
theorem refText_any (l : List UInt8) (hl : l.length = 32) (w : World) (x : ByteArray) (HX : Hid (x = ⟨l.toArray⟩)) (A : List Value) (HAL : Hid (A = cellsOf l)) :
    Calls Try.prog 28 #[.agg A.toArray] w fun e w' => e = .returned (.string x) ∧ Below w.heap.size w w' := by
  have c0 : ∀ W, W.rangeAt w.heap.size 0 A → Sem.run Try.prog (convert 26 9 (.slice (some ⟨w.heap.size, 0, none⟩) 32 32)) W = .ok (.string x) W := fun W h => by
    rw [HX.out]; exact conv_dig W _ l hl (by rw [← HAL.out]; exact h)
  have s0 := fun W => slice_all W w.heap.size
  have c1 := c0 (w.alloc (.cells A.toArray 23)) (range_row (heap_alloc_new w _))
  clear c0
  go_enter Try.func28, Try.ntmps28
  go_wp2
  go_ret
  exact ⟨rfl, (Below.refl _ _).alloc (Nat.le_refl _) _⟩
end Go.Proofs.Ytdnhnjimhbbabaa

/- The keeper's Kept answers true where lent bytes and the marks behind them are as they were. -/
namespace Go.Proofs.Ytdnhnjimhbbabaa
open Go.RowKit Nums
set_option maxRecDepth 100000
theorem conv_reads {w : World} {a : Option Addr} {len cap : Nat} {l : List UInt8} (h : Reads w a len cap l) :
    Sem.run Try.prog (convert 26 9 (.slice a len cap)) w = .ok (.string ⟨l.toArray⟩) w := by
  obtain ⟨h1, h2, h3, ⟨rfl, h0⟩ | ⟨ad, rfl, h0⟩ | ⟨b, off, rfl, hlt, hc⟩⟩ := h
  · have hl : l = [] := List.eq_nil_of_length_eq_zero (by omega)
    subst hl
    exact run_convert_bytes_nil (P := Try.prog) w 26 5 Try.underlying26 Try.underlying5 len cap 9 Try.underlying9
  · subst h1
    exact run_convert_bytes_back (P := Try.prog) w 26 9 5 ad cap l Try.underlying26 Try.underlying5 Try.underlying9 (fun j hj => by omega)
  · subst h1
    exact run_convert_bytes_back (P := Try.prog) w 26 9 5 ⟨b, off, none⟩ cap l Try.underlying26 Try.underlying5 Try.underlying9 (fun j hj => by rw [add_plain]; exact hc j hj)
end Go.Proofs.Ytdnhnjimhbbabaa

/- What the document's Bytes, May, BytesSigned and Tag answer. -/
namespace Go.Proofs.Ytdnhnjimhbbabaa
open Go.RowKit Sums Nums
set_option linter.unusedVariables false
set_option linter.unusedSimpArgs false
set_option maxRecDepth 100000
theorem cell_keep {W W' : World} {p : Addr} {v : Value} (hb : Below W.heap.size W W') (h : W.cell? p = some v) : W'.cell? p = some v := by
  rw [hb.cell (World.block_lt_of_cell? _ _ h)]; exact h
theorem HRow.keep {W W' : World} {g o : Nat} {h : HdT} (hr : HRow W g o h) (hb : Below W.heap.size W W') : HRow W' g o h :=
  ⟨cell_keep hb hr.r, cell_keep hb hr.e, cell_keep hb hr.s, range_keep hb hr.d, cell_keep hb hr.t⟩
theorem sizeH : (Try.prog.info? 25).map (·.size) = some 36 := by kernel_rfl
set_option maxHeartbeats 8000000 in
theorem refHB_any (h : HdT) (hd : h.d.length = 32) (w : World) (C : Array Value) (HC : Hid (C = (hcells h).toArray)) :
    Calls Try.prog 13 #[.agg C] w fun e w' => ∃ v, e = .returned v ∧ w'.ownsRow w.heap.size 5 1 v (headB h).length (cellsOf (headB h)) ∧ Below w.heap.size w w' := by
  obtain ⟨r, Hr⟩ : ∃ r, Hid (r = h.r) := ⟨h.r, hidk rfl⟩
  obtain ⟨e, He⟩ : ∃ r, Hid (r = h.e) := ⟨h.e, hidk rfl⟩
  obtain ⟨s, Hs⟩ : ∃ r, Hid (r = h.s) := ⟨h.s, hidk rfl⟩
  obtain ⟨t, Ht⟩ : ∃ r, Hid (r = h.t) := ⟨h.t, hidk rfl⟩
  obtain ⟨n1, Hn1⟩ : ∃ s : ByteArray, Hid (s = nOf r) := ⟨nOf r, hidk rfl⟩
  obtain ⟨n2, Hn2⟩ : ∃ s : ByteArray, Hid (s = nOf e) := ⟨nOf e, hidk rfl⟩
  obtain ⟨n3, Hn3⟩ : ∃ x : ByteArray, Hid (x = nOf s) := ⟨nOf s, hidk rfl⟩
  obtain ⟨n5, Hn5⟩ : ∃ s : ByteArray, Hid (s = nOf t) := ⟨nOf t, hidk rfl⟩
  obtain ⟨x4, HX⟩ : ∃ x : ByteArray, Hid (x = ⟨h.d.toArray⟩) := ⟨⟨h.d.toArray⟩, hidk rfl⟩
  obtain ⟨D, HD, HSD, H1D, H32D⟩ := dig_row' h.d hd
  have N1 : Hid (∀ W, Calls Try.prog 27 #[.int .i64 r] W fun e w' => e = .returned (.string n1) ∧ Below W.heap.size W w') := fun W => by rw [Hn1.out]; exact refNum_any r W
  have N2 : Hid (∀ W, Calls Try.prog 27 #[.int .i64 e] W fun e w' => e = .returned (.string n2) ∧ Below W.heap.size W w') := fun W => by rw [Hn2.out]; exact refNum_any e W
  have N3 : Hid (∀ W, Calls Try.prog 27 #[.int .i64 s] W fun e w' => e = .returned (.string n3) ∧ Below W.heap.size W w') := fun W => by rw [Hn3.out]; exact refNum_any s W
  have N5 : Hid (∀ W, Calls Try.prog 27 #[.int .i64 t] W fun e w' => e = .returned (.string n5) ∧ Below W.heap.size W w') := fun W => by rw [Hn5.out]; exact refNum_any t W
  have X4 : Hid (∀ W, Calls Try.prog 28 #[.agg D] W fun e w' => e = .returned (.string x4) ∧ Below W.heap.size W w') := fun W => by
    have := refText_any h.d hd W x4 HX D.toList (by show _ = _; rw [HD.out])
    simpa using this
  have hL5 : hL h = [n1, n2, n3, x4, n5] := by rw [Hn1.out, Hn2.out, Hn3.out, Hn5.out, HX.out, Hr.out, He.out, Hs.out, Ht.out]; rfl
  have RW : Hid (∀ W, Calls Try.prog 26 #[.slice (some ⟨W.heap.size, 0, none⟩) 5 5] (W.alloc (.cells #[.string n1, .string n2, .string n3, .string x4, .string n5] 9)) fun e w' => ∃ v, e = .returned v ∧ w'.ownsRow W.heap.size 5 1 v (headB h).length (cellsOf (headB h)) ∧ Below W.heap.size W w') := fun W => by
    have h1 : ∀ y ∈ [n1, n2, n3, x4, n5], y.size ≤ 65536 := fun y hy => by
      rw [← hL5] at hy
      unfold hL at hy
      simp only [List.mem_cons, List.not_mem_nil, or_false] at hy
      rcases hy with rfl | rfl | rfl | rfl | rfl
      · exact Nat.le_trans (nOf_size _) (by omega)
      · exact Nat.le_trans (nOf_size _) (by omega)
      · exact Nat.le_trans (nOf_size _) (by omega)
      · rw [bA_size]; omega
      · exact Nat.le_trans (nOf_size _) (by omega)
    refine (refRow_any (some ⟨W.heap.size, 0, none⟩) 5 5 [n1, n2, n3, x4, n5] (W.alloc (.cells #[.string n1, .string n2, .string n3, .string x4, .string n5] 9)) (texts_new W [n1, n2, n3, x4, n5] 9) (by omega) h1).mono ?_
    rintro e w' ⟨v, he, ho, hb⟩
    rw [← hL5] at ho
    exact ⟨v, he, own_lower ho (by simp), ((Below.refl _ _).alloc (Nat.le_refl _) _).trans (hb.mono (by simp))⟩
  have HR := hidk (hrow_new w h hd C HC 25)
  have HB : Hid (Below w.heap.size w (w.alloc (.cells C 25))) := (Below.refl _ _).alloc (Nat.le_refl _) _
  have HDL : Hid (D.toList = cellsOf h.d) := by show _ = _; rw [HD.out]
  clear HC HX hL5 HD Hn1 Hn2 Hn3 Hn5
  go_enter Try.func13, Try.ntmps13
  go_wp2
  refine wp_region_held_drew (S := (fun W => HRow W w.heap.size 0 h)) (by kernel_rfl) (show HRow (w.alloc (.cells C 25)).drew w.heap.size 0 h from HR.out.keep (Below.refl _ _).drew) (fun hHeld => ?_)
  refine wpAnyH_take (i := 0) (oi := { dst := some 3, op := Op.fieldAddr 25 (Operand.tmp 1) 0, type := 0, pos := "ref.go:74", after := #[], guard := none }) (v := .pointer (some ⟨w.heap.size, 0, none⟩)) rfl (by kernel_rfl) (by kernel_rfl) (by kernel_rfl) (fun _ _ _ h => h) (Or.inl ⟨by rfl, by intro W hSw; go_simp⟩) hHeld ?_
  try simp only [Act.put, List.setIfInBounds_toArray, List.set_cons_zero, List.set_cons_succ]
  refine wpAnyH_take (i := 1) (oi := { dst := some 4, op := Op.load 3 (Operand.tmp 3), type := 3, pos := "ref.go:74", after := #[{ on := 0, ground := Ground.data }], guard := none }) (v := .int .i64 r) rfl (by kernel_rfl) (by kernel_rfl) (by kernel_rfl) (fun _ _ _ h => h) (Or.inl ⟨by rfl, by intro W hSw; have h1 := hSw.r; rw [← Hr.out] at h1; go_simp⟩) hHeld ?_
  try simp only [Act.put, List.setIfInBounds_toArray, List.set_cons_zero, List.set_cons_succ]
  refine wpAnyH_take (i := 3) (oi := { dst := some 6, op := Op.fieldAddr 25 (Operand.tmp 1) 1, type := 0, pos := "ref.go:74", after := #[], guard := none }) (v := .pointer (some ⟨w.heap.size, 1, none⟩)) rfl (by kernel_rfl) (by kernel_rfl) (by kernel_rfl) (fun _ _ _ h => h) (Or.inl ⟨by rfl, by intro W hSw; go_simp⟩) hHeld ?_
  try simp only [Act.put, List.setIfInBounds_toArray, List.set_cons_zero, List.set_cons_succ]
  refine wpAnyH_take (i := 4) (oi := { dst := some 7, op := Op.load 3 (Operand.tmp 6), type := 3, pos := "ref.go:74", after := #[{ on := 3, ground := Ground.data }], guard := none }) (v := .int .i64 e) rfl (by kernel_rfl) (by kernel_rfl) (by kernel_rfl) (fun _ _ _ h => h) (Or.inl ⟨by rfl, by intro W hSw; have h1 := hSw.e; rw [← He.out, Nat.zero_add] at h1; go_simp⟩) hHeld ?_
  try simp only [Act.put, List.setIfInBounds_toArray, List.set_cons_zero, List.set_cons_succ]
  refine wpAnyH_take (i := 6) (oi := { dst := some 9, op := Op.fieldAddr 25 (Operand.tmp 1) 2, type := 0, pos := "ref.go:74", after := #[], guard := none }) (v := .pointer (some ⟨w.heap.size, 2, none⟩)) rfl (by kernel_rfl) (by kernel_rfl) (by kernel_rfl) (fun _ _ _ h => h) (Or.inl ⟨by rfl, by intro W hSw; go_simp⟩) hHeld ?_
  try simp only [Act.put, List.setIfInBounds_toArray, List.set_cons_zero, List.set_cons_succ]
  refine wpAnyH_take (i := 7) (oi := { dst := some 10, op := Op.load 3 (Operand.tmp 9), type := 3, pos := "ref.go:74", after := #[{ on := 6, ground := Ground.data }], guard := none }) (v := .int .i64 s) rfl (by kernel_rfl) (by kernel_rfl) (by kernel_rfl) (fun _ _ _ h => h) (Or.inl ⟨by rfl, by intro W hSw; have h1 := hSw.s; rw [← Hs.out, Nat.zero_add] at h1; go_simp⟩) hHeld ?_
  try simp only [Act.put, List.setIfInBounds_toArray, List.set_cons_zero, List.set_cons_succ]
  refine wpAnyH_take (i := 9) (oi := { dst := some 12, op := Op.fieldAddr 25 (Operand.tmp 1) 3, type := 0, pos := "ref.go:74", after := #[], guard := none }) (v := .pointer (some ⟨w.heap.size, 3, none⟩)) rfl (by kernel_rfl) (by kernel_rfl) (by kernel_rfl) (fun _ _ _ h => h) (Or.inl ⟨by rfl, by intro W hSw; go_simp⟩) hHeld ?_
  try simp only [Act.put, List.setIfInBounds_toArray, List.set_cons_zero, List.set_cons_succ]
  refine wpAnyH_take (i := 10) (oi := { dst := some 13, op := Op.load 23 (Operand.tmp 12), type := 23, pos := "ref.go:74", after := #[{ on := 9, ground := Ground.data }], guard := none }) (v := .agg D) rfl (by kernel_rfl) (by kernel_rfl) (by kernel_rfl) (fun _ _ _ h => h) (yieldsIf_mid (by rfl) 23 (.tmp 12) rfl w.heap.size 3 rfl D _ (fun _ h => by rw [HDL.out]; have := h.d; rwa [Nat.zero_add] at this) Try.underlying23 rfl HSD.out) hHeld ?_
  try simp only [Act.put, List.setIfInBounds_toArray, List.set_cons_zero, List.set_cons_succ]
  refine wpAnyH_take (i := 12) (oi := { dst := some 15, op := Op.fieldAddr 25 (Operand.tmp 1) 4, type := 0, pos := "ref.go:74", after := #[], guard := none }) (v := .pointer (some ⟨w.heap.size, 35, none⟩)) rfl (by kernel_rfl) (by kernel_rfl) (by kernel_rfl) (fun _ _ _ h => h) (Or.inl ⟨by rfl, by intro W hSw; go_simp⟩) hHeld ?_
  try simp only [Act.put, List.setIfInBounds_toArray, List.set_cons_zero, List.set_cons_succ]
  refine wpAnyH_take (i := 13) (oi := { dst := some 16, op := Op.load 3 (Operand.tmp 15), type := 3, pos := "ref.go:74", after := #[{ on := 12, ground := Ground.data }], guard := none }) (v := .int .i64 t) rfl (by kernel_rfl) (by kernel_rfl) (by kernel_rfl) (fun _ _ _ h => h) (Or.inl ⟨by rfl, by intro W hSw; have h1 := hSw.t; rw [← Ht.out, Nat.zero_add] at h1; go_simp⟩) hHeld ?_
  try simp only [Act.put, List.setIfInBounds_toArray, List.set_cons_zero, List.set_cons_succ]
  refine wpAnyH_ready (rs := [2]) (by kernel_rfl) (by simp) ?_
  refine (AllReadyH.cons (o := { dst := some 5, op := Op.call { callee := Callee.value (Operand.func 27), args := #[Operand.tmp 4], argTypes := #[3] }, type := 9, pos := "ref.go:74", after := #[{ on := 1, ground := Ground.data }], guard := none }) rfl (fun K hK => ?_) AllReadyH.nil)
  go_simp
  refine (N1.out _).mono ?_
  rintro e w2 ⟨rfl, hb1⟩
  have HB1 := hidk (HB.out.drew.trans (hb1.mono HB.out.size))
  go_wp2_with fail
  refine hK.out _ _ (hHeld.keep hb1) (fun hHeld => ?_)
  clear hK K
  try simp only [Act.put, List.setIfInBounds_toArray, List.set_cons_zero, List.set_cons_succ]
  refine wpAnyH_ready (rs := [5]) (by kernel_rfl) (by simp) ?_
  refine (AllReadyH.cons (o := { dst := some 8, op := Op.call { callee := Callee.value (Operand.func 27), args := #[Operand.tmp 7], argTypes := #[3] }, type := 9, pos := "ref.go:74", after := #[{ on := 4, ground := Ground.data }, { on := 2, ground := Ground.chain }], guard := none }) rfl (fun K hK => ?_) AllReadyH.nil)
  go_simp
  refine (N2.out _).mono ?_
  rintro e w5 ⟨rfl, hb2⟩
  have HB2 := hidk (HB1.out.trans (hb2.mono HB1.out.size))
  go_wp2_with fail
  refine hK.out _ _ (hHeld.keep hb2) (fun hHeld => ?_)
  clear hK K
  try simp only [Act.put, List.setIfInBounds_toArray, List.set_cons_zero, List.set_cons_succ]
  refine wpAnyH_ready (rs := [8]) (by kernel_rfl) (by simp) ?_
  refine (AllReadyH.cons (o := { dst := some 11, op := Op.call { callee := Callee.value (Operand.func 27), args := #[Operand.tmp 10], argTypes := #[3] }, type := 9, pos := "ref.go:74", after := #[{ on := 7, ground := Ground.data }, { on := 5, ground := Ground.chain }], guard := none }) rfl (fun K hK => ?_) AllReadyH.nil)
  go_simp
  refine (N3.out _).mono ?_
  rintro e w8 ⟨rfl, hb3⟩
  have HB3 := hidk (HB2.out.trans (hb3.mono HB2.out.size))
  go_wp2_with fail
  refine hK.out _ _ (hHeld.keep hb3) (fun hHeld => ?_)
  clear hK K
  try simp only [Act.put, List.setIfInBounds_toArray, List.set_cons_zero, List.set_cons_succ]
  refine wpAnyH_ready (rs := [11]) (by kernel_rfl) (by simp) ?_
  refine (AllReadyH.cons (o := { dst := some 14, op := Op.call { callee := Callee.value (Operand.func 28), args := #[Operand.tmp 13], argTypes := #[23] }, type := 9, pos := "ref.go:74", after := #[{ on := 10, ground := Ground.data }, { on := 8, ground := Ground.chain }], guard := none }) rfl (fun K hK => ?_) AllReadyH.nil)
  go_simp
  refine (X4.out _).mono ?_
  rintro e w11 ⟨rfl, hb4⟩
  have HB4 := hidk (HB3.out.trans (hb4.mono HB3.out.size))
  go_wp2_with fail
  refine hK.out _ _ (hHeld.keep hb4) (fun hHeld => ?_)
  clear hK K
  try simp only [Act.put, List.setIfInBounds_toArray, List.set_cons_zero, List.set_cons_succ]
  refine wpAnyH_ready (rs := [14]) (by kernel_rfl) (by simp) ?_
  refine (AllReadyH.cons (o := { dst := some 17, op := Op.call { callee := Callee.value (Operand.func 27), args := #[Operand.tmp 16], argTypes := #[3] }, type := 9, pos := "ref.go:74", after := #[{ on := 13, ground := Ground.data }, { on := 11, ground := Ground.chain }], guard := none }) rfl (fun K hK => ?_) AllReadyH.nil)
  go_simp
  refine (N5.out _).mono ?_
  rintro e w14 ⟨rfl, hb5⟩
  have HB5 := hidk (HB4.out.trans (hb5.mono HB4.out.size))
  go_wp2_with fail
  refine hK.out _ _ (hHeld.keep hb5) (fun hHeld => ?_)
  clear hK K
  try simp only [Act.put, List.setIfInBounds_toArray, List.set_cons_zero, List.set_cons_succ]
  refine wpAnyH_ready (rs := [15]) (by kernel_rfl) (by simp) ?_
  refine (AllReadyH.cons (o := { dst := some 18, op := Op.buildSlice 61 5 #[(0, Operand.tmp 5), (1, Operand.tmp 8), (2, Operand.tmp 11), (3, Operand.tmp 14), (4, Operand.tmp 17)], type := 61, pos := "ref.go:74", after := #[{ on := 2, ground := Ground.data }, { on := 5, ground := Ground.data }, { on := 8, ground := Ground.data }, { on := 11, ground := Ground.data }, { on := 14, ground := Ground.data }], guard := none }) rfl (fun K hK => ?_) AllReadyH.nil)
  have HR14 := hidk hHeld
  go_simp
  refine hK.out _ _ (hHeld.keep ((Below.refl _ _).alloc (Nat.le_refl _) _)) (fun hHeld => ?_)
  clear hK K
  try simp only [Act.put, List.setIfInBounds_toArray, List.set_cons_zero, List.set_cons_succ]
  refine wpAnyH_ready (rs := [16]) (by kernel_rfl) (by simp) ?_
  refine (AllReadyH.cons (o := { dst := some 19, op := Op.call { callee := Callee.value (Operand.func 26), args := #[Operand.tmp 18], argTypes := #[61] }, type := 26, pos := "ref.go:74", after := #[{ on := 15, ground := Ground.data }, { on := 14, ground := Ground.chain }], guard := none }) rfl (fun K hK => ?_) AllReadyH.nil)
  go_simp
  refine (RW.out _).mono ?_
  rintro e w16 ⟨v, rfl, ho, hb6⟩
  have HOWN := hidk ho
  have HBF := hidk (HB5.out.trans (hb6.mono HB5.out.size))
  go_wp2_with fail
  refine hK.out _ _ (HR14.out.keep hb6) (fun hHeld => ?_)
  clear hK K
  try simp only [Act.put, List.setIfInBounds_toArray, List.set_cons_zero, List.set_cons_succ]
  refine wpAnyH_take (i := 17) (oi := { dst := some 2, op := Op.assign (Operand.tmp 19), type := 26, pos := "ref.go:74", after := #[{ on := 16, ground := Ground.data }, { on := 16, ground := Ground.chain }, { on := 0, ground := Ground.phase }, { on := 1, ground := Ground.phase }, { on := 2, ground := Ground.phase }, { on := 3, ground := Ground.phase }, { on := 4, ground := Ground.phase }, { on := 5, ground := Ground.phase }, { on := 6, ground := Ground.phase }, { on := 7, ground := Ground.phase }, { on := 8, ground := Ground.phase }, { on := 9, ground := Ground.phase }, { on := 10, ground := Ground.phase }, { on := 11, ground := Ground.phase }, { on := 12, ground := Ground.phase }, { on := 13, ground := Ground.phase }, { on := 14, ground := Ground.phase }, { on := 15, ground := Ground.phase }, { on := 16, ground := Ground.phase }], guard := none }) (v := v) rfl (by kernel_rfl) (by kernel_rfl) (by kernel_rfl) (fun _ _ _ h => h) (Or.inl ⟨by rfl, by intro W hSw; go_simp⟩) hHeld ?_
  try simp only [Act.put, List.setIfInBounds_toArray, List.set_cons_zero, List.set_cons_succ]
  refine wpAnyH_done (by kernel_rfl) ?_ _
  go_wp2
  go_ret
  exact ⟨_, rfl, own_lower HOWN.out HB5.out.size, HBF.out⟩
end Go.Proofs.Ytdnhnjimhbbabaa

/- What the document's May, BytesSigned, PutSigned and Tag answer. -/
namespace Go.Proofs.Ytdnhnjimhbbabaa
open Go.RowKit Sums Nums
set_option linter.unusedVariables false
set_option linter.unusedSimpArgs false
set_option maxRecDepth 100000
/-- What the parts of a signed head's row read as. -/
structure SRow (W : World) (g o : Nat) (s : SgT) : Prop where
  h : W.rangeAt g o (hcells s.h)
  n : W.cell? ⟨g, o + 36, none⟩ = some (.int .i64 s.n)
  g : W.rangeAt g (o + 37) (cellsOf s.g)
theorem SRow.keep {W W' : World} {g o : Nat} {s : SgT} (hr : SRow W g o s) (hb : Below W.heap.size W W') : SRow W' g o s := ⟨range_keep hb hr.h, cell_keep hb hr.n, range_keep hb hr.g⟩
end Go.Proofs.Ytdnhnjimhbbabaa

/- Structs of numbers and digests: heads and signed heads, built and compared. -/
namespace Go.Proofs.Ytdnhnjimhbbabaa
open Go.RowKit Sums Nums
set_option linter.unusedVariables false
set_option linter.unusedSimpArgs false
set_option maxRecDepth 100000
/-- A struct that is built, where the order is drawn. -/
theorem yieldsIf_build {P : Program} {ops : Array Oper} {S : World → Prop} {o : Oper} {a : Act} (hw : Region.wanted o (yielded ops a.tmps) = true) (t : TypeId) (parts : Array (Nat × Operand)) (ho : o.op = .build t parts) (vals : Array (Nat × Value)) (hv : (parts.toList.map fun p => (p.1, a.eval p.2)) = vals.toList)
    (v : Value) (hrun : ∀ W, (Instr.build t vals).run P W = .ok v W) : YieldsIf P ops S o v a :=
  .inl ⟨hw, fun w _ => by
    have hv' : (parts.map fun (i, x) => (i, a.eval x)) = vals := by
      apply Array.ext'
      rw [Array.toList_map, ← hv]
    subst hv'
    unfold execOp
    simp only [ho, Sem.run_bind, hrun, Result.andThen_ok]
    rfl⟩
def zeroH : HdT := ⟨0, 0, 0, List.replicate 32 0, 0⟩
theorem infoH : (Try.prog.info? 25).map (fun i => (i.zero, i.size)) = some (some (.agg (hcells zeroH).toArray), 36) := by kernel_rfl
theorem builtH0 : Try.prog.built 25 [] = some (hcells zeroH).toArray := by kernel_rfl
theorem one_cells (h : HdT) : (hcells h).toArray.all (·.oneCell') = true := by
  rw [List.all_toArray, List.all_eq_true]
  intro v hv
  unfold hcells at hv
  simp only [List.mem_append, List.mem_cons, List.not_mem_nil, or_false] at hv
  rcases hv with ((rfl | rfl | rfl) | hv) | rfl
  · rfl
  · rfl
  · rfl
  · exact cellsOf_one _ v hv
  · rfl
theorem head_row5 (h : HdT) (hd : h.d.length = 32) : ∃ C : Array Value, Hid (C = (hcells h).toArray) ∧ Hid ((Try.prog.info? 25).map (·.size) = some C.size) ∧ Hid (C.all (·.oneCell') = true) ∧ Hid (C.size = 36) := by
  refine ⟨(hcells h).toArray, hidk rfl, ?_, one_cells h, ?_⟩
  · show _ = _
    rw [sizeH]; simp [hcells_length h hd]
  · show _ = _
    simp [hcells_length h hd]
theorem noughtsH : ∃ Z : Array Value, Hid (Z = (hcells zeroH).toArray) ∧ Hid ((Try.prog.info? 25).map (fun i => (i.zero, i.size)) = some (some (.agg Z), Z.size)) ∧ Hid (Try.prog.built 25 [] = some Z) ∧ Hid (Z.size = 36) :=
  ⟨(hcells zeroH).toArray, hidk rfl, infoH, builtH0, hidk rfl⟩
end Go.Proofs.Ytdnhnjimhbbabaa

/- pack.appendField at whatever tag: its lowest byte. -/
namespace Go.Proofs.Ytdnhnjimhbbabaa
open Go.RowKit Nums
set_option maxRecDepth 100000
/-- Whatever is no row of elements of type T lies as it lay. -/
def Spares (T : TypeId) (w w' : World) : Prop := ∀ (b : Nat) (o : Obj), w.heap[b]? = some o → (∀ c m, o ≠ Obj.cells c T m) → w'.heap[b]? = some o
theorem Spares.refl (T : TypeId) (w : World) : Spares T w w := fun _ _ h _ => h
theorem Spares.trans {T : TypeId} {a b c : World} (h : Spares T a b) (k : Spares T b c) : Spares T a c := fun i o hi ho => k i o (h i o hi ho) ho
theorem Spares.below {T : TypeId} {a b : World} (h : Below a.heap.size a b) : Spares T a b := fun i _ hi _ => (h.block i (Array.getElem?_eq_some_iff.1 hi).1).trans hi
theorem Spares.alloc (T : TypeId) (w : World) (o : Obj) : Spares T w (w.alloc o) := Spares.below ((Below.refl _ _).alloc (Nat.le_refl _) _)
theorem Spares.drew (T : TypeId) (w : World) : Spares T w w.drew := fun _ _ h _ => h
theorem Spares.grown {T : TypeId} {w w' : World} {B size n : Nat} {v : Value} {xs : List Value} (hown : w.ownsRow B T size v n xs) (hg : w.grownBy w' v.ownBlock) : Spares T w w' := by
  intro i o hi ho
  refine (hg.block i (Array.getElem?_eq_some_iff.1 hi).1 ?_).trans hi
  intro e
  rcases hown.2 with ⟨rfl, _⟩ | ⟨g, cap, cur, rfl, _, hgb, _⟩
  · simp [Value.ownBlock] at e
  · obtain rfl : i = g := by simpa [Value.ownBlock] using e
    rw [hgb] at hi
    cases hi
    exact ho _ _ rfl
theorem head_cellsI (tag : Int) (d : ByteArray) (hd : d.size ≤ 65536) :
    [Value.int .u8 (tag % 256), .int .u8 ((d.size : Int) / 65536), .int .u8 ((d.size : Int) / 256 % 256), .int .u8 ((d.size : Int) % 256)] ++ Lib.strCells d = cellsOf (fieldBytesI tag d.data.toList) := by
  have hl : d.data.toList.length = d.size := by simp
  have e1 : tag % 256 = ((UInt8.ofNat (tag % 256).toNat).toNat : Int) := by rw [UInt8.toNat_ofNat']; omega
  have e2 : (d.size : Int) / 65536 = (d.size : Int) / 65536 % 256 := by omega
  rw [cellsOf_str, fieldBytesI, hl, e2]
  simp only [cellsOf, List.map_cons, List.cons_append, List.nil_append, byte_mod, ← e1]
  rfl
set_option maxHeartbeats 1000000 in
theorem appendField_int (v : Value) (l : List UInt8) (B : Nat) (tag : Int) (d : ByteArray) (w : World) (hd : d.size ≤ 65536) (hB : B ≤ w.heap.size) (hl : l.length ≤ 1099511627776)
    (hown : w.ownsRow B 5 1 v l.length (cellsOf l)) :
    Calls Try.prog 23 #[v, .agg #[.int .i64 tag, .string d]] w fun e w' => ∃ v', e = .returned v' ∧
      w'.ownsRow B 5 1 v' (l ++ fieldBytesI tag d.data.toList).length (cellsOf (l ++ fieldBytesI tag d.data.toList)) ∧ Below B w w' ∧ Spares 5 w w' := by
  obtain ⟨i0, hi, hz0, hz1, hz2⟩ := info_parts info5
  have HL : Hid (l.length ≤ 1099511627776) := hl
  clear hl
  go_enter Try.func23, Try.ntmps23
  go_wp2_with (first
    | (at_builtin; refine wpList_append_own _ rfl (.tmp 9) (.tmp 21) 26 rfl B 5 i0 (.int .u8 0) 1 1 Try.underlying26 hi hz0 hz1 hz2 rfl (by decide) _ _ _ rfl ((hown.alloc _).alloc _) ⟨w.heap.size + 1, 0, none⟩ 4 4 [.int .u8 (tag % 256), .int .u8 ((d.size : Int) / 65536), .int .u8 ((d.size : Int) / 256 % 256), .int .u8 ((d.size : Int) % 256)] rfl rfl ?c1 ?c2 ?c3 ?c4 ?c5 ?_)
    | fail)
  case c1 =>
    intro j u hj
    match j, hj with
    | 0, hj => simp at hj; subst hj; simp [Addr.add]
    | 1, hj => simp at hj; subst hj; simp [Addr.add]
    | 2, hj => simp at hj; subst hj; simp [Addr.add]
    | 3, hj => simp at hj; subst hj; simp [Addr.add]
  case c2 => intro u hu; simp at hu; rcases hu with rfl | rfl | rfl | rfl <;> rfl
  case c3 => have := HL.out; unfold maxLen; omega
  case c4 => have := HL.out; omega
  case c5 => simp; omega
  intro v1 w1 hown1 hgrow1 _
  have hb1 : Below B w w1 := (((Below.refl _ _).alloc hB _).alloc (by simp; omega) _).grown hgrow1 (by simp; omega) (row_low hown)
  have hs1 : Spares 5 w w1 := ((Spares.alloc 5 w _).trans (Spares.alloc 5 _ _)).trans (Spares.grown ((hown.alloc _).alloc _) hgrow1)
  have HS1 : Hid (Spares 5 w w1) := hs1
  clear hs1
  have hbox : w1.cell? ⟨w.heap.size, 1, none⟩ = some (.string d) := by
    refine hgrow1.cell ?_ ?_
    · simp
    · intro e; have := (hown.lt _ e.symm).2; simp at this
  clear hgrow1
  go_wp2_with (first
    | (at_builtin; refine Lib.wpList_append_own_string _ rfl (.tmp 23) (.tmp 25) 26 9 rfl B 5 i0 Try.underlying26 Try.underlying9 hi hz0 hz1 hz2 _ _ _ rfl hown1 d rfl ?d1 ?d2 ?d3 ?_)
    | fail)
  case d1 => have := HL.out; unfold maxLen; omega
  case d2 => have := HL.out; omega
  case d3 => exact Nat.le_trans hB hb1.size
  intro v2 w2 hown2 hgrow2 _
  have hb2 : Below B w w2 := hb1.grown hgrow2 (Nat.le_trans hB hb1.size) (row_low hown1)
  have HS2 : Hid (Spares 5 w w2) := HS1.out.trans (Spares.grown hown1 hgrow2)
  have hown3 : w2.ownsRow B 5 1 v2 (l ++ fieldBytesI tag d.data.toList).length (cellsOf (l ++ fieldBytesI tag d.data.toList)) := by
    have e1 : (l ++ fieldBytesI tag d.data.toList).length = l.length + 4 + d.size := by
      rw [List.length_append, fieldBytesI_length]; simp; omega
    rw [e1, cellsOf_append, ← head_cellsI tag d hd]
    simpa only [List.append_assoc, List.cons_append, List.nil_append] using hown2
  clear hown2 hgrow2 hown1 hbox
  go_wp2
  go_ret
  exact ⟨_, rfl, hown3, hb2, HS2.out⟩
end Go.Proofs.Ytdnhnjimhbbabaa

/- The iterator of pack.judged: each field of a row with what is wrong with it where it stands. -/
namespace Go.Proofs.Ytdnhnjimhbbabaa
open Go.RowKit Go.Shelf Nums
set_option maxRecDepth 100000

attribute [local go_sem] Oper.semAt_some
def encJ (x : Jd) : Array Value := #[.agg #[.int .i64 x.tag, .string x.d], .int .i64 x.e]
/-- What a round keeps: all below n₀, and all fields' blocks. -/
def KpJ (n₀ : Nat) (W W' : World) : Prop := Below n₀ W W' ∧ ∀ (b : Nat) (c : Array Value) (m : Nat × Nat), W.heap[b]? = some (Obj.cells c 37 m) → W'.heap[b]? = some (Obj.cells c 37 m)
theorem kpJ_t {n₀ : Nat} {A B C : World} (h : KpJ n₀ A B) (k : KpJ n₀ B C) : KpJ n₀ A C := ⟨h.1.trans k.1, fun b c m hb => k.2 b c m (h.2 b c m hb)⟩
theorem kpJ_b {n₀ : Nat} {w : World} (hn : n₀ ≤ w.heap.size) (W : World) (l : Nat) (o o' : Obj) (hl : w.heap.size ≤ l) (h : W.heap[l]? = some o) (hc : o.isCells = false) (hw : o.isWalk = false) : KpJ n₀ W (W.putObj l o') := by
  refine ⟨belowK_b hn W l o o' hl h hc hw, fun b c m hb => ?_⟩
  have hne : some b ≠ some l := by
    intro e
    cases e
    rw [h] at hb
    cases hb
    cases hc
  rw [(grownBy_putObj' W l o').block b (Array.getElem?_eq_some_iff.1 hb).1 hne]
  exact hb
theorem grown_of_below {w w' : World} (h : Below w.heap.size w w') : w.grownBy w' none := ⟨h.os, h.tape, h.output, h.size, fun k hk _ => h.block k hk⟩
/-- A slice of fields that can be read: its fields are fs. -/
def FReads (n₀ : Nat) (w : World) (a : Option Addr) (len cap : Nat) (fs : List (Int × ByteArray)) : Prop :=
  fs.length = len ∧ len ≤ cap ∧ cap ≤ 9223372036854775807 ∧ (∀ f ∈ fs, f.2.size ≤ maxLen) ∧
  ((a = none ∧ cap = 0) ∨ (∃ ad, a = some ad ∧ len = 0) ∨ ∃ b off, a = some ⟨b, off, none⟩ ∧ b < n₀ ∧ ∀ (i : Nat) (h : i < fs.length), w.cell? ⟨b, off + i * 2, none⟩ = some (.int .i64 fs[i].1) ∧ w.cell? ⟨b, off + i * 2 + 1, none⟩ = some (.string fs[i].2))
set_option maxRecDepth 100000 in
set_option maxHeartbeats 2000000 in
theorem judged1_in (n : Nat) (hn : 1 ≤ n) (l Bs n₀ b off len cap : Nat) (fs : List (Int × ByteArray)) (hlen : fs.length = len) (hm : len ≤ 9223372036854775807) (hb : b < n₀) (hfs : ∀ f ∈ fs, f.2.size ≤ maxLen) (J Jx : List Jd → World → Prop)
    (W : World) (hJ : AbidesFrom W.heap.size J) (hn₀ : n₀ ≤ W.heap.size)
    (hY : ∀ pre x W, J pre W → pre.length < len → YieldAt Fence.wide (n - 1) Try.prog l (encJ x) W fun e W' =>
      (e = .returned (.bool true) ∧ J (pre ++ [x]) W' ∧ KpJ n₀ W W') ∨ (e = .returned (.bool false) ∧ Jx (pre ++ [x]) W'))
    (hBs : W.cell? ⟨Bs, 0, none⟩ = some (.slice (some ⟨b, off, none⟩) len cap))
    (hc : ∀ (i : Nat) (h : i < fs.length), W.cell? ⟨b, off + i * 2, none⟩ = some (.int .i64 fs[i].1) ∧ W.cell? ⟨b, off + i * 2 + 1, none⟩ = some (.string fs[i].2)) (h0 : J [] W) :
    CallsIn Fence.wide n Try.prog 32 #[.func (.yield l) #[] #[], .pointer (some ⟨Bs, 0, none⟩)] W fun e W' => (∃ v, e = .returned v) ∧
      ((∃ ys, ys = judge 0 fs ∧ J ys W') ∨ (∃ pre, pre <+: judge 0 fs ∧ Jx pre W')) := by
  refine callsIn_of_wp Try.func32 rfl trivial ?_ rfl
  simp only [Try.ntmps32, List.size_toArray, List.length_cons, List.length_nil, Nat.reduceAdd, Nat.reduceSub, Array.replicate_succ, Array.replicate_zero, List.push_toArray, List.append_toArray, List.nil_append, List.cons_append]
  gi_wp2
  gi_loopw [3, 8] (fun t i wr => ∃ (k : Nat) (last : Int) (pre : List Jd), k ≤ len ∧ i = .int .i64 k ∧ t = .int .i64 last ∧ Hid (pre.length = k) ∧ Hid (judge 0 fs = pre ++ judge last (fs.drop k)) ∧ J pre wr ∧ Below n₀ W wr ∧ W.heap.size ≤ wr.heap.size)
    (fun _ i _ => len - (intOf i).toNat)
  case atStart => exact ⟨0, 0, [], Nat.zero_le _, rfl, rfl, rfl, by simp [Hid], h0, Below.refl _ _, Nat.le_refl _⟩
  case round =>
    obtain ⟨k, last, pre, hk, rfl, rfl, HP, HJD, hJs, hnx, hsz⟩ := hrel
    by_cases hlt : k < len
    · obtain ⟨hc0, hc1⟩ := hc k (by omega)
      have hd0 : wr.cell? ⟨b, off + k * 2, none⟩ = some (.int .i64 (fs[k]'(by omega)).1) := (hnx.cell (p := ⟨b, off + k * 2, none⟩) hb).trans hc0
      have hd1 : wr.cell? ⟨b, off + k * 2 + 1, none⟩ = some (.string (fs[k]'(by omega)).2) := (hnx.cell (p := ⟨b, off + k * 2 + 1, none⟩) hb).trans hc1
      obtain ⟨f, hf⟩ : ∃ f, f = fs[k]'(by omega) := ⟨_, rfl⟩
      rw [← hf] at hd0 hd1
      have HF : Hid (fs.drop k = f :: fs.drop (k + 1)) := by show _ = _; rw [hf]; exact List.drop_eq_getElem_cons (by omega)
      have HM : Hid (f.2.size ≤ maxLen) := hfs f (by rw [hf]; exact List.getElem_mem _)
      have hlen' : (k : Int) < (len : Int) := by omega
      clear hc0 hc1 hc hf hBs
      have HX : Hid (∀ W1, Below (wr.heap.size + 1) (wr.alloc (.cells #[.int .i64 f.1, .string f.2] 37)).drew W1 → W1.cell? ⟨wr.heap.size, 0, none⟩ = some (.int .i64 f.1) ∧ W1.cell? ⟨wr.heap.size, 1, none⟩ = some (.string f.2) ∧
          W1.heap[wr.heap.size]? = some (.cells #[.int .i64 f.1, .string f.2] 37 (0, 0)) ∧ Below n₀ W W1 ∧ W.heap.size ≤ W1.heap.size ∧
          ∃ fn tmps assign body, (Instr.yield l #[.agg #[.int .i64 f.1, .string f.2], .int .i64 (faultOf last f.1 f.2.size)]).run Try.prog W1 = .ok (.round l fn tmps assign body) W1 ∧
            RoundIn Fence.wide (n - 1) Try.prog l fn tmps assign body W1 fun e W' => ∃ bb, e = .returned (.bool bb) ∧ ((bb = true ∧ J (pre ++ [⟨f.1, f.2, faultOf last f.1 f.2.size, fault_ok last f.1 f.2⟩]) W' ∧ KpJ n₀ W1 W') ∨ (bb = false ∧ Jx (pre ++ [⟨f.1, f.2, faultOf last f.1 f.2.size, fault_ok last f.1 f.2⟩]) W'))) := by
        intro W1 hb1
        have hbw : Below wr.heap.size wr W1 := (((Below.refl _ wr).alloc (Nat.le_refl _) _).drew).trans (hb1.mono (by omega))
        have hblk : W1.heap[wr.heap.size]? = some (.cells #[.int .i64 f.1, .string f.2] 37 (0, 0)) := (hb1.block wr.heap.size (by omega)).trans (World.alloc_heap_new wr _)
        obtain ⟨fn, tmps, assign, body, hy, hR⟩ := hY pre ⟨f.1, f.2, faultOf last f.1 f.2.size, fault_ok last f.1 f.2⟩ W1 (hJ pre wr W1 none hJs (grown_of_below hbw) (fun r e => by cases e)) (by rw [HP.out]; exact hlt)
        refine ⟨by simp [World.cell?, hblk], by simp [World.cell?, hblk], hblk, hnx.trans (hbw.mono (Nat.le_trans hn₀ hsz)), Nat.le_trans hsz hbw.size, fn, tmps, assign, body, hy, hR.mono ?_⟩
        rintro e W' (⟨he, h2, h3⟩ | ⟨he, h2⟩)
        · exact ⟨true, he, .inl ⟨rfl, h2, h3⟩⟩
        · exact ⟨false, he, .inr ⟨rfl, h2⟩⟩
      clear hY
      have hmo : Try.prog.follows Departure.mixedOrders = true := by kernel_rfl
      gi_wp2
      gi_region_with_o (first
        | (refine ⟨trivial, ?_⟩; gi_at_call 33; refine (callsIn_wide.2 (fault_any last f.1 f.2 _ HM.out)).mono ?_; rintro e W1 ⟨rfl, hb1⟩; obtain ⟨q0, q1, hblk, hn1, hs1, fn, tmps, assign, body, hy, hR⟩ := HX.out W1 (by simpa using hb1))
        | (refine hR.mono ?_; rintro e W3 ⟨bb, rfl, hbb⟩))
      all_goals
        rcases hbb with ⟨rfl, hJ3, hk3⟩ | ⟨rfl, hJx3⟩
        · have hq3 : W3.cell? ⟨wr.heap.size, 0, none⟩ = some (.int .i64 f.1) := by simp [World.cell?, hk3.2 _ _ _ hblk]
          have HN : Hid (judge 0 fs = (pre ++ [⟨f.1, f.2, faultOf last f.1 f.2.size, fault_ok last f.1 f.2⟩]) ++ judge f.1 (fs.drop (k + 1))) := by
            show _ = _
            rw [HJD.out, HF.out, judge]; simp
          have HL : Hid ((pre ++ [(⟨f.1, f.2, faultOf last f.1 f.2.size, fault_ok last f.1 f.2⟩ : Jd)]).length = k + 1) := by
            show _ = _
            rw [List.length_append, HP.out]; rfl
          have HB3 : Hid (Below n₀ W W3 ∧ W.heap.size ≤ W3.heap.size) := ⟨hn1.trans hk3.1, Nat.le_trans hs1 hk3.1.size⟩
          clear hy hR hn1 hs1 hk3 hblk q0 q1 hb1 hd0 hd1
          gi_wp2
          go_roundw
          case rel => exact ⟨k + 1, f.1, _, by omega, by go_num, rfl, HL, HN, hJ3, HB3.out.1, HB3.out.2⟩
          case measure => simp [intOf]; omega
        · have HPX : Hid ((pre ++ [(⟨f.1, f.2, faultOf last f.1 f.2.size, fault_ok last f.1 f.2⟩ : Jd)]) <+: judge 0 fs) := by
            show _ <+: _
            rw [HJD.out, HF.out, judge]; exact ⟨judge f.1 (fs.drop (k + 1)), by simp⟩
          clear hy hR hblk q0 q1 hb1 hd0 hd1
          gi_wp2
          refine bodyPost_ret (results_none rfl _ _ _) rfl ?_
          exact ⟨⟨_, rfl⟩, .inr ⟨_, HPX.out, hJx3⟩⟩
    · have HE : Hid (pre = judge 0 fs) := by
        show _ = _
        rw [HJD.out, List.drop_of_length_le (by omega), judge, List.append_nil]
      clear hY
      gi_wp2
      go_end0
      exact ⟨⟨_, rfl⟩, .inl ⟨pre, HE.out, hJs⟩⟩
set_option maxRecDepth 100000 in
set_option maxHeartbeats 1000000 in
theorem judged1_none (n : Nat) (l Bs cap : Nat) (a : Option Addr) (J : List Jd → World → Prop) (W : World) (hBs : W.cell? ⟨Bs, 0, none⟩ = some (.slice a 0 cap)) (h0 : J [] W) :
    CallsIn Fence.wide n Try.prog 32 #[.func (.yield l) #[] #[], .pointer (some ⟨Bs, 0, none⟩)] W fun e W' => (∃ v, e = .returned v) ∧ J [] W' := by
  refine callsIn_of_wp Try.func32 rfl trivial ?_ rfl
  simp only [Try.ntmps32, List.size_toArray, List.length_cons, List.length_nil, Nat.reduceAdd, Nat.reduceSub, Array.replicate_succ, Array.replicate_zero, List.push_toArray, List.append_toArray, List.nil_append, List.cons_append]
  gi_wp2
  gi_loopw [3, 8] (fun t i wr => t = .int .i64 0 ∧ i = .int .i64 0 ∧ J [] wr) (fun _ _ _ => 0)
  case atStart => exact ⟨rfl, rfl, h0⟩
  case round =>
    obtain ⟨rfl, rfl, hJs⟩ := hrel
    gi_wp2
    go_end0
    exact ⟨⟨_, rfl⟩, hJs⟩
set_option maxHeartbeats 1000000 in
theorem judged_in (n : Nat) (a : Option Addr) (len cap : Nat) (w : World) :
    CallsIn Fence.wide n Try.prog 22 #[.slice a len cap] w fun e w' => e = .returned (.func (.func 32) #[] #[.pointer (some ⟨w.heap.size, 0, none⟩)]) ∧ w' = w.alloc (.cells #[.slice a len cap] 40) := by
  refine callsIn_of_wp Try.func22 rfl trivial ?_ rfl
  simp only [Try.ntmps22, List.size_toArray, List.length_cons, List.length_nil, Nat.reduceAdd, Nat.reduceSub, Array.replicate_succ, Array.replicate_zero, List.push_toArray, List.append_toArray, List.nil_append, List.cons_append]
  gi_wp2
  go_ret
  exact ⟨rfl, rfl⟩
theorem FReads.below {n₀ : Nat} {A B : World} (h : Below n₀ A B) {a : Option Addr} {len cap : Nat} {fs : List (Int × ByteArray)} (hr : FReads n₀ A a len cap fs) : FReads n₀ B a len cap fs := by
  obtain ⟨h1, h2, h3, h4, h5⟩ := hr
  refine ⟨h1, h2, h3, h4, ?_⟩
  rcases h5 with h5 | h5 | ⟨b, off, e, hb, hc⟩
  · exact .inl h5
  · exact .inr (.inl h5)
  · exact .inr (.inr ⟨b, off, e, hb, fun i hi => ⟨(h.cell (p := ⟨b, off + i * 2, none⟩) hb).trans (hc i hi).1, (h.cell (p := ⟨b, off + i * 2 + 1, none⟩) hb).trans (hc i hi).2⟩⟩)
/-- judged hands back a value that goes through all, or through a part. -/
theorem judged_stops (n : Nat) (hn : 1 ≤ n) (Bs n₀ : Nat) (a : Option Addr) (len cap : Nat) (fs : List (Int × ByteArray)) (w : World) (hBs : Bs < w.heap.size) (hn₀ : n₀ ≤ w.heap.size)
    (hc : w.cell? ⟨Bs, 0, none⟩ = some (.slice a len cap)) (hI : FReads n₀ w a len cap fs) :
    SeqStopsK Fence.wide n Try.prog 32 #[.pointer (some ⟨Bs, 0, none⟩)] encJ (KpJ n₀) (fun ys => ys = judge 0 fs) (fun pre => pre <+: judge 0 fs) len w := fun l J Jx W hW hJ _ hY h0 => by
  have hc' := (hW.cell (p := ⟨Bs, 0, none⟩) hBs).trans hc
  obtain ⟨h1, h2, h3, h4, h5⟩ := hI.below (hW.mono hn₀)
  have hz : len = 0 → CallsIn Fence.wide n Try.prog 32 (#[.func (.yield l) #[] #[]] ++ #[.pointer (some ⟨Bs, 0, none⟩)]) W fun e W' => (∃ v, e = .returned v) ∧ ((∃ xs, xs = judge 0 fs ∧ J xs W') ∨ (∃ pre, pre <+: judge 0 fs ∧ Jx pre W')) := by
    intro hl
    subst hl
    have hf : fs = [] := List.eq_nil_of_length_eq_zero h1
    exact (judged1_none n l Bs cap a J W hc' h0).mono fun e W' ⟨he, hj⟩ => ⟨he, .inl ⟨_, by rw [hf]; rfl, hj⟩⟩
  rcases h5 with ⟨_, h⟩ | ⟨_, _, h⟩ | ⟨b, off, rfl, hb, hcs⟩
  · exact hz (by omega)
  · exact hz h
  · exact judged1_in n hn l Bs n₀ b off len cap fs h1 (by omega) hb h4 J Jx W hJ (Nat.le_trans hn₀ hW.size) hY hc' hcs h0
end Go.Proofs.Ytdnhnjimhbbabaa

/- The iterator of pack.parsed: the fields that bytes are made of, each with what is wrong with it. -/
namespace Go.Proofs.Ytdnhnjimhbbabaa
open Go.RowKit Go.Shelf Nums
set_option maxRecDepth 100000

attribute [local go_sem] Oper.semAt_some
def encP (x : Pd) : Array Value := #[.agg #[.int .i64 x.tag, .string ⟨x.d.toArray⟩], .int .i64 x.e]
/-- What a round keeps: all below n₀, and every field's block. -/
def KpP (n₀ : Nat) (W W' : World) : Prop := Below n₀ W W' ∧ ∀ (b : Nat) (x y : Value) (m : Nat × Nat), W.heap[b]? = some (Obj.cells #[x, y] 37 m) → W'.heap[b]? = some (Obj.cells #[x, y] 37 m)
theorem kpP_t {n₀ : Nat} {A B C : World} (h : KpP n₀ A B) (k : KpP n₀ B C) : KpP n₀ A C := ⟨h.1.trans k.1, fun b x y m hb => k.2 b x y m (h.2 b x y m hb)⟩
theorem kpP_b {n₀ : Nat} {w : World} (hn : n₀ ≤ w.heap.size) (W : World) (l : Nat) (o o' : Obj) (hl : w.heap.size ≤ l) (h : W.heap[l]? = some o) (hc : o.isCells = false) (hw : o.isWalk = false) : KpP n₀ W (W.putObj l o') := by
  refine ⟨belowK_b hn W l o o' hl h hc hw, fun b x y m hb => ?_⟩
  have hne : some b ≠ some l := by
    intro e
    cases e
    rw [h] at hb
    cases hb
    cases hc
  rw [(grownBy_putObj' W l o').block b (Array.getElem?_eq_some_iff.1 hb).1 hne]
  exact hb
/-- Bytes that can be read, in a block below n₀. -/
def LReads (n₀ : Nat) (w : World) (a : Option Addr) (len cap : Nat) (l : List UInt8) : Prop :=
  l.length = len ∧ len ≤ cap ∧ cap ≤ 9223372036854775807 ∧
  ((a = none ∧ cap = 0) ∨ (∃ ad, a = some ad ∧ len = 0) ∨ ∃ b off, a = some ⟨b, off, none⟩ ∧ b < n₀ ∧ ∀ (i : Nat) (h : i < l.length), w.cell? ⟨b, off + i, none⟩ = some (.int .u8 l[i].toNat))
theorem LReads.below {n₀ : Nat} {A B : World} (h : Below n₀ A B) {a : Option Addr} {len cap : Nat} {l : List UInt8} (hr : LReads n₀ A a len cap l) : LReads n₀ B a len cap l := by
  obtain ⟨h1, h2, h3, h5⟩ := hr
  refine ⟨h1, h2, h3, ?_⟩
  rcases h5 with h5 | h5 | ⟨b, off, e, hb, hc⟩
  · exact .inl h5
  · exact .inr (.inl h5)
  · exact .inr (.inr ⟨b, off, e, hb, fun i hi => (h.cell (p := ⟨b, off + i, none⟩) hb).trans (hc i hi)⟩)
theorem LReads.reads {n₀ : Nat} {A : World} {a : Option Addr} {len cap : Nat} {l : List UInt8} (hr : LReads n₀ A a len cap l) (hn : n₀ ≤ A.heap.size) : Reads A a len cap l := by
  obtain ⟨h1, h2, h3, h5⟩ := hr
  refine ⟨h1, h2, h3, ?_⟩
  rcases h5 with h5 | h5 | ⟨b, off, e, hb, hc⟩
  · exact .inl h5
  · exact .inr (.inl h5)
  · exact .inr (.inr ⟨b, off, e, Nat.lt_of_lt_of_le hb hn, hc⟩)
theorem Reads.lreads {A : World} {a : Option Addr} {len cap : Nat} {l : List UInt8} (hr : Reads A a len cap l) : LReads A.heap.size A a len cap l := hr
/-- The rest behind the first n bytes. -/
theorem LReads.drop {n₀ : Nat} {A : World} {b off len cap n : Nat} {l : List UInt8} (hr : LReads n₀ A (some ⟨b, off, none⟩) len cap l) (hn : n ≤ len) (h0 : 0 < len) :
    LReads n₀ A (if cap = n then some ⟨b, off, none⟩ else some ⟨b, off + n, none⟩) (len - n) (cap - n) (l.drop n) := by
  obtain ⟨h1, h2, h3, h5⟩ := hr
  refine ⟨by rw [List.length_drop]; omega, by omega, by omega, ?_⟩
  rcases h5 with ⟨h, _⟩ | ⟨_, _, h⟩ | ⟨b', off', e, hb, hc⟩
  · cases h
  · omega
  · cases e
    by_cases hcn : cap = n
    · rw [if_pos hcn]; exact .inr (.inl ⟨_, rfl, by omega⟩)
    · rw [if_neg hcn]
      refine .inr (.inr ⟨b, off + n, rfl, hb, fun i hi => ?_⟩)
      have := hc (n + i) (by rw [List.length_drop] at hi; omega)
      rw [← Nat.add_assoc] at this
      rw [this, List.getElem_drop]
end Go.Proofs.Ytdnhnjimhbbabaa

/- pack.parsed goes through the fields that bytes are made of: all, or a part where a round says no more. -/
namespace Go.Proofs.Ytdnhnjimhbbabaa
open Go.RowKit Go.Shelf Nums
set_option maxRecDepth 100000

attribute [local go_sem] Oper.semAt_some
theorem pE_bad {last : Nat} {l : List UInt8} (h : gE l ≠ 0) : pE last l = gE l := by rw [pE, if_neg h]
theorem pE_fault {last : Nat} {l : List UInt8} (h : gE l = 0) (hf : faultOf last (gT l) (gD l).length ≠ 0) : pE last l = 11 := by rw [pE, if_pos h, if_neg hf]
set_option maxRecDepth 100000 in
set_option maxHeartbeats 4000000 in
theorem parsed1_in (n : Nat) (hn : 1 ≤ n) (l Bs n₀ : Nat) (a : Option Addr) (len cap : Nat) (bs : List UInt8) (J Jx : List Pd → World → Prop)
    (W : World) (hJ : AbidesFrom W.heap.size J) (hn₀ : n₀ ≤ W.heap.size)
    (hY : ∀ pre x W, J pre W → pre.length < len + 1 → YieldAt Fence.wide (n - 1) Try.prog l (encP x) W fun e W' =>
      (e = .returned (.bool true) ∧ J (pre ++ [x]) W' ∧ KpP n₀ W W') ∨ (e = .returned (.bool false) ∧ Jx (pre ++ [x]) W'))
    (hBs : W.cell? ⟨Bs, 0, none⟩ = some (.slice a len cap)) (hR : LReads n₀ W a len cap bs) (h0 : J [] W) :
    CallsIn Fence.wide n Try.prog 40 #[.func (.yield l) #[] #[], .pointer (some ⟨Bs, 0, none⟩)] W fun e W' => (∃ v, e = .returned v) ∧
      ((∃ ys, ys = parse (len + 1) 0 bs ∧ J ys W') ∨ (∃ pre, pre <+: parse (len + 1) 0 bs ∧ Jx pre W')) := by
  refine callsIn_of_wp Try.func40 rfl trivial ?_ rfl
  simp only [Try.ntmps40, List.size_toArray, List.length_cons, List.length_nil, Nat.reduceAdd, Nat.reduceSub, Array.replicate_succ, Array.replicate_zero, List.push_toArray, List.append_toArray, List.nil_append, List.cons_append]
  gi_wp2
  gi_loopw [3, 4] (fun t s wr => ∃ (last : Nat) (pre : List Pd) (ra : Option Addr) (rlen rcap : Nat) (rl : List UInt8), s = .slice ra rlen rcap ∧ t = .int .i64 last ∧ Hid (LReads n₀ W ra rlen rcap rl) ∧ rlen + pre.length ≤ len ∧ Hid (parse (len + 1) 0 bs = pre ++ parse (rlen + 1) last rl) ∧ J pre wr ∧ Below n₀ W wr ∧ W.heap.size ≤ wr.heap.size)
    (fun _ s _ => match s with | .slice _ k _ => k | _ => 0)
  case atStart => exact ⟨0, [], a, len, cap, bs, rfl, rfl, hR, by simp, by simp [Hid], h0, Below.refl _ _, Nat.le_refl _⟩
  case round =>
    obtain ⟨last, pre, ra, rlen, rcap, rl, rfl, rfl, HR, hle, HP, hJs, hnx, hsz⟩ := hrel
    clear hBs
    have hrc : rlen ≤ rcap := HR.out.2.1
    have hrm : rcap ≤ 9223372036854775807 := HR.out.2.2.1
    by_cases hz : rlen = 0
    · subst hz
      clear hY
      gi_wp2
      go_end0
      have hl : rl = [] := List.eq_nil_of_length_eq_zero HR.out.1
      refine ⟨⟨_, rfl⟩, .inl ⟨pre, ?_, hJs⟩⟩
      rw [HP.out, hl]; simp [parse]
    · have hpos : (0 : Int) < (rlen : Int) := by omega
      have HNE : Hid (rl ≠ []) := by intro e; have := HR.out.1; rw [e] at this; simp at this; omega
      have HRD : Hid (Reads wr ra rlen rcap rl) := (HR.out.below hnx).reads (Nat.le_trans hn₀ hsz)
      have HX : Hid (∀ W2, Below wr.heap.size wr W2 → ∃ fn tmps assign body, (Instr.yield l #[.agg #[.int .i64 (gT rl), .string ⟨(gD rl).toArray⟩], .int .i64 (pE last rl)]).run Try.prog W2 = .ok (.round l fn tmps assign body) W2 ∧
            RoundIn Fence.wide (n - 1) Try.prog l fn tmps assign body W2 fun e W' => ∃ bb, e = .returned (.bool bb) ∧ ((bb = true ∧ J (pre ++ [pX last rl]) W' ∧ KpP n₀ W2 W') ∨ (bb = false ∧ Jx (pre ++ [pX last rl]) W'))) := by
        intro W2 hb2
        obtain ⟨fn, tmps, assign, body, hy, hR⟩ := hY pre (pX last rl) W2 (hJ pre wr W2 none hJs (grown_of_below hb2) (fun r e => by cases e)) (by omega)
        refine ⟨fn, tmps, assign, body, hy, hR.mono ?_⟩
        rintro e W' (⟨he, h2, h3⟩ | ⟨he, h2⟩)
        · exact ⟨true, he, .inl ⟨rfl, h2, h3⟩⟩
        · exact ⟨false, he, .inr ⟨rfl, h2⟩⟩
      have HPR : Hid ((pre ++ [pX last rl]) <+: parse (len + 1) 0 bs) := by
        show _ <+: _
        rw [HP.out, parse_cons HNE.out]
        exact ⟨if pE last rl = 0 then parse rlen (gT rl) (rl.drop (gN rl)) else [], by simp⟩
      clear hY
      by_cases hE : gE rl = 0
      · have hE1 : ((gE rl : Int) == 0) = true := by simpa using hE
        have hgn := gN_le hE
        obtain ⟨b, off, hra⟩ : ∃ b off, ra = some ⟨b, off, none⟩ := by
          rcases HR.out.2.2.2 with ⟨_, h⟩ | ⟨_, _, h⟩ | ⟨b, off, h, _⟩
          · omega
          · omega
          · exact ⟨b, off, h⟩
        subst hra
        have hds : (⟨(gD rl).toArray⟩ : ByteArray).size = (gD rl).length := by show (gD rl).toArray.size = _; simp
        have HFC : Hid (∀ w, Calls Try.prog 33 #[.int .i64 last, .agg #[.int .i64 (gT rl), .string ⟨(gD rl).toArray⟩]] w fun e w' => e = .returned (.int .i64 (faultOf last (gT rl) (gD rl).length)) ∧ Below w.heap.size w w') := fun w => by
          have := fault_any last (gT rl) ⟨(gD rl).toArray⟩ w (by rw [hds]; unfold maxLen; omega)
          rwa [hds] at this
        clear hds
        by_cases hF : faultOf last (gT rl) (gD rl).length = 0
        · have HPE : Hid (pE last rl = 0) := pE_ok hE hF
          have HPG : Hid (pE last rl = gE rl) := HPE.out.trans hE.symm
          have HFD : Hid (∀ w, Calls Try.prog 33 #[.int .i64 last, .agg #[.int .i64 (gT rl), .string ⟨(gD rl).toArray⟩]] w fun e w' => e = .returned (.int .i64 0) ∧ Below w.heap.size w w') := fun w => by
            have := HFC.out w
            rwa [hF] at this
          have hE3 : ((gE rl : Int) != 0) = false := by simpa using hE
          have HNX : Hid (parse (len + 1) 0 bs = (pre ++ [pX last rl]) ++ parse (rlen - gN rl + 1) (gT rl) (rl.drop (gN rl))) := by
            show _ = _
            rw [HP.out, parse_cons HNE.out, if_pos HPE.out, parse_fuel (rlen - gN rl + 1) rlen (gT rl) (rl.drop (gN rl)) (by rw [List.length_drop, HR.out.1]; omega) (by omega)]
            simp
          have HDR := HR.out.drop (n := gN rl) (by rw [← HR.out.1]; exact hgn.2.1) (by omega)
          have hgl : gN rl ≤ rlen := by rw [← HR.out.1]; exact hgn.2.1
          have hg4 : 4 ≤ gN rl := hgn.1
          have HZ : Hid (gE rl = 0) := hE
          have hmo : Try.prog.follows Departure.mixedOrders = true := by kernel_rfl
          clear hE hF HFC hgn
          have HDD : Hid (LReads n₀ W (if rcap = gN rl then some ⟨b, off, none⟩ else some ⟨b, off + gN rl, none⟩) (rlen - gN rl) (rcap - gN rl) (rl.drop (gN rl))) := HDR
          clear HDR
          gi_wp2_with (first
            | (refine ⟨trivial, ?_⟩; gi_at_call 41; refine (callsIn_wide.2 (get_any _ _ _ rl _ HRD.out)).mono ?_; rintro e W1 ⟨rfl, hb1⟩; unfold gotten)
            | (refine ⟨trivial, ?_⟩; gi_at_call 33; refine (callsIn_wide.2 (HFD.out _)).mono ?_; rintro e W2 ⟨rfl, hb2⟩; have hb3 : Below wr.heap.size wr W2 := (hb1.alloc hb1.size _).trans (hb2.mono (by have := hb1.size; simp; omega)); have hblk : W2.heap[W1.heap.size]? = some (.cells #[.int .i64 (gT rl), .string ⟨(gD rl).toArray⟩] 37 (0, 0)) := (hb2.block W1.heap.size (by simp)).trans (World.alloc_heap_new W1 _); have q0 : W2.cell? ⟨W1.heap.size, 0, none⟩ = some (.int .i64 (gT rl)) := (by simp [World.cell?, hblk]); have q1 : W2.cell? ⟨W1.heap.size, 1, none⟩ = some (.string ⟨(gD rl).toArray⟩) := (by simp [World.cell?, hblk]); obtain ⟨fn, tmps, assign, body, hy, hR⟩ := HX.out W2 hb3; rw [HPG.out] at hy))
          refine hR.mono ?_
          rintro e W3 ⟨bb, rfl, ⟨rfl, hJ3, hk3⟩ | ⟨rfl, hJx3⟩⟩
          · have hq3 : W3.cell? ⟨W1.heap.size, 0, none⟩ = some (.int .i64 (gT rl)) := by simp [World.cell?, hk3.2 _ _ _ _ hblk]
            have HB3 : Hid (Below n₀ W W3 ∧ W.heap.size ≤ W3.heap.size) := ⟨hnx.trans ((hb3.mono (Nat.le_trans hn₀ hsz)).trans hk3.1), Nat.le_trans hsz (Nat.le_trans hb3.size hk3.1.size)⟩
            clear hy hR hk3 hblk q0 q1 hb1 hb2 hb3 hnx hJs
            gi_wp2
            gi_region_with_o (fail)
            gi_wp2
            all_goals
              refine ⟨⟨gT rl, pre ++ [pX last rl], _, _, _, ⟨rfl, rfl, rfl⟩, rfl, rl.drop (gN rl), ?_, ?_, HNX, hJ _ W3 W3.drew none hJ3 (grown_of_below (Below.refl _ _).drew) (fun r e => by cases e), HB3.out.1.drew, HB3.out.2⟩, by omega⟩
              · have hdd := HDD.out
                first
                  | (have hp : rcap = gN rl := by assumption
                     rw [if_pos hp, show rcap - gN rl = 0 by omega] at hdd
                     exact hdd)
                  | (have hp : ¬ rcap = gN rl := by assumption
                     rw [if_neg hp] at hdd
                     exact hdd)
              · rw [List.length_append]; simp; omega
          · clear hy hR hblk q0 q1 hb1 hb2 hb3
            gi_wp2
            refine bodyPost_ret (results_none rfl _ _ _) rfl ?_
            exact ⟨⟨_, rfl⟩, .inr ⟨_, HPR.out, hJx3⟩⟩
        · have HPE : Hid (pE last rl = 11) := pE_fault hE hF
          have hF2 : (faultOf last (gT rl) (gD rl).length != 0) = true := by simpa using hF
          have HALL : Hid (pre ++ [pX last rl] = parse (len + 1) 0 bs) := by
            show _ = _
            rw [HP.out, parse_cons HNE.out, if_neg (by rw [HPE.out]; decide)]
          have HZ : Hid (gE rl = 0) := hE
          clear hE hF hgn
          gi_wp2_with (first
            | (refine ⟨trivial, ?_⟩; gi_at_call 41; refine (callsIn_wide.2 (get_any _ _ _ rl _ HRD.out)).mono ?_; rintro e W1 ⟨rfl, hb1⟩; unfold gotten)
            | (refine ⟨trivial, ?_⟩; gi_at_call 33; refine (callsIn_wide.2 (HFC.out _)).mono ?_; rintro e W2 ⟨rfl, hb2⟩; have hb3 : Below wr.heap.size wr W2 := (hb1.alloc hb1.size _).trans (hb2.mono (by have := hb1.size; simp; omega)); have hblk : W2.heap[W1.heap.size]? = some (.cells #[.int .i64 (gT rl), .string ⟨(gD rl).toArray⟩] 37 (0, 0)) := (hb2.block W1.heap.size (by simp)).trans (World.alloc_heap_new W1 _); have q0 : W2.cell? ⟨W1.heap.size, 0, none⟩ = some (.int .i64 (gT rl)) := (by simp [World.cell?, hblk]); have q1 : W2.cell? ⟨W1.heap.size, 1, none⟩ = some (.string ⟨(gD rl).toArray⟩) := (by simp [World.cell?, hblk]); obtain ⟨fn, tmps, assign, body, hy, hR⟩ := HX.out W2 hb3; rw [HPE.out] at hy; simp only [Int.cast_ofNat_Int] at hy))
          refine hR.mono ?_
          rintro e W3 ⟨bb, rfl, ⟨rfl, hJ3, _⟩ | ⟨rfl, hJx3⟩⟩
          · clear hy hR hblk q0 q1 hb1 hb2 hb3
            gi_wp2
            refine bodyPost_ret (results_none rfl _ _ _) rfl ?_
            exact ⟨⟨_, rfl⟩, .inl ⟨_, HALL.out, hJ3⟩⟩
          · clear hy hR hblk q0 q1 hb1 hb2 hb3
            gi_wp2
            refine bodyPost_ret (results_none rfl _ _ _) rfl ?_
            exact ⟨⟨_, rfl⟩, .inr ⟨_, HPR.out, hJx3⟩⟩
      · have hE1 : ((gE rl : Int) == 0) = false := by simpa using hE
        have hE2 : ((gE rl : Int) != 0) = true := by simpa using hE
        have HPE : Hid (pE last rl = gE rl) := pE_bad hE
        have HALL : Hid (pre ++ [pX last rl] = parse (len + 1) 0 bs) := by
          show _ = _
          rw [HP.out, parse_cons HNE.out, if_neg (by rw [HPE.out]; exact hE)]
        have HGE : Hid (¬ gE rl = 0) := hE
        clear hE
        gi_wp2_with (refine ⟨trivial, ?_⟩; gi_at_call 41; refine (callsIn_wide.2 (get_any _ _ _ rl _ HRD.out)).mono ?_; rintro e W1 ⟨rfl, hb1⟩; unfold gotten)
        refine ⟨trivial, ?_⟩
        obtain ⟨fn, tmps, assign, body, hy, hR⟩ := HX.out (W1.alloc (.cells #[.int .i64 (gT rl), .string ⟨(gD rl).toArray⟩] 37)) (hb1.alloc hb1.size _)
        rw [HPE.out] at hy
        gi_wp2
        refine hR.mono ?_
        rintro e W3 ⟨bb, rfl, ⟨rfl, hJ3, _⟩ | ⟨rfl, hJx3⟩⟩
        · clear hy hR
          gi_wp2
          refine bodyPost_ret (results_none rfl _ _ _) rfl ?_
          exact ⟨⟨_, rfl⟩, .inl ⟨_, HALL.out, hJ3⟩⟩
        · clear hy hR
          gi_wp2
          refine bodyPost_ret (results_none rfl _ _ _) rfl ?_
          exact ⟨⟨_, rfl⟩, .inr ⟨_, HPR.out, hJx3⟩⟩
set_option maxHeartbeats 1000000 in
theorem parsed_in (n : Nat) (a : Option Addr) (len cap : Nat) (w : World) :
    CallsIn Fence.wide n Try.prog 37 #[.slice a len cap] w fun e w' => e = .returned (.func (.func 40) #[] #[.pointer (some ⟨w.heap.size, 0, none⟩)]) ∧ w' = w.alloc (.cells #[.slice a len cap] 26) := by
  refine callsIn_of_wp Try.func37 rfl trivial ?_ rfl
  simp only [Try.ntmps37, List.size_toArray, List.length_cons, List.length_nil, Nat.reduceAdd, Nat.reduceSub, Array.replicate_succ, Array.replicate_zero, List.push_toArray, List.append_toArray, List.nil_append, List.cons_append]
  gi_wp2
  go_ret
  exact ⟨rfl, rfl⟩
theorem parsed_stops (n : Nat) (hn : 1 ≤ n) (Bs n₀ : Nat) (a : Option Addr) (len cap : Nat) (bs : List UInt8) (w : World) (hBs : Bs < w.heap.size) (hn₀ : n₀ ≤ w.heap.size)
    (hc : w.cell? ⟨Bs, 0, none⟩ = some (.slice a len cap)) (hI : LReads n₀ w a len cap bs) :
    SeqStopsK Fence.wide n Try.prog 40 #[.pointer (some ⟨Bs, 0, none⟩)] encP (KpP n₀) (fun ys => ys = parse (len + 1) 0 bs) (fun pre => pre <+: parse (len + 1) 0 bs) (len + 1) w := fun l J Jx W hW hJ _ hY h0 =>
  parsed1_in n hn l Bs n₀ a len cap bs J Jx W hJ (Nat.le_trans hn₀ hW.size) hY ((hW.cell (p := ⟨Bs, 0, none⟩) hBs).trans hc) (hI.below (hW.mono hn₀)) h0
end Go.Proofs.Ytdnhnjimhbbabaa

/- What pack.Lay answers: the bytes of a row's fields, or the first field's fault. -/
namespace Go.Proofs.Ytdnhnjimhbbabaa
open Go.RowKit Go.Shelf Nums
set_option maxRecDepth 100000

attribute [local go_sem] Oper.semAt_some
def outB (pre : List Jd) : List UInt8 := (pre.map fun x => fieldBytesI x.tag x.d.data.toList).flatten
theorem outB_snoc (pre : List Jd) (x : Jd) : outB (pre ++ [x]) = outB pre ++ fieldBytesI x.tag x.d.data.toList := by simp [outB]
theorem outB_length : ∀ (pre : List Jd), (∀ x ∈ pre, x.e = 0) → (outB pre).length ≤ pre.length * 65540
  | [], _ => by simp [outB]
  | x :: r, h => by
    have h1 := outB_length r (fun y hy => h y (List.mem_cons_of_mem _ hy))
    have h2 := x.ok (h x List.mem_cons_self)
    have e : outB (x :: r) = fieldBytesI x.tag x.d.data.toList ++ outB r := by simp [outB]
    rw [e, List.length_append, fieldBytesI_length]
    simp only [Array.length_toList, List.length_cons]
    have : x.d.data.size ≤ 65536 := h2
    omega
/-- A block of cells stays under the turn of a block that is none. -/
theorem cells_stay {W W' : World} {row : Option Nat} {b : Nat} {c : Array Value} {t : TypeId} {m : Nat × Nat} (h : W.heap[b]? = some (.cells c t m)) (hg : W.grownBy W' row) (hr : ∀ r, row = some r → ∃ o : Obj, W.heap[r]? = some o ∧ o.isCells = false) :
    W'.heap[b]? = some (.cells c t m) := by
  refine (hg.block b (Array.getElem?_eq_some_iff.1 h).1 ?_).trans h
  intro e
  obtain ⟨o, ho, hc⟩ := hr b e.symm
  rw [h] at ho; cases ho; cases hc
theorem spares_box {w w' : World} (h : Spares 5 w w') {b : Nat} {c : Array Value} {t : TypeId} {m : Nat × Nat} (ht : t ≠ 5) (hb : w.heap[b]? = some (.cells c t m)) : w'.heap[b]? = some (.cells c t m) :=
  h b _ hb (fun c' m' e => by cases e; exact ht rfl)
theorem spares_others {w w' : World} (h : Spares 5 w w') (hs : w.heap.size ≤ w'.heap.size) : KeepsOthers w w' := ⟨hs, fun k o hk ho => h k o hk (fun c m e => by subst e; cases ho)⟩
theorem set_other {W : World} {B B' : Nat} {c : Array Value} {t : TypeId} {m : Nat × Nat} (h : W.heap[B]? = some (.cells c t m)) (hne : B ≠ B') (v : Value) : (W.setCell ⟨B', 0, none⟩ v).heap[B]? = some (.cells c t m) :=
  (Below.heap_setCell W ⟨B', 0, none⟩ v B hne).trans h
set_option maxRecDepth 100000 in
set_option maxHeartbeats 4000000 in
theorem lay_in (n : Nat) (hn : 3 ≤ n) (a : Option Addr) (len cap : Nat) (fs : List (Int × ByteArray)) (w : World) (hR : FReads w.heap.size w a len cap fs) (hl : len ≤ 400) :
    CallsIn Fence.wide n Try.prog 9 #[.slice a len cap] w fun e W' =>
      ((∀ x ∈ judge 0 fs, x.e = 0) ∧ ∃ v, e = .returned (.tuple #[v, .int .i64 0]) ∧ W'.ownsRow w.heap.size 5 1 v (outB (judge 0 fs)).length (cellsOf (outB (judge 0 fs))) ∧ Below w.heap.size w W') ∨
      (∃ pre x, (pre ++ [x]) <+: judge 0 fs ∧ (∀ y ∈ pre, y.e = 0) ∧ x.e ≠ 0 ∧ e = .returned (.tuple #[.slice none 0 0, .int .i64 x.e]) ∧ Below w.heap.size w W') := by
  have h1 : 1 ≤ n := by omega
  refine callsIn_of_wp_marks Try.func9 rfl trivial ?_ rfl
  simp only [Try.ntmps9, List.size_toArray, List.length_cons, List.length_nil, Nat.reduceAdd, Nat.reduceSub, Array.replicate_succ, Array.replicate_zero, List.push_toArray, List.append_toArray, List.nil_append, List.cons_append]
  gi_wp2_with (refine ⟨trivial, ?_⟩; gi_at_call 22; refine (judged_in (n - 1) _ _ _ _).mono ?_; rintro e w' ⟨rfl, rfl⟩)
  have bR1 := (((Boxed.new w 26 (.slice none 0 0)).alloc (.cells #[.int .i64 0] 27)).alloc (.cells #[.slice none 0 0] 26)).alloc (.cells #[.slice a len cap] 40)
  have bR2 := ((Boxed.new (w.alloc (.cells #[.slice none 0 0] 26)) 27 (.int .i64 0)).alloc (.cells #[.slice none 0 0] 26)).alloc (.cells #[.slice a len cap] 40)
  have bO := (Boxed.new ((w.alloc (.cells #[.slice none 0 0] 26)).alloc (.cells #[.int .i64 0] 27)) 26 (.slice none 0 0)).alloc (.cells #[.slice a len cap] 40)
  have bA := Boxed.new (((w.alloc (.cells #[.slice none 0 0] 26)).alloc (.cells #[.int .i64 0] 27)).alloc (.cells #[.slice none 0 0] 26)) 40 (.slice a len cap)
  simp only [World.size_alloc] at bR2 bO bA
  have hB0 : Below w.heap.size w ((((w.alloc (.cells #[.slice none 0 0] 26)).alloc (.cells #[.int .i64 0] 27)).alloc (.cells #[.slice none 0 0] 26)).alloc (.cells #[.slice a len cap] 40)) :=
    ((((Below.refl _ w).alloc (Nat.le_refl _) _).alloc (by simp) _).alloc (by simp; omega) _).alloc (by simp; omega) _
  have hsz : ((((w.alloc (.cells #[.slice none 0 0] 26)).alloc (.cells #[.int .i64 0] 27)).alloc (.cells #[.slice none 0 0] 26)).alloc (.cells #[.slice a len cap] 40)).heap.size = w.heap.size + 4 := by simp
  obtain ⟨W0, hW0⟩ : ∃ W0, (((w.alloc (.cells #[.slice none 0 0] 26)).alloc (.cells #[.int .i64 0] 27)).alloc (.cells #[.slice none 0 0] 26)).alloc (.cells #[.slice a len cap] 40) = W0 := ⟨_, rfl⟩
  rw [hW0] at bR1 bR2 bO bA hB0 hsz ⊢
  clear hW0
  have hge : w.heap.size + 4 ≤ W0.heap.size := Nat.le_of_eq hsz.symm
  clear hsz
  refine wpIn_rangeFunc_ownH rfl h1 (gf := 32) (lb := #[.pointer (some ⟨w.heap.size + 1 + 1 + 1, 0, none⟩)]) rfl trivial (enters_of Try.func32 (by kernel_rfl) rfl)
    (judged_stops (n - 1) (by omega) (w.heap.size + 1 + 1 + 1) w.heap.size a len cap fs W0 (by omega) (by omega) bA.cell (hR.below hB0)) kpJ_t (kpJ_b (by omega)) (Below.refl _ _) (fun _ => rfl)
    (fun pre W => ((∃ v, Boxed W (w.heap.size + 1 + 1) 26 v ∧ W.ownsRow W0.heap.size 5 1 v (outB pre).length (cellsOf (outB pre)) ∧ True) ∧ (Boxed W w.heap.size 26 (.slice none 0 0) ∧ Boxed W (w.heap.size + 1) 27 (.int .i64 0))) ∧ ((∀ x ∈ pre, x.e = 0) ∧ Below w.heap.size w W))
    (fun c pre W => (c = .ret ∧ ∃ pre' x, pre = pre' ++ [x] ∧ (∀ y ∈ pre', y.e = 0) ∧ x.e ≠ 0 ∧ Boxed W w.heap.size 26 (.slice none 0 0) ∧ Boxed W (w.heap.size + 1) 27 (.int .i64 x.e)) ∧ Below w.heap.size w W)
    (OwnFrom.and (OwnFrom.and (Own.from (holdsRow_own W0.heap.size (w.heap.size + 1 + 1) 26 5 1 (fun pre => (outB pre).length) (fun pre => cellsOf (outB pre)) (fun _ _ => True)) _) (OwnFrom.and (Own.from (boxed_own _ _ _) _) (Own.from (boxed_own _ _ _) _))) (OwnFrom.and (ownFrom_pure _ _) (ownFrom_below (Nat.le_refl _) (by omega))))
    (fun c => OwnFrom.and (fun s X Y row hs hg hr => by
      obtain ⟨hc, pre', x, e1, e2, e3, b1, b2⟩ := hs
      exact ⟨hc, pre', x, e1, e2, e3, cells_stay b1 hg (fun r e => (hr r e).2), cells_stay b2 hg (fun r e => (hr r e).2)⟩) (ownFrom_below (Nat.le_refl _) (by omega)))
    ⟨⟨⟨_, bO, World.ownsRow_nil _ _ _ _, trivial⟩, bR1, bR2⟩, by simp, hB0⟩
    (fun x a' W => ∃ Bx, w.heap.size + 1 + 1 < Bx ∧ W.heap[Bx]? = some (.cells #[.int .i64 x.tag, .string x.d] 37 (0, 0)) ∧ a' = { tmps := #[.slice a len cap, undef, .pointer (some ⟨w.heap.size, 0, none⟩), .pointer (some ⟨w.heap.size + 1, 0, none⟩), .pointer (some ⟨w.heap.size + 1 + 1, 0, none⟩), .pointer (some ⟨Bx, 0, none⟩), .int .i64 x.e, .slice a len cap, .func (.func 32) #[] #[.pointer (some ⟨w.heap.size + 1 + 1 + 1, 0, none⟩)], .agg #[.int .i64 x.tag, .string x.d], .int .i64 x.e, undef, undef, undef, undef, undef, undef, undef], defers := [] })
    (fun x a' _ X Y row hs hg hr => by obtain ⟨Bx, h1, h2, h3⟩ := hs; exact ⟨Bx, h1, cells_stay h2 hg (fun r e => (hr r e).2), h3⟩)
    ?assign ?body ?done ?stop
  case assign =>
    rintro l pre x W K ⟨⟨⟨v, bO1, hrow, ht⟩, bR11, bR21⟩, hz, hB1⟩ hK
    dsimp only [encJ]
    gi_wp2
    refine hK _ _ ((KeepsOthers.alloc _ _).from _) ⟨(Below.refl _ W).alloc hB1.size _, fun b c m hb => (Below.heap_alloc W _ b (Array.getElem?_eq_some_iff.1 hb).1).trans hb⟩ ⟨⟨⟨v, bO1.alloc _, hrow.alloc _, ht⟩, bR11.alloc _, bR21.alloc _⟩, hz, hB1.alloc hB1.size _⟩ ⟨W.heap.size, bO1.lt, World.alloc_heap_new W _, rfl⟩
  case body =>
    rintro l pre x a' W hl0 ⟨r, hr⟩ ⟨⟨⟨v, bO1, hrow, ht⟩, bR11, bR21⟩, hz, hB1⟩ ⟨Bx, hBx, bX, rfl⟩ hlt
    have hsW := hB1.size
    have hlW : W0.heap.size ≤ W.heap.size := Nat.le_trans hl0 (Nat.le_of_lt (Array.getElem?_eq_some_iff.1 hr).1)
    clear hr
    have cO := bO1.cell
    have fO := bO1.frozen
    have cX0 : W.cell? ⟨Bx, 0, none⟩ = some (.int .i64 x.tag) := by simp [World.cell?, bX]
    have cX1 : W.cell? ⟨Bx, 1, none⟩ = some (.string x.d) := by simp [World.cell?, bX]
    have c1 := bR11.cell
    have f1 := bR11.frozen
    have c2 := bR21.cell
    have f2 := bR21.frozen
    by_cases he : x.e = 0
    · have HE : Hid (x.e = 0) := he
      have he' : (x.e != 0) = false := by rw [he]; rfl
      clear he
      have hd := x.ok HE.out
      have hol := outB_length pre hz
      gi_wp2
      refine ⟨trivial, fun h => (by cases h), ?_⟩
      refine (CallsIn.inRound l (callsIn_wide.2 (appendField_int v (outB pre) W0.heap.size x.tag x.d W hd (by omega) (by omega) hrow))).mono ?_
      rintro e W1 ⟨v', rfl, hown', hb', hs'⟩
      rw [← outB_snoc] at hown'
      have hs1 : W.heap.size ≤ W1.heap.size := hb'.size
      have bO2 : Boxed W1 (w.heap.size + 1 + 1) 26 v := spares_box hs' (by decide) bO1
      have cO2 := bO2.cell
      have fO2 := bO2.frozen
      obtain ⟨a', n', c', hv'⟩ : ∃ a' n' c', v' = .slice a' n' c' := by
        rcases hown'.2 with ⟨h, _⟩ | ⟨g, cp, _, h, _⟩
        · exact ⟨_, _, _, h⟩
        · exact ⟨_, _, _, h⟩
      have hne : ∀ (b : Nat) (c : Array Value) (m : Nat × Nat), W.heap[b]? = some (Obj.cells c 37 m) → b ≠ w.heap.size + 1 + 1 := by
        intro b c m hb e
        subst e
        rw [show W.heap[w.heap.size + 1 + 1]? = _ from bO1] at hb
        cases hb
      have FIN : Hid (KeepsFrom W0.heap.size W (W1.setCell ⟨w.heap.size + 1 + 1, 0, none⟩ v') ∧ KpJ w.heap.size W (W1.setCell ⟨w.heap.size + 1 + 1, 0, none⟩ v') ∧
          (((∃ v, Boxed (W1.setCell ⟨w.heap.size + 1 + 1, 0, none⟩ v') (w.heap.size + 1 + 1) 26 v ∧ (W1.setCell ⟨w.heap.size + 1 + 1, 0, none⟩ v').ownsRow W0.heap.size 5 1 v (outB (pre ++ [x])).length (cellsOf (outB (pre ++ [x]))) ∧ True) ∧
            (Boxed (W1.setCell ⟨w.heap.size + 1 + 1, 0, none⟩ v') w.heap.size 26 (.slice none 0 0) ∧ Boxed (W1.setCell ⟨w.heap.size + 1 + 1, 0, none⟩ v') (w.heap.size + 1) 27 (.int .i64 0))) ∧
          ((∀ y ∈ pre ++ [x], y.e = 0) ∧ Below w.heap.size w (W1.setCell ⟨w.heap.size + 1 + 1, 0, none⟩ v')))) := by
        refine ⟨((spares_others hs' hs1).trans (KeepsOthers.setCell _ _ _)).from _, ⟨(hb'.mono (by omega)).setCell (p := ⟨w.heap.size + 1 + 1, 0, none⟩) (by show w.heap.size ≤ w.heap.size + 1 + 1; omega) _, fun b c m hb => set_other (spares_box hs' (by decide) hb) (hne b c m hb) _⟩,
          ⟨⟨⟨v', bO2.set _, ?_, trivial⟩, set_other (spares_box hs' (by decide) bR11) (by omega) _, set_other (spares_box hs' (by decide) bR21) (by omega) _⟩, ?_, (hB1.trans (hb'.mono (by omega))).setCell (p := ⟨w.heap.size + 1 + 1, 0, none⟩) (by show w.heap.size ≤ w.heap.size + 1 + 1; omega) _⟩⟩
        · refine hown'.kept (grownBy_setCell' W1 _ v') ?_
          rcases hown'.2 with ⟨h, _⟩ | ⟨g, cp, _, h, hg, _⟩
          · left; rw [h]; rfl
          · right; rw [h]; intro e; simp [Value.ownBlock] at e; omega
        · intro y hy
          rcases List.mem_append.1 hy with h | h
          · exact hz y h
          · simp at h; subst h; exact HE.out
      subst hv'
      clear hown' hrow hs' hb'
      gi_wp2
      exact FIN.out
    · have HE : Hid (x.e ≠ 0) := he
      have he' : (x.e != 0) = true := by simpa using he
      clear he
      have FIN : Hid (KeepsFrom W0.heap.size W ((W.setCell ⟨w.heap.size, 0, none⟩ (.slice none 0 0)).setCell ⟨w.heap.size + 1, 0, none⟩ (.int .i64 x.e)) ∧
          ((∃ pre' x', pre ++ [x] = pre' ++ [x'] ∧ (∀ y ∈ pre', y.e = 0) ∧ x'.e ≠ 0 ∧ Boxed ((W.setCell ⟨w.heap.size, 0, none⟩ (.slice none 0 0)).setCell ⟨w.heap.size + 1, 0, none⟩ (.int .i64 x.e)) w.heap.size 26 (.slice none 0 0) ∧
            Boxed ((W.setCell ⟨w.heap.size, 0, none⟩ (.slice none 0 0)).setCell ⟨w.heap.size + 1, 0, none⟩ (.int .i64 x.e)) (w.heap.size + 1) 27 (.int .i64 x'.e)) ∧ Below w.heap.size w ((W.setCell ⟨w.heap.size, 0, none⟩ (.slice none 0 0)).setCell ⟨w.heap.size + 1, 0, none⟩ (.int .i64 x.e)))) :=
        ⟨((KeepsOthers.setCell _ _ _).trans (KeepsOthers.setCell _ _ _)).from _, ⟨pre, x, rfl, hz, HE.out, set_other (bR11.set _) (by omega) _, Boxed.set _ (show Boxed _ _ _ _ from set_other bR21 (by omega) _)⟩,
          (hB1.setCell (p := ⟨w.heap.size, 0, none⟩) (Nat.le_refl _) _).setCell (p := ⟨w.heap.size + 1, 0, none⟩) (by show w.heap.size ≤ w.heap.size + 1; omega) _⟩
      gi_wp2
      exact ⟨FIN.out.1, ⟨rfl, FIN.out.2.1⟩, FIN.out.2.2⟩
  case done =>
    rintro D ys W hD rfl ⟨⟨⟨v, bO1, hrow, ht⟩, bR11, bR21⟩, hz, hB1⟩ hK
    obtain ⟨a', n', c', hv'⟩ : ∃ a' n' c', v = .slice a' n' c' := by
      rcases hrow.2 with ⟨h, _⟩ | ⟨g, cp, _, h, _⟩
      · exact ⟨_, _, _, h⟩
      · exact ⟨_, _, _, h⟩
    subst hv'
    have cO := bO1.cell
    have c1 := bR11.cell
    have f1 := bR11.frozen
    have c2 := bR21.cell
    have f2 := bR21.frozen
    have HRW : Hid (W.ownsRow W0.heap.size 5 1 (.slice a' n' c') (outB (judge 0 fs)).length (cellsOf (outB (judge 0 fs)))) := hrow
    clear hrow
    gi_wp2
    have hK' := ((KeepsOthers.setCell W ⟨w.heap.size, 0, none⟩ (.slice a' n' c')).trans (KeepsOthers.setCell _ ⟨w.heap.size + 1, 0, none⟩ (.int .i64 0))).same D _ hK rfl
    refine ⟨by simp, .inl ⟨_, _, rfl, run_takeDeferred hK', ?_⟩⟩
    have b1 : Boxed ((W.setCell ⟨w.heap.size, 0, none⟩ (.slice a' n' c')).setCell ⟨w.heap.size + 1, 0, none⟩ (.int .i64 0)) w.heap.size 26 (.slice a' n' c') := set_other (bR11.set _) (by omega) _
    have b2 : Boxed ((W.setCell ⟨w.heap.size, 0, none⟩ (.slice a' n' c')).setCell ⟨w.heap.size + 1, 0, none⟩ (.int .i64 0)) (w.heap.size + 1) 27 (.int .i64 0) := Boxed.set _ (show Boxed _ _ _ _ from set_other bR21 (by omega) _)
    have q1 := cell_kept b1.cell (grownBy_putObj' _ D (.deferred none)) (fun r e => by cases e; exact ⟨_, hK', rfl⟩)
    have q2 := cell_kept b2.cell (grownBy_putObj' _ D (.deferred none)) (fun r e => by cases e; exact ⟨_, hK', rfl⟩)
    have hoff : ∀ B', B' < W0.heap.size → Value.ownBlock (.slice a' n' c') ≠ some B' := by
      intro B' hlt e
      have := (HRW.out.lt B' e).1
      omega
    have hrow2 := (HRW.out.kept (grownBy_setCell' W w.heap.size (.slice a' n' c')) (.inr (hoff _ (by omega)))).kept (grownBy_setCell' _ (w.heap.size + 1) (.int .i64 0)) (.inr (hoff _ (by omega)))
    refine ⟨.tuple #[.slice a' n' c', .int .i64 0], ?_, .inl ⟨hz, _, rfl, own_lower (ownsRow_putObj hrow2 _ hK' rfl) (by omega), ((hB1.setCell (p := ⟨w.heap.size, 0, none⟩) (Nat.le_refl _) _).setCell (p := ⟨w.heap.size + 1, 0, none⟩) (by show w.heap.size ≤ w.heap.size + 1; omega) _).trans (belowK_b (w := w) (Nat.le_refl _) _ D _ _ (by omega) hK' rfl rfl)⟩⟩
    simp [results, Try.f9, go_sem, q1, q2]
  case stop =>
    rintro D c pre W hD hpre ⟨⟨rfl, pre', x, rfl, hz, hx, bR11, bR21⟩, hB1⟩ hK
    gi_wp2
    refine ⟨by simp, .inl ⟨_, _, rfl, run_takeDeferred hK, ?_⟩⟩
    have q1 := cell_kept bR11.cell (grownBy_putObj' _ D (.deferred none)) (fun r e => by cases e; exact ⟨_, hK, rfl⟩)
    have q2 := cell_kept bR21.cell (grownBy_putObj' _ D (.deferred none)) (fun r e => by cases e; exact ⟨_, hK, rfl⟩)
    refine ⟨.tuple #[.slice none 0 0, .int .i64 x.e], ?_, .inr ⟨pre', x, hpre, hz, hx, rfl, hB1.trans (belowK_b (w := w) (Nat.le_refl _) W D _ _ (by omega) hK rfl rfl)⟩⟩
    simp [results, Try.f9, go_sem, q1, q2]
end Go.Proofs.Ytdnhnjimhbbabaa

/- What pack.Read answers: the row of fields that bytes are made of, or what is wrong first. -/
namespace Go.Proofs.Ytdnhnjimhbbabaa
open Go.RowKit Go.Shelf Nums
set_option maxRecDepth 100000

attribute [local go_sem] Oper.semAt_some
theorem info37 : (Try.prog.info? 37).map (fun i => (i.zero, i.size, i.bytes)) = some (some (.agg #[.int .i64 0, .string ⟨#[]⟩]), 2, 24) := by kernel_rfl
/-- Every field's block lies as it lay. -/
def Keep2 (W W' : World) : Prop := ∀ (b : Nat) (x y : Value) (m : Nat × Nat), W.heap[b]? = some (Obj.cells #[x, y] 37 m) → W'.heap[b]? = some (Obj.cells #[x, y] 37 m)
theorem Keep2.trans {A B C : World} (h : Keep2 A B) (k : Keep2 B C) : Keep2 A C := fun b x y m hb => k b x y m (h b x y m hb)
theorem Keep2.below {A B : World} (h : Below A.heap.size A B) : Keep2 A B := fun b _ _ _ hb => (h.block b (Array.getElem?_eq_some_iff.1 hb).1).trans hb
theorem Keep2.none {A B : World} (h : A.grownBy B none) : Keep2 A B := fun b _ _ _ hb => (h.block b (Array.getElem?_eq_some_iff.1 hb).1 (by simp)).trans hb
theorem run_append_field (W : World) (B : Nat) (v : Value) (fs : List (Int × ByteArray)) (f : Int × ByteArray) (hown : W.ownsRow B 37 2 v fs.length (fcells fs)) (hnil : v = .slice none 0 0 ↔ fs = []) (hB : B ≤ W.heap.size) (hl : fs.length ≤ 1048576) :
    ∃ v' w1, (Builtin.append_ #[40, 40] 40 #[v, .slice (some ⟨W.heap.size, 0, none⟩) 1 1]).run Try.prog (W.alloc (.cells #[.int .i64 f.1, .string f.2] 37)) = .ok v' w1 ∧
      w1.ownsRow B 37 2 v' (fs.length + 1) (fcells (fs ++ [f])) ∧ Below B W w1 ∧ Spares 37 W w1 ∧ Keep2 W w1 := by
  obtain ⟨i0, hi, hz0, hz1, hz2⟩ := info_parts info37
  have hb0 : Below W.heap.size W (W.alloc (.cells #[.int .i64 f.1, .string f.2] 37)) := (Below.refl _ _).alloc (Nat.le_refl _) _
  have hn : ∀ (j : Nat) (u : Value), (fcells [f])[j]? = some u → (W.alloc (.cells #[.int .i64 f.1, .string f.2] 37)).cell? ((⟨W.heap.size, 0, none⟩ : Addr).add j) = some u := by
    intro j u hj
    rw [add_plain]
    match j, hj with
    | 0, hj => simp [fcells] at hj; subst hj; simp
    | 1, hj => simp [fcells] at hj; subst hj; simp
    | j + 2, hj => simp [fcells] at hj
  have h1 : ∀ u ∈ fcells [f], u.oneCell' = true := by
    intro u hu
    simp [fcells] at hu
    rcases hu with rfl | rfl <;> rfl
  have hown1 := hown.alloc (.cells #[.int .i64 f.1, .string f.2] 37)
  have hsz : (W.alloc (.cells #[.int .i64 f.1, .string f.2] 37)).heap.size = W.heap.size + 1 := by simp
  rcases hown.2 with ⟨hv, h0⟩ | ⟨g, cap, cur, hv, hbg, hgb, hnc, hcm, hcs, htk⟩
  · obtain ⟨v', w1, hr, ho, hg, _⟩ := run_append_own (P := Try.prog) _ B 40 40 37 i0 (.agg #[.int .i64 0, .string ⟨#[]⟩]) 2 24 Try.underlying40 hi hz0 hz1 hz2 rfl (by decide) v fs.length _ hown1 ⟨W.heap.size, 0, none⟩ 1 1 (fcells [f]) (by simp [fcells]) hn h1 (by unfold maxLen; omega) (by omega) (by rw [hsz]; omega)
    rw [hv] at hg
    refine ⟨v', w1, hr, by rw [fcells_append]; exact ho, (hb0.mono hB).grown hg (by rw [hsz]; omega) (by intro k hk; cases hk), (Spares.alloc 37 W (.cells #[.int .i64 f.1, .string f.2] 37)).trans ?_, (Keep2.below hb0).trans (Keep2.none hg)⟩
    exact Spares.grown (v := .slice none 0 0) (by rw [← hv]; exact hown1) hg
  · have hfs : fs.length ≠ 0 := by
      intro e
      have : fs = [] := List.eq_nil_of_length_eq_zero e
      have := hnil.2 this
      rw [hv] at this; cases this
    by_cases hroom : fs.length + 1 ≤ cap
    · rw [hv] at hown1 ⊢
      obtain ⟨w1, hr, ho, hg⟩ := run_append_fits (P := Try.prog) _ B 40 40 37 i0 2 Try.underlying40 hi hz1 g fs.length cap _ hown1 ⟨W.heap.size, 0, none⟩ 1 1 (fcells [f]) (by simp [fcells]) hn h1 hroom
      refine ⟨_, w1, hr, by rw [fcells_append]; exact ho, (hb0.mono hB).grown hg (by rw [hsz]; omega) (by intro k hk; cases hk; exact hbg), (Spares.alloc 37 W (.cells #[.int .i64 f.1, .string f.2] 37)).trans (Spares.grown hown1 hg), (Keep2.below hb0).trans ?_⟩
      intro b x y m hb
      refine (hg.block b (Array.getElem?_eq_some_iff.1 hb).1 ?_).trans hb
      intro e
      cases e
      have hgb' : (W.alloc (.cells #[.int .i64 f.1, .string f.2] 37)).heap[g]? = some (.cells cur 37 (0, 0)) := (hb0.block g (Array.getElem?_eq_some_iff.1 hgb).1).trans hgb
      rw [hgb'] at hb
      cases hb
      simp at hcs
      omega
    · rw [hv]
      have hcells : ∀ (j : Nat) (u : Value), (fcells fs)[j]? = some u → (W.alloc (.cells #[.int .i64 f.1, .string f.2] 37)).cell? ((⟨g, 0, none⟩ : Addr).add j) = some u := hown1.cells (g := g) (by rw [hv]; rfl)
      obtain ⟨v', w1, hr, ho, hg⟩ := run_append_arg_grows (P := Try.prog) _ 40 40 37 i0 (.agg #[.int .i64 0, .string ⟨#[]⟩]) 2 24 Try.underlying40 hi hz0 hz1 hz2 rfl (by decide) ⟨g, 0, none⟩ fs.length cap (fcells fs) (fcells_length fs) hcells ⟨W.heap.size, 0, none⟩ 1 1 (fcells [f]) (by simp [fcells]) hn (by omega) (by unfold maxLen; omega) (by omega)
      refine ⟨v', w1, hr, by rw [fcells_append]; exact own_lower ho (by rw [hsz]; omega), (hb0.mono hB).grown hg (by rw [hsz]; omega) (by intro k hk; cases hk), (Spares.alloc 37 W (.cells #[.int .i64 f.1, .string f.2] 37)).trans ?_, (Keep2.below hb0).trans (Keep2.none hg)⟩
      intro i o hi2 _
      exact (hg.block i (Array.getElem?_eq_some_iff.1 hi2).1 (by simp)).trans hi2
theorem wpListIn_append_run {F : Fence} {n : Nat} {P : Program} {w : World} {ops : Array Oper} {rest : List Oper} {o : Oper} {a : Act} {Q : Exit → Act → World → Prop}
    (hg : o.guard = none) (s x : Operand) (t u : TypeId) (hop : o.op = Op.call { callee := Callee.builtin Builtin.append, args := #[s, x], argTypes := #[t, u] })
    (vs vx v' : Value) (w' : World) (hs : a.eval s = vs) (hx : a.eval x = vx) (hrun : (Builtin.append_ #[t, u] o.type #[vs, vx]).run P w = .ok v' w')
    (hK : wpListIn F n P ops Q rest (a.put o.dst v') w') : wpListIn F n P ops Q (o :: rest) a w := by
  refine wpListIn_plain hg fun K hK' => ?_
  unfold Oper.wpIn
  refine ⟨?_, ?_⟩
  · simp [Oper.about, hop, resolve, Target.leads, Sem.run_pure]
  · rw [Oper.semAt_plain F _ _ (by rw [hop]; intro c hc'; cases hc')]
    simp [execOp, hop, resolve, invoke, builtin, hs, hx, hrun, Result.andThen]
    exact hK' _ _ hK
theorem spares_boxT {T : TypeId} {w w' : World} (h : Spares T w w') {b : Nat} {c : Array Value} {t : TypeId} {m : Nat × Nat} (ht : t ≠ T) (hb : w.heap[b]? = some (.cells c t m)) : w'.heap[b]? = some (.cells c t m) :=
  h b _ hb (fun c' m' e => by cases e; exact ht rfl)
theorem spares_othersT {T : TypeId} {w w' : World} (h : Spares T w w') (hs : w.heap.size ≤ w'.heap.size) : KeepsOthers w w' := ⟨hs, fun k o hk ho => h k o hk (fun c m e => by subst e; cases ho)⟩
set_option maxRecDepth 100000 in
set_option maxHeartbeats 4000000 in
theorem read_in (n : Nat) (hn : 3 ≤ n) (a : Option Addr) (len cap : Nat) (bs : List UInt8) (w : World) (hR : Reads w a len cap bs) (hl : len ≤ 1000000) :
    CallsIn Fence.wide n Try.prog 29 #[.slice a len cap] w fun e W' =>
      ((∀ x ∈ parse (len + 1) 0 bs, x.e = 0) ∧ ∃ v, e = .returned (.tuple #[v, .int .i64 0]) ∧ W'.ownsRow w.heap.size 37 2 v (toF (parse (len + 1) 0 bs)).length (fcells (toF (parse (len + 1) 0 bs))) ∧ Below w.heap.size w W') ∨
      (∃ pre x, (pre ++ [x]) <+: parse (len + 1) 0 bs ∧ (∀ y ∈ pre, y.e = 0) ∧ x.e ≠ 0 ∧ e = .returned (.tuple #[.slice none 0 0, .int .i64 x.e]) ∧ Below w.heap.size w W') := by
  have h1 : 1 ≤ n := by omega
  refine callsIn_of_wp_marks Try.func29 rfl trivial ?_ rfl
  simp only [Try.ntmps29, List.size_toArray, List.length_cons, List.length_nil, Nat.reduceAdd, Nat.reduceSub, Array.replicate_succ, Array.replicate_zero, List.push_toArray, List.append_toArray, List.nil_append, List.cons_append]
  gi_wp2_with (refine ⟨trivial, ?_⟩; gi_at_call 37; refine (parsed_in (n - 1) _ _ _ _).mono ?_; rintro e w' ⟨rfl, rfl⟩)
  have bR1 := (((Boxed.new w 40 (.slice none 0 0)).alloc (.cells #[.int .i64 0] 27)).alloc (.cells #[.slice none 0 0] 40)).alloc (.cells #[.slice a len cap] 26)
  have bR2 := ((Boxed.new (w.alloc (.cells #[.slice none 0 0] 40)) 27 (.int .i64 0)).alloc (.cells #[.slice none 0 0] 40)).alloc (.cells #[.slice a len cap] 26)
  have bO := (Boxed.new ((w.alloc (.cells #[.slice none 0 0] 40)).alloc (.cells #[.int .i64 0] 27)) 40 (.slice none 0 0)).alloc (.cells #[.slice a len cap] 26)
  have bA := Boxed.new (((w.alloc (.cells #[.slice none 0 0] 40)).alloc (.cells #[.int .i64 0] 27)).alloc (.cells #[.slice none 0 0] 40)) 26 (.slice a len cap)
  simp only [World.size_alloc] at bR2 bO bA
  have hB0 : Below w.heap.size w ((((w.alloc (.cells #[.slice none 0 0] 40)).alloc (.cells #[.int .i64 0] 27)).alloc (.cells #[.slice none 0 0] 40)).alloc (.cells #[.slice a len cap] 26)) :=
    ((((Below.refl _ w).alloc (Nat.le_refl _) _).alloc (by simp) _).alloc (by simp; omega) _).alloc (by simp; omega) _
  have hsz : ((((w.alloc (.cells #[.slice none 0 0] 40)).alloc (.cells #[.int .i64 0] 27)).alloc (.cells #[.slice none 0 0] 40)).alloc (.cells #[.slice a len cap] 26)).heap.size = w.heap.size + 4 := by simp
  obtain ⟨W0, hW0⟩ : ∃ W0, (((w.alloc (.cells #[.slice none 0 0] 40)).alloc (.cells #[.int .i64 0] 27)).alloc (.cells #[.slice none 0 0] 40)).alloc (.cells #[.slice a len cap] 26) = W0 := ⟨_, rfl⟩
  rw [hW0] at bR1 bR2 bO bA hB0 hsz ⊢
  clear hW0
  have hge : w.heap.size + 4 ≤ W0.heap.size := Nat.le_of_eq hsz.symm
  clear hsz
  refine wpIn_rangeFunc_ownH rfl h1 (gf := 40) (lb := #[.pointer (some ⟨w.heap.size + 1 + 1 + 1, 0, none⟩)]) rfl trivial (enters_of Try.func40 (by kernel_rfl) rfl)
    (parsed_stops (n - 1) (by omega) (w.heap.size + 1 + 1 + 1) w.heap.size a len cap bs W0 (by omega) (by omega) bA.cell (LReads.below hB0 hR.lreads)) kpP_t (kpP_b (by omega)) (Below.refl _ _) (fun _ => rfl)
    (fun pre W => ((∃ v, Boxed W (w.heap.size + 1 + 1) 40 v ∧ W.ownsRow W0.heap.size 37 2 v (toF pre).length (fcells (toF pre)) ∧ (v = .slice none 0 0 ↔ toF pre = [])) ∧ (Boxed W w.heap.size 40 (.slice none 0 0) ∧ Boxed W (w.heap.size + 1) 27 (.int .i64 0))) ∧ ((∀ x ∈ pre, x.e = 0) ∧ Below w.heap.size w W))
    (fun c pre W => (c = .ret ∧ ∃ pre' x, pre = pre' ++ [x] ∧ (∀ y ∈ pre', y.e = 0) ∧ x.e ≠ 0 ∧ Boxed W w.heap.size 40 (.slice none 0 0) ∧ Boxed W (w.heap.size + 1) 27 (.int .i64 x.e)) ∧ Below w.heap.size w W)
    (OwnFrom.and (OwnFrom.and (Own.from (holdsRow_own W0.heap.size (w.heap.size + 1 + 1) 40 37 2 (fun pre => (toF pre).length) (fun pre => fcells (toF pre)) (fun pre v => v = .slice none 0 0 ↔ toF pre = [])) _) (OwnFrom.and (Own.from (boxed_own _ _ _) _) (Own.from (boxed_own _ _ _) _))) (OwnFrom.and (ownFrom_pure _ _) (ownFrom_below (Nat.le_refl _) (by omega))))
    (fun c => OwnFrom.and (fun s X Y row hs hg hr => by
      obtain ⟨hc, pre', x, e1, e2, e3, b1, b2⟩ := hs
      exact ⟨hc, pre', x, e1, e2, e3, cells_stay b1 hg (fun r e => (hr r e).2), cells_stay b2 hg (fun r e => (hr r e).2)⟩) (ownFrom_below (Nat.le_refl _) (by omega)))
    ⟨⟨⟨_, bO, World.ownsRow_nil _ _ _ _, by simp [toF]⟩, bR1, bR2⟩, by simp, hB0⟩
    (fun x a' W => ∃ Bx, w.heap.size + 1 + 1 < Bx ∧ W.heap[Bx]? = some (.cells #[.int .i64 x.tag, .string ⟨x.d.toArray⟩] 37 (0, 0)) ∧ a' = { tmps := #[.slice a len cap, undef, .pointer (some ⟨w.heap.size, 0, none⟩), .pointer (some ⟨w.heap.size + 1, 0, none⟩), .pointer (some ⟨w.heap.size + 1 + 1, 0, none⟩), .pointer (some ⟨Bx, 0, none⟩), .int .i64 x.e, .slice a len cap, .func (.func 40) #[] #[.pointer (some ⟨w.heap.size + 1 + 1 + 1, 0, none⟩)], .agg #[.int .i64 x.tag, .string ⟨x.d.toArray⟩], .int .i64 x.e, undef, undef, undef, undef, undef, undef, undef, undef], defers := [] })
    (fun x a' _ X Y row hs hg hr => by obtain ⟨Bx, h1, h2, h3⟩ := hs; exact ⟨Bx, h1, cells_stay h2 hg (fun r e => (hr r e).2), h3⟩)
    ?assign ?body ?done ?stop
  case assign =>
    rintro l pre x W K ⟨⟨⟨v, bO1, hrow, ht⟩, bR11, bR21⟩, hz, hB1⟩ hK
    dsimp only [encP]
    gi_wp2
    refine hK _ _ ((KeepsOthers.alloc _ _).from _) ⟨(Below.refl _ W).alloc hB1.size _, fun b c _ m hb => (Below.heap_alloc W _ b (Array.getElem?_eq_some_iff.1 hb).1).trans hb⟩ ⟨⟨⟨v, bO1.alloc _, hrow.alloc _, ht⟩, bR11.alloc _, bR21.alloc _⟩, hz, hB1.alloc hB1.size _⟩ ⟨W.heap.size, bO1.lt, World.alloc_heap_new W _, rfl⟩
  case body =>
    rintro l pre x a' W hl0 ⟨r, hr⟩ ⟨⟨⟨v, bO1, hrow, ht⟩, bR11, bR21⟩, hz, hB1⟩ ⟨Bx, hBx, bX, rfl⟩ hlt
    have hsW := hB1.size
    have hlW : W0.heap.size ≤ W.heap.size := Nat.le_trans hl0 (Nat.le_of_lt (Array.getElem?_eq_some_iff.1 hr).1)
    clear hr
    have cO := bO1.cell
    have fO := bO1.frozen
    have cX0 : W.cell? ⟨Bx, 0, none⟩ = some (.int .i64 x.tag) := by simp [World.cell?, bX]
    have cX1 : W.cell? ⟨Bx, 1, none⟩ = some (.string ⟨x.d.toArray⟩) := by simp [World.cell?, bX]
    have c1 := bR11.cell
    have f1 := bR11.frozen
    have c2 := bR21.cell
    have f2 := bR21.frozen
    by_cases he : x.e = 0
    · have HE : Hid (x.e = 0) := he
      have he' : ((x.e : Int) != 0) = false := by rw [he]; rfl
      clear he
      obtain ⟨v', W1, hrun, hown', hb', hs', hk'⟩ := run_append_field W W0.heap.size v (toF pre) ((x.tag : Int), ⟨x.d.toArray⟩) hrow ht hlW (by rw [toF_length]; omega)
      have HRUN : Hid _ := hrun
      clear hrun
      rw [← toF_snoc] at hown'
      have hl1 : (toF pre).length + 1 = (toF (pre ++ [x])).length := by rw [toF_length, toF_length, List.length_append]; rfl
      rw [hl1] at hown'
      have hs1 : W.heap.size ≤ W1.heap.size := hb'.size
      have bO2 : Boxed W1 (w.heap.size + 1 + 1) 40 v := spares_boxT hs' (by decide) bO1
      have cO2 := bO2.cell
      have fO2 := bO2.frozen
      have hpos : (toF (pre ++ [x])).length ≠ 0 := by rw [toF_length, List.length_append]; simp
      obtain ⟨a', n', c', hv'⟩ : ∃ a' n' c', v' = .slice (some a') n' c' := by
        rcases hown'.2 with ⟨_, h⟩ | ⟨g, cp, _, h, _⟩
        · exact absurd h hpos
        · exact ⟨_, _, _, h⟩
      have hne : ∀ (b : Nat) (c d : Value) (m : Nat × Nat), W.heap[b]? = some (Obj.cells #[c, d] 37 m) → b ≠ w.heap.size + 1 + 1 := by
        intro b c d m hb e
        subst e
        rw [show W.heap[w.heap.size + 1 + 1]? = _ from bO1] at hb
        cases hb
      have FIN : Hid (KeepsFrom W0.heap.size W (W1.setCell ⟨w.heap.size + 1 + 1, 0, none⟩ v') ∧ KpP w.heap.size W (W1.setCell ⟨w.heap.size + 1 + 1, 0, none⟩ v') ∧
          (((∃ v, Boxed (W1.setCell ⟨w.heap.size + 1 + 1, 0, none⟩ v') (w.heap.size + 1 + 1) 40 v ∧ (W1.setCell ⟨w.heap.size + 1 + 1, 0, none⟩ v').ownsRow W0.heap.size 37 2 v (toF (pre ++ [x])).length (fcells (toF (pre ++ [x]))) ∧ (v = .slice none 0 0 ↔ toF (pre ++ [x]) = [])) ∧
            (Boxed (W1.setCell ⟨w.heap.size + 1 + 1, 0, none⟩ v') w.heap.size 40 (.slice none 0 0) ∧ Boxed (W1.setCell ⟨w.heap.size + 1 + 1, 0, none⟩ v') (w.heap.size + 1) 27 (.int .i64 0))) ∧
          ((∀ y ∈ pre ++ [x], y.e = 0) ∧ Below w.heap.size w (W1.setCell ⟨w.heap.size + 1 + 1, 0, none⟩ v')))) := by
        refine ⟨((spares_othersT hs' hs1).trans (KeepsOthers.setCell _ _ _)).from _, ⟨(hb'.mono (by omega)).setCell (p := ⟨w.heap.size + 1 + 1, 0, none⟩) (by show w.heap.size ≤ w.heap.size + 1 + 1; omega) _, fun b c d m hb => set_other (hk' b c d m hb) (hne b c d m hb) _⟩,
          ⟨⟨⟨v', bO2.set _, ?_, ?_⟩, set_other (spares_boxT hs' (by decide) bR11) (by omega) _, set_other (spares_boxT hs' (by decide) bR21) (by omega) _⟩, ?_, (hB1.trans (hb'.mono (by omega))).setCell (p := ⟨w.heap.size + 1 + 1, 0, none⟩) (by show w.heap.size ≤ w.heap.size + 1 + 1; omega) _⟩⟩
        · refine hown'.kept (grownBy_setCell' W1 _ v') ?_
          rcases hown'.2 with ⟨h, _⟩ | ⟨g, cp, _, h, hg, _⟩
          · left; rw [h]; rfl
          · right; rw [h]; intro e; simp [Value.ownBlock] at e; omega
        · rw [hv']
          constructor
          · intro h; cases h
          · intro h; rw [h] at hpos; exact absurd rfl hpos
        · intro y hy
          rcases List.mem_append.1 hy with h | h
          · exact hz y h
          · simp at h; subst h; exact HE.out
      subst hv'
      clear hown' hrow hs' hb' hk' ht hl1 hpos
      gi_wp2_with (first
        | (gi_at_builtin; refine wpListIn_append_run (by rfl) (.tmp 14) (.tmp 16) 40 40 (by rfl) _ _ _ _ (by rfl) (by rfl) HRUN.out ?_)
        | fail)
      exact FIN.out
    · have HE : Hid (x.e ≠ 0) := he
      have he' : ((x.e : Int) != 0) = true := by simpa using he
      clear he
      have FIN : Hid (KeepsFrom W0.heap.size W ((W.setCell ⟨w.heap.size, 0, none⟩ (.slice none 0 0)).setCell ⟨w.heap.size + 1, 0, none⟩ (.int .i64 x.e)) ∧
          ((∃ pre' x', pre ++ [x] = pre' ++ [x'] ∧ (∀ y ∈ pre', y.e = 0) ∧ x'.e ≠ 0 ∧ Boxed ((W.setCell ⟨w.heap.size, 0, none⟩ (.slice none 0 0)).setCell ⟨w.heap.size + 1, 0, none⟩ (.int .i64 x.e)) w.heap.size 40 (.slice none 0 0) ∧
            Boxed ((W.setCell ⟨w.heap.size, 0, none⟩ (.slice none 0 0)).setCell ⟨w.heap.size + 1, 0, none⟩ (.int .i64 x.e)) (w.heap.size + 1) 27 (.int .i64 x'.e)) ∧ Below w.heap.size w ((W.setCell ⟨w.heap.size, 0, none⟩ (.slice none 0 0)).setCell ⟨w.heap.size + 1, 0, none⟩ (.int .i64 x.e)))) :=
        ⟨((KeepsOthers.setCell _ _ _).trans (KeepsOthers.setCell _ _ _)).from _, ⟨pre, x, rfl, hz, HE.out, set_other (bR11.set _) (by omega) _, Boxed.set _ (show Boxed _ _ _ _ from set_other bR21 (by omega) _)⟩,
          (hB1.setCell (p := ⟨w.heap.size, 0, none⟩) (Nat.le_refl _) _).setCell (p := ⟨w.heap.size + 1, 0, none⟩) (by show w.heap.size ≤ w.heap.size + 1; omega) _⟩
      gi_wp2
      exact ⟨FIN.out.1, ⟨rfl, FIN.out.2.1⟩, FIN.out.2.2⟩
  case done =>
    rintro D ys W hD rfl ⟨⟨⟨v, bO1, hrow, ht⟩, bR11, bR21⟩, hz, hB1⟩ hK
    obtain ⟨a', n', c', hv'⟩ : ∃ a' n' c', v = .slice a' n' c' := by
      rcases hrow.2 with ⟨h, _⟩ | ⟨g, cp, _, h, _⟩
      · exact ⟨_, _, _, h⟩
      · exact ⟨_, _, _, h⟩
    subst hv'
    have cO := bO1.cell
    have c1 := bR11.cell
    have f1 := bR11.frozen
    have c2 := bR21.cell
    have f2 := bR21.frozen
    have HRW : Hid (W.ownsRow W0.heap.size 37 2 (.slice a' n' c') (toF (parse (len + 1) 0 bs)).length (fcells (toF (parse (len + 1) 0 bs)))) := hrow
    clear hrow
    gi_wp2
    have hK' := ((KeepsOthers.setCell W ⟨w.heap.size, 0, none⟩ (.slice a' n' c')).trans (KeepsOthers.setCell _ ⟨w.heap.size + 1, 0, none⟩ (.int .i64 0))).same D _ hK rfl
    refine ⟨by simp, .inl ⟨_, _, rfl, run_takeDeferred hK', ?_⟩⟩
    have b1 : Boxed ((W.setCell ⟨w.heap.size, 0, none⟩ (.slice a' n' c')).setCell ⟨w.heap.size + 1, 0, none⟩ (.int .i64 0)) w.heap.size 40 (.slice a' n' c') := set_other (bR11.set _) (by omega) _
    have b2 : Boxed ((W.setCell ⟨w.heap.size, 0, none⟩ (.slice a' n' c')).setCell ⟨w.heap.size + 1, 0, none⟩ (.int .i64 0)) (w.heap.size + 1) 27 (.int .i64 0) := Boxed.set _ (show Boxed _ _ _ _ from set_other bR21 (by omega) _)
    have q1 := cell_kept b1.cell (grownBy_putObj' _ D (.deferred none)) (fun r e => by cases e; exact ⟨_, hK', rfl⟩)
    have q2 := cell_kept b2.cell (grownBy_putObj' _ D (.deferred none)) (fun r e => by cases e; exact ⟨_, hK', rfl⟩)
    have hoff : ∀ B', B' < W0.heap.size → Value.ownBlock (.slice a' n' c') ≠ some B' := by
      intro B' hlt e
      have := (HRW.out.lt B' e).1
      omega
    have hrow2 := (HRW.out.kept (grownBy_setCell' W w.heap.size (.slice a' n' c')) (.inr (hoff _ (by omega)))).kept (grownBy_setCell' _ (w.heap.size + 1) (.int .i64 0)) (.inr (hoff _ (by omega)))
    refine ⟨.tuple #[.slice a' n' c', .int .i64 0], ?_, .inl ⟨hz, _, rfl, own_lower (ownsRow_putObj hrow2 _ hK' rfl) (by omega), ((hB1.setCell (p := ⟨w.heap.size, 0, none⟩) (Nat.le_refl _) _).setCell (p := ⟨w.heap.size + 1, 0, none⟩) (by show w.heap.size ≤ w.heap.size + 1; omega) _).trans (belowK_b (w := w) (Nat.le_refl _) _ D _ _ (by omega) hK' rfl rfl)⟩⟩
    simp [results, Try.f29, go_sem, q1, q2]
  case stop =>
    rintro D c pre W hD hpre ⟨⟨rfl, pre', x, rfl, hz, hx, bR11, bR21⟩, hB1⟩ hK
    gi_wp2
    refine ⟨by simp, .inl ⟨_, _, rfl, run_takeDeferred hK, ?_⟩⟩
    have q1 := cell_kept bR11.cell (grownBy_putObj' _ D (.deferred none)) (fun r e => by cases e; exact ⟨_, hK, rfl⟩)
    have q2 := cell_kept bR21.cell (grownBy_putObj' _ D (.deferred none)) (fun r e => by cases e; exact ⟨_, hK, rfl⟩)
    refine ⟨.tuple #[.slice none 0 0, .int .i64 x.e], ?_, .inr ⟨pre', x, hpre, hz, hx, rfl, hB1.trans (belowK_b (w := w) (Nat.le_refl _) W D _ _ (by omega) hK rfl rfl)⟩⟩
    simp [results, Try.f29, go_sem, q1, q2]
end Go.Proofs.Ytdnhnjimhbbabaa

/- What Lay and Read answer, as plain functions; pack.Lay and pack.Read answer so. -/
namespace Go.Proofs.Ytdnhnjimhbbabaa
open Go.RowKit Go.Shelf Nums
set_option maxRecDepth 100000
theorem outB_judge : ∀ (last : Int) (fs : List (Int × ByteArray)), outB (judge last fs) = rowB fs
  | _, [] => rfl
  | last, f :: r => by
    have := outB_judge f.1 r
    simp only [judge, rowB]
    rw [← this]
    simp [outB]
theorem lay_any (a : Option Addr) (len cap : Nat) (fs : List (Int × ByteArray)) (w : World) (hR : FReads w.heap.size w a len cap fs) (hl : len ≤ 400) :
    Calls Try.prog 9 #[.slice a len cap] w fun e W' => ∃ v, e = .returned (.tuple #[v, .int .i64 (layE 0 fs)]) ∧ W'.ownsRow w.heap.size 5 1 v (rowOf fs).length (cellsOf (rowOf fs)) ∧ Below w.heap.size w W' := by
  refine ((callsIn_wide (n := 3)).1 (lay_in 3 (by decide) a len cap fs w hR hl)).mono ?_
  rintro e W' (⟨hz, v, rfl, hown, hb⟩ | ⟨pre, x, hp, hz, hx, rfl, hb⟩)
  · have h0 := layE_all 0 fs hz
    refine ⟨v, by rw [h0], ?_, hb⟩
    rw [rowOf, if_pos h0, ← outB_judge 0 fs]
    exact hown
  · have h0 := layE_first pre 0 fs x hp hz hx
    refine ⟨_, by rw [h0], ?_, hb⟩
    rw [rowOf, if_neg (by rw [h0]; exact hx)]
    exact World.ownsRow_nil _ _ _ _
theorem read_any (a : Option Addr) (len cap : Nat) (bs : List UInt8) (w : World) (hR : Reads w a len cap bs) (hl : len ≤ 1000000) :
    Calls Try.prog 29 #[.slice a len cap] w fun e W' => ∃ v, e = .returned (.tuple #[v, .int .i64 (readE bs)]) ∧ W'.ownsRow w.heap.size 37 2 v (readF bs).length (fcells (readF bs)) ∧ Below w.heap.size w W' := by
  refine ((callsIn_wide (n := 3)).1 (read_in 3 (by decide) a len cap bs w hR hl)).mono ?_
  have hlen : bs.length = len := hR.1
  rintro e W' (⟨hz, v, rfl, hown, hb⟩ | ⟨pre, x, hp, hz, hx, rfl, hb⟩)
  · have h0 : readE bs = 0 := by rw [readE, hlen]; exact firstE_all _ hz
    refine ⟨v, by rw [h0]; rfl, ?_, hb⟩
    rw [readF, if_pos h0, hlen]
    exact hown
  · have h0 : readE bs = x.e := by rw [readE, hlen]; exact firstE_first pre _ x hp hz hx
    refine ⟨_, by rw [h0], ?_, hb⟩
    rw [readF, if_neg (by rw [h0]; exact hx)]
    exact World.ownsRow_nil _ _ _ _
/-- A row of fields that is owned can be read. -/
theorem freads_own {w : World} {B : Nat} {v : Value} {fs : List (Int × ByteArray)} (h : w.ownsRow B 37 2 v fs.length (fcells fs)) (hm : ∀ f ∈ fs, f.2.size ≤ maxLen) : ∃ a cap, v = .slice a fs.length cap ∧ FReads w.heap.size w a fs.length cap fs := by
  have hcell : ∀ (fs : List (Int × ByteArray)) (i : Nat) (hi : i < fs.length), (fcells fs)[i * 2]? = some (.int .i64 fs[i].1) ∧ (fcells fs)[i * 2 + 1]? = some (.string fs[i].2) := by
    intro fs
    induction fs with
    | nil => intro i hi; simp at hi
    | cons f r ih =>
      intro i hi
      cases i with
      | zero => simp [fcells]
      | succ i =>
        have := ih i (by simpa using hi)
        have e1 : (i + 1) * 2 = i * 2 + 1 + 1 := by omega
        rw [e1]
        simpa [fcells] using this
  rcases h.2 with ⟨rfl, h0⟩ | ⟨g, cap, cur, rfl, hb, hg, hn, hcm, hs, ht⟩
  · exact ⟨none, 0, by rw [h0], rfl, by omega, by decide, hm, .inl ⟨rfl, rfl⟩⟩
  · have hlt := (h.lt g rfl).2
    refine ⟨_, _, rfl, rfl, hn, by unfold maxLen at hcm; omega, hm, .inr (.inr ⟨g, 0, rfl, hlt, fun i hi => ?_⟩)⟩
    have h1 := h.cellAt (i * 2) (by omega)
    have h2 := h.cellAt (i * 2 + 1) (by omega)
    have := hcell fs i hi
    rw [Nat.zero_add]
    exact ⟨h1.trans this.1, h2.trans this.2⟩
end Go.Proofs.Ytdnhnjimhbbabaa

/- The examples of the document for rows hold, whatever the world. -/
namespace Go.Proofs.Ytdnhnjimhbbabaa
open Go.RowKit Nums
set_option maxRecDepth 100000
theorem parse_small : ∀ (k last : Nat) (l : List UInt8), ∀ x ∈ parse k last l, x.d.length ≤ 65536
  | 0, _, _, x, h => by simp [parse] at h
  | k + 1, last, l, x, h => by
    rw [parse] at h
    by_cases hl : l = []
    · rw [if_pos hl] at h; simp at h
    · rw [if_neg hl] at h
      rcases List.mem_cons.1 h with rfl | h
      · exact gD_le l
      · by_cases he : pE last l = 0
        · rw [if_pos he] at h; exact parse_small k _ _ x h
        · rw [if_neg he] at h; simp at h
theorem readF_small (bs : List UInt8) : ∀ f ∈ readF bs, f.2.size ≤ maxLen := by
  intro f hf
  unfold readF at hf
  by_cases h : readE bs = 0
  · rw [if_pos h] at hf
    unfold toF at hf
    obtain ⟨x, hx, rfl⟩ := List.mem_map.1 hf
    have := parse_small _ _ _ x hx
    show x.d.toArray.size ≤ maxLen
    unfold maxLen
    simp
    omega
  · rw [if_neg h] at hf; simp at hf
theorem lay_reads (a : Option Addr) (len cap : Nat) (fs : List (Int × ByteArray)) (w : World) (hR : FReads w.heap.size w a len cap fs) (hl : len ≤ 400) {k : Int} {l : List UInt8} (hk : layE 0 fs = k) (hr : rowOf fs = l) :
    Calls Try.prog 9 #[.slice a len cap] w fun e W' => ∃ a' c', e = .returned (.tuple #[.slice a' l.length c', .int .i64 k]) ∧ Reads W' a' l.length c' l ∧ Below w.heap.size w W' := by
  refine (lay_any a len cap fs w hR hl).mono ?_
  rintro e W' ⟨v, rfl, hown, hb⟩
  rw [hr] at hown
  obtain ⟨a', c', rfl, hrd⟩ := reads_own hown
  exact ⟨a', c', by rw [hk], hrd, hb⟩
/-- A literal slice of fields can be read. -/
theorem freads_lit (w : World) (cs : Array Value) (m : Nat × Nat) (fs : List (Int × ByteArray)) (h : cs.toList = fcells fs) (hl : fs.length ≤ 1048576) (hm : ∀ f ∈ fs, f.2.size ≤ maxLen) :
    FReads (w.heap.size + 1) (w.alloc (.cells cs 37 m)) (some ⟨w.heap.size, 0, none⟩) fs.length fs.length fs := by
  have hcell : ∀ (fs : List (Int × ByteArray)) (i : Nat) (hi : i < fs.length), (fcells fs)[i * 2]? = some (.int .i64 fs[i].1) ∧ (fcells fs)[i * 2 + 1]? = some (.string fs[i].2) := by
    intro fs
    induction fs with
    | nil => intro i hi; simp at hi
    | cons f r ih =>
      intro i hi
      cases i with
      | zero => simp [fcells]
      | succ i =>
        have := ih i (by simpa using hi)
        have e1 : (i + 1) * 2 = i * 2 + 1 + 1 := by omega
        rw [e1]
        simpa [fcells] using this
  refine ⟨rfl, Nat.le_refl _, by omega, hm, .inr (.inr ⟨w.heap.size, 0, rfl, by omega, fun i hi => ?_⟩)⟩
  have e : ∀ j, (w.alloc (.cells cs 37 m)).cell? ⟨w.heap.size, j, none⟩ = (fcells fs)[j]? := fun j => by
    rw [World.cell?_alloc_mark w cs 37 m j, ← Array.getElem?_toList, h]
  rw [Nat.zero_add, e, e]
  exact hcell fs i hi
end Go.Proofs.Ytdnhnjimhbbabaa

/- What the document's Get answers. -/
namespace Go.Proofs.Ytdnhnjimhbbabaa
open Go.RowKit Sums Nums
set_option linter.unusedVariables false
set_option linter.unusedSimpArgs false
set_option maxRecDepth 100000
def getHO (bs : List UInt8) : HdT := (getO bs).getD zeroH
def getHE (bs : List UInt8) : Int := if (getO bs).isSome then 0 else 70
end Go.Proofs.Ytdnhnjimhbbabaa

/- Heads and signed heads held against each other by == and !=. -/
namespace Go.Proofs.Ytdnhnjimhbbabaa
open Go.RowKit Sums Nums
set_option linter.unusedVariables false
set_option linter.unusedSimpArgs false
set_option maxRecDepth 100000
theorem sizeOfDD (w : World) : (sizeOf 23).run Try.prog w = .ok 32 w := by
  cases hq : Try.prog.info? 23 with
  | none => have := size23; simp [hq] at this
  | some i => have := size23; simp [hq] at this; simp [sizeOf, typeInfo, hq, this]
theorem cut_list (l : List Value) (off n : Nat) (m : List Value) (h : (l.drop off).take n = m) : l.toArray.extract off (off + n) = m.toArray := by
  rw [← h, List.extract_toArray, List.extract_eq_take_drop, Nat.add_sub_cancel_left]
theorem part_dig (l : List Value) (off : Nat) (m : List Value) (h : (l.drop off).take 32 = m) (w : World) : (Go.part 23 l.toArray off).run Try.prog w = .ok (.agg m.toArray) w := by
  have e := cut_list l off 32 m h
  simp only [Go.part, isAgg, run_underlying Try.underlying23, sizeOfDD, Sem.run_bind, Sem.run_pure, Result.andThen_ok, if_true, e]
theorem part_int (l : List Value) (off : Nat) (v : Value) (h : l[off]? = some v) (w : World) : (Go.part 3 l.toArray off).run Try.prog w = .ok v w := by
  simp [Go.part, isAgg, run_underlying Try.underlying3, h]
theorem heldH : Try.prog.stoodInHeld 25 = false := by kernel_rfl
theorem hcells_d (h : HdT) (hd : h.d.length = 32) : ((hcells h).drop 3).take 32 = cellsOf h.d := by
  show (cellsOf h.d ++ [Value.int .i64 h.t]).take 32 = _
  rw [List.take_left' (by rw [cellsOf_length, hd])]
theorem hcells_t (h : HdT) (hd : h.d.length = 32) : (hcells h)[35]? = some (.int .i64 h.t) := by
  unfold hcells
  rw [List.getElem?_append_right (by simp [cellsOf_length, hd])]
  simp [cellsOf_length, hd]
theorem equalHead (d : Nat) (a b : HdT) (ha : a.d.length = 32) (hb : b.d.length = 32) (x : Bool) (hx : x = true ↔ a = b) (w : World) : (Op.equalIn (d + 4) 25 (.agg (hcells a).toArray) (.agg (hcells b).toArray)).run Try.prog w = .ok x w := by
  have hf : Try.prog.fieldsOf 25 = #[{ name := "Region", type := 3, offset := 0, embedded := false, tag := "", pkgPath := "", byteOffset := 0 }, { name := "Epoch", type := 3, offset := 1, embedded := false, tag := "", pkgPath := "", byteOffset := 8 }, { name := "Size", type := 3, offset := 2, embedded := false, tag := "", pkgPath := "", byteOffset := 16 }, { name := "Root", type := 23, offset := 3, embedded := false, tag := "", pkgPath := "", byteOffset := 24 }, { name := "Tick", type := 3, offset := 35, embedded := false, tag := "", pkgPath := "", byteOffset := 56 }] := by
    unfold Program.fieldsOf; rw [Try.underlying25]
  have p0 := fun (h : HdT) W => part_int (hcells h) 0 (.int .i64 h.r) rfl W
  have p1 := fun (h : HdT) W => part_int (hcells h) 1 (.int .i64 h.e) rfl W
  have p2 := fun (h : HdT) W => part_int (hcells h) 2 (.int .i64 h.s) rfl W
  have p3a := fun W => part_dig (hcells a) 3 _ (hcells_d a ha) W
  have p3b := fun W => part_dig (hcells b) 3 _ (hcells_d b hb) W
  have p4a := fun W => part_int (hcells a) 35 _ (hcells_t a ha) W
  have p4b := fun W => part_int (hcells b) 35 _ (hcells_t b hb) W
  have ei := fun (x y : Int) W => run_equalIn_int (P := Try.prog) W (d + 2) 3 .i64 .i64 x y Try.underlying3
  have ed : ∀ W, (Op.equalIn (d + 3) 23 (.agg (cellsOf a.d).toArray) (.agg (cellsOf b.d).toArray)).run Try.prog W = .ok (a.d == b.d) W := fun W => run_equalIn_bytes (P := Try.prog) W (d + 1) 23 5 32 Try.underlying23 Try.underlying5 sizeOf5 a.d b.d ha hb
  rw [run_equalIn_struct w (d + 3) 25 _ _ (by rw [hf]; exact Try.underlying25) heldH, hf]
  obtain ⟨b0, h0⟩ : ∃ x, (a.r == b.r) = x := ⟨_, rfl⟩
  obtain ⟨b1, h1⟩ : ∃ x, (a.e == b.e) = x := ⟨_, rfl⟩
  obtain ⟨b2, h2⟩ : ∃ x, (a.s == b.s) = x := ⟨_, rfl⟩
  obtain ⟨b3, h3⟩ : ∃ x, (a.d == b.d) = x := ⟨_, rfl⟩
  obtain ⟨b4, h4⟩ : ∃ x, (a.t == b.t) = x := ⟨_, rfl⟩
  have hq : x = (b0 && b1 && b2 && b3 && b4) := by
    rw [← h0, ← h1, ← h2, ← h3, ← h4, Bool.eq_iff_iff]
    rw [hx]
    simp only [Bool.and_eq_true, beq_iff_eq]
    constructor
    · rintro rfl; simp
    · rintro ⟨⟨⟨⟨e0, e1⟩, e2⟩, e3⟩, e4⟩
      cases a; cases b
      simp only at e0 e1 e2 e3 e4
      rw [e0, e1, e2, e3, e4]
  have x0 := ei a.r b.r
  have x1 := ei a.e b.e
  have x2 := ei a.s b.s
  have x4 := ei a.t b.t
  rw [h0] at x0
  rw [h1] at x1
  rw [h2] at x2
  rw [h3] at ed
  rw [h4] at x4
  rw [hq]
  obtain ⟨A, hA⟩ : ∃ A, (hcells a).toArray = A := ⟨_, rfl⟩
  obtain ⟨B, hB⟩ : ∃ B, (hcells b).toArray = B := ⟨_, rfl⟩
  have p0a := p0 a
  have p0b := p0 b
  have p1a := p1 a
  have p1b := p1 b
  have p2a := p2 a
  have p2b := p2 b
  rw [hA] at p0a p1a p2a p3a p4a
  rw [hB] at p0b p1b p2b p3b p4b
  rw [hA, hB]
  obtain ⟨DA, hDA⟩ : ∃ D, (cellsOf a.d).toArray = D := ⟨_, rfl⟩
  obtain ⟨DB, hDB⟩ : ∃ D, (cellsOf b.d).toArray = D := ⟨_, rfl⟩
  rw [hDA] at p3a ed
  rw [hDB] at p3b ed
  simp [Op.eqFields, p0a, p0b, p1a, p1b, p2a, p2b, p3a, p3b, p4a, p4b, x0, x1, x2, x4, ed]
  cases b0 <;> cases b1 <;> cases b2 <;> cases b3 <;> cases b4 <;> simp
theorem eqHead (a b : HdT) (ha : a.d.length = 32) (hb : b.d.length = 32) (A B : Array Value) (HA : Hid (A = (hcells a).toArray)) (HB : Hid (B = (hcells b).toArray)) (x : Bool) (hx : x = true ↔ a = b) (w : World) : (binOp .eql 25 (.agg A) (.agg B)).run Try.prog w = .ok (.bool x) w := by
  rw [run_eql_struct, HA.out, HB.out, show (10000 : Nat) = 9996 + 4 from rfl, equalHead 9996 a b ha hb x hx]; rfl
end Go.Proofs.Ytdnhnjimhbbabaa

/- What the calls of package head answer, as the document says (their proofs are of one commit of the code). -/
namespace Go.Proofs.Ytdnhnjimhbbabaa
open Go.RowKit Sums Nums
set_option linter.unusedVariables false
set_option linter.unusedSimpArgs false
set_option maxRecDepth 100000
def In64 (z : Int) : Prop := -9223372036854775808 ≤ z ∧ z ≤ 9223372036854775807
/-- A head that lies in a variable. -/
structure InH (h : HdT) : Prop where
  d : h.d.length = 32
  r : In64 h.r
  e : In64 h.e
  s : In64 h.s
  t : In64 h.t
def headV (z : HdT) : Value := .agg (hcells z).toArray
/-- A row of bytes and an error. -/
def BytesE (bs : List UInt8) (E : Int) (e : Ending) (w' : World) : Prop := ∃ a cap, e = .returned (.tuple #[.slice a bs.length cap, .int .i64 E]) ∧ Reads w' a bs.length cap bs
def putB (h : HdT) : List UInt8 := if rightH h = true then headB h else []
def putE (h : HdT) : Int := if rightH h = true then 0 else 70
/-- What the calls of package head answer. -/
structure HeadC : Prop where
  check : ∀ (h : HdT) (hh : InH h) (w : World) (C : Array Value) (HC : Hid (C = (hcells h).toArray)),
    Calls Try.prog 6 #[.agg C] w fun e w' => e = .returned (.int .i64 (putE h)) ∧ Below w.heap.size w w'
  put : ∀ (h : HdT) (hh : InH h) (w : World) (C : Array Value) (HC : Hid (C = (hcells h).toArray)),
    Calls Try.prog 4 #[.agg C] w fun e w' => BytesE (putB h) (putE h) e w' ∧ Below w.heap.size w w'
  get : ∀ (a : Option Addr) (len cap : Nat) (bs : List UInt8) (w : World) (hR : Reads w a len cap bs) (hl : len ≤ 100000) (R : Array Value) (HR : Hid (R = (hcells (getHO bs)).toArray)),
    Calls Try.prog 8 #[.slice a len cap] w fun e w' => e = .returned (.tuple #[.agg R, .int .i64 (getHE bs)]) ∧ Below w.heap.size w w'
theorem zero_in : InH zeroH := ⟨rfl, by unfold In64; decide, by unfold In64; decide, by unfold In64; decide, by unfold In64; decide⟩
/-! The document's H. -/
def oneH : HdT := ⟨1, 1, 0, List.replicate 32 0, 0⟩
theorem one_in : InH oneH := ⟨rfl, by unfold In64; decide, by unfold In64; decide, by unfold In64; decide, by unfold In64; decide⟩
theorem one_right : rightH oneH = true := by decide
theorem wpList_build_two {P : Program} {ops : Array Oper} {rest : List Oper} {o : Oper} {a : Act} {w : World} {Q : Exit → Act → World → Prop} (hg : o.guard = none) (t : TypeId) (i j : Nat) (x y : Operand) (ho : o.op = .build t #[(i, x), (j, y)])
    (cs : Array Value) (v u : Value) (hv : a.eval x = v) (hu : a.eval y = u) (hb : P.built t [(i, v), (j, u)] = some cs) (h : wpList P ops Q rest (a.put o.dst (.agg cs)) w) : wpList P ops Q (o :: rest) a w :=
  wpList_build_row hg t #[(i, x), (j, y)] ho cs (by simpa [hv, hu] using hb) h
theorem builtOne : Try.prog.built 25 [(0, .int .i64 1), (1, .int .i64 1)] = some (hcells oneH).toArray := by kernel_rfl
theorem one_any (w : World) (C : Array Value) (HC : Hid (C = (hcells oneH).toArray)) :
    Calls Try.prog 15 #[] w fun e w' => e = .returned (.agg C) ∧ Below w.heap.size w w' := by
  obtain ⟨Z, HZ, HA, HBZ, H36⟩ := noughtsH
  have HSC : Hid ((Try.prog.info? 25).map (·.size) = some C.size) := by show _ = _; rw [sizeH, HC.out]; rfl
  have H1C : Hid (C.all (·.oneCell') = true) := by show _ = _; rw [HC.out]; exact one_cells _
  have HZC : Hid (Z.size = C.size) := by show _ = _; rw [H36.out, HC.out]; rfl
  have HBO : Hid (Try.prog.built 25 [(0, .int .i64 1), (1, .int .i64 1)] = some C) := by show _ = _; rw [HC.out]; exact builtOne
  clear HC HZ HBZ H36
  go_enter Try.func15, Try.ntmps15
  go_wp2_with (first
    | (show wpList _ _ _ ({ dst := some 0, op := _, type := _, pos := _, after := _, guard := _ } :: _) _ _; refine wpList_new_var rfl 25 rfl Z HA.out ?_; intro g0 w1 HM0; try simp only [Act.put, List.setIfInBounds_toArray, List.set_cons_zero, List.set_cons_succ])
    | (show wpList _ _ _ ({ dst := some 1, op := _, type := _, pos := _, after := _, guard := _ } :: _) _ _; refine wpList_build_two rfl 25 0 1 (.const (.int .i64 1)) (.const (.int .i64 1)) rfl C (.int .i64 1) (.int .i64 1) rfl rfl HBO.out ?_; try simp only [Act.put, List.setIfInBounds_toArray, List.set_cons_zero, List.set_cons_succ])
    | (refine wpList_set_var rfl 25 (.tmp 0) (.tmp 1) rfl g0 C rfl rfl 25 Z HM0.out.row HSC.out HZC.out H1C.out ?_; intro w2 HW0; try simp only [Act.put, List.setIfInBounds_toArray, List.set_cons_zero, List.set_cons_succ])
    | fail)
  refine bodyPost_ret (v := .agg C) ?_ rfl ⟨rfl, HW0.out.below w.heap.size w HM0.out.below (Nat.le_of_eq HM0.out.new.symm)⟩
  exact results_cell_row (p := 0) (ty := 25) rfl _ _ g0 25 C (0, 0) _ rfl HW0.out.row Try.underlying25 rfl HSC.out
end Go.Proofs.Ytdnhnjimhbbabaa

/- The statements' own example of signing, over what the calls of package head answer. -/
namespace Go.Proofs.Ytdnhnjimhbbabaa
open Go.RowKit Sums Nums
set_option linter.unusedVariables false
set_option linter.unusedSimpArgs false
set_option maxRecDepth 100000
theorem headB_one : headB oneH = [1, 0, 0, 1, 1, 2, 0, 0, 1, 1, 3, 0, 0, 0, 4, 0, 0, 32] ++ List.replicate 32 0 ++ [5, 0, 0, 0] := by decide +kernel
end Go.Proofs.Ytdnhnjimhbbabaa
