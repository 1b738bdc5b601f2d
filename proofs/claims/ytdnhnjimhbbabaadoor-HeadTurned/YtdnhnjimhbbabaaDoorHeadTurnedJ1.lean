/- Texts of our own that the row of HeadTurned leans on, part 1. -/
import Derived.Test.YtdnhnjimhbbabaaDoorProg
import Derived.Lib.BitFns
import GoSem.Op.String
import Derived.WalkKit
import Derived.Lib.Walk
import Derived.Lib.Bytealg
import Derived.Below
import Derived.Deep.WholeRow
import Derived.Deep.MidRow
import Derived.Stop.BytesEq
import Derived.WalkSpells
import Derived.WalkLawsBesides
import Derived.Deep.RegionHeld3
import Derived.OpenShut
import Derived.BigQuiet
import Derived.BigRegion
import Derived.Lib.BufferWrite
import Derived.OwnWalk
import Derived.OneCell
import Derived.Laws.BitsAllLaws
import Derived.Lib.AppendStr
import Derived.Deep.QuietTactic

/- Plain arithmetic on numbers as bytes, the highest first: no program is named here. -/
namespace Go.Proofs.YtdnhnjimhbbabaaDoor.Nums
/-- The last k bytes of N, the highest first. -/
def be : Nat → Nat → List UInt8
  | 0, _ => []
  | k + 1, N => UInt8.ofNat (N / 256 ^ k % 256) :: be k N
/-- The number that bytes tell, the highest first. -/
def val (l : List UInt8) : Nat := l.foldl (fun a b => 256 * a + b.toNat) 0
/-- How many bytes N needs. -/
def nb (N : Nat) : Nat := (Lib.bitLen N + 7) / 8
/-- k bytes are the fewest that do for N. -/
def Fits (k N : Nat) : Prop := N < 256 ^ k ∧ (k = 0 ∨ 256 ^ (k - 1) ≤ N)
theorem be_length : ∀ k N, (be k N).length = k
  | 0, _ => rfl
  | k + 1, N => by simp [be, be_length k N]
theorem val_snoc (l : List UInt8) (b : UInt8) : val (l ++ [b]) = 256 * val l + b.toNat := by simp [val]
theorem foldl_val : ∀ (l : List UInt8) (a : Nat), l.foldl (fun a b => 256 * a + b.toNat) a = a * 256 ^ l.length + val l
  | [], a => by simp [val]
  | b :: l, a => by
    have h1 := foldl_val l (256 * a + b.toNat)
    have h2 := foldl_val l (256 * 0 + b.toNat)
    simp only [val, List.foldl_cons, List.length_cons] at h1 h2 ⊢
    rw [h1, h2, Nat.pow_succ, Nat.add_mul, Nat.mul_comm 256 a, Nat.mul_assoc, Nat.mul_comm 256 (256 ^ l.length)]
    simp only [Nat.mul_zero, Nat.zero_add]
    omega
theorem val_cons (b : UInt8) (l : List UInt8) : val (b :: l) = b.toNat * 256 ^ l.length + val l := by
  have := foldl_val l (256 * 0 + b.toNat)
  simp only [val, List.foldl_cons] at this ⊢
  rw [this]; simp
theorem val_lt : ∀ l : List UInt8, val l < 256 ^ l.length
  | [] => by simp [val]
  | b :: l => by
    rw [val_cons, List.length_cons, Nat.pow_succ, Nat.mul_comm (256 ^ l.length) 256]
    have h := val_lt l
    have hb : b.toNat ≤ 255 := by have := b.toNat_lt; omega
    have := Nat.mul_le_mul_right (256 ^ l.length) hb
    omega
theorem val_be : ∀ k N, val (be k N) = N % 256 ^ k
  | 0, N => by simp [be, val, Nat.mod_one]
  | k + 1, N => by
    rw [be, val_cons, be_length, val_be k N, Nat.pow_succ, Nat.mod_mul]
    have : (UInt8.ofNat (N / 256 ^ k % 256)).toNat = N / 256 ^ k % 256 := by
      rw [UInt8.toNat_ofNat']; omega
    rw [this, Nat.mul_comm (N / 256 ^ k % 256)]; omega
theorem be_val : ∀ l : List UInt8, be l.length (val l) = l
  | [] => rfl
  | b :: l => by
    have hp : 0 < 256 ^ l.length := Nat.pow_pos (by decide)
    have hl := val_lt l
    have hb : b.toNat < 256 := b.toNat_lt
    have hd : val (b :: l) / 256 ^ l.length = b.toNat := by
      rw [val_cons, Nat.mul_comm, Nat.mul_add_div hp, Nat.div_eq_of_lt hl]; rfl
    have hbe : ∀ k M, k ≤ l.length → be k (M * 256 ^ l.length + val l) = be k (val l) := by
      intro k M hk
      induction k with
      | zero => rfl
      | succ k ih =>
        rw [be, be, ih (by omega)]
        have hk0 : 0 < 256 ^ k := Nat.pow_pos (by decide)
        have e : M * 256 ^ l.length = 256 ^ k * (256 * (M * 256 ^ (l.length - k - 1))) := by
          have : 256 ^ l.length = 256 ^ k * (256 * 256 ^ (l.length - k - 1)) := by
            rw [← Nat.pow_succ', ← Nat.pow_add]; congr 1; omega
          rw [this]; ac_rfl
        rw [e, Nat.mul_add_div hk0, Nat.mul_add_mod]
    rw [List.length_cons, be, hd, val_cons, hbe l.length b.toNat (Nat.le_refl _), be_val l]
    rw [Nat.mod_eq_of_lt hb, UInt8.ofNat_toNat]
theorem fits_unique {a b N : Nat} (ha : Fits a N) (hb : Fits b N) : a = b := by
  have key : ∀ {a b : Nat}, Fits a N → Fits b N → ¬ a < b := by
    intro a b ha hb h
    rcases hb.2 with h0 | h0
    · omega
    · have := Nat.pow_le_pow_right (show 0 < 256 by decide) (show a ≤ b - 1 by omega)
      have := ha.1
      omega
  have := key ha hb
  have := key hb ha
  omega
theorem bitLenAux_bounds : ∀ f x, x < 2 ^ f → x < 2 ^ Lib.bitLenAux f x ∧ (x ≠ 0 → 2 ^ (Lib.bitLenAux f x - 1) ≤ x ∧ 0 < Lib.bitLenAux f x) ∧ Lib.bitLenAux f x ≤ f
  | 0, x, h => by simp at h; subst h; simp [Lib.bitLenAux]
  | f + 1, x, h => by
    rw [Lib.bitLenAux]
    by_cases hx : x = 0
    · simp [hx]
    · rw [if_neg hx]
      have hh : x / 2 < 2 ^ f := by rw [Nat.pow_succ] at h; omega
      obtain ⟨h1, h2, h3⟩ := bitLenAux_bounds f (x / 2) hh
      refine ⟨?_, fun _ => ⟨?_, by omega⟩, by omega⟩
      · rw [Nat.add_comm, Nat.pow_succ]; omega
      · rw [Nat.add_sub_cancel_left]
        by_cases hz : x / 2 = 0
        · have : Lib.bitLenAux f (x / 2) = 0 := by
            rw [hz]; cases f <;> simp [Lib.bitLenAux]
          rw [this]; simp; omega
        · obtain ⟨h4, h5⟩ := h2 hz
          have : Lib.bitLenAux f (x / 2) = Lib.bitLenAux f (x / 2) - 1 + 1 := by omega
          rw [this, Nat.pow_succ]; omega
theorem fits_nb (N : Nat) (h : N < 2 ^ 64) : Fits (nb N) N := by
  obtain ⟨h1, h2, _⟩ := bitLenAux_bounds 64 N h
  change N < 2 ^ Lib.bitLen N at h1
  change N ≠ 0 → 2 ^ (Lib.bitLen N - 1) ≤ N ∧ 0 < Lib.bitLen N at h2
  have e : ∀ k, 256 ^ k = 2 ^ (8 * k) := fun k => by rw [Nat.pow_mul]
  unfold Fits nb
  rw [e, e]
  refine ⟨Nat.lt_of_lt_of_le h1 (Nat.pow_le_pow_right (by decide) (by omega)), ?_⟩
  by_cases hz : N = 0
  · left; subst hz; decide
  · obtain ⟨h3, h4⟩ := h2 hz
    right
    exact Nat.le_trans (Nat.pow_le_pow_right (by decide) (by omega)) h3
theorem nb_le (N : Nat) (h : N < 2 ^ 64) : nb N ≤ 8 := by
  obtain ⟨_, _, h3⟩ := bitLenAux_bounds 64 N h
  change Lib.bitLen N ≤ 64 at h3
  unfold nb; omega
/-- The bytes of the number N. -/
def num (N : Nat) : List UInt8 := be (nb N) N
theorem num_of_fits {k N : Nat} (h : N < 2 ^ 64) (hk : Fits k N) : be k N = num N := by
  rw [num, fits_unique hk (fits_nb N h)]
theorem val_num (N : Nat) (h : N < 2 ^ 64) : val (num N) = N := by
  rw [num, val_be, Nat.mod_eq_of_lt (fits_nb N h).1]
theorem num_length (N : Nat) : (num N).length = nb N := be_length _ _
end Go.Proofs.YtdnhnjimhbbabaaDoor.Nums

/- Rows, fields and numbers as bytes, as plain functions: what is laid, what is read, and back. No program is spoken of. -/
namespace Go.Proofs.YtdnhnjimhbbabaaDoor
open Go.RowKit Nums
set_option linter.unusedVariables false
/-- Are these bytes a number's? -/
def isNum (l : List UInt8) : Bool := decide (l.length ≤ 8 ∧ l[0]? ≠ some 0 ∧ val l < 4611686018427387904)
def vOf (l : List UInt8) : Int := if isNum l then val l else 0
def eOf (l : List UInt8) : Int := if isNum l then 0 else 11
/-- What Number answers. -/
def nOf (n : Int) : ByteArray := if 0 ≤ n ∧ n ≤ 4611686018427387903 then ⟨(num n.toNat).toArray⟩ else ByteArray.empty
def neOf (n : Int) : Int := if 0 ≤ n ∧ n ≤ 4611686018427387903 then 0 else 1
theorem v_yes {l : List UInt8} (h : isNum l = true) : vOf l = val l ∧ eOf l = 0 := by simp [vOf, eOf, h]
theorem v_no {l : List UInt8} (h : isNum l = false) : vOf l = 0 ∧ eOf l = 11 := by simp [vOf, eOf, h]
/-- A field's bytes: its tag, how many bytes its data has (three bytes), and these. -/
def fieldBytes (tag : Nat) (d : List UInt8) : List UInt8 :=
  UInt8.ofNat (tag % 256) :: UInt8.ofNat (d.length / 65536 % 256) :: UInt8.ofNat (d.length / 256 % 256) :: UInt8.ofNat (d.length % 256) :: d
def faultOf (last tag : Int) (size : Nat) : Int := if tag ≤ last ∨ 255 < tag then 1 else if 65536 < size then 2 else 0
theorem byte_mod (n : Nat) : ((UInt8.ofNat (n % 256)).toNat : Int) = (n : Int) % 256 := by rw [UInt8.toNat_ofNat']; omega
theorem fieldBytes_length (tag : Nat) (l : List UInt8) : (fieldBytes tag l).length = 4 + l.length := by simp [fieldBytes]; omega
def fieldBytesI (tag : Int) (d : List UInt8) : List UInt8 :=
  UInt8.ofNat (tag % 256).toNat :: UInt8.ofNat (d.length / 65536 % 256) :: UInt8.ofNat (d.length / 256 % 256) :: UInt8.ofNat (d.length % 256) :: d
theorem fieldBytesI_nat (tag : Int) (d : List UInt8) (h : 1 ≤ tag ∧ tag ≤ 255) : fieldBytesI tag d = fieldBytes tag.toNat d := by
  have e : (tag % 256).toNat = tag.toNat % 256 := by omega
  rw [fieldBytesI, fieldBytes, e]
theorem fieldBytesI_length (tag : Int) (l : List UInt8) : (fieldBytesI tag l).length = 4 + l.length := by simp [fieldBytesI]; omega
def size3 (l : List UInt8) : Nat := 65536 * (l.getD 1 0).toNat + 256 * (l.getD 2 0).toNat + (l.getD 3 0).toNat
def gE (l : List UInt8) : Nat := if l.length < 4 then 10 else if (l.getD 0 0).toNat = 0 ∨ 65536 < size3 l then 11 else if l.length < 4 + size3 l then 10 else 0
def gT (l : List UInt8) : Nat := if gE l = 0 then (l.getD 0 0).toNat else 0
def gD (l : List UInt8) : List UInt8 := if gE l = 0 then (l.drop 4).take (size3 l) else []
def gN (l : List UInt8) : Nat := if gE l = 0 then 4 + size3 l else 0
theorem or_low (a b k p : Nat) (hp : p = 2 ^ k) (hb : b < p) : a * p ||| b = a * p + b := by
  subst hp
  have h := Nat.shiftLeft_add_eq_or_of_lt hb a
  rw [Nat.shiftLeft_eq] at h
  exact h.symm
theorem or3 (c1 c2 c3 : Nat) (h1 : c1 < 256) (h2 : c2 < 256) (h3 : c3 < 256) :
    bits .or .i64 (bits .or .i64 ((c1 : Int) * 65536) ((c2 : Int) * 256)) (c3 : Int) = ((65536 * c1 + 256 * c2 + c3 : Nat) : Int) := by
  have key : ∀ a b : Nat, a < 4294967296 → b < 4294967296 → bits .or .i64 (a : Int) (b : Int) = ((a ||| b : Nat) : Int) := by
    intro a b ha hb
    have hx : a ||| b < 2 ^ 32 := Nat.or_lt_two_pow (by omega) (by omega)
    have h1 : (BitVec.ofInt 64 (a : Int)).toNat = a := by
      rw [BitVec.ofInt_natCast, BitVec.toNat_ofNat]; exact Nat.mod_eq_of_lt (by omega)
    have h2 : (BitVec.ofInt 64 (b : Int)).toNat = b := by
      rw [BitVec.ofInt_natCast, BitVec.toNat_ofNat]; exact Nat.mod_eq_of_lt (by omega)
    show IntKind.i64.wrap ((BitVec.ofInt 64 (a : Int) ||| BitVec.ofInt 64 (b : Int)).toNat : Int) = _
    rw [BitVec.toNat_or, h1, h2, IntKind.wrap_i64]
    omega
  have e1 : (c1 : Int) * 65536 = ((c1 * 65536 : Nat) : Int) := by omega
  have e2 : (c2 : Int) * 256 = ((c2 * 256 : Nat) : Int) := by omega
  rw [e1, e2, key _ _ (by omega) (by omega)]
  rw [or_low c1 (c2 * 256) 16 65536 (by decide) (by omega), key _ _ (by omega) (by omega)]
  have e3 : c1 * 65536 + c2 * 256 = (c1 * 256 + c2) * 256 := by omega
  rw [e3, or_low (c1 * 256 + c2) c3 8 256 (by decide) h3]
  omega
theorem gE_short {l : List UInt8} (h : l.length < 4) : gE l = 10 := by rw [gE, if_pos h]
theorem gE_form {l : List UInt8} (h : ¬ l.length < 4) (h2 : (l.getD 0 0).toNat = 0 ∨ 65536 < size3 l) : gE l = 11 := by rw [gE, if_neg h, if_pos h2]
theorem gE_cut {l : List UInt8} (h : ¬ l.length < 4) (h2 : ¬ ((l.getD 0 0).toNat = 0 ∨ 65536 < size3 l)) (h3 : l.length < 4 + size3 l) : gE l = 10 := by rw [gE, if_neg h, if_neg h2, if_pos h3]
theorem gE_ok {l : List UInt8} (h : ¬ l.length < 4) (h2 : ¬ ((l.getD 0 0).toNat = 0 ∨ 65536 < size3 l)) (h3 : ¬ l.length < 4 + size3 l) : gE l = 0 := by rw [gE, if_neg h, if_neg h2, if_neg h3]
/-- A field that was gone through, with what is wrong with it. -/
structure Jd where
  tag : Int
  d : ByteArray
  e : Int
  ok : e = 0 → d.size ≤ 65536
theorem fault_ok (last tag : Int) (d : ByteArray) (h : faultOf last tag d.size = 0) : d.size ≤ 65536 := by
  unfold faultOf at h
  by_cases h1 : tag ≤ last ∨ 255 < tag
  · rw [if_pos h1] at h; omega
  · rw [if_neg h1] at h
    by_cases h2 : 65536 < d.size
    · rw [if_pos h2] at h; omega
    · omega
def judge (last : Int) : List (Int × ByteArray) → List Jd
  | [] => []
  | f :: r => ⟨f.1, f.2, faultOf last f.1 f.2.size, fault_ok last f.1 f.2⟩ :: judge f.1 r
/-- A field that was read, with what is wrong with it. -/
structure Pd where
  tag : Nat
  d : List UInt8
  e : Nat
/-- What is wrong with the first field of bytes, behind a tag. -/
def pE (last : Nat) (l : List UInt8) : Nat := if gE l = 0 then (if faultOf last (gT l) (gD l).length = 0 then 0 else 11) else gE l
def pX (last : Nat) (l : List UInt8) : Pd := ⟨gT l, gD l, pE last l⟩
def parse : Nat → Nat → List UInt8 → List Pd
  | 0, _, _ => []
  | k + 1, last, l => if l = [] then [] else pX last l :: if pE last l = 0 then parse k (gT l) (l.drop (gN l)) else []
theorem gN_le {l : List UInt8} (h : gE l = 0) : 4 ≤ gN l ∧ gN l ≤ l.length ∧ gT l ≤ 255 ∧ (gD l).length ≤ 65536 ∧ 1 ≤ gT l := by
  have h0 := h
  unfold gE at h
  by_cases h1 : l.length < 4
  · rw [if_pos h1] at h; omega
  · rw [if_neg h1] at h
    by_cases h2 : (l.getD 0 0).toNat = 0 ∨ 65536 < size3 l
    · rw [if_pos h2] at h; omega
    · rw [if_neg h2] at h
      by_cases h3 : l.length < 4 + size3 l
      · rw [if_pos h3] at h; omega
      · have := (l.getD 0 0).toNat_lt
        rw [gN, gT, gD, if_pos h0, if_pos h0, if_pos h0]
        refine ⟨by omega, by omega, by omega, ?_, by omega⟩
        rw [List.length_take]; omega
theorem gD_le (l : List UInt8) : (gD l).length ≤ 65536 := by
  by_cases h : gE l = 0
  · exact (gN_le h).2.2.2.1
  · rw [gD, if_neg h]; simp
/-- More fuel than there are bytes changes nothing. -/
theorem pE_ok {last : Nat} {l : List UInt8} (h : gE l = 0) (hf : faultOf last (gT l) (gD l).length = 0) : pE last l = 0 := by rw [pE, if_pos h, if_pos hf]
theorem parse_cons {k last : Nat} {l : List UInt8} (h : l ≠ []) : parse (k + 1) last l = pX last l :: if pE last l = 0 then parse k (gT l) (l.drop (gN l)) else [] := by rw [parse, if_neg h]
theorem parse_fuel : ∀ (k m last : Nat) (l : List UInt8), l.length ≤ k → k ≤ m → parse m last l = parse k last l
  | 0, m, last, l, h, _ => by
    have : l = [] := List.eq_nil_of_length_eq_zero (by omega)
    subst this
    cases m <;> simp [parse]
  | k + 1, m, last, l, h, hm => by
    obtain ⟨m', rfl⟩ : ∃ m', m = m' + 1 := ⟨m - 1, by omega⟩
    simp only [parse]
    by_cases hl : l = []
    · simp [hl]
    · rw [if_neg hl, if_neg hl]
      by_cases he : pE last l = 0
      · rw [if_pos he, if_pos he]
        have hg : gE l = 0 := by
          unfold pE at he
          by_cases h0 : gE l = 0
          · exact h0
          · rw [if_neg h0] at he; exact absurd he h0
        have hn := gN_le hg
        rw [parse_fuel k m' (gT l) (l.drop (gN l)) (by rw [List.length_drop]; omega) (by omega)]
      · rw [if_neg he, if_neg he]
/-- Fields as cells. -/
def fcells : List (Int × ByteArray) → List Value
  | [] => []
  | f :: r => .int .i64 f.1 :: .string f.2 :: fcells r
theorem fcells_length : ∀ fs, (fcells fs).length = fs.length * 2
  | [] => rfl
  | f :: r => by simp [fcells, fcells_length r]; omega
theorem fcells_append : ∀ a b, fcells (a ++ b) = fcells a ++ fcells b
  | [], _ => rfl
  | f :: r, b => by simp [fcells, fcells_append r b]
def toF (ps : List Pd) : List (Int × ByteArray) := ps.map fun x => ((x.tag : Int), ⟨x.d.toArray⟩)
theorem toF_snoc (ps : List Pd) (x : Pd) : toF (ps ++ [x]) = toF ps ++ [((x.tag : Int), ⟨x.d.toArray⟩)] := by simp [toF]
theorem toF_length (ps : List Pd) : (toF ps).length = ps.length := by simp [toF]
def layE : Int → List (Int × ByteArray) → Int
  | _, [] => 0
  | last, f :: r => if faultOf last f.1 f.2.size = 0 then layE f.1 r else faultOf last f.1 f.2.size
def rowB : List (Int × ByteArray) → List UInt8
  | [] => []
  | f :: r => fieldBytesI f.1 f.2.data.toList ++ rowB r
def rowOf (fs : List (Int × ByteArray)) : List UInt8 := if layE 0 fs = 0 then rowB fs else []
theorem layE_all : ∀ (last : Int) (fs : List (Int × ByteArray)), (∀ x ∈ judge last fs, x.e = 0) → layE last fs = 0
  | _, [], _ => rfl
  | last, f :: r, h => by
    have h1 : faultOf last f.1 f.2.size = 0 := h _ List.mem_cons_self
    rw [layE, if_pos h1]
    exact layE_all f.1 r (fun x hx => h x (List.mem_cons_of_mem _ hx))
theorem layE_first : ∀ (pre : List Jd) (last : Int) (fs : List (Int × ByteArray)) (x : Jd), (pre ++ [x]) <+: judge last fs → (∀ y ∈ pre, y.e = 0) → x.e ≠ 0 → layE last fs = x.e
  | [], last, [], x, h, _, _ => by simp [judge] at h
  | [], last, f :: r, x, h, _, hx => by
    rw [judge, List.nil_append, List.cons_prefix_cons] at h
    obtain ⟨rfl, _⟩ := h
    rw [layE, if_neg hx]
  | y :: pre, last, [], x, h, _, _ => by simp [judge] at h
  | y :: pre, last, f :: r, x, h, hz, hx => by
    rw [judge, List.cons_append, List.cons_prefix_cons] at h
    obtain ⟨rfl, h2⟩ := h
    have h1 : faultOf last f.1 f.2.size = 0 := hz _ List.mem_cons_self
    rw [layE, if_pos h1]
    exact layE_first pre f.1 r x h2 (fun z hz' => hz z (List.mem_cons_of_mem _ hz')) hx
def firstE : List Pd → Nat
  | [] => 0
  | x :: r => if x.e = 0 then firstE r else x.e
def readE (bs : List UInt8) : Nat := firstE (parse (bs.length + 1) 0 bs)
def readF (bs : List UInt8) : List (Int × ByteArray) := if readE bs = 0 then toF (parse (bs.length + 1) 0 bs) else []
theorem firstE_all : ∀ ps : List Pd, (∀ x ∈ ps, x.e = 0) → firstE ps = 0
  | [], _ => rfl
  | x :: r, h => by rw [firstE, if_pos (h x List.mem_cons_self)]; exact firstE_all r (fun y hy => h y (List.mem_cons_of_mem _ hy))
theorem firstE_first : ∀ (pre ps : List Pd) (x : Pd), (pre ++ [x]) <+: ps → (∀ y ∈ pre, y.e = 0) → x.e ≠ 0 → firstE ps = x.e
  | [], [], x, h, _, _ => by simp at h
  | [], p :: r, x, h, _, hx => by
    rw [List.nil_append, List.cons_prefix_cons] at h
    obtain ⟨rfl, _⟩ := h
    rw [firstE, if_neg hx]
  | y :: pre, [], x, h, _, _ => by simp at h
  | y :: pre, p :: r, x, h, hz, hx => by
    rw [List.cons_append, List.cons_prefix_cons] at h
    obtain ⟨rfl, h2⟩ := h
    rw [firstE, if_pos (hz _ List.mem_cons_self)]
    exact firstE_first pre r x h2 (fun z hz' => hz z (List.mem_cons_of_mem _ hz')) hx
theorem fault_pos {last tag : Int} {size : Nat} (hl : 0 ≤ last) (h : faultOf last tag size = 0) : 1 ≤ tag ∧ tag ≤ 255 ∧ size ≤ 65536 := by
  unfold faultOf at h
  by_cases h1 : tag ≤ last ∨ 255 < tag
  · rw [if_pos h1] at h; omega
  · rw [if_neg h1] at h
    by_cases h2 : 65536 < size
    · rw [if_pos h2] at h; omega
    · omega
theorem got_field (tag : Nat) (d more : List UInt8) (ht : 1 ≤ tag ∧ tag ≤ 255) (hd : d.length ≤ 65536) :
    gE (fieldBytes tag d ++ more) = 0 ∧ gT (fieldBytes tag d ++ more) = tag ∧ gD (fieldBytes tag d ++ more) = d ∧ gN (fieldBytes tag d ++ more) = (fieldBytes tag d).length := by
  have e0 : ((fieldBytes tag d ++ more).getD 0 0).toNat = tag := by
    simp [fieldBytes]; omega
  have es : size3 (fieldBytes tag d ++ more) = d.length := by
    simp [fieldBytes, size3]; omega
  have el : (fieldBytes tag d ++ more).length = 4 + d.length + more.length := by rw [List.length_append, fieldBytes_length]
  have h0 : gE (fieldBytes tag d ++ more) = 0 := gE_ok (by omega) (by rw [e0, es]; omega) (by rw [es, el]; omega)
  refine ⟨h0, by rw [gT, if_pos h0, e0], ?_, by rw [gN, if_pos h0, es, fieldBytes_length]⟩
  rw [gD, if_pos h0, es]
  simp [fieldBytes]
/-- A field that was laid, as it is read. -/
def asPd (f : Int × ByteArray) : Pd := ⟨f.1.toNat, f.2.data.toList, 0⟩
theorem toF_asPd (fs : List (Int × ByteArray)) (h : ∀ f ∈ fs, 0 ≤ f.1) : toF (fs.map asPd) = fs := by
  induction fs with
  | nil => rfl
  | cons f r ih =>
    have h1 := h f List.mem_cons_self
    have h2 := ih (fun g hg => h g (List.mem_cons_of_mem _ hg))
    unfold toF at h2 ⊢
    rw [List.map_cons, List.map_cons, h2]
    congr 1
    obtain ⟨t, d⟩ := f
    simp only [asPd]
    simp only at h1
    congr 1
    omega
theorem lay_cons {last : Int} {f : Int × ByteArray} {r : List (Int × ByteArray)} (h : layE last (f :: r) = 0) : faultOf last f.1 f.2.size = 0 ∧ layE f.1 r = 0 := by
  rw [layE] at h
  by_cases h1 : faultOf last f.1 f.2.size = 0
  · rw [if_pos h1] at h; exact ⟨h1, h⟩
  · rw [if_neg h1] at h; exact absurd h h1
theorem lay_pos : ∀ (last : Int) (fs : List (Int × ByteArray)), 0 ≤ last → layE last fs = 0 → ∀ f ∈ fs, 0 ≤ f.1
  | _, [], _, _, f, hf => by simp at hf
  | last, g :: r, hl, h, f, hf => by
    obtain ⟨h1, h2⟩ := lay_cons h
    have hp := fault_pos hl h1
    rcases List.mem_cons.1 hf with rfl | hf
    · omega
    · exact lay_pos g.1 r (by omega) h2 f hf
/-- The first field of a row's bytes. -/
theorem row_first {last : Nat} {f : Int × ByteArray} {r : List (Int × ByteArray)} {more : List UInt8} (h : faultOf last f.1 f.2.size = 0) (hr : more = rowB r) :
    let l := rowB (f :: r)
    l ≠ [] ∧ gE l = 0 ∧ gT l = f.1.toNat ∧ gD l = f.2.data.toList ∧ l.drop (gN l) = more ∧ pE last l = 0 ∧ gN l = 4 + f.2.data.toList.length := by
  have hp := fault_pos (Int.natCast_nonneg last) h
  have hd : f.2.data.toList.length ≤ 65536 := by simpa using hp.2.2
  have e : rowB (f :: r) = fieldBytes f.1.toNat f.2.data.toList ++ rowB r := by rw [rowB, fieldBytesI_nat _ _ ⟨hp.1, hp.2.1⟩]
  obtain ⟨g1, g2, g3, g4⟩ := got_field f.1.toNat f.2.data.toList (rowB r) (by omega) hd
  intro l
  show rowB (f :: r) ≠ [] ∧ _
  rw [show l = rowB (f :: r) from rfl, e]
  refine ⟨by simp [fieldBytes], g1, g2, g3, by rw [g4, List.drop_left, hr], ?_, by rw [g4, fieldBytes_length]⟩
  refine pE_ok g1 ?_
  rw [g2, g3]
  have e1 : ((f.1.toNat : Nat) : Int) = f.1 := by omega
  have e2 : f.2.data.toList.length = f.2.size := by simp
  rw [e1, e2]
  exact h
theorem parse_row : ∀ (fs : List (Int × ByteArray)) (k last : Nat), layE last fs = 0 → (rowB fs).length ≤ k → parse k last (rowB fs) = fs.map asPd
  | [], k, last, _, _ => by cases k <;> simp [parse, rowB]
  | f :: r, k, last, h, hk => by
    obtain ⟨h1, h2⟩ := lay_cons h
    obtain ⟨ne, g1, g2, g3, g4, g5, g6⟩ := row_first (r := r) h1 rfl
    have hp := fault_pos (Int.natCast_nonneg last) h1
    have hlen : (rowB (f :: r)).length = 4 + f.2.data.toList.length + (rowB r).length := by
      rw [rowB, List.length_append, fieldBytesI_length]
    obtain ⟨k', rfl⟩ : ∃ k', k = k' + 1 := ⟨k - 1, by omega⟩
    rw [parse_cons ne, if_pos g5, g2, g4]
    have ih := parse_row r k' f.1.toNat (by rw [show ((f.1.toNat : Nat) : Int) = f.1 by omega]; exact h2) (by omega)
    rw [ih, List.map_cons]
    congr 1
    unfold pX asPd
    rw [g2, g3, g5]
theorem read_row {fs : List (Int × ByteArray)} (h : layE 0 fs = 0) : readE (rowB fs) = 0 ∧ readF (rowB fs) = fs := by
  have hp := parse_row fs ((rowB fs).length + 1) 0 h (by omega)
  have h0 : readE (rowB fs) = 0 := by
    rw [readE, hp]
    apply firstE_all
    intro x hx
    obtain ⟨f, _, rfl⟩ := List.mem_map.1 hx
    rfl
  refine ⟨h0, ?_⟩
  rw [readF, if_pos h0, hp]
  exact toF_asPd fs (lay_pos 0 fs (by decide) h)
/-- Bytes whose first field is right are that field's and the rest. -/
theorem bytes_first {l : List UInt8} (h : gE l = 0) : l = fieldBytes (gT l) (gD l) ++ l.drop (gN l) ∧ (gD l).length ≤ 65536 := by
  have h0 := h
  have hn := gN_le h
  refine ⟨?_, hn.2.2.2.1⟩
  match l, hn.2.1 with
  | [], hl => simp at hl; omega
  | [_], hl => simp at hl; omega
  | [_, _], hl => simp at hl; omega
  | [_, _, _], hl => simp at hl; omega
  | a :: b :: c :: d :: r, hl =>
    have ht : gT (a :: b :: c :: d :: r) = a.toNat := by rw [gT, if_pos h]; rfl
    have hs : size3 (a :: b :: c :: d :: r) = 65536 * b.toNat + 256 * c.toNat + d.toNat := rfl
    have hN : gN (a :: b :: c :: d :: r) = 4 + size3 (a :: b :: c :: d :: r) := by rw [gN, if_pos h]
    have hD : gD (a :: b :: c :: d :: r) = r.take (size3 (a :: b :: c :: d :: r)) := by rw [gD, if_pos h]; rfl
    have hlr : (r.take (size3 (a :: b :: c :: d :: r))).length = size3 (a :: b :: c :: d :: r) := by
      rw [List.length_take]
      rw [hN] at hl
      simp only [List.length_cons] at hl
      omega
    have hb := b.toNat_lt
    have hc := c.toNat_lt
    have hd := d.toNat_lt
    have ha := a.toNat_lt
    rw [ht, hD, hN, fieldBytes, hlr, hs]
    have e1 : UInt8.ofNat (a.toNat % 256) = a := by rw [Nat.mod_eq_of_lt ha]; exact UInt8.ofNat_toNat
    have e2 : UInt8.ofNat ((65536 * b.toNat + 256 * c.toNat + d.toNat) / 65536 % 256) = b := by
      rw [show (65536 * b.toNat + 256 * c.toNat + d.toNat) / 65536 % 256 = b.toNat by omega]; exact UInt8.ofNat_toNat
    have e3 : UInt8.ofNat ((65536 * b.toNat + 256 * c.toNat + d.toNat) / 256 % 256) = c := by
      rw [show (65536 * b.toNat + 256 * c.toNat + d.toNat) / 256 % 256 = c.toNat by omega]; exact UInt8.ofNat_toNat
    have e4 : UInt8.ofNat ((65536 * b.toNat + 256 * c.toNat + d.toNat) % 256) = d := by
      rw [show (65536 * b.toNat + 256 * c.toNat + d.toNat) % 256 = d.toNat by omega]; exact UInt8.ofNat_toNat
    rw [e1, e2, e3, e4]
    simp only [List.cons_append, List.drop_succ_cons, Nat.add_comm 4]
    rw [List.take_append_drop]
theorem lay_parse : ∀ (k last : Nat) (l : List UInt8), l.length ≤ k → firstE (parse k last l) = 0 → layE last (toF (parse k last l)) = 0 ∧ rowB (toF (parse k last l)) = l ∧ (parse k last l).length + last ≤ 255 + (if parse k last l = [] then last else 0)
  | 0, last, l, hk, _ => by
    have : l = [] := List.eq_nil_of_length_eq_zero (by omega)
    subst this
    simp [parse, toF, layE, rowB]
  | k + 1, last, l, hk, h => by
    by_cases hl : l = []
    · subst hl; simp [parse, toF, layE, rowB]
    · rw [parse_cons hl] at h ⊢
      rw [firstE] at h
      have he : pE last l = 0 := by
        by_cases he : pE last l = 0
        · exact he
        · rw [if_neg (show ¬ (pX last l).e = 0 from he)] at h; exact absurd h he
      rw [if_pos (show (pX last l).e = 0 from he), if_pos he] at h
      rw [if_pos he]
      have hg : gE l = 0 := by
        unfold pE at he
        by_cases h0 : gE l = 0
        · exact h0
        · rw [if_neg h0] at he; exact absurd he h0
      have hf : faultOf last (gT l) (gD l).length = 0 := by
        unfold pE at he
        rw [if_pos hg] at he
        by_cases hf : faultOf last (gT l) (gD l).length = 0
        · exact hf
        · rw [if_neg hf] at he; omega
      have hn := gN_le hg
      obtain ⟨i1, i2, i3⟩ := lay_parse k (gT l) (l.drop (gN l)) (by rw [List.length_drop]; omega) h
      obtain ⟨b1, b2⟩ := bytes_first hg
      have hds : (⟨(gD l).toArray⟩ : ByteArray).size = (gD l).length := by show (gD l).toArray.size = _; simp
      have hrise : (last : Int) < (gT l : Int) := by
        unfold faultOf at hf
        by_cases hh : (gT l : Int) ≤ (last : Int) ∨ 255 < (gT l : Int)
        · rw [if_pos hh] at hf; omega
        · omega
      refine ⟨?_, ?_, ?_⟩
      · show layE last (((gT l : Int), ⟨(gD l).toArray⟩) :: toF (parse k (gT l) (l.drop (gN l)))) = 0
        rw [layE]
        show (if faultOf last (gT l) (⟨(gD l).toArray⟩ : ByteArray).size = 0 then layE (gT l) _ else _) = 0
        rw [hds, if_pos hf]
        exact i1
      · show rowB (((gT l : Int), ⟨(gD l).toArray⟩) :: toF (parse k (gT l) (l.drop (gN l)))) = l
        rw [rowB, i2]
        show fieldBytesI (gT l) (gD l).toArray.toList ++ _ = l
        rw [fieldBytesI_nat _ _ (by omega)]
        exact b1.symm
      · rw [if_neg (by simp), List.length_cons]
        by_cases hnil : parse k (gT l) (l.drop (gN l)) = []
        · rw [hnil]; simp; omega
        · rw [if_neg hnil] at i3; omega
theorem lay_read {bs : List UInt8} (h : readE bs = 0) : layE 0 (readF bs) = 0 ∧ rowOf (readF bs) = bs ∧ (readF bs).length ≤ 255 := by
  obtain ⟨i1, i2, i3⟩ := lay_parse (bs.length + 1) 0 bs (by omega) h
  rw [readF, if_pos h]
  have i1' : layE 0 (toF (parse (bs.length + 1) 0 bs)) = 0 := i1
  refine ⟨i1', by rw [rowOf, if_pos i1']; exact i2, ?_⟩
  rw [toF_length]
  by_cases hnil : parse (bs.length + 1) 0 bs = []
  · rw [hnil]; simp
  · rw [if_neg hnil] at i3; omega
theorem num_isNum (N : Nat) (h : N < 4611686018427387904) : isNum (num N) = true := by
  have hN : N < 2 ^ 64 := by omega
  unfold isNum
  rw [decide_eq_true_eq, num_length, val_num N hN]
  refine ⟨nb_le N hN, ?_, h⟩
  have hf := fits_nb N hN
  unfold num
  generalize nb N = k at hf
  match k with
  | 0 => simp [be]
  | k + 1 =>
    obtain ⟨h1, h2⟩ := hf
    simp at h2
    have hd : 0 < N / 256 ^ k := Nat.div_pos h2 (Nat.pow_pos (by decide))
    have hl : N / 256 ^ k < 256 := by
      rw [Nat.div_lt_iff_lt_mul (Nat.pow_pos (by decide)), Nat.mul_comm, ← Nat.pow_succ]; exact h1
    simp only [be, List.getElem?_cons_zero, ne_eq, Option.some.injEq]
    intro e
    have := congrArg UInt8.toNat e
    rw [UInt8.toNat_ofNat'] at this
    simp at this
    omega
theorem num_val (l : List UInt8) (h : isNum l = true) : num (val l) = l := by
  unfold isNum at h
  rw [decide_eq_true_eq] at h
  obtain ⟨h1, h2, h3⟩ := h
  have hf : Fits l.length (val l) := by
    refine ⟨val_lt l, ?_⟩
    match l with
    | [] => exact .inl rfl
    | x :: r =>
      right
      rw [val_cons]
      simp at h2 ⊢
      have hx : 0 < x.toNat := by
        rcases Nat.eq_zero_or_pos x.toNat with h | h
        · exact absurd (UInt8.toNat_inj.mp (by simpa using h)) h2
        · exact h
      have := Nat.le_mul_of_pos_left (256 ^ r.length) hx
      omega
  rw [← num_of_fits (by omega) hf, be_val]
end Go.Proofs.YtdnhnjimhbbabaaDoor

/- Sums as the document words them: words of 32 bits, the schedule, a round, a block, the message, the digest. No program is spoken of. -/
namespace Go.Proofs.YtdnhnjimhbbabaaDoor
namespace Sums
def kT : List Int := [1116352408, 1899447441, 3049323471, 3921009573, 961987163, 1508970993, 2453635748, 2870763221, 3624381080, 310598401, 607225278, 1426881987, 1925078388, 2162078206, 2614888103, 3248222580, 3835390401, 4022224774, 264347078, 604807628, 770255983, 1249150122, 1555081692, 1996064986, 2554220882, 2821834349, 2952996808, 3210313671, 3336571891, 3584528711, 113926993, 338241895, 666307205, 773529912, 1294757372, 1396182291, 1695183700, 1986661051, 2177026350, 2456956037, 2730485921, 2820302411, 3259730800, 3345764771, 3516065817, 3600352804, 4094571909, 275423344, 430227734, 506948616, 659060556, 883997877, 958139571, 1322822218, 1537002063, 1747873779, 1955562222, 2024104815, 2227730452, 2361852424, 2428436474, 2756734187, 3204031479, 3329325298]
def xor32 (a b : Int) : Int := bits .xor .u32 a b
def and32 (a b : Int) : Int := bits .and .u32 a b
def or32 (a b : Int) : Int := bits .or .u32 a b
def not32 (a : Int) : Int := bits .xor .u32 4294967295 a
def add32 (a b : Int) : Int := (a + b) % 4294967296
/-- R(x, n): p is 2 to the n, q 2 to the 32 - n. -/
def rot (x p q : Int) : Int := or32 (x * q % 4294967296) (x / p)
structure St where
  a : Int
  b : Int
  c : Int
  d : Int
  e : Int
  f : Int
  g : Int
  h : Int
def pOf (s : St) (k w : Int) : Int :=
  add32 (add32 (add32 (add32 s.h (xor32 (xor32 (rot s.e 64 67108864) (rot s.e 2048 2097152)) (rot s.e 33554432 128))) (xor32 (and32 s.e s.f) (and32 (not32 s.e) s.g))) k) w
def qOf (s : St) : Int :=
  add32 (xor32 (xor32 (rot s.a 4 1073741824) (rot s.a 8192 524288)) (rot s.a 4194304 1024)) (xor32 (xor32 (and32 s.a s.b) (and32 s.a s.c)) (and32 s.b s.c))
def step (s : St) (k w : Int) : St := ⟨add32 (pOf s k w) (qOf s), s.a, s.b, s.c, add32 s.d (pOf s k w), s.e, s.f, s.g⟩
def run (s : St) (w : List Int) : Nat → St
  | 0 => s
  | t + 1 => step (run s w t) (kT.getD t 0) (w.getD t 0)
/-- W t out of the words ahead of it. -/
def nextW (l : List Int) : Int :=
  add32 (add32 (add32 (l.getD (l.length - 16) 0) (l.getD (l.length - 7) 0))
    (xor32 (xor32 (rot (l.getD (l.length - 15) 0) 128 33554432) (rot (l.getD (l.length - 15) 0) 262144 16384)) (l.getD (l.length - 15) 0 / 8)))
    (xor32 (xor32 (rot (l.getD (l.length - 2) 0) 131072 32768) (rot (l.getD (l.length - 2) 0) 524288 8192)) (l.getD (l.length - 2) 0 / 1024))
def grow (l : List Int) : Nat → List Int
  | 0 => l
  | n + 1 => grow l n ++ [nextW (grow l n)]
def wordAt (b : List UInt8) (t : Nat) : Int := (b.getD (4 * t) 0).toNat * 16777216 + (b.getD (4 * t + 1) 0).toNat * 65536 + (b.getD (4 * t + 2) 0).toNat * 256 + (b.getD (4 * t + 3) 0).toNat
def words16 (b : List UInt8) : List Int := (List.range 16).map (wordAt b)
def sched (b : List UInt8) : List Int := grow (words16 b) 48
def plus (s r : St) : St := ⟨add32 s.a r.a, add32 s.b r.b, add32 s.c r.c, add32 s.d r.d, add32 s.e r.e, add32 s.f r.f, add32 s.g r.g, add32 s.h r.h⟩
def block (s : St) (b : List UInt8) : St := plus s (run s (sched b) 64)
def blocks (s : St) (m : List UInt8) : Nat → St
  | 0 => s
  | n + 1 => block (blocks s m n) ((m.drop (64 * n)).take 64)
/-- n as 8 bytes. -/
def be8 (n : Nat) : List UInt8 := [UInt8.ofNat (n / 72057594037927936), UInt8.ofNat (n / 281474976710656), UInt8.ofNat (n / 1099511627776), UInt8.ofNat (n / 4294967296), UInt8.ofNat (n / 16777216), UInt8.ofNat (n / 65536), UInt8.ofNat (n / 256), UInt8.ofNat n]
def nBlocks (n : Nat) : Nat := (n + 72) / 64
def pad (l : List UInt8) : List UInt8 := l ++ 128 :: (List.replicate (64 * nBlocks l.length - 9 - l.length) 0 ++ be8 (8 * l.length))
def first : St := ⟨1779033703, 3144134277, 1013904242, 2773480762, 1359893119, 2600822924, 528734635, 1541459225⟩
def St.list (s : St) : List Int := [s.a, s.b, s.c, s.d, s.e, s.f, s.g, s.h]
def bytes4 (z : Int) : List UInt8 := [UInt8.ofNat (z / 16777216).toNat, UInt8.ofNat (z / 65536).toNat, UInt8.ofNat (z / 256).toNat, UInt8.ofNat z.toNat]
def endOf (l : List UInt8) : St := blocks first (pad l) (nBlocks l.length)
def sumD (l : List UInt8) : List UInt8 := (endOf l).list.flatMap bytes4
end Sums
end Go.Proofs.YtdnhnjimhbbabaaDoor

/- Tags by keys, as the document defines them (HMAC over SHA-256). No program is spoken of. -/
namespace Go.Proofs.YtdnhnjimhbbabaaDoor
open Sums
set_option linter.unusedVariables false
/-- A key's block: its bytes and 32 noughts, each turned. -/
def blockD (key : List UInt8) (turn : UInt8) : List UInt8 := (key ++ List.replicate 32 0).map (· ^^^ turn)
theorem blockD_length (key : List UInt8) (turn : UInt8) (h : key.length = 32) : (blockD key turn).length = 64 := by unfold blockD; simp [h]
/-- P6.1. -/
def macD (key data : List UInt8) : List UInt8 := sumD (blockD key 92 ++ sumD (blockD key 54 ++ data))
/-- P6.2: may there be such a node? -/
def owner (r n : Int) : Bool := decide (1 ≤ r) && decide (r ≤ 5) && decide (1 ≤ n) && decide (n ≤ 3)
theorem owner_iff (r n : Int) : owner r n = true ↔ (1 ≤ r ∧ r ≤ 5 ∧ 1 ≤ n ∧ n ≤ 3) := by unfold owner; simp only [Bool.and_eq_true, decide_eq_true_eq]; omega
def keyD (master : List UInt8) (r n : Int) : List UInt8 := macD master [75, UInt8.ofNat r.toNat, UInt8.ofNat n.toNat]
def keyO (master : List UInt8) (r n : Int) : List UInt8 := if owner r n = true then keyD master r n else List.replicate 32 0
def keyE (r n : Int) : Int := if owner r n = true then 0 else 50
def holdE (master : List UInt8) (r n : Int) (data t : List UInt8) : Int := if owner r n = true then (if macD (keyD master r n) data = t then 0 else 72) else 50
theorem holdE_in (master : List UInt8) (r n : Int) (data t : List UInt8) (h : owner r n = true) : holdE master r n data t = if macD (keyD master r n) data = t then 0 else 72 := by unfold holdE; rw [if_pos h]
theorem holdE_out (master : List UInt8) (r n : Int) (data t : List UInt8) (h : ¬ owner r n = true) : holdE master r n data t = 50 := by unfold holdE; rw [if_neg h]
theorem keyO_in (master : List UInt8) (r n : Int) (h : owner r n = true) : keyO master r n = keyD master r n := by unfold keyO; rw [if_pos h]
theorem keyO_out (master : List UInt8) (r n : Int) (h : ¬ owner r n = true) : keyO master r n = List.replicate 32 0 := by unfold keyO; rw [if_neg h]
theorem keyD_length (hs : ∀ l, (sumD l).length = 32) (k : List UInt8) (r n : Int) : (keyD k r n).length = 32 := hs _
theorem keyO_length (hs : ∀ l, (sumD l).length = 32) (k : List UInt8) (r n : Int) : (keyO k r n).length = 32 := by
  unfold keyO; split
  · exact hs _
  · simp
end Go.Proofs.YtdnhnjimhbbabaaDoor

/- Heads as bytes, signed by a node, as the document defines them. No program is spoken of. -/
namespace Go.Proofs.YtdnhnjimhbbabaaDoor
open Nums Sums
set_option linter.unusedVariables false
def bA (l : List UInt8) : ByteArray := ⟨l.toArray⟩
theorem bA_list (l : List UInt8) : (bA l).data.toList = l := rfl
theorem bA_size (l : List UInt8) : (bA l).size = l.length := by show l.toArray.size = _; simp
theorem bA_of (s : ByteArray) : bA s.data.toList = s := rfl
/-! Numbers, and back. -/
/-- A number; -1: it is none. -/
def valO (l : List UInt8) : Int := if isNum l then val l else -1
theorem nOf_list (n : Int) (h : 0 ≤ n ∧ n ≤ 4611686018427387903) : (nOf n).data.toList = num n.toNat := by unfold nOf; rw [if_pos h]
theorem nOf_size (n : Int) : (nOf n).size ≤ 8 := by
  unfold nOf
  split
  · rename_i h
    show (num n.toNat).toArray.size ≤ 8
    have := nb_le n.toNat (by omega)
    simpa [num_length] using this
  · show 0 ≤ 8; omega
theorem valO_nOf (n : Int) (h : 0 ≤ n ∧ n ≤ 4611686018427387903) : valO (nOf n).data.toList = n := by
  rw [nOf_list n h, valO, num_isNum n.toNat (by omega), if_pos rfl, val_num n.toNat (by omega)]
  omega
theorem nOf_valO (l : List UInt8) (h : 0 ≤ valO l) : (nOf (valO l)).data.toList = l ∧ valO l ≤ 4611686018427387903 := by
  unfold valO at h ⊢
  by_cases hn : isNum l = true
  · rw [if_pos hn] at h ⊢
    have hlt : val l < 4611686018427387904 := by
      have := hn
      unfold isNum at this
      rw [decide_eq_true_eq] at this
      exact this.2.2
    refine ⟨?_, by omega⟩
    rw [nOf_list _ (by omega), Int.toNat_natCast, num_val l hn]
  · rw [if_neg hn] at h
    omega
/-! A row whose fields have the tags 1 to n. -/
def tagsN (n : Nat) : List Int := (List.range n).map fun (i : Nat) => (Int.ofNat i) + 1
/-- What the fields of a row have, if their tags are 1 to n. -/
def partsO (bs : List UInt8) (n : Nat) : Option (List ByteArray) := if readE bs = 0 ∧ (readF bs).map (·.1) = tagsN n then some ((readF bs).map (·.2)) else none
def fieldsN (l : List ByteArray) : List (Int × ByteArray) := (tagsN l.length).zip l
theorem tagsN_length (n : Nat) : (tagsN n).length = n := by simp [tagsN]
theorem fieldsN_fst (l : List ByteArray) : (fieldsN l).map (·.1) = tagsN l.length := by
  unfold fieldsN
  rw [List.map_fst_zip (by rw [tagsN_length]; exact Nat.le_refl _)]
theorem fieldsN_snd (l : List ByteArray) : (fieldsN l).map (·.2) = l := by
  unfold fieldsN
  rw [List.map_snd_zip (by rw [tagsN_length]; exact Nat.le_refl _)]
theorem zip_fst_snd : ∀ (fs : List (Int × ByteArray)), (fs.map (·.1)).zip (fs.map (·.2)) = fs
  | [] => rfl
  | f :: r => by simp [zip_fst_snd r]
/-- What is laid is read. -/
theorem parts_row (l : List ByteArray) (h : layE 0 (fieldsN l) = 0) : partsO (rowB (fieldsN l)) l.length = some l := by
  obtain ⟨h1, h2⟩ := read_row h
  unfold partsO
  rw [h2, if_pos ⟨h1, fieldsN_fst l⟩, fieldsN_snd]
/-- What is read is laid as the same bytes. -/
theorem row_parts {bs : List UInt8} {n : Nat} {l : List ByteArray} (h : partsO bs n = some l) : l.length = n ∧ layE 0 (fieldsN l) = 0 ∧ rowB (fieldsN l) = bs := by
  unfold partsO at h
  split at h
  · rename_i hh
    have hl : (readF bs).map (·.2) = l := Option.some.inj h
    have hlen : l.length = n := by
      rw [← hl, List.length_map, ← List.length_map (f := (·.1)), hh.2, tagsN_length]
    have he : fieldsN l = readF bs := by
      unfold fieldsN
      rw [hlen, ← hh.2, ← hl, zip_fst_snd]
    obtain ⟨a, b, _⟩ := lay_read hh.1
    refine ⟨hlen, by rw [he]; exact a, ?_⟩
    rw [he]
    unfold rowOf at b
    rwa [if_pos a] at b
  · cases h
/-! Heads. -/
structure HdT where
  r : Int
  e : Int
  s : Int
  d : List UInt8
  t : Int
/-- Is a head right? -/
def rightH (h : HdT) : Bool := decide (1 ≤ h.r) && decide (h.r ≤ 5) && decide (1 ≤ h.e) && decide (h.e ≤ 900000000) && decide (0 ≤ h.s) && decide (h.s ≤ 100000) && decide (0 ≤ h.t) && decide (h.t ≤ 900000000)
theorem rightH_iff (h : HdT) : rightH h = true ↔ (1 ≤ h.r ∧ h.r ≤ 5 ∧ 1 ≤ h.e ∧ h.e ≤ 900000000 ∧ 0 ≤ h.s ∧ h.s ≤ 100000 ∧ 0 ≤ h.t ∧ h.t ≤ 900000000) := by
  unfold rightH
  simp only [Bool.and_eq_true, decide_eq_true_eq]
  omega
def hL (h : HdT) : List ByteArray := [nOf h.r, nOf h.e, nOf h.s, bA h.d, nOf h.t]
/-- A right head's bytes. -/
def headB (h : HdT) : List UInt8 := rowB (fieldsN (hL h))
theorem fault_none (last tag : Int) (n : Nat) (h : last < tag ∧ tag ≤ 255) (hn : n ≤ 65536) : faultOf last tag n = 0 := by
  unfold faultOf
  rw [if_neg (by omega), if_neg (by omega)]
theorem layE_hL (h : HdT) (hd : h.d.length = 32) : layE 0 (fieldsN (hL h)) = 0 := by
  have e : fieldsN (hL h) = [(1, nOf h.r), (2, nOf h.e), (3, nOf h.s), (4, bA h.d), (5, nOf h.t)] := rfl
  have b1 := nOf_size h.r
  have b2 := nOf_size h.e
  have b3 := nOf_size h.s
  have b5 := nOf_size h.t
  have b4 : (bA h.d).size = 32 := by rw [bA_size]; exact hd
  rw [e]
  simp only [layE]
  rw [if_pos (fault_none _ _ _ (by omega) (by omega)), if_pos (fault_none _ _ _ (by omega) (by omega)), if_pos (fault_none _ _ _ (by omega) (by omega)), if_pos (fault_none _ _ _ (by omega) (by omega)), if_pos (fault_none _ _ _ (by omega) (by omega))]
def headOf (x1 x2 x3 x4 x5 : ByteArray) : HdT := ⟨valO x1.data.toList, valO x2.data.toList, valO x3.data.toList, x4.data.toList, valO x5.data.toList⟩
/-- The right head whose bytes these are. -/
def getO (bs : List UInt8) : Option HdT :=
  match partsO bs 5 with
  | some [x1, x2, x3, x4, x5] => if x4.size = 32 ∧ rightH (headOf x1 x2 x3 x4 x5) = true then some (headOf x1 x2 x3 x4 x5) else none
  | _ => none
theorem headOf_hL (h : HdT) (hr : rightH h = true) : headOf (nOf h.r) (nOf h.e) (nOf h.s) (bA h.d) (nOf h.t) = h := by
  have hb := (rightH_iff h).1 hr
  unfold headOf
  rw [valO_nOf h.r (by omega), valO_nOf h.e (by omega), valO_nOf h.s (by omega), valO_nOf h.t (by omega), bA_list]
theorem getO_head (h : HdT) (hr : rightH h = true) (hd : h.d.length = 32) : getO (headB h) = some h := by
  unfold getO headB
  have hp : partsO (rowB (fieldsN (hL h))) 5 = some (hL h) := parts_row (hL h) (layE_hL h hd)
  rw [hp]
  show (if (bA h.d).size = 32 ∧ rightH (headOf (nOf h.r) (nOf h.e) (nOf h.s) (bA h.d) (nOf h.t)) = true then some (headOf (nOf h.r) (nOf h.e) (nOf h.s) (bA h.d) (nOf h.t)) else none) = some h
  rw [headOf_hL h hr, if_pos ⟨by rw [bA_size]; exact hd, hr⟩]
theorem nOf_back (x : ByteArray) (h : 0 ≤ valO x.data.toList) : nOf (valO x.data.toList) = x := by
  have := (nOf_valO _ h).1
  rw [← bA_of (nOf (valO x.data.toList)), this]
  rfl
theorem getO_some {bs : List UInt8} {h : HdT} (hg : getO bs = some h) : rightH h = true ∧ h.d.length = 32 ∧ headB h = bs := by
  unfold getO at hg
  split at hg
  · rename_i x1 x2 x3 x4 x5 hp
    split at hg
    · rename_i hh
      have he : headOf x1 x2 x3 x4 x5 = h := Option.some.inj hg
      obtain ⟨_, hl, hr⟩ := row_parts hp
      have hb := (rightH_iff _).1 hh.2
      have hL5 : hL h = [x1, x2, x3, x4, x5] := by
        rw [← he]
        unfold headOf at hb
        show [nOf (valO x1.data.toList), nOf (valO x2.data.toList), nOf (valO x3.data.toList), bA x4.data.toList, nOf (valO x5.data.toList)] = _
        simp only at hb
        rw [nOf_back x1 (by omega), nOf_back x2 (by omega), nOf_back x3 (by omega), nOf_back x5 (by omega), bA_of]
      refine ⟨by rw [← he]; exact hh.2, ?_, ?_⟩
      · rw [← he]; exact hh.1
      · unfold headB; rw [hL5]; exact hr
    · cases hg
  · cases hg
theorem rowB_length : ∀ (fs : List (Int × ByteArray)), (rowB fs).length = 4 * fs.length + (fs.map fun f => f.2.size).sum
  | [] => rfl
  | f :: r => by
    show (fieldBytesI f.1 f.2.data.toList ++ rowB r).length = _
    rw [List.length_append, rowB_length r, fieldBytesI_length]
    simp only [List.length_cons, List.map_cons, List.sum_cons]
    have : f.2.data.toList.length = f.2.size := rfl
    omega
theorem headB_length (h : HdT) (hd : h.d.length = 32) : (headB h).length ≤ 84 := by
  have b1 := nOf_size h.r
  have b2 := nOf_size h.e
  have b3 := nOf_size h.s
  have b5 := nOf_size h.t
  have b4 : (bA h.d).size = 32 := by rw [bA_size]; exact hd
  unfold headB
  rw [rowB_length]
  show 4 * 5 + ((nOf h.r).size + ((nOf h.e).size + ((nOf h.s).size + ((bA h.d).size + ((nOf h.t).size + 0))))) ≤ 84
  omega
/-! Signed heads. -/
structure SgT where
  h : HdT
  n : Int
  g : List UInt8
/-- May a signed head be? -/
def mayS (s : SgT) : Bool := rightH s.h && decide (1 ≤ s.n) && decide (s.n ≤ 3)
theorem mayS_iff (s : SgT) : mayS s = true ↔ (rightH s.h = true ∧ 1 ≤ s.n ∧ s.n ≤ 3) := by
  unfold mayS
  simp only [Bool.and_eq_true, decide_eq_true_eq]
  constructor
  · rintro ⟨⟨a, b⟩, c⟩; exact ⟨a, b, c⟩
  · rintro ⟨a, b, c⟩; exact ⟨⟨a, b⟩, c⟩
def sL (s : SgT) : List ByteArray := [bA (headB s.h), nOf s.n, bA s.g]
def signB (s : SgT) : List UInt8 := rowB (fieldsN (sL s))
theorem layE_sL (s : SgT) (hd : s.h.d.length = 32) (hg : s.g.length = 32) : layE 0 (fieldsN (sL s)) = 0 := by
  have e : fieldsN (sL s) = [(1, bA (headB s.h)), (2, nOf s.n), (3, bA s.g)] := rfl
  have b1 := headB_length s.h hd
  have b2 := nOf_size s.n
  have b3 : (bA s.g).size = 32 := by rw [bA_size]; exact hg
  have b4 : (bA (headB s.h)).size ≤ 84 := by rw [bA_size]; exact b1
  rw [e]
  simp only [layE]
  rw [if_pos (fault_none _ _ _ (by omega) (by omega)), if_pos (fault_none _ _ _ (by omega) (by omega)), if_pos (fault_none _ _ _ (by omega) (by omega))]
def getS (bs : List UInt8) : Option SgT :=
  match partsO bs 3 with
  | some [x1, x2, x3] =>
    match getO x1.data.toList with
    | some h => if x3.size = 32 ∧ mayS ⟨h, valO x2.data.toList, x3.data.toList⟩ = true then some ⟨h, valO x2.data.toList, x3.data.toList⟩ else none
    | none => none
  | _ => none
/-! Tags. -/
def headT (h : HdT) : List UInt8 := [104, 101, 97, 100, 32] ++ headB h
/-- The tag that Sign makes, of a right head and a node that may be. -/
def tagD (master : List UInt8) (h : HdT) (n : Int) : List UInt8 := macD (keyD master h.r n) (headT h)
theorem tagD_length (hs : ∀ l, (sumD l).length = 32) (master : List UInt8) (h : HdT) (n : Int) : (tagD master h n).length = 32 := hs _
def verE (master : List UInt8) (s : SgT) : Int := if mayS s = true then (if tagD master s.h s.n = s.g then 0 else 72) else 70
theorem mayS_owner (s : SgT) (h : mayS s = true) : owner s.h.r s.n = true := by
  obtain ⟨a, b, c⟩ := (mayS_iff s).1 h
  have := (rightH_iff s.h).1 a
  exact (owner_iff _ _).2 (by omega)
end Go.Proofs.YtdnhnjimhbbabaaDoor

/- math/bits.Len, as this program bears it, answers how many bits its argument has, for every uint64, and leaves the world as it was. -/
namespace Go.Proofs.YtdnhnjimhbbabaaDoor
/-- One way through the table: k bits were cut off, the rest is a byte. -/
theorem cut_bits (x e c : Int) (k p : Nat) (hp : p = 2 ^ k) (hk : k ≤ 56) (h0 : 0 ≤ x) (hlo : k = 0 ∨ (p : Int) ≤ x) (hhi : x < 256 * (p : Int)) (he : e = x / (p : Int)) (hc : c = k) :
    c + Lib.len8 (e % 256) = Lib.bitLen x.toNat ∧ 0 ≤ Lib.len8 (e % 256) ∧ Lib.len8 (e % 256) ≤ 8 := by
  have hp0 : 0 < p := by rw [hp]; exact Nat.pow_pos (by decide)
  obtain ⟨n, rfl⟩ : ∃ n : Nat, x = n := ⟨x.toNat, by omega⟩
  have en : e = ((n / p : Nat) : Int) := by rw [he]; exact (Int.natCast_ediv n p).symm
  have hn : n / p < 256 := by rw [Nat.div_lt_iff_lt_mul hp0]; omega
  have e1 : e % 256 = ((n / p : Nat) : Int) := by
    rw [en]; exact Int.emod_eq_of_lt (Int.natCast_nonneg _) (Int.ofNat_lt.mpr hn)
  rw [e1, Lib.len8_of _ (Int.natCast_nonneg _) (Int.lt_add_one_iff.mp (Int.ofNat_lt.mpr hn)), hc, Int.toNat_natCast, Int.toNat_natCast]
  refine ⟨?_, Int.natCast_nonneg _, Int.ofNat_le.mpr (Lib.bitLen_le8 ⟨n / p, hn⟩)⟩
  rcases hlo with rfl | hlo
  · simp at hp; subst hp; simp
  · have hb : n < 2 ^ 64 := by
      have : p ≤ 2 ^ 56 := by rw [hp]; exact Nat.pow_le_pow_right (by decide) hk
      omega
    have := Lib.bitLen_shift k n (by omega) hb
    rw [this, hp]; omega
set_option maxHeartbeats 2000000 in
set_option maxRecDepth 100000 in
theorem len64_any (x : Int) (w : World) (h0 : 0 ≤ x) (h1 : x ≤ 18446744073709551615) :
    Calls Tryd.prog 85 #[.int .u64 x] w fun e w' => e = .returned (.int .i64 (Lib.bitLen x.toNat)) ∧ w = w' := by
  go_enter Tryd.func85, Tryd.ntmps85
  go_wp2
  all_goals (go_ret; refine ⟨congrArg Ending.returned (congrArg (Value.int IntKind.i64) ?_), rfl⟩)
  all_goals first
    | (have h := cut_bits x (x / 4294967296 / 65536 / 256) 56 56 72057594037927936 (by decide +kernel) (by decide) h0 (by omega) (by omega) (by omega) rfl; obtain ⟨h, hl, hu⟩ := h; omega)
    | (have h := cut_bits x (x / 4294967296 / 65536) 48 48 281474976710656 (by decide +kernel) (by decide) h0 (by omega) (by omega) (by omega) rfl; obtain ⟨h, hl, hu⟩ := h; omega)
    | (have h := cut_bits x (x / 4294967296 / 256) 40 40 1099511627776 (by decide +kernel) (by decide) h0 (by omega) (by omega) (by omega) rfl; obtain ⟨h, hl, hu⟩ := h; omega)
    | (have h := cut_bits x (x / 4294967296) 32 32 4294967296 (by decide +kernel) (by decide) h0 (by omega) (by omega) (by omega) rfl; obtain ⟨h, hl, hu⟩ := h; omega)
    | (have h := cut_bits x (x / 65536 / 256) 24 24 16777216 (by decide +kernel) (by decide) h0 (by omega) (by omega) (by omega) rfl; obtain ⟨h, hl, hu⟩ := h; omega)
    | (have h := cut_bits x (x / 65536) 16 16 65536 (by decide +kernel) (by decide) h0 (by omega) (by omega) (by omega) rfl; obtain ⟨h, hl, hu⟩ := h; omega)
    | (have h := cut_bits x (x / 256) 8 8 256 (by decide +kernel) (by decide) h0 (by omega) (by omega) (by omega) rfl; obtain ⟨h, hl, hu⟩ := h; omega)
    | (have h := cut_bits x x 0 0 1 (by decide) (by decide) h0 (.inl rfl) (by omega) (by omega) rfl; obtain ⟨h, hl, hu⟩ := h; omega)
theorem len_any (x : Int) (w : World) (h0 : 0 ≤ x) (h1 : x ≤ 18446744073709551615) :
    Calls Tryd.prog 75 #[.int .u64 x] w fun e w' => e = .returned (.int .i64 (Lib.bitLen x.toNat)) ∧ w = w' := by
  go_enter Tryd.func75, Tryd.ntmps75
  go_wp2_with (go_at_call 85; refine (len64_any x _ h0 h1).mono ?_; rintro e w' ⟨rfl, rfl⟩)
  go_ret
  exact ⟨rfl, rfl⟩
end Go.Proofs.YtdnhnjimhbbabaaDoor

/- Digits of base 16: what a digest's digits are, and which digest some digits are. No program is spoken of. -/
namespace Go.Proofs.YtdnhnjimhbbabaaDoor
namespace Digs
end Digs
end Go.Proofs.YtdnhnjimhbbabaaDoor

/- Arrays in memory and as values, bytes as cells. No program is spoken of. -/
namespace Go.Proofs.YtdnhnjimhbbabaaDoor
open Go.RowKit
/-- Bytes as cells. -/
def cellsOf (l : List UInt8) : List Value := l.map fun b => .int .u8 b.toNat
/-- A digest as a value. -/
def digV (l : List UInt8) : Value := .agg (cellsOf l).toArray
theorem cellsOf_length (l : List UInt8) : (cellsOf l).length = l.length := by simp [cellsOf]
theorem cellsOf_append (a b : List UInt8) : cellsOf (a ++ b) = cellsOf a ++ cellsOf b := by simp [cellsOf]
theorem cellsOf_set (l : List UInt8) (j : Nat) (b : UInt8) : (cellsOf l).set j (.int .u8 b.toNat) = cellsOf (l.set j b) := by simp [cellsOf, List.map_set]
theorem cellsOf_at (l : List UInt8) (j : Nat) (hj : j < l.length) : (cellsOf l)[j]? = some (.int .u8 l[j].toNat) := by simp [cellsOf, List.getElem?_eq_getElem hj]
theorem cellsOf_one (l : List UInt8) : ∀ u ∈ cellsOf l, u.oneCell' = true := by
  intro u hu
  obtain ⟨b, _, rfl⟩ := List.mem_map.1 hu
  rfl
theorem cellsOf_all (l : List UInt8) : (cellsOf l).toArray.all (·.oneCell') = true := by
  rw [Array.all_eq_true_iff_forall_mem]
  intro u hu
  exact cellsOf_one l u (by simpa using hu)
theorem add_plain (b o j : Nat) : (⟨b, o, none⟩ : Addr).add j = ⟨b, o + j, none⟩ := by unfold Addr.add; split <;> simp_all
/-- An array by value, indexed. -/
theorem run_index_agg {P : Program} (w : World) (t e : TypeId) (n : Nat) (cs : Array Value) (k : IntKind) (i : Nat) (z : Value) (ek : IntKind) (h : P.underlying t = some (.array n e)) (hu : P.underlying e = some (.int ek)) (hi : i < n)
    (hc : cs[i]? = some z) (he : (P.info? e).map (·.size) = some 1) : (Instr.index t (.agg cs) (.int k i)).run P w = .ok z w := by
  cases hq : P.info? e with
  | none => simp [hq] at he
  | some ie =>
    have hs : ie.size = 1 := by simpa [hq] using he
    simp [Instr.index, run_underlying h, asIntOf, hi, hs, sizeOf, typeInfo, hq, part, isAgg, run_underlying hu, hc]
theorem below_setRow {B : Nat} {a w : World} (h : Below B a w) {g : Nat} (hg : B ≤ g) (cs : Array Value) : Below B a (w.setRow g cs) :=
  ⟨h.os, h.tape, h.output, by rw [setRow_size]; exact h.size, fun k hk => by rw [setRow_other w g k cs (by omega)]; exact h.block k hk⟩
theorem heap_lt {w : World} {g : Nat} {o : Obj} (h : w.heap[g]? = some o) : g < w.heap.size := (Array.getElem?_eq_some_iff.1 h).1
/-- A block that is there is there behind an allocation. -/
theorem heap_keep {w : World} {g : Nat} {o o' : Obj} (h : w.heap[g]? = some o) : (w.alloc o').heap[g]? = some o := by
  rw [Below.heap_alloc w o' g (heap_lt h)]; exact h
/-- A variable that is an array, made. -/
theorem wpList_alloc_row {P : Program} {ops : Array Oper} {rest : List Oper} {o : Oper} {a : Act} {w : World} {Q : Exit → Act → World → Prop} (hg : o.guard = none) (t : TypeId) (ho : o.op = .alloc t)
    (cs : Array Value) (hz : (P.info? t).map (fun i => (i.zero, i.size)) = some (some (.agg cs), cs.size))
    (h : wpList P ops Q rest (a.put o.dst (.pointer (some ⟨w.heap.size, 0, none⟩))) (w.alloc (.cells cs t))) : wpList P ops Q (o :: rest) a w := by
  refine wpList_plain hg fun K hK => ?_
  have hk := hK _ _ h
  unfold Oper.wp execOp
  cases hq : P.info? t with
  | none => simp [hq] at hz
  | some i =>
    simp [hq] at hz
    simp [ho, Instr.alloc, newVar, zeroValue, typeInfo, hq, hz.1, go_sem]
    exact hk
/-- A literal of an array, made. -/
theorem wpList_build_row {P : Program} {ops : Array Oper} {rest : List Oper} {o : Oper} {a : Act} {w : World} {Q : Exit → Act → World → Prop} (hg : o.guard = none) (t : TypeId) (parts : Array (Nat × Operand)) (ho : o.op = .build t parts)
    (cs : Array Value) (hb : P.built t (parts.map fun (i, x) => (i, a.eval x)).toList = some cs) (h : wpList P ops Q rest (a.put o.dst (.agg cs)) w) : wpList P ops Q (o :: rest) a w := by
  refine wpList_build hg t parts ho (by rw [hb]; rfl) ?_
  rw [hb]
  exact h
theorem wpList_build_none {P : Program} {ops : Array Oper} {rest : List Oper} {o : Oper} {a : Act} {w : World} {Q : Exit → Act → World → Prop} (hg : o.guard = none) (t : TypeId) (ho : o.op = .build t #[])
    (cs : Array Value) (hb : P.built t [] = some cs) (h : wpList P ops Q rest (a.put o.dst (.agg cs)) w) : wpList P ops Q (o :: rest) a w :=
  wpList_build_row hg t #[] ho cs (by simpa using hb) h
/-- Two results, the first an array in a variable. -/
theorem results_row_tmp {P : Program} {fn : Func} {p q : Tmp} {ty : TypeId} (h : fn.results = #[.cell p ty, .tmp q]) (tmps : Array Value) (w : World) (g : Nat) (t : TypeId) (cs : Array Value) (fr : Nat × Nat) (d : TypeDesc)
    (hp : tmps.getD p undef = .pointer (some ⟨g, 0, none⟩)) (hg : w.heap[g]? = some (.cells cs t fr))
    (hu : P.underlying ty = some d) (hd : (match d with | .struct _ | .array _ _ => true | _ => false) = true) (hi : (P.info? ty).map (·.size) = some cs.size) :
    (results fn tmps).run P w = .ok (.tuple #[.agg cs, tmps.getD q undef]) w := by
  have hp' : tmps[p]?.getD undef = .pointer (some ⟨g, 0, none⟩) := by simpa using hp
  simp [results, h, hp', asAddr, run_loadVar_row w g t ty cs fr d hg hu hd hi]
/-- A whole array read, under a guard that says yes. -/
theorem wpList_load_row_w {P : Program} {ops : Array Oper} {rest : List Oper} {o : Oper} {a : Act} {w : World} {Q : Exit → Act → World → Prop} (hw : Region.wanted o (yielded ops a.tmps) = true) (ty : TypeId) (x : Operand) (ho : o.op = .load ty x)
    (g : Nat) (hx : a.eval x = .pointer (some ⟨g, 0, none⟩)) (t : TypeId) (cs : Array Value) (fr : Nat × Nat) (d : TypeDesc) (hg : w.heap[g]? = some (.cells cs t fr))
    (hu : P.underlying ty = some d) (hd : (match d with | .struct _ | .array _ _ => true | _ => false) = true) (hi : (P.info? ty).map (·.size) = some cs.size)
    (h : wpList P ops Q rest (a.put o.dst (.agg cs)) w) : wpList P ops Q (o :: rest) a w :=
  BigFrame.wpList_want hw fun _ hK => wp_load_row ty x ho g hx t cs fr d hg hu hd hi (hK _ _ h)
theorem new_var (w : World) (Z D : Array Value) (t : TypeId) : ((w.alloc (.cells Z t)).setRow w.heap.size D).heap[w.heap.size]? = some (.cells D t (0, 0)) := setRow_heap _ _ _ _ t _ (heap_alloc_new w _)
theorem keep_var {w : World} {g : Nat} {o : Obj} (h : w.heap[g]? = some o) (X : Obj) (Y : Array Value) : ((w.alloc X).setRow w.heap.size Y).heap[g]? = some o := by
  rw [setRow_other _ _ _ _ (Nat.ne_of_lt (heap_lt h))]
  exact heap_keep h
theorem below_var {B : Nat} {a w : World} (h : Below B a w) (hB : B ≤ w.heap.size) (X : Obj) (Y : Array Value) : Below B a ((w.alloc X).setRow w.heap.size Y) := below_setRow (h.alloc hB _) hB _
theorem wrap_int (z : Int) (h0 : -9223372036854775808 ≤ z) (h1 : z ≤ 9223372036854775807) : IntKind.i64.wrap z = z := by
  simp [IntKind.wrap, IntKind.bits, IntKind.signed]; omega
theorem cell_at {w : World} {B g n c : Nat} {l : List UInt8} (h : w.ownsRow B 5 1 (.slice (some ⟨g, 0, none⟩) n c) n (cellsOf l)) (hl : l.length = n) (j : Nat) (hj : j < n) :
    w.cell? ⟨g, j, none⟩ = some (.int .u8 (l.getD j 0).toNat) := by
  rw [h.cellAt j (by omega)]
  simp [cellsOf, List.getElem?_eq_getElem (show j < l.length by omega), List.getD]
theorem cells_at {w : World} {B g n c : Nat} {l : List UInt8} (h : w.ownsRow B 5 1 (.slice (some ⟨g, 0, none⟩) n c) n (cellsOf l)) (hl : l.length = n) :
    ∀ (j : Nat) (hj : j < l.length), w.cell? ((⟨g, 0, none⟩ : Addr).add j) = some (.int .u8 l[j].toNat) := by
  intro j hj
  rw [add_plain, Nat.zero_add, cell_at h hl j (by omega)]
  simp [List.getD, List.getElem?_eq_getElem hj]
end Go.Proofs.YtdnhnjimhbbabaaDoor

/- What sha.Hex answers: two digits a byte. -/
namespace Go.Proofs.YtdnhnjimhbbabaaDoor
open Go.RowKit Digs
theorem info5 : (Tryd.prog.info? 5).map (fun i => (i.zero, i.size, i.bytes)) = some (some (.int .u8 0), 1, 1) := by kernel_rfl
theorem size5 : (Tryd.prog.info? 5).map (·.size) = some 1 := by kernel_rfl
theorem size23 : (Tryd.prog.info? 24).map (·.size) = some 32 := by kernel_rfl
end Go.Proofs.YtdnhnjimhbbabaaDoor

/- Bytes as cells of a row that the call itself owns. -/
namespace Go.Proofs.YtdnhnjimhbbabaaDoor
open Go.RowKit Nums
theorem be_row (j m N : Nat) : ((List.replicate (j + 1) (0 : UInt8)) ++ be m N).set j (UInt8.ofNat (N / 256 ^ m % 256)) = List.replicate j 0 ++ be (m + 1) N := by
  rw [List.replicate_succ', List.append_assoc, List.set_append, if_neg (by simp)]
  simp [be]
theorem cells_made0 (n N : Nat) : (madeCells #[Value.int .u8 0] n).toList = cellsOf (List.replicate n 0 ++ be 0 N) := by
  rw [toList_madeCells_one]; simp [cellsOf, be]
end Go.Proofs.YtdnhnjimhbbabaaDoor

/- What pack.Number answers: the fewest bytes of a number, the highest first, or ErrArg. -/
namespace Go.Proofs.YtdnhnjimhbbabaaDoor
open Go.RowKit Nums
set_option maxRecDepth 100000
theorem number_no (n : Int) (w : World) (h : n < 0 ∨ 4611686018427387903 < n) :
    Calls Tryd.prog 59 #[.int .i64 n] w fun e w' => e = .returned (.tuple #[.string ByteArray.empty, .int .i64 1]) ∧ w = w' := by
  rcases h with h | h
  · go_enter Tryd.func59, Tryd.ntmps59
    go_wp2
    go_ret2
    exact ⟨rfl, rfl⟩
  · have h' : ¬ n < 0 := by omega
    go_enter Tryd.func59, Tryd.ntmps59
    go_wp2
    go_ret2
    exact ⟨rfl, rfl⟩
theorem bitLen_le (N : Nat) (h : N < 2 ^ 64) : Lib.bitLen N ≤ 64 := (bitLenAux_bounds 64 N h).2.2
set_option maxRecDepth 100000 in
set_option maxHeartbeats 1000000 in
theorem number_yes (N : Nat) (w : World) (h1 : (N : Int) ≤ 4611686018427387903) :
    Calls Tryd.prog 59 #[.int .i64 N] w fun e w' => e = .returned (.tuple #[.string ⟨(num N).toArray⟩, .int .i64 0]) ∧ Below w.heap.size w w' := by
  obtain ⟨i0, hi, hz0, hz1, hz2⟩ := info_parts info5
  have h0' : ¬ (N : Int) < 0 := by omega
  have hbl := bitLen_le N (by omega)
  have hnb : nb N ≤ 8 := nb_le N (by omega)
  have len := fun w => len_any (N : Int) w (by omega) (by omega)
  have LEN : Hid (∀ w, Calls Tryd.prog 75 #[.int .u64 N] w fun e w' => e = .returned (.int .i64 (Lib.bitLen N)) ∧ w = w') := len
  clear len
  go_enter Tryd.func59, Tryd.ntmps59
  go_wp2_with (first
    | (go_at_call 75; refine (LEN.out _).mono ?_; rintro e w' ⟨rfl, rfl⟩)
    | (at_make; refine wpList_make_full _ rfl (.tmp 16) (.tmp 16) 35 rfl w.heap.size 5 i0 (.int .u8 0) 1 Tryd.underlying35 hi hz0 hz1 .i64 .i64 _ _ (nb N) rfl rfl ?c1 ?c2 ?c3 ?c4 ?c5 ?_)
    | fail)
  case c1 => unfold nb; omega
  case c2 => unfold nb; omega
  case c3 => rw [hz2]; omega
  case c4 => unfold maxLen; omega
  case c5 => exact Nat.le_refl _
  intro w1 hown hgrow
  rw [cells_made0 _ N] at hown
  have hB : Below w.heap.size w w1 := (Below.refl _ _).grown hgrow (Nat.le_refl _) (by intro k hk; cases hk)
  clear hgrow LEN hi hz0 hz1 hz2
  go_wp2
  go_loopw [0, 5] (fun v i wr => ∃ j m q : Nat, j + m = nb N ∧ Hid (q = N / 256 ^ m) ∧ v = .int .i64 (q : Int) ∧ i = .int .i64 ((j : Int) - 1) ∧
      wr.ownsRow w.heap.size 5 1 (.slice (some ⟨w.heap.size, 0, none⟩) (nb N) (nb N)) (nb N) (cellsOf (List.replicate j 0 ++ be m N)) ∧ Below w.heap.size w wr)
    (fun _ i _ => (intOf i + 1).toNat)
  case atStart => exact ⟨nb N, 0, N, rfl, (by simp : N = N / 256 ^ 0), rfl, rfl, hown, hB⟩
  case round =>
    clear hown hB
    obtain ⟨j, m, q, hjm, HQ, rfl, hi, hown, hB⟩ := hrel
    cases j with
    | zero =>
      obtain rfl := hi
      have hm : m = nb N := by omega
      have hc := run_convert_bytes_back (P := Tryd.prog) wr 35 9 5 ⟨w.heap.size, 0, none⟩ (nb N) (be m N) Tryd.underlying35 Tryd.underlying5 Tryd.underlying9 (cells_at (by simpa using hown) (by rw [be_length, hm]))
      rw [be_length] at hc
      subst hm
      clear hown hjm
      go_wp2
      go_ret2
      exact ⟨rfl, hB⟩
    | succ j =>
      obtain rfl := hi
      have hq : (q : Int) ≤ 4611686018427387903 := by
        have := Nat.div_le_self N (256 ^ m)
        rw [← HQ.out] at this; omega
      have hfz := hown.frozenAt j
      have hcell := cell_at hown (by simp [be_length]; omega) j (by omega)
      have hst := hown.stored j (.int .u8 ((UInt8.ofNat (N / 256 ^ m % 256)).toNat))
      rw [cellsOf_set, be_row] at hst
      have HST : Hid _ := hst.1
      have HB : Hid (Below w.heap.size w (wr.setCell ⟨w.heap.size, j, none⟩ (.int .u8 ((UInt8.ofNat (N / 256 ^ m % 256)).toNat)))) := hB.setCell (Nat.le_refl _) _
      have e : ((UInt8.ofNat (N / 256 ^ m % 256)).toNat : Int) = (q : Int) % 256 := by
        rw [UInt8.toNat_ofNat', HQ.out]; omega
      rw [e] at HST HB
      clear hst hown hB e
      go_wp2
      go_roundw
      case rel =>
        refine ⟨j, m + 1, q / 256, by omega, ?_, by go_num, by go_num, HST.out, HB.out⟩
        show q / 256 = _
        rw [HQ.out, Nat.div_div_eq_div_mul, Nat.pow_succ]
      case measure => simp [intOf]
end Go.Proofs.YtdnhnjimhbbabaaDoor

/- What pack.Value answers: the number that bytes tell, or ErrPackForm. -/
namespace Go.Proofs.YtdnhnjimhbbabaaDoor
open Go.RowKit Nums
set_option maxRecDepth 100000
theorem number_any (n : Int) (w : World) :
    Calls Tryd.prog 59 #[.int .i64 n] w fun e w' => e = .returned (.tuple #[.string (nOf n), .int .i64 (neOf n)]) ∧ Below w.heap.size w w' := by
  by_cases h : 0 ≤ n ∧ n ≤ 4611686018427387903
  · obtain ⟨N, rfl⟩ : ∃ N : Nat, n = N := ⟨n.toNat, by omega⟩
    refine (number_yes N w h.2).mono fun e w' ⟨he, hb⟩ => ⟨?_, hb⟩
    rw [he, nOf, neOf, if_pos h, if_pos h, Int.toNat_natCast]
  · refine (number_no n w (by omega)).mono fun e w' ⟨he, hw⟩ => ⟨?_, ?_⟩
    · rw [he, nOf, neOf, if_neg h, if_neg h]
    · subst hw; exact Below.refl _ _
theorem take_snoc (s : ByteArray) (k : Nat) (h : k < s.size) : s.data.toList.take (k + 1) = s.data.toList.take k ++ [s[k]] := by
  rw [List.take_succ_eq_append_getElem (by simpa using h)]; rfl
theorem head_of (s : ByteArray) (h0 : 0 < s.size) : s.data.toList[0]? = some (s[0]'h0) := by
  rw [List.getElem?_eq_getElem (by simpa using h0)]; rfl
theorem or_byte (V b : Nat) (hV : V < 72057594037927936) (hb : b < 256) :
    bits .or .u64 (IntKind.u64.wrap ((V : Int) * 256)) (IntKind.u64.wrap (b : Int)) = ((256 * V + b : Nat) : Int) := by
  have e1 : IntKind.u64.wrap ((V : Int) * 256) = ((256 * V : Nat) : Int) := by rw [IntKind.wrap_u64]; omega
  have e2 : IntKind.u64.wrap (b : Int) = (b : Int) := by rw [IntKind.wrap_u64]; omega
  rw [e1, e2, bits_or_u64_nat _ _ (by omega) (by omega)]
  have : 256 * V ||| b = 256 * V + b := by
    have := Nat.shiftLeft_add_eq_or_of_lt (show b < 2 ^ 8 from hb) V
    rw [Nat.shiftLeft_eq] at this
    rw [Nat.mul_comm 256 V, ← this]
  rw [this]
theorem value_long (s : ByteArray) (w : World) (h : 8 < s.size) (hs : s.size ≤ maxLen) :
    Calls Tryd.prog 65 #[.string s] w fun e w' => e = .returned (.tuple #[.int .i64 0, .int .i64 11]) ∧ w = w' := by
  unfold maxLen at hs
  go_enter Tryd.func65, Tryd.ntmps65
  go_wp2
  go_ret2
  exact ⟨rfl, rfl⟩
theorem value_zero (s : ByteArray) (w : World) (h : s.size ≤ 8) (h0 : 0 < s.size) (hz : (((s[0]'h0).toNat : Int) == 0) = true) :
    Calls Tryd.prog 65 #[.string s] w fun e w' => e = .returned (.tuple #[.int .i64 0, .int .i64 11]) ∧ w = w' := by
  have hg : decide ((8 : Int) < (s.size : Int)) = false := by simp; omega
  go_enter Tryd.func65, Tryd.ntmps65
  go_wp2
  go_ret2
  exact ⟨rfl, rfl⟩
def capV (V : Nat) : Int := if V < 4611686018427387904 then V else 0
def capE (V : Nat) : Int := if V < 4611686018427387904 then 0 else 11
set_option maxHeartbeats 400000 in
theorem value_empty (s : ByteArray) (w : World) (h : s.size = 0) :
    Calls Tryd.prog 65 #[.string s] w fun e w' => e = .returned (.tuple #[.int .i64 0, .int .i64 0]) ∧ w = w' := by
  go_enter Tryd.func65, Tryd.ntmps65
  go_wp2
  go_loop [4, 5, 21] (fun n _ i => i = .int .i64 0 ∧ n = .int .u64 0) (fun _ _ _ => 0)
  case atStart => exact ⟨rfl, rfl⟩
  case round =>
    obtain ⟨rfl, rfl⟩ := hrel
    go_wp2
    go_ret2
    exact ⟨rfl, rfl⟩
set_option maxHeartbeats 1000000 in
theorem value_loop (s : ByteArray) (w : World) (h : s.size ≤ 8) (h0 : 0 < s.size) (hz0 : (((s[0]'h0).toNat : Int) == 0) = false) :
    Calls Tryd.prog 65 #[.string s] w fun e w' => e = .returned (.tuple #[.int .i64 (capV (val s.data.toList)), .int .i64 (capE (val s.data.toList))]) ∧ w = w' := by
  have hg : decide ((8 : Int) < (s.size : Int)) = false := by simp; omega
  go_enter Tryd.func65, Tryd.ntmps65
  go_wp2
  go_loop [4, 5, 21] (fun n _ i => ∃ k V : Nat, k ≤ s.size ∧ V < 256 ^ k ∧ Hid (V = val (s.data.toList.take k)) ∧ i = .int .i64 k ∧ n = .int .u64 (V : Int)) (fun _ _ i => s.size - (intOf i).toNat)
  case atStart => exact ⟨0, 0, Nat.zero_le _, by decide, (rfl : 0 = val _), rfl, rfl⟩
  case round =>
    obtain ⟨k, V, hk, hV, HV, rfl, rfl⟩ := hrel
    by_cases hlt : k < s.size
    · have HO : Hid (bits .or .u64 (IntKind.u64.wrap ((V : Int) * 256)) (IntKind.u64.wrap (((s[k]).toNat : Nat) : Int)) = ((256 * V + (s[k]).toNat : Nat) : Int)) := by
        refine or_byte V _ ?_ s[k].toNat_lt
        have := Nat.pow_le_pow_right (show 0 < 256 by decide) (show k ≤ 7 by omega)
        omega
      have HN : Hid (256 * V + (s[k]).toNat = val (s.data.toList.take (k + 1))) := by
        show 256 * V + (s[k]).toNat = _
        rw [take_snoc s k hlt, val_snoc, ← HV.out]
      have HL : Hid (256 * V + (s[k]).toNat < 256 ^ (k + 1)) := by
        show 256 * V + (s[k]).toNat < _
        have := s[k].toNat_lt
        rw [Nat.pow_succ]; omega
      clear hV
      go_wp2
      go_round
      case rel => exact ⟨k + 1, 256 * V + (s[k]).toNat, by omega, HL.out, HN, by go_num, by rw [HO.out]⟩
      case measure => simp [intOf]; omega
    · have hks : s.data.toList.take k = s.data.toList := List.take_of_length_le (by simp; omega)
      have HV2 : Hid (V = val s.data.toList) := by have := HV.out; rw [hks] at this; exact this
      clear HV hks hV
      by_cases hm : V < 4611686018427387904
      · have hm' : ¬ (4611686018427387903 : Int) < (V : Int) := by omega
        have HE : Hid (capV V = V ∧ capE V = 0) := ⟨if_pos hm, if_pos hm⟩
        go_wp2
        go_ret2
        rw [← HV2.out, HE.out.1, HE.out.2]
        exact ⟨rfl, rfl⟩
      · have hm' : (4611686018427387903 : Int) < (V : Int) := by omega
        have HE : Hid (capV V = 0 ∧ capE V = 11) := ⟨if_neg hm, if_neg hm⟩
        go_wp2
        go_ret2
        rw [← HV2.out, HE.out.1, HE.out.2]
        exact ⟨rfl, rfl⟩
theorem size_list (s : ByteArray) : s.data.toList.length = s.size := by simp
theorem value_any (s : ByteArray) (w : World) (hs : s.size ≤ maxLen) :
    Calls Tryd.prog 65 #[.string s] w fun e w' => e = .returned (.tuple #[.int .i64 (vOf s.data.toList), .int .i64 (eOf s.data.toList)]) ∧ w = w' := by
  have hlen := size_list s
  by_cases h8 : 8 < s.size
  · have : isNum s.data.toList = false := by unfold isNum; rw [decide_eq_false_iff_not]; intro h; omega
    rw [(v_no this).1, (v_no this).2]
    exact value_long s w h8 hs
  · by_cases h0 : 0 < s.size
    · cases hz : (((s[0]'h0).toNat : Int) == 0)
      · have hh : s.data.toList[0]? ≠ some 0 := by
          rw [head_of s h0]; intro e; simp at e; rw [e] at hz; simp at hz
        refine (value_loop s w (by omega) h0 hz).mono fun e w' ⟨he, hw⟩ => ⟨?_, hw⟩
        rw [he, vOf, eOf, capV, capE]
        by_cases hv : val s.data.toList < 4611686018427387904
        · have : isNum s.data.toList = true := by unfold isNum; rw [decide_eq_true_eq]; exact ⟨by omega, hh, hv⟩
          simp only [this, if_pos hv, if_true]
        · have : isNum s.data.toList = false := by unfold isNum; rw [decide_eq_false_iff_not]; exact fun h => hv h.2.2
          simp only [this, if_neg hv]; rfl
      · have : isNum s.data.toList = false := by
          unfold isNum; rw [decide_eq_false_iff_not]; intro h
          apply h.2.1
          rw [head_of s h0]
          simp at hz
          exact congrArg some (UInt8.toNat_inj.mp (by simpa using hz))
        rw [(v_no this).1, (v_no this).2]
        exact value_zero s w (by omega) h0 hz
    · have hnil : s.data.toList = [] := List.length_eq_zero_iff.mp (by omega)
      have : isNum s.data.toList = true := by rw [hnil]; decide
      rw [(v_yes this).1, (v_yes this).2, hnil]
      exact value_empty s w (by omega)
end Go.Proofs.YtdnhnjimhbbabaaDoor

/- What sha.turned answers: a word turned round to the right. -/
namespace Go.Proofs.YtdnhnjimhbbabaaDoor
open Go.RowKit Sums
set_option linter.unusedVariables false
/-- n, 2 to the n, 2 to the 32 - n, for those n by which words are turned. -/
def Turn (n p q : Int) : Prop := (n = 2 ∧ p = 4 ∧ q = 1073741824) ∨ (n = 6 ∧ p = 64 ∧ q = 67108864) ∨ (n = 7 ∧ p = 128 ∧ q = 33554432) ∨ (n = 11 ∧ p = 2048 ∧ q = 2097152) ∨ (n = 13 ∧ p = 8192 ∧ q = 524288) ∨ (n = 17 ∧ p = 131072 ∧ q = 32768) ∨ (n = 18 ∧ p = 262144 ∧ q = 16384) ∨ (n = 19 ∧ p = 524288 ∧ q = 8192) ∨ (n = 22 ∧ p = 4194304 ∧ q = 1024) ∨ (n = 25 ∧ p = 33554432 ∧ q = 128)
theorem mask2 : bits .and .u64 (IntKind.u64.wrap (-2)) 31 = 30 := by decide +kernel
theorem mask6 : bits .and .u64 (IntKind.u64.wrap (-6)) 31 = 26 := by decide +kernel
theorem mask7 : bits .and .u64 (IntKind.u64.wrap (-7)) 31 = 25 := by decide +kernel
theorem mask11 : bits .and .u64 (IntKind.u64.wrap (-11)) 31 = 21 := by decide +kernel
theorem mask13 : bits .and .u64 (IntKind.u64.wrap (-13)) 31 = 19 := by decide +kernel
theorem mask17 : bits .and .u64 (IntKind.u64.wrap (-17)) 31 = 15 := by decide +kernel
theorem mask18 : bits .and .u64 (IntKind.u64.wrap (-18)) 31 = 14 := by decide +kernel
theorem mask19 : bits .and .u64 (IntKind.u64.wrap (-19)) 31 = 13 := by decide +kernel
theorem mask22 : bits .and .u64 (IntKind.u64.wrap (-22)) 31 = 10 := by decide +kernel
theorem mask25 : bits .and .u64 (IntKind.u64.wrap (-25)) 31 = 7 := by decide +kernel
set_option maxHeartbeats 1000000 in
theorem rotl_any (x n p q : Int) (w : World) (h0 : 0 ≤ x) (h1 : x ≤ 4294967295) (hk : Turn n p q) :
    Calls Tryd.prog 89 #[.int .u32 x, .int .i64 (-n)] w fun e w' => e = .returned (.int .u32 (rot x p q)) ∧ w = w' := by
  rcases hk with ⟨rfl, rfl, rfl⟩ | ⟨rfl, rfl, rfl⟩ | ⟨rfl, rfl, rfl⟩ | ⟨rfl, rfl, rfl⟩ | ⟨rfl, rfl, rfl⟩ | ⟨rfl, rfl, rfl⟩ | ⟨rfl, rfl, rfl⟩ | ⟨rfl, rfl, rfl⟩ | ⟨rfl, rfl, rfl⟩ | ⟨rfl, rfl, rfl⟩
  · have hb := mask2
    go_enter Tryd.func89, Tryd.ntmps89
    go_wp2
    go_ret
    exact ⟨rfl, rfl⟩
  · have hb := mask6
    go_enter Tryd.func89, Tryd.ntmps89
    go_wp2
    go_ret
    exact ⟨rfl, rfl⟩
  · have hb := mask7
    go_enter Tryd.func89, Tryd.ntmps89
    go_wp2
    go_ret
    exact ⟨rfl, rfl⟩
  · have hb := mask11
    go_enter Tryd.func89, Tryd.ntmps89
    go_wp2
    go_ret
    exact ⟨rfl, rfl⟩
  · have hb := mask13
    go_enter Tryd.func89, Tryd.ntmps89
    go_wp2
    go_ret
    exact ⟨rfl, rfl⟩
  · have hb := mask17
    go_enter Tryd.func89, Tryd.ntmps89
    go_wp2
    go_ret
    exact ⟨rfl, rfl⟩
  · have hb := mask18
    go_enter Tryd.func89, Tryd.ntmps89
    go_wp2
    go_ret
    exact ⟨rfl, rfl⟩
  · have hb := mask19
    go_enter Tryd.func89, Tryd.ntmps89
    go_wp2
    go_ret
    exact ⟨rfl, rfl⟩
  · have hb := mask22
    go_enter Tryd.func89, Tryd.ntmps89
    go_wp2
    go_ret
    exact ⟨rfl, rfl⟩
  · have hb := mask25
    go_enter Tryd.func89, Tryd.ntmps89
    go_wp2
    go_ret
    exact ⟨rfl, rfl⟩
set_option maxHeartbeats 1000000 in
theorem turned_any (x n p q : Int) (w : World) (h0 : 0 ≤ x) (h1 : x ≤ 4294967295) (hk : Turn n p q) :
    Calls Tryd.prog 81 #[.int .u32 x, .int .i64 n] w fun e w' => e = .returned (.int .u32 (rot x p q)) ∧ w = w' := by
  rcases hk with ⟨rfl, rfl, rfl⟩ | ⟨rfl, rfl, rfl⟩ | ⟨rfl, rfl, rfl⟩ | ⟨rfl, rfl, rfl⟩ | ⟨rfl, rfl, rfl⟩ | ⟨rfl, rfl, rfl⟩ | ⟨rfl, rfl, rfl⟩ | ⟨rfl, rfl, rfl⟩ | ⟨rfl, rfl, rfl⟩ | ⟨rfl, rfl, rfl⟩
  · have K : Hid (∀ w, Calls Tryd.prog 89 #[.int .u32 x, .int .i64 (-2)] w fun e w' => e = .returned (.int .u32 (rot x 4 1073741824)) ∧ w = w') := fun w => rotl_any x 2 4 1073741824 w h0 h1 (by unfold Turn; decide)
    go_enter Tryd.func81, Tryd.ntmps81
    go_wp2_with (go_at_call 89; refine (K.out _).mono ?_; rintro e w' ⟨rfl, rfl⟩)
    go_ret
    exact ⟨rfl, rfl⟩
  · have K : Hid (∀ w, Calls Tryd.prog 89 #[.int .u32 x, .int .i64 (-6)] w fun e w' => e = .returned (.int .u32 (rot x 64 67108864)) ∧ w = w') := fun w => rotl_any x 6 64 67108864 w h0 h1 (by unfold Turn; decide)
    go_enter Tryd.func81, Tryd.ntmps81
    go_wp2_with (go_at_call 89; refine (K.out _).mono ?_; rintro e w' ⟨rfl, rfl⟩)
    go_ret
    exact ⟨rfl, rfl⟩
  · have K : Hid (∀ w, Calls Tryd.prog 89 #[.int .u32 x, .int .i64 (-7)] w fun e w' => e = .returned (.int .u32 (rot x 128 33554432)) ∧ w = w') := fun w => rotl_any x 7 128 33554432 w h0 h1 (by unfold Turn; decide)
    go_enter Tryd.func81, Tryd.ntmps81
    go_wp2_with (go_at_call 89; refine (K.out _).mono ?_; rintro e w' ⟨rfl, rfl⟩)
    go_ret
    exact ⟨rfl, rfl⟩
  · have K : Hid (∀ w, Calls Tryd.prog 89 #[.int .u32 x, .int .i64 (-11)] w fun e w' => e = .returned (.int .u32 (rot x 2048 2097152)) ∧ w = w') := fun w => rotl_any x 11 2048 2097152 w h0 h1 (by unfold Turn; decide)
    go_enter Tryd.func81, Tryd.ntmps81
    go_wp2_with (go_at_call 89; refine (K.out _).mono ?_; rintro e w' ⟨rfl, rfl⟩)
    go_ret
    exact ⟨rfl, rfl⟩
  · have K : Hid (∀ w, Calls Tryd.prog 89 #[.int .u32 x, .int .i64 (-13)] w fun e w' => e = .returned (.int .u32 (rot x 8192 524288)) ∧ w = w') := fun w => rotl_any x 13 8192 524288 w h0 h1 (by unfold Turn; decide)
    go_enter Tryd.func81, Tryd.ntmps81
    go_wp2_with (go_at_call 89; refine (K.out _).mono ?_; rintro e w' ⟨rfl, rfl⟩)
    go_ret
    exact ⟨rfl, rfl⟩
  · have K : Hid (∀ w, Calls Tryd.prog 89 #[.int .u32 x, .int .i64 (-17)] w fun e w' => e = .returned (.int .u32 (rot x 131072 32768)) ∧ w = w') := fun w => rotl_any x 17 131072 32768 w h0 h1 (by unfold Turn; decide)
    go_enter Tryd.func81, Tryd.ntmps81
    go_wp2_with (go_at_call 89; refine (K.out _).mono ?_; rintro e w' ⟨rfl, rfl⟩)
    go_ret
    exact ⟨rfl, rfl⟩
  · have K : Hid (∀ w, Calls Tryd.prog 89 #[.int .u32 x, .int .i64 (-18)] w fun e w' => e = .returned (.int .u32 (rot x 262144 16384)) ∧ w = w') := fun w => rotl_any x 18 262144 16384 w h0 h1 (by unfold Turn; decide)
    go_enter Tryd.func81, Tryd.ntmps81
    go_wp2_with (go_at_call 89; refine (K.out _).mono ?_; rintro e w' ⟨rfl, rfl⟩)
    go_ret
    exact ⟨rfl, rfl⟩
  · have K : Hid (∀ w, Calls Tryd.prog 89 #[.int .u32 x, .int .i64 (-19)] w fun e w' => e = .returned (.int .u32 (rot x 524288 8192)) ∧ w = w') := fun w => rotl_any x 19 524288 8192 w h0 h1 (by unfold Turn; decide)
    go_enter Tryd.func81, Tryd.ntmps81
    go_wp2_with (go_at_call 89; refine (K.out _).mono ?_; rintro e w' ⟨rfl, rfl⟩)
    go_ret
    exact ⟨rfl, rfl⟩
  · have K : Hid (∀ w, Calls Tryd.prog 89 #[.int .u32 x, .int .i64 (-22)] w fun e w' => e = .returned (.int .u32 (rot x 4194304 1024)) ∧ w = w') := fun w => rotl_any x 22 4194304 1024 w h0 h1 (by unfold Turn; decide)
    go_enter Tryd.func81, Tryd.ntmps81
    go_wp2_with (go_at_call 89; refine (K.out _).mono ?_; rintro e w' ⟨rfl, rfl⟩)
    go_ret
    exact ⟨rfl, rfl⟩
  · have K : Hid (∀ w, Calls Tryd.prog 89 #[.int .u32 x, .int .i64 (-25)] w fun e w' => e = .returned (.int .u32 (rot x 33554432 128)) ∧ w = w') := fun w => rotl_any x 25 33554432 128 w h0 h1 (by unfold Turn; decide)
    go_enter Tryd.func81, Tryd.ntmps81
    go_wp2_with (go_at_call 89; refine (K.out _).mono ?_; rintro e w' ⟨rfl, rfl⟩)
    go_ret
    exact ⟨rfl, rfl⟩
end Go.Proofs.YtdnhnjimhbbabaaDoor

/- What sha.word answers, and what sha.putWord does: four bytes as a word, the highest first. -/
namespace Go.Proofs.YtdnhnjimhbbabaaDoor
open Go.RowKit Sums
set_option linter.unusedVariables false
set_option linter.unusedSimpArgs false
theorem or_add (a b k : Nat) (hb : b < 2 ^ k) : a * 2 ^ k ||| b = a * 2 ^ k + b := by
  have := Nat.shiftLeft_add_eq_or_of_lt hb a
  rw [Nat.shiftLeft_eq] at this
  exact this.symm
theorem or32_add (a b k p : Nat) (hp : p = 2 ^ k) (A B : Int) (hA : A = ((a * p : Nat) : Int)) (hB : B = (b : Int)) (hb : b < p) (ha : a * p + b < 4294967296) : bits .or .u32 A B = A + B := by
  subst hA hB hp
  rw [u32_or_nat _ _ (by omega) (by omega), or_add a b k hb]
  rfl
set_option maxHeartbeats 1000000 in
theorem word_any (b off len cap : Nat) (w : World) (c0 c1 c2 c3 : Nat) (h4 : 4 ≤ len) (g0 : c0 ≤ 255) (g1 : c1 ≤ 255) (g2 : c2 ≤ 255) (g3 : c3 ≤ 255)
    (h0 : w.cell? ⟨b, off, none⟩ = some (.int .u8 c0)) (h1 : w.cell? ⟨b, off + 1, none⟩ = some (.int .u8 c1))
    (h2 : w.cell? ⟨b, off + 2, none⟩ = some (.int .u8 c2)) (h3 : w.cell? ⟨b, off + 3, none⟩ = some (.int .u8 c3)) :
    Calls Tryd.prog 88 #[.slice (some ⟨b, off, none⟩) len cap] w fun e w' => e = .returned (.int .u32 ((c0 : Int) * 16777216 + (c1 : Int) * 65536 + (c2 : Int) * 256 + (c3 : Int))) ∧ ∃ n, w' = w.drewN n := by
  have l0 : (0 : Int) < (len : Int) := by omega
  have l1 : (1 : Int) < (len : Int) := by omega
  have l2 : (2 : Int) < (len : Int) := by omega
  have l3 : (3 : Int) < (len : Int) := by omega
  have o1 := or32_add c0 (c1 * 65536) 24 16777216 (by decide) ((c0 : Int) * 16777216) ((c1 : Int) * 65536) (by omega) (by omega) (by omega) (by omega)
  have o2 := or32_add (c0 * 256 + c1) (c2 * 256) 16 65536 (by decide) ((c0 : Int) * 16777216 + (c1 : Int) * 65536) ((c2 : Int) * 256) (by omega) (by omega) (by omega) (by omega)
  have o3 := or32_add (c0 * 65536 + c1 * 256 + c2) c3 8 256 (by decide) ((c0 : Int) * 16777216 + (c1 : Int) * 65536 + (c2 : Int) * 256) (c3 : Int) (by omega) (by omega) (by omega) (by omega)
  go_enter Tryd.func88, Tryd.ntmps88
  go_wp2
  go_quiet (fail)
  go_wp2
  go_ret
  exact ⟨rfl, _, rfl⟩
/-- Four bytes put into a row. -/
def put4 (l : List UInt8) (off : Nat) (z : Int) : List UInt8 := l.take off ++ bytes4 z ++ l.drop (off + 4)
theorem put4_length (l : List UInt8) (off : Nat) (z : Int) (h : off + 4 ≤ l.length) : (put4 l off z).length = l.length := by
  simp [put4, bytes4]; omega
theorem put4_sets (l : List UInt8) (off : Nat) (z : Int) (h : off + 4 ≤ l.length) (a b c d : UInt8) (hz : bytes4 z = [a, b, c, d]) :
    (((l.set off a).set (off + 1) b).set (off + 2) c).set (off + 3) d = put4 l off z := by
  unfold put4
  rw [hz]
  apply List.ext_getElem
  · simp; omega
  · intro i h1 h2
    simp only [List.length_set] at h1
    by_cases e0 : i < off
    · simp only [List.getElem_set, show off + 3 ≠ i by omega, show off + 2 ≠ i by omega, show off + 1 ≠ i by omega, show off ≠ i by omega, if_false]
      rw [List.getElem_append_left (by simp; omega), List.getElem_append_left (by simp; omega), List.getElem_take]
    · by_cases e4 : i < off + 4
      · have hi : i = off ∨ i = off + 1 ∨ i = off + 2 ∨ i = off + 3 := by omega
        rw [List.getElem_append_left (by simp; omega), List.getElem_append_right (by simp; omega)]
        rcases hi with rfl | rfl | rfl | rfl
        · simp [List.getElem_set, show min i l.length = i by omega]
        · simp [List.getElem_set, show min off l.length = off by omega]
        · simp [List.getElem_set, show min off l.length = off by omega]
        · simp [List.getElem_set, show min off l.length = off by omega]
      · simp only [List.getElem_set, show off + 3 ≠ i by omega, show off + 2 ≠ i by omega, show off + 1 ≠ i by omega, show off ≠ i by omega, if_false]
        rw [List.getElem_append_right (by simp; omega), List.getElem_drop]
        congr 1
        simp; omega
theorem row_set {w : World} {b t : Nat} {l : List UInt8} (hg : w.heap[b]? = some (.cells (cellsOf l).toArray t (0, 0))) (j : Nat) (x : UInt8) :
    w.setCell ⟨b, j, none⟩ (.int .u8 x.toNat) = w.setRow b (cellsOf (l.set j x)).toArray := by
  rw [setCell_eq_setRow w b j _ t (0, 0) _ hg, ← cellsOf_set]
  congr 1
  simp
set_option maxHeartbeats 1000000 in
theorem putWord_any (b off len cap t : Nat) (l : List UInt8) (z : Int) (w : World) (h4 : 4 ≤ len) (hl : off + 4 ≤ l.length) (z0 : 0 ≤ z) (z1 : z ≤ 4294967295) (hg : w.heap[b]? = some (.cells (cellsOf l).toArray t (0, 0))) :
    Calls Tryd.prog 70 #[.slice (some ⟨b, off, none⟩) len cap, .int .u32 z] w fun e w' => e = .returned (.tuple #[]) ∧ w' = w.setRow b (cellsOf (put4 l off z)).toArray := by
  have l0 : (0 : Int) < (len : Int) := by omega
  have l1 : (1 : Int) < (len : Int) := by omega
  have l2 : (2 : Int) < (len : Int) := by omega
  have l3 : (3 : Int) < (len : Int) := by omega
  have c0 : w.cell? ⟨b, off, none⟩ = some (.int .u8 (l[off]'(by omega)).toNat) := by rw [cell_of_row w b _ _ t (0, 0) hg]; simp [cellsOf_at l off (by omega)]
  have c1 : w.cell? ⟨b, off + 1, none⟩ = some (.int .u8 (l[off + 1]'(by omega)).toNat) := by rw [cell_of_row w b _ _ t (0, 0) hg]; simp [cellsOf_at l (off + 1) (by omega)]
  have c2 : w.cell? ⟨b, off + 2, none⟩ = some (.int .u8 (l[off + 2]'(by omega)).toNat) := by rw [cell_of_row w b _ _ t (0, 0) hg]; simp [cellsOf_at l (off + 2) (by omega)]
  have c3 : w.cell? ⟨b, off + 3, none⟩ = some (.int .u8 (l[off + 3]'(by omega)).toNat) := by rw [cell_of_row w b _ _ t (0, 0) hg]; simp [cellsOf_at l (off + 3) (by omega)]
  have f0 : w.frozen? ⟨b, off, none⟩ = false := frozen_of_row w _ _ _ t hg
  have f1 : w.frozen? ⟨b, off + 1, none⟩ = false := frozen_of_row w _ _ _ t hg
  have f2 : w.frozen? ⟨b, off + 2, none⟩ = false := frozen_of_row w _ _ _ t hg
  have f3 : w.frozen? ⟨b, off + 3, none⟩ = false := frozen_of_row w _ _ _ t hg
  have HG : Hid _ := hg
  clear hg
  go_enter Tryd.func70, Tryd.ntmps70
  go_wp2
  refine bodyPost_end (v := .tuple #[]) (by simp [results, Tryd.results70, go_sem]) rfl ⟨rfl, ?_⟩
  have e0 : (z / 16777216 : Int) = ((UInt8.ofNat (z / 16777216).toNat).toNat : Int) := by rw [UInt8.toNat_ofNat']; omega
  have e1 : (z / 65536 % 256 : Int) = ((UInt8.ofNat (z / 65536).toNat).toNat : Int) := by rw [UInt8.toNat_ofNat']; omega
  have e2 : (z / 256 % 256 : Int) = ((UInt8.ofNat (z / 256).toNat).toNat : Int) := by rw [UInt8.toNat_ofNat']; omega
  have e3 : (z % 256 : Int) = ((UInt8.ofNat z.toNat).toNat : Int) := by rw [UInt8.toNat_ofNat']; omega
  rw [e0, e1, e2, e3, row_set HG.out]
  have G1 := setRow_heap w b _ (cellsOf (l.set off (UInt8.ofNat (z / 16777216).toNat))).toArray t _ HG.out
  rw [row_set G1, setRow_setRow]
  have G2 := setRow_heap w b _ (cellsOf ((l.set off (UInt8.ofNat (z / 16777216).toNat)).set (off + 1) (UInt8.ofNat (z / 65536).toNat))).toArray t _ HG.out
  rw [row_set G2, setRow_setRow]
  have G3 := setRow_heap w b _ (cellsOf (((l.set off (UInt8.ofNat (z / 16777216).toNat)).set (off + 1) (UInt8.ofNat (z / 65536).toNat)).set (off + 2) (UInt8.ofNat (z / 256).toNat))).toArray t _ HG.out
  rw [row_set G3, setRow_setRow, put4_sets l off z hl _ _ _ _ rfl]
end Go.Proofs.YtdnhnjimhbbabaaDoor

/- What sha.schedule answers: W 0 to 63 of a block. -/
namespace Go.Proofs.YtdnhnjimhbbabaaDoor
open Go.RowKit Sums
set_option linter.unusedVariables false
set_option linter.unusedSimpArgs false
/-- Words as cells. -/
def wcells (l : List Int) : List Value := l.map fun z => .int .u32 z
theorem wcells_length (l : List Int) : (wcells l).length = l.length := by simp [wcells]
theorem wcells_set (l : List Int) (j : Nat) (z : Int) : (wcells l).set j (.int .u32 z) = wcells (l.set j z) := by simp [wcells, List.map_set]
theorem wcells_at (l : List Int) (j : Nat) (hj : j < l.length) : (wcells l)[j]? = some (.int .u32 l[j]) := by simp [wcells, List.getElem?_eq_getElem hj]
theorem wcells_all (l : List Int) : (wcells l).toArray.all (·.oneCell') = true := by
  rw [Array.all_eq_true_iff_forall_mem]
  intro u hu
  simp only [wcells, List.mem_toArray, List.mem_map] at hu
  obtain ⟨z, _, rfl⟩ := hu
  rfl
theorem wrow_set {w : World} {b t : Nat} {l : List Int} (hg : w.heap[b]? = some (.cells (wcells l).toArray t (0, 0))) (j : Nat) (x : Int) :
    (w.setCell ⟨b, j, none⟩ (.int .u32 x)).heap[b]? = some (.cells (wcells (l.set j x)).toArray t (0, 0)) := by
  rw [heap_setCell_same w b j _ t _ hg, ← wcells_set]
  simp
theorem wrow_cell {w : World} {b t : Nat} {l : List Int} (hg : w.heap[b]? = some (.cells (wcells l).toArray t (0, 0))) (j : Nat) (hj : j < l.length) :
    w.cell? ⟨b, j, none⟩ = some (.int .u32 l[j]) := by
  rw [cell_of_row w b j _ t (0, 0) hg]
  simp [wcells_at l j hj]
theorem size45 : (Tryd.prog.info? 121).map (·.size) = some 64 := by kernel_rfl
theorem zero45 : (Tryd.prog.info? 121).map (fun i => (i.zero, i.size)) = some (some (.agg (wcells (List.replicate 64 0)).toArray), 64) := by kernel_rfl
/-- What is known of an array of 64 noughts. -/
theorem noughts45 : ∃ Z : Array Value, Hid (Z = (wcells (List.replicate 64 0)).toArray) ∧ Hid ((Tryd.prog.info? 121).map (fun i => (i.zero, i.size)) = some (some (.agg Z), Z.size)) ∧
    Hid ((Tryd.prog.info? 121).map (·.size) = some Z.size) ∧ Hid (Z.all (·.oneCell') = true) ∧ Hid (Z.size = 64) :=
  ⟨(wcells (List.replicate 64 0)).toArray, (rfl : _ = _), zero45, size45, wcells_all _, (rfl : _ = _)⟩
/-- Bytes that lie in a block from a place on. -/
def Lies (w : World) (b off : Nat) (l : List UInt8) : Prop := ∀ i, (hi : i < l.length) → w.cell? ⟨b, off + i, none⟩ = some (.int .u8 l[i].toNat)
theorem Lies.keep {w w' : World} {b off B : Nat} {l : List UInt8} (h : Lies w b off l) (hb : Below B w w') (hB : b < B) : Lies w' b off l := fun i hi => by
  rw [hb.cell (p := ⟨b, off + i, none⟩) hB]; exact h i hi
theorem Lies.drop {w : World} {b off : Nat} {l : List UInt8} (h : Lies w b off l) (n : Nat) : Lies w b (off + n) (l.drop n) := fun i hi => by
  have := h (n + i) (by simp at hi; omega)
  rw [← Nat.add_assoc] at this
  rw [this]
  simp
theorem Lies.take {w : World} {b off : Nat} {l : List UInt8} (h : Lies w b off l) (n : Nat) : Lies w b off (l.take n) := fun i hi => by
  have := h i (by simp at hi; omega)
  rw [this]
  simp
def Ok (l : List Int) : Prop := ∀ z ∈ l, 0 ≤ z ∧ z ≤ 4294967295
theorem wordAt_range (b : List UInt8) (t : Nat) : 0 ≤ wordAt b t ∧ wordAt b t ≤ 4294967295 := by
  have h0 := (b.getD (4 * t) 0).toNat_lt
  have h1 := (b.getD (4 * t + 1) 0).toNat_lt
  have h2 := (b.getD (4 * t + 2) 0).toNat_lt
  have h3 := (b.getD (4 * t + 3) 0).toNat_lt
  unfold wordAt
  omega
theorem ok16 (b : List UInt8) : Ok (words16 b) := by
  intro z hz
  obtain ⟨t, _, rfl⟩ := List.mem_map.1 hz
  exact wordAt_range b t
theorem words16_length (b : List UInt8) : (words16 b).length = 16 := by simp [words16]
theorem add32_range (a b : Int) : 0 ≤ add32 a b ∧ add32 a b ≤ 4294967295 := by unfold add32; omega
theorem grow_length (l : List Int) (n : Nat) : (grow l n).length = l.length + n := by
  induction n with
  | zero => rfl
  | succ n ih => simp [grow, ih]; omega
theorem grow_ok (l : List Int) (n : Nat) (h : Ok l) : Ok (grow l n) := by
  induction n with
  | zero => exact h
  | succ n ih =>
    intro z hz
    simp only [grow, List.mem_append, List.mem_singleton] at hz
    rcases hz with hz | rfl
    · exact ih z hz
    · exact add32_range _ _
/-- The words so far, and noughts behind them. -/
def fill (l : List Int) : List Int := l ++ List.replicate (64 - l.length) 0
theorem fill_length (l : List Int) (h : l.length ≤ 64) : (fill l).length = 64 := by simp [fill]; omega
theorem fill_set (l : List Int) (z : Int) (h : l.length < 64) : (fill l).set l.length z = fill (l ++ [z]) := by
  unfold fill
  rw [List.set_append, if_neg (by omega), Nat.sub_self, show 64 - l.length = (64 - (l ++ [z]).length) + 1 by simp; omega, List.replicate_succ, List.set_cons_zero]
  simp
theorem fill_at (l : List Int) (j : Nat) (hj : j < l.length) (h : j < (fill l).length) : (fill l)[j] = l.getD j 0 := by
  have e : (fill l)[j]? = l[j]? := by unfold fill; rw [List.getElem?_append_left hj]
  rw [List.getElem?_eq_getElem h, List.getElem?_eq_getElem hj] at e
  simp [List.getD, List.getElem?_eq_getElem hj, Option.some.inj e]
theorem u32w (z : Int) : IntKind.u32.wrap z = z % 4294967296 := by
  simp [IntKind.wrap, IntKind.bits, IntKind.signed]
theorem idxW (W : World) (g j : Nat) (z : Int) (hz : z = j) (hj : j < 64) : (Instr.indexAt 121 (.pointer (some ⟨g, 0, none⟩)) (.int .i64 z)).run Tryd.prog W = .ok (.pointer (some ⟨g, j, none⟩)) W := by
  subst hz
  have hs : ∀ w, (sizeOf 106).run Tryd.prog w = .ok 1 w := by
    intro w
    have hq : (Tryd.prog.info? 106).map (·.size) = some 1 := by kernel_rfl
    cases h : Tryd.prog.info? 106 with
    | none => simp [h] at hq
    | some i => simp [h] at hq; simp [sizeOf, typeInfo, h, hq]
  simp [Instr.indexAt, run_underlying Tryd.underlying121, Instr.sureAddr, asIntOf, hj, hs, add_plain]
set_option maxHeartbeats 2000000 in
theorem sched_any (b off cap : Nat) (bl : List UInt8) (w : World) (hl : bl.length = 64) (hc : 64 ≤ cap) (hc2 : cap ≤ 9223372036854775807) (hb : b < w.heap.size) (hL : Lies w b off bl) :
    Calls Tryd.prog 80 #[.slice (some ⟨b, off, none⟩) 64 cap] w fun e w' => e = .returned (.agg (wcells (sched bl)).toArray) ∧ Below w.heap.size w w' := by
  obtain ⟨Z, HZ, HA, HS, H1, HZ64⟩ := noughts45
  have HL : Hid (Lies w b off bl) := hL
  have HLL : Hid (bl.length = 64) := hl
  clear hL hl
  go_enter Tryd.func80, Tryd.ntmps80
  go_wp2_with (first
    | (refine wpList_alloc_row rfl 121 rfl Z HA.out ?_)
    | fail)
  go_loopw [8] (fun i wr => ∃ k : Nat, k ≤ 16 ∧ i = .int .i64 k ∧ Hid (wr.heap[w.heap.size]? = some (.cells Z 121 (0, 0))) ∧
      Hid (wr.heap[w.heap.size + 1]? = some (.cells (wcells (fill ((words16 bl).take k))).toArray 121 (0, 0))) ∧ Below w.heap.size w wr)
    (fun i _ => 16 - (intOf i).toNat)
  case atStart =>
    refine ⟨0, by omega, rfl, heap_alloc2_old w _ _, ?_, ((Below.refl _ _).alloc (Nat.le_refl _) _).alloc (by simp) _⟩
    show _ = _
    have e : (wcells (fill ((words16 bl).take 0))).toArray = Z := by rw [HZ.out]; rfl
    rw [e]
    exact heap_alloc2_new w _ _
  case round =>
    obtain ⟨k, hk, rfl, HR, HD, hB⟩ := hrel
    by_cases hlt : k < 16
    · have hdi : decide ((k : Int) < 16) = true := by rw [decide_eq_true_eq]; omega
      have hlen := HLL.out
      have c0 := (HL.out.keep hB hb) (4 * k) (by omega)
      have c1 := (HL.out.keep hB hb) (4 * k + 1) (by omega)
      have c2 := (HL.out.keep hB hb) (4 * k + 2) (by omega)
      have c3 := (HL.out.keep hB hb) (4 * k + 3) (by omega)
      have HW : Hid (∀ len cap, 4 ≤ len → Calls Tryd.prog 88 #[.slice (some ⟨b, off + 4 * k, none⟩) len cap] wr fun e w' => e = .returned (.int .u32 (wordAt bl k)) ∧ ∃ n, w' = wr.drewN n) := by
        intro len cap h4
        have := word_any b (off + 4 * k) len cap wr _ _ _ _ h4 (by have := bl[4 * k].toNat_lt; omega) (by have := bl[4 * k + 1].toNat_lt; omega) (by have := bl[4 * k + 2].toNat_lt; omega) (by have := bl[4 * k + 3].toNat_lt; omega) c0 c1 c2 c3
        have e : wordAt bl k = (bl[4 * k].toNat : Int) * 16777216 + (bl[4 * k + 1].toNat : Int) * 65536 + (bl[4 * k + 2].toNat : Int) * 256 + (bl[4 * k + 3].toNat : Int) := by
          unfold wordAt
          simp [List.getD, List.getElem?_eq_getElem (show 4 * k < bl.length by omega), List.getElem?_eq_getElem (show 4 * k + 1 < bl.length by omega), List.getElem?_eq_getElem (show 4 * k + 2 < bl.length by omega), List.getElem?_eq_getElem (show 4 * k + 3 < bl.length by omega)]
        rw [e]
        exact this
      clear c0 c1 c2 c3
      have hw4 := wrap_int (4 * (k : Int)) (by omega) (by omega)
      have HT : Hid (((words16 bl).take k).length = k) := by show _ = _; simp [words16_length]; omega
      have hcell := wrow_cell HD.out k (by rw [fill_length _ (by rw [HT.out]; omega)]; omega)
      have hfz : wr.frozen? ⟨w.heap.size + 1, k, none⟩ = false := frozen_of_row wr _ k _ 121 HD.out
      clear hlen
      have HN : Hid (fill ((words16 bl).take (k + 1)) = (fill ((words16 bl).take k)).set k (wordAt bl k)) := by
        show _ = _
        have h16 := words16_length bl
        have e : (words16 bl).take (k + 1) = (words16 bl).take k ++ [wordAt bl k] := by
          rw [List.take_add_one, List.getElem?_eq_getElem (by omega)]
          simp [words16]
        have := fill_set ((words16 bl).take k) (wordAt bl k) (by rw [HT.out]; omega)
        rw [HT.out] at this
        rw [e, this]
      go_wp2_with fail
      refine (HW.out _ _ (by omega)).mono ?_
      rintro e w1 ⟨rfl, n, rfl⟩
      go_wp2
      go_roundw
      case rel =>
        refine ⟨k + 1, by omega, by go_num, ?_, ?_, (below_drewN hB n).setCell (by simp) _⟩
        · show _ = _
          rw [heap_setCell_other _ _ _ _ (by simp)]
          exact HR.out
        · show _ = _
          rw [HN.out]
          exact wrow_set (w := wr.drewN n) HD.out k _
      case measure => simp [intOf]; omega
    · obtain rfl : k = 16 := by omega
      have HD16 : Hid (wr.heap[w.heap.size + 1]? = some (.cells (wcells (fill (grow (words16 bl) 0))).toArray 121 (0, 0))) := by
        have := HD.out
        rw [List.take_of_length_le (by rw [words16_length]; exact Nat.le_refl _)] at this
        exact this
      clear HD
      simp only [Int.cast_ofNat_Int]
      go_wp2
      go_loopw [5] (fun i wt => ∃ k : Nat, k ≤ 48 ∧ i = .int .i64 ((k : Int) + 16) ∧ Hid (wt.heap[w.heap.size]? = some (.cells Z 121 (0, 0))) ∧
          Hid (wt.heap[w.heap.size + 1]? = some (.cells (wcells (fill (grow (words16 bl) k))).toArray 121 (0, 0))) ∧ Below w.heap.size w wt)
        (fun i _ => 64 - (intOf i).toNat)
      case atStart => exact ⟨0, by omega, rfl, HR, HD16, hB⟩
      case round =>
        clear HD16 HR hB
        obtain ⟨k, hk, rfl, HR, HD, hB⟩ := hrel
        by_cases hlt : k < 48
        · have hdi : decide ((k : Int) + 16 < 64) = true := by rw [decide_eq_true_eq]; omega
          have hw15 := wrap_int ((k : Int) + 16 - 15) (by omega) (by omega)
          have hw2 := wrap_int ((k : Int) + 16 - 2) (by omega) (by omega)
          have hw16 := wrap_int ((k : Int) + 16 - 16) (by omega) (by omega)
          have hw7 := wrap_int ((k : Int) + 16 - 7) (by omega) (by omega)
          rw [show (k : Int) + 16 - 15 = (k : Int) + 1 by omega] at hw15
          obtain ⟨l, HLW⟩ : ∃ l, Hid (l = grow (words16 bl) k) := ⟨_, (rfl : grow (words16 bl) k = _)⟩
          have HLn : Hid (l.length = k + 16) := by show _ = _; rw [HLW.out, grow_length, words16_length]; omega
          have HOK : Hid (Ok l) := by show Ok _; rw [HLW.out]; exact grow_ok _ _ (ok16 bl)
          rw [← HLW.out] at HD
          have HF : Hid ((fill l).length = 64) := fill_length _ (by have := HLn.out; omega)
          obtain ⟨x16, X16⟩ : ∃ x, Hid (x = l.getD k 0) := ⟨_, (rfl : l.getD k 0 = _)⟩
          obtain ⟨x15, X15⟩ : ∃ x, Hid (x = l.getD (k + 1) 0) := ⟨_, (rfl : l.getD (k + 1) 0 = _)⟩
          obtain ⟨x7, X7⟩ : ∃ x, Hid (x = l.getD (k + 9) 0) := ⟨_, (rfl : l.getD (k + 9) 0 = _)⟩
          obtain ⟨x2, X2⟩ : ∃ x, Hid (x = l.getD (k + 14) 0) := ⟨_, (rfl : l.getD (k + 14) 0 = _)⟩
          have at_ : ∀ j, j < k + 16 → wr.cell? ⟨w.heap.size + 1, j, none⟩ = some (.int .u32 (l.getD j 0)) := fun j hj => by
            have h1 := HLn.out
            have h2 := HF.out
            rw [wrow_cell HD.out j (by omega), fill_at l j (by omega)]
          have range : ∀ j, j < k + 16 → 0 ≤ l.getD j 0 ∧ l.getD j 0 ≤ 4294967295 := fun j hj => by
            have h1 := HLn.out
            simp only [List.getD, List.getElem?_eq_getElem (show j < l.length by omega), Option.getD_some]
            exact HOK.out _ (List.getElem_mem _)
          have c16 := at_ k (by omega)
          have c15 := at_ (k + 1) (by omega)
          have c7 := at_ (k + 9) (by omega)
          have c2 := at_ (k + 14) (by omega)
          have r15 := range (k + 1) (by omega)
          have r2 := range (k + 14) (by omega)
          rw [← X16.out] at c16
          rw [← X15.out] at c15 r15
          rw [← X7.out] at c7
          rw [← X2.out] at c2 r2
          have ho := wrow_cell HD.out (k + 16) (by have := HF.out; omega)
          have hfz : wr.frozen? ⟨w.heap.size + 1, k + 16, none⟩ = false := frozen_of_row wr _ _ _ 121 HD.out
          clear at_ range
          have T7 : Hid _ := fun w => turned_any x15 7 128 33554432 w r15.1 r15.2 (by unfold Turn; decide)
          have T18 : Hid _ := fun w => turned_any x15 18 262144 16384 w r15.1 r15.2 (by unfold Turn; decide)
          have T17 : Hid _ := fun w => turned_any x2 17 131072 32768 w r2.1 r2.2 (by unfold Turn; decide)
          have T19 : Hid _ := fun w => turned_any x2 19 524288 8192 w r2.1 r2.2 (by unfold Turn; decide)
          go_wp2
          go_quiet (fail)
          go_wp2
          have hv16 : IntKind.i64.wrap ((k : Int) + 16 - 16) = (k : Int) := by rw [show (k : Int) + 16 - 16 = (k : Int) by omega]; exact wrap_int _ (by omega) (by omega)
          have hv7 : IntKind.i64.wrap ((k : Int) + 16 - 7) = (k : Int) + 9 := by rw [show (k : Int) + 16 - 7 = (k : Int) + 9 by omega]; exact wrap_int _ (by omega) (by omega)
          have ia := fun W => idxW W (w.heap.size + 1) k (k : Int) rfl (by omega)
          have ib := fun W => idxW W (w.heap.size + 1) (k + 9) ((k : Int) + 9) (by omega) (by omega)
          have ic := fun W => idxW W (w.heap.size + 1) (k + 16) ((k : Int) + 16) (by omega) (by omega)
          refine wp_region_held_drew (S := (fun W => W.cell? ⟨w.heap.size + 1, k, none⟩ = some (.int .u32 x16) ∧ W.cell? ⟨w.heap.size + 1, k + 9, none⟩ = some (.int .u32 x7))) (by kernel_rfl) ⟨c16, c7⟩ (fun hHeld => ?_)
          refine wpAnyH_take (i := 0) (oi := { dst := some 31, op := Op.move (Operand.tmp 5), type := 3, pos := "sha.go:97", after := #[], guard := none }) (v := .int .i64 ((k : Int) + 16)) rfl (by kernel_rfl) (by kernel_rfl) (by kernel_rfl) (fun _ _ _ h => h) (Or.inl ⟨by rfl, by intro W hSw; go_simp⟩) hHeld ?_
          try simp only [Act.put, List.setIfInBounds_toArray, List.set_cons_zero, List.set_cons_succ]
          refine wpAnyH_take (i := 1) (oi := { dst := some 32, op := Op.move (Operand.tmp 5), type := 3, pos := "sha.go:97", after := #[], guard := none }) (v := .int .i64 ((k : Int) + 16)) rfl (by kernel_rfl) (by kernel_rfl) (by kernel_rfl) (fun _ _ _ h => h) (Or.inl ⟨by rfl, by intro W hSw; go_simp⟩) hHeld ?_
          try simp only [Act.put, List.setIfInBounds_toArray, List.set_cons_zero, List.set_cons_succ]
          refine wpAnyH_take (i := 2) (oi := { dst := some 33, op := Op.binOp BinOp.sub 3 (Operand.tmp 32) (Operand.const (Value.int IntKind.i64 16)) 3, type := 3, pos := "sha.go:97", after := #[{ on := 1, ground := Ground.data }], guard := none }) (v := .int .i64 ((k : Int))) rfl (by kernel_rfl) (by kernel_rfl) (by kernel_rfl) (fun _ _ _ h => h) (Or.inl ⟨by rfl, by intro W hSw; go_simp; first | done | exact u32w _ | (rw [u32w]; first | rfl | omega) | omega | exact wrap_int _ (by omega) (by omega)⟩) hHeld ?_
          try simp only [Act.put, List.setIfInBounds_toArray, List.set_cons_zero, List.set_cons_succ]
          refine wpAnyH_take (i := 3) (oi := { dst := some 34, op := Op.indexAddr 121 (Operand.tmp 3) (Operand.tmp 33), type := 0, pos := "sha.go:97", after := #[{ on := 2, ground := Ground.data }], guard := none }) (v := .pointer (some ⟨w.heap.size + 1, k, none⟩)) rfl (by kernel_rfl) (by kernel_rfl) (by kernel_rfl) (fun _ _ _ h => h) (Or.inl ⟨by rfl, by intro W hSw; go_simp⟩) hHeld ?_
          try simp only [Act.put, List.setIfInBounds_toArray, List.set_cons_zero, List.set_cons_succ]
          refine wpAnyH_take (i := 4) (oi := { dst := some 35, op := Op.load 106 (Operand.tmp 34), type := 106, pos := "sha.go:97", after := #[{ on := 3, ground := Ground.data }], guard := none }) (v := .int .u32 (x16)) rfl (by kernel_rfl) (by kernel_rfl) (by kernel_rfl) (fun _ _ _ h => h) (Or.inl ⟨by rfl, by intro W hSw; obtain ⟨s1, s2⟩ := hSw; go_simp⟩) hHeld ?_
          try simp only [Act.put, List.setIfInBounds_toArray, List.set_cons_zero, List.set_cons_succ]
          refine wpAnyH_take (i := 5) (oi := { dst := some 36, op := Op.move (Operand.tmp 5), type := 3, pos := "sha.go:97", after := #[], guard := none }) (v := .int .i64 ((k : Int) + 16)) rfl (by kernel_rfl) (by kernel_rfl) (by kernel_rfl) (fun _ _ _ h => h) (Or.inl ⟨by rfl, by intro W hSw; go_simp⟩) hHeld ?_
          try simp only [Act.put, List.setIfInBounds_toArray, List.set_cons_zero, List.set_cons_succ]
          refine wpAnyH_take (i := 6) (oi := { dst := some 37, op := Op.binOp BinOp.sub 3 (Operand.tmp 36) (Operand.const (Value.int IntKind.i64 7)) 3, type := 3, pos := "sha.go:97", after := #[{ on := 5, ground := Ground.data }], guard := none }) (v := .int .i64 ((k : Int) + 9)) rfl (by kernel_rfl) (by kernel_rfl) (by kernel_rfl) (fun _ _ _ h => h) (Or.inl ⟨by rfl, by intro W hSw; go_simp; first | done | exact u32w _ | (rw [u32w]; first | rfl | omega) | omega | exact wrap_int _ (by omega) (by omega)⟩) hHeld ?_
          try simp only [Act.put, List.setIfInBounds_toArray, List.set_cons_zero, List.set_cons_succ]
          refine wpAnyH_take (i := 7) (oi := { dst := some 38, op := Op.indexAddr 121 (Operand.tmp 3) (Operand.tmp 37), type := 0, pos := "sha.go:97", after := #[{ on := 6, ground := Ground.data }], guard := none }) (v := .pointer (some ⟨w.heap.size + 1, k + 9, none⟩)) rfl (by kernel_rfl) (by kernel_rfl) (by kernel_rfl) (fun _ _ _ h => h) (Or.inl ⟨by rfl, by intro W hSw; go_simp⟩) hHeld ?_
          try simp only [Act.put, List.setIfInBounds_toArray, List.set_cons_zero, List.set_cons_succ]
          refine wpAnyH_take (i := 8) (oi := { dst := some 39, op := Op.load 106 (Operand.tmp 38), type := 106, pos := "sha.go:97", after := #[{ on := 7, ground := Ground.data }], guard := none }) (v := .int .u32 (x7)) rfl (by kernel_rfl) (by kernel_rfl) (by kernel_rfl) (fun _ _ _ h => h) (Or.inl ⟨by rfl, by intro W hSw; obtain ⟨s1, s2⟩ := hSw; go_simp⟩) hHeld ?_
          try simp only [Act.put, List.setIfInBounds_toArray, List.set_cons_zero, List.set_cons_succ]
          refine wpAnyH_take (i := 9) (oi := { dst := some 40, op := Op.binOp BinOp.add 106 (Operand.tmp 35) (Operand.tmp 39) 106, type := 106, pos := "sha.go:97", after := #[{ on := 4, ground := Ground.data }, { on := 8, ground := Ground.data }], guard := none }) (v := .int .u32 (((x16) + (x7)) % 4294967296)) rfl (by kernel_rfl) (by kernel_rfl) (by kernel_rfl) (fun _ _ _ h => h) (Or.inl ⟨by rfl, by intro W hSw; go_simp; first | done | exact u32w _ | (rw [u32w]; first | rfl | omega) | omega | exact wrap_int _ (by omega) (by omega)⟩) hHeld ?_
          try simp only [Act.put, List.setIfInBounds_toArray, List.set_cons_zero, List.set_cons_succ]
          refine wpAnyH_take (i := 10) (oi := { dst := some 41, op := Op.move (Operand.tmp 6), type := 106, pos := "sha.go:97", after := #[], guard := none }) (v := .int .u32 (x15)) rfl (by kernel_rfl) (by kernel_rfl) (by kernel_rfl) (fun _ _ _ h => h) (Or.inl ⟨by rfl, by intro W hSw; go_simp⟩) hHeld ?_
          try simp only [Act.put, List.setIfInBounds_toArray, List.set_cons_zero, List.set_cons_succ]
          refine wpAnyH_take (i := 12) (oi := { dst := some 43, op := Op.move (Operand.tmp 6), type := 106, pos := "sha.go:97", after := #[], guard := none }) (v := .int .u32 (x15)) rfl (by kernel_rfl) (by kernel_rfl) (by kernel_rfl) (fun _ _ _ h => h) (Or.inl ⟨by rfl, by intro W hSw; go_simp⟩) hHeld ?_
          try simp only [Act.put, List.setIfInBounds_toArray, List.set_cons_zero, List.set_cons_succ]
          refine wpAnyH_take (i := 15) (oi := { dst := some 46, op := Op.move (Operand.tmp 6), type := 106, pos := "sha.go:97", after := #[], guard := none }) (v := .int .u32 (x15)) rfl (by kernel_rfl) (by kernel_rfl) (by kernel_rfl) (fun _ _ _ h => h) (Or.inl ⟨by rfl, by intro W hSw; go_simp⟩) hHeld ?_
          try simp only [Act.put, List.setIfInBounds_toArray, List.set_cons_zero, List.set_cons_succ]
          refine wpAnyH_take (i := 16) (oi := { dst := some 47, op := Op.binOp BinOp.shr 106 (Operand.tmp 46) (Operand.const (Value.int IntKind.u64 3)) 114, type := 106, pos := "sha.go:97", after := #[{ on := 15, ground := Ground.data }], guard := none }) (v := .int .u32 ((x15) / 8)) rfl (by kernel_rfl) (by kernel_rfl) (by kernel_rfl) (fun _ _ _ h => h) (Or.inl ⟨by rfl, by intro W hSw; go_simp; first | done | exact u32w _ | (rw [u32w]; first | rfl | omega) | omega | exact wrap_int _ (by omega) (by omega)⟩) hHeld ?_
          try simp only [Act.put, List.setIfInBounds_toArray, List.set_cons_zero, List.set_cons_succ]
          refine wpAnyH_take (i := 19) (oi := { dst := some 50, op := Op.move (Operand.tmp 7), type := 106, pos := "sha.go:97", after := #[], guard := none }) (v := .int .u32 (x2)) rfl (by kernel_rfl) (by kernel_rfl) (by kernel_rfl) (fun _ _ _ h => h) (Or.inl ⟨by rfl, by intro W hSw; go_simp⟩) hHeld ?_
          try simp only [Act.put, List.setIfInBounds_toArray, List.set_cons_zero, List.set_cons_succ]
          refine wpAnyH_take (i := 21) (oi := { dst := some 52, op := Op.move (Operand.tmp 7), type := 106, pos := "sha.go:97", after := #[], guard := none }) (v := .int .u32 (x2)) rfl (by kernel_rfl) (by kernel_rfl) (by kernel_rfl) (fun _ _ _ h => h) (Or.inl ⟨by rfl, by intro W hSw; go_simp⟩) hHeld ?_
          try simp only [Act.put, List.setIfInBounds_toArray, List.set_cons_zero, List.set_cons_succ]
          refine wpAnyH_take (i := 24) (oi := { dst := some 55, op := Op.move (Operand.tmp 7), type := 106, pos := "sha.go:97", after := #[], guard := none }) (v := .int .u32 (x2)) rfl (by kernel_rfl) (by kernel_rfl) (by kernel_rfl) (fun _ _ _ h => h) (Or.inl ⟨by rfl, by intro W hSw; go_simp⟩) hHeld ?_
          try simp only [Act.put, List.setIfInBounds_toArray, List.set_cons_zero, List.set_cons_succ]
          refine wpAnyH_take (i := 25) (oi := { dst := some 56, op := Op.binOp BinOp.shr 106 (Operand.tmp 55) (Operand.const (Value.int IntKind.u64 10)) 114, type := 106, pos := "sha.go:97", after := #[{ on := 24, ground := Ground.data }], guard := none }) (v := .int .u32 ((x2) / 1024)) rfl (by kernel_rfl) (by kernel_rfl) (by kernel_rfl) (fun _ _ _ h => h) (Or.inl ⟨by rfl, by intro W hSw; go_simp; first | done | exact u32w _ | (rw [u32w]; first | rfl | omega) | omega | exact wrap_int _ (by omega) (by omega)⟩) hHeld ?_
          try simp only [Act.put, List.setIfInBounds_toArray, List.set_cons_zero, List.set_cons_succ]
          refine wpAnyH_ready (rs := [11]) (by kernel_rfl) (by simp) ?_
          refine AllReadyH.cons (o := { dst := some 42, op := Op.call { callee := Callee.value (Operand.func 81), args := #[Operand.tmp 41, Operand.const (Value.int IntKind.i64 7)], argTypes := #[106, 3] }, type := 106, pos := "sha.go:97", after := #[{ on := 10, ground := Ground.data }], guard := none }) rfl (fun K hK => ?_) AllReadyH.nil
          go_simp
          refine (T7.out _).mono ?_
          rintro e w' ⟨rfl, rfl⟩
          go_wp2_with fail
          refine hK.out _ _ hHeld (fun hHeld => ?_)
          clear hK K
          try simp only [Act.put, List.setIfInBounds_toArray, List.set_cons_zero, List.set_cons_succ]
          refine wpAnyH_ready (rs := [13]) (by kernel_rfl) (by simp) ?_
          refine AllReadyH.cons (o := { dst := some 44, op := Op.call { callee := Callee.value (Operand.func 81), args := #[Operand.tmp 43, Operand.const (Value.int IntKind.i64 18)], argTypes := #[106, 3] }, type := 106, pos := "sha.go:97", after := #[{ on := 12, ground := Ground.data }, { on := 11, ground := Ground.chain }], guard := none }) rfl (fun K hK => ?_) AllReadyH.nil
          go_simp
          refine (T18.out _).mono ?_
          rintro e w' ⟨rfl, rfl⟩
          go_wp2_with fail
          refine hK.out _ _ hHeld (fun hHeld => ?_)
          clear hK K
          try simp only [Act.put, List.setIfInBounds_toArray, List.set_cons_zero, List.set_cons_succ]
          refine wpAnyH_take (i := 14) (oi := { dst := some 45, op := Op.binOp BinOp.xor 106 (Operand.tmp 42) (Operand.tmp 44) 106, type := 106, pos := "sha.go:97", after := #[{ on := 11, ground := Ground.data }, { on := 13, ground := Ground.data }], guard := none }) (v := .int .u32 (bits .xor .u32 (rot (x15) 128 33554432) (rot (x15) 262144 16384))) rfl (by kernel_rfl) (by kernel_rfl) (by kernel_rfl) (fun _ _ _ h => h) (Or.inl ⟨by rfl, by intro W hSw; go_simp; first | done | exact u32w _ | (rw [u32w]; first | rfl | omega) | omega | exact wrap_int _ (by omega) (by omega)⟩) hHeld ?_
          try simp only [Act.put, List.setIfInBounds_toArray, List.set_cons_zero, List.set_cons_succ]
          refine wpAnyH_take (i := 17) (oi := { dst := some 48, op := Op.binOp BinOp.xor 106 (Operand.tmp 45) (Operand.tmp 47) 106, type := 106, pos := "sha.go:97", after := #[{ on := 14, ground := Ground.data }, { on := 16, ground := Ground.data }], guard := none }) (v := .int .u32 (bits .xor .u32 (bits .xor .u32 (rot (x15) 128 33554432) (rot (x15) 262144 16384)) ((x15) / 8))) rfl (by kernel_rfl) (by kernel_rfl) (by kernel_rfl) (fun _ _ _ h => h) (Or.inl ⟨by rfl, by intro W hSw; go_simp; first | done | exact u32w _ | (rw [u32w]; first | rfl | omega) | omega | exact wrap_int _ (by omega) (by omega)⟩) hHeld ?_
          try simp only [Act.put, List.setIfInBounds_toArray, List.set_cons_zero, List.set_cons_succ]
          refine wpAnyH_take (i := 18) (oi := { dst := some 49, op := Op.binOp BinOp.add 106 (Operand.tmp 40) (Operand.tmp 48) 106, type := 106, pos := "sha.go:97", after := #[{ on := 9, ground := Ground.data }, { on := 17, ground := Ground.data }], guard := none }) (v := .int .u32 (((((x16) + (x7)) % 4294967296) + (bits .xor .u32 (bits .xor .u32 (rot (x15) 128 33554432) (rot (x15) 262144 16384)) ((x15) / 8))) % 4294967296)) rfl (by kernel_rfl) (by kernel_rfl) (by kernel_rfl) (fun _ _ _ h => h) (Or.inl ⟨by rfl, by intro W hSw; go_simp; first | done | exact u32w _ | (rw [u32w]; first | rfl | omega) | omega | exact wrap_int _ (by omega) (by omega)⟩) hHeld ?_
          try simp only [Act.put, List.setIfInBounds_toArray, List.set_cons_zero, List.set_cons_succ]
          refine wpAnyH_ready (rs := [20]) (by kernel_rfl) (by simp) ?_
          refine AllReadyH.cons (o := { dst := some 51, op := Op.call { callee := Callee.value (Operand.func 81), args := #[Operand.tmp 50, Operand.const (Value.int IntKind.i64 17)], argTypes := #[106, 3] }, type := 106, pos := "sha.go:97", after := #[{ on := 19, ground := Ground.data }, { on := 13, ground := Ground.chain }], guard := none }) rfl (fun K hK => ?_) AllReadyH.nil
          go_simp
          refine (T17.out _).mono ?_
          rintro e w' ⟨rfl, rfl⟩
          go_wp2_with fail
          refine hK.out _ _ hHeld (fun hHeld => ?_)
          clear hK K
          try simp only [Act.put, List.setIfInBounds_toArray, List.set_cons_zero, List.set_cons_succ]
          refine wpAnyH_ready (rs := [22]) (by kernel_rfl) (by simp) ?_
          refine AllReadyH.cons (o := { dst := some 53, op := Op.call { callee := Callee.value (Operand.func 81), args := #[Operand.tmp 52, Operand.const (Value.int IntKind.i64 19)], argTypes := #[106, 3] }, type := 106, pos := "sha.go:97", after := #[{ on := 21, ground := Ground.data }, { on := 20, ground := Ground.chain }], guard := none }) rfl (fun K hK => ?_) AllReadyH.nil
          go_simp
          refine (T19.out _).mono ?_
          rintro e w' ⟨rfl, rfl⟩
          go_wp2_with fail
          refine hK.out _ _ hHeld (fun hHeld => ?_)
          clear hK K
          try simp only [Act.put, List.setIfInBounds_toArray, List.set_cons_zero, List.set_cons_succ]
          refine wpAnyH_take (i := 23) (oi := { dst := some 54, op := Op.binOp BinOp.xor 106 (Operand.tmp 51) (Operand.tmp 53) 106, type := 106, pos := "sha.go:97", after := #[{ on := 20, ground := Ground.data }, { on := 22, ground := Ground.data }], guard := none }) (v := .int .u32 (bits .xor .u32 (rot (x2) 131072 32768) (rot (x2) 524288 8192))) rfl (by kernel_rfl) (by kernel_rfl) (by kernel_rfl) (fun _ _ _ h => h) (Or.inl ⟨by rfl, by intro W hSw; go_simp; first | done | exact u32w _ | (rw [u32w]; first | rfl | omega) | omega | exact wrap_int _ (by omega) (by omega)⟩) hHeld ?_
          try simp only [Act.put, List.setIfInBounds_toArray, List.set_cons_zero, List.set_cons_succ]
          refine wpAnyH_take (i := 26) (oi := { dst := some 57, op := Op.binOp BinOp.xor 106 (Operand.tmp 54) (Operand.tmp 56) 106, type := 106, pos := "sha.go:97", after := #[{ on := 23, ground := Ground.data }, { on := 25, ground := Ground.data }], guard := none }) (v := .int .u32 (bits .xor .u32 (bits .xor .u32 (rot (x2) 131072 32768) (rot (x2) 524288 8192)) ((x2) / 1024))) rfl (by kernel_rfl) (by kernel_rfl) (by kernel_rfl) (fun _ _ _ h => h) (Or.inl ⟨by rfl, by intro W hSw; go_simp; first | done | exact u32w _ | (rw [u32w]; first | rfl | omega) | omega | exact wrap_int _ (by omega) (by omega)⟩) hHeld ?_
          try simp only [Act.put, List.setIfInBounds_toArray, List.set_cons_zero, List.set_cons_succ]
          refine wpAnyH_take (i := 27) (oi := { dst := some 58, op := Op.binOp BinOp.add 106 (Operand.tmp 49) (Operand.tmp 57) 106, type := 106, pos := "sha.go:97", after := #[{ on := 18, ground := Ground.data }, { on := 26, ground := Ground.data }], guard := none }) (v := .int .u32 (((((((x16) + (x7)) % 4294967296) + (bits .xor .u32 (bits .xor .u32 (rot (x15) 128 33554432) (rot (x15) 262144 16384)) ((x15) / 8))) % 4294967296) + (bits .xor .u32 (bits .xor .u32 (rot (x2) 131072 32768) (rot (x2) 524288 8192)) ((x2) / 1024))) % 4294967296)) rfl (by kernel_rfl) (by kernel_rfl) (by kernel_rfl) (fun _ _ _ h => h) (Or.inl ⟨by rfl, by intro W hSw; go_simp; first | done | exact u32w _ | (rw [u32w]; first | rfl | omega) | omega | exact wrap_int _ (by omega) (by omega)⟩) hHeld ?_
          try simp only [Act.put, List.setIfInBounds_toArray, List.set_cons_zero, List.set_cons_succ]
          refine wpAnyH_take (i := 28) (oi := { dst := some 59, op := Op.indexAddr 121 (Operand.tmp 3) (Operand.tmp 31), type := 0, pos := "sha.go:97", after := #[{ on := 0, ground := Ground.data }, { on := 0, ground := Ground.phase }, { on := 1, ground := Ground.phase }, { on := 2, ground := Ground.phase }, { on := 3, ground := Ground.phase }, { on := 4, ground := Ground.phase }, { on := 5, ground := Ground.phase }, { on := 6, ground := Ground.phase }, { on := 7, ground := Ground.phase }, { on := 8, ground := Ground.phase }, { on := 9, ground := Ground.phase }, { on := 10, ground := Ground.phase }, { on := 11, ground := Ground.phase }, { on := 12, ground := Ground.phase }, { on := 13, ground := Ground.phase }, { on := 14, ground := Ground.phase }, { on := 15, ground := Ground.phase }, { on := 16, ground := Ground.phase }, { on := 17, ground := Ground.phase }, { on := 18, ground := Ground.phase }, { on := 19, ground := Ground.phase }, { on := 20, ground := Ground.phase }, { on := 21, ground := Ground.phase }, { on := 22, ground := Ground.phase }, { on := 23, ground := Ground.phase }, { on := 24, ground := Ground.phase }, { on := 25, ground := Ground.phase }, { on := 26, ground := Ground.phase }, { on := 27, ground := Ground.phase }], guard := none }) (v := .pointer (some ⟨w.heap.size + 1, k + 16, none⟩)) rfl (by kernel_rfl) (by kernel_rfl) (by kernel_rfl) (fun _ _ _ h => h) (Or.inl ⟨by rfl, by intro W hSw; go_simp⟩) hHeld ?_
          try simp only [Act.put, List.setIfInBounds_toArray, List.set_cons_zero, List.set_cons_succ]
          refine wpAnyH_ready (rs := [29]) (by kernel_rfl) (by simp) ?_
          refine AllReadyH.cons (o := { dst := none, op := Op.store 106 (Operand.tmp 59) (Operand.tmp 58), type := 0, pos := "sha.go:97", after := #[{ on := 28, ground := Ground.data }, { on := 27, ground := Ground.data }, { on := 22, ground := Ground.chain }, { on := 0, ground := Ground.phase }, { on := 1, ground := Ground.phase }, { on := 2, ground := Ground.phase }, { on := 3, ground := Ground.phase }, { on := 4, ground := Ground.phase }, { on := 5, ground := Ground.phase }, { on := 6, ground := Ground.phase }, { on := 7, ground := Ground.phase }, { on := 8, ground := Ground.phase }, { on := 9, ground := Ground.phase }, { on := 10, ground := Ground.phase }, { on := 11, ground := Ground.phase }, { on := 12, ground := Ground.phase }, { on := 13, ground := Ground.phase }, { on := 14, ground := Ground.phase }, { on := 15, ground := Ground.phase }, { on := 16, ground := Ground.phase }, { on := 17, ground := Ground.phase }, { on := 18, ground := Ground.phase }, { on := 19, ground := Ground.phase }, { on := 20, ground := Ground.phase }, { on := 21, ground := Ground.phase }, { on := 22, ground := Ground.phase }, { on := 23, ground := Ground.phase }, { on := 24, ground := Ground.phase }, { on := 25, ground := Ground.phase }, { on := 26, ground := Ground.phase }, { on := 27, ground := Ground.phase }], guard := none }) rfl (fun K hK => ?_) AllReadyH.nil
          go_simp
          try go_wp2_with fail
          refine hK.out _ _ ⟨(World.cell?_setCell_other _ _ _ _ (by simp)).trans c16, (World.cell?_setCell_other _ _ _ _ (by simp)).trans c7⟩ (fun hHeld => ?_)
          clear hK K
          try simp only [Act.put, List.setIfInBounds_toArray, List.set_cons_zero, List.set_cons_succ]
          refine wpAnyH_done (by kernel_rfl) ?_ _
          have HN : Hid ((x16 + x7 + bits .xor .u32 (bits .xor .u32 (rot x15 128 33554432) (rot x15 262144 16384)) (x15 / 8) + bits .xor .u32 (bits .xor .u32 (rot x2 131072 32768) (rot x2 524288 8192)) (x2 / 1024)) % 4294967296 = nextW l) := by
            show _ = _
            have h1 := HLn.out
            unfold nextW
            rw [h1, show k + 16 - 16 = k by omega, show k + 16 - 7 = k + 9 by omega, show k + 16 - 15 = k + 1 by omega, show k + 16 - 2 = k + 14 by omega, ← X16.out, ← X7.out, ← X15.out, ← X2.out]
            unfold add32 xor32
            omega
          have HFS : Hid (fill (grow (words16 bl) (k + 1)) = (fill l).set (k + 16) (nextW l)) := by
            show _ = _
            have h1 := HLn.out
            have := fill_set l (nextW l) (by omega)
            rw [h1] at this
            rw [this]
            unfold grow
            rw [← HLW.out]
          go_wp2
          rw [HN.out]
          go_roundw
          case rel =>
            refine ⟨k + 1, by omega, by go_num, ?_, ?_, (below_drewN hB _).setCell (by simp) _⟩
            · show _ = _
              rw [heap_setCell_other _ _ _ _ (by simp)]
              exact HR.out
            · show _ = _
              rw [HFS.out]
              exact wrow_set (w := wr.drewN _) HD.out (k + 16) _
          case measure => simp [intOf]; omega
        · obtain rfl : k = 48 := by omega
          obtain ⟨D, HDD⟩ : ∃ D, Hid (D = (wcells (sched bl)).toArray) := ⟨_, (rfl : (wcells (sched bl)).toArray = _)⟩
          have HDL : Hid (wr.heap[w.heap.size + 1]? = some (.cells D 121 (0, 0))) := by
            show _ = _
            rw [HDD.out]
            have := HD.out
            have e : fill (grow (words16 bl) 48) = sched bl := by
              unfold fill sched
              rw [grow_length, words16_length]
              simp
            rw [e] at this
            exact this
          have HD64 : Hid (Z.size = D.size) := by
            show _ = _
            rw [HZ64.out, HDD.out]
            simp [wcells_length, sched, grow_length, words16_length]
          have HSD : Hid ((Tryd.prog.info? 121).map (·.size) = some D.size) := by
            show _ = _
            rw [← HD64.out]; exact HS.out
          have H1D : Hid (D.all (·.oneCell') = true) := by
            show _ = _
            rw [HDD.out]; exact wcells_all _
          go_wp2_with (first
            | (refine wpList_load_row rfl 121 (.tmp 3) rfl (w.heap.size + 1) rfl 121 D (0, 0) _ HDL.out Tryd.underlying121 rfl HSD.out ?_)
            | (refine wpList_store_row rfl 121 (.tmp 2) (.tmp 60) rfl w.heap.size D rfl rfl 121 Z HR.out HSD.out HD64.out H1D.out ?_)
            | fail)
          refine bodyPost_ret (v := .agg D) ?_ rfl ⟨?_, ?_⟩
          · exact results_cell_row (p := 2) (ty := 121) rfl _ _ w.heap.size 121 D (0, 0) _ rfl (setRow_heap _ _ _ _ 121 _ HR.out) Tryd.underlying121 rfl HSD.out
          · rw [HDD.out]
          · exact below_setRow hB (Nat.le_refl _) _
end Go.Proofs.YtdnhnjimhbbabaaDoor

/- What sha.mixed answers: the state behind a block. -/
namespace Go.Proofs.YtdnhnjimhbbabaaDoor
open Go.RowKit Sums
set_option linter.unusedVariables false
set_option linter.unusedSimpArgs false
/-- The table of constants lies where it was laid. -/
def Table (g : Nat) (w : World) : Prop := g < w.heap.size ∧ ∀ k, k < 64 → w.cell? ⟨g, k, none⟩ = some (.int .u32 (kT.getD k 0))
theorem Table.keep {g : Nat} {w w' : World} (h : Table g w) (hb : Below w.heap.size w w') : Table g w' :=
  ⟨Nat.lt_of_lt_of_le h.1 hb.size, fun k hk => by rw [hb.cell (p := ⟨g, k, none⟩) h.1]; exact h.2 k hk⟩
def OkSt (s : St) : Prop := Ok s.list
theorem list_length (s : St) : s.list.length = 8 := rfl
theorem step_ok (s : St) (k w : Int) (h : OkSt s) : OkSt (Sums.step s k w) := by
  intro z hz
  simp only [Sums.step, St.list, List.mem_cons, List.not_mem_nil, or_false] at hz
  have H : ∀ y ∈ s.list, 0 ≤ y ∧ y ≤ 4294967295 := h
  simp only [St.list, List.mem_cons, List.not_mem_nil, or_false, forall_eq_or_imp, forall_eq] at H
  rcases hz with rfl | rfl | rfl | rfl | rfl | rfl | rfl | rfl
  · exact add32_range _ _
  · exact H.1
  · exact H.2.1
  · exact H.2.2.1
  · exact add32_range _ _
  · exact H.2.2.2.2.1
  · exact H.2.2.2.2.2.1
  · exact H.2.2.2.2.2.2.1
theorem run_ok (s : St) (w : List Int) (n : Nat) (h : OkSt s) : OkSt (Sums.run s w n) := by
  induction n with
  | zero => exact h
  | succ n ih => exact step_ok _ _ _ ih
theorem plus_ok (s r : St) : OkSt (plus s r) := by
  intro z hz
  simp only [plus, St.list, List.mem_cons, List.not_mem_nil, or_false] at hz
  rcases hz with rfl | rfl | rfl | rfl | rfl | rfl | rfl | rfl <;> exact add32_range _ _
theorem sched_length (b : List UInt8) : (sched b).length = 64 := by simp [sched, grow_length, words16_length]
theorem size38 : (Tryd.prog.info? 107).map (·.size) = some 8 := by kernel_rfl
theorem zero38 : (Tryd.prog.info? 107).map (fun i => (i.zero, i.size)) = some (some (.agg (wcells (List.replicate 8 0)).toArray), 8) := by kernel_rfl
theorem noughts38 : ∃ Z : Array Value, Hid ((Tryd.prog.info? 107).map (fun i => (i.zero, i.size)) = some (some (.agg Z), Z.size)) ∧
    Hid ((Tryd.prog.info? 107).map (·.size) = some Z.size) ∧ Hid (Z.size = 8) :=
  ⟨(wcells (List.replicate 8 0)).toArray, zero38, size38, (rfl : _ = _)⟩
/-- A row of words: what a walk asks of it. -/
theorem words_row (l : List Int) (t n : Nat) (hl : l.length = n) (hs : (Tryd.prog.info? t).map (·.size) = some n) : ∃ D : Array Value, Hid (D = (wcells l).toArray) ∧ Hid ((Tryd.prog.info? t).map (·.size) = some D.size) ∧ Hid (D.all (·.oneCell') = true) ∧ Hid (D.size = n) := by
  refine ⟨(wcells l).toArray, (rfl : _ = _), ?_, wcells_all l, ?_⟩
  · show _ = _
    rw [hs]; simp [wcells_length, hl]
  · show _ = _
    simp [wcells_length, hl]
set_option maxHeartbeats 2000000 in
set_option maxRecDepth 100000 in
theorem mixed_any (s : St) (b off cap : Nat) (bl : List UInt8) (w : World) (hs : OkSt s) (hl : bl.length = 64) (hc : 64 ≤ cap) (hc2 : cap ≤ 9223372036854775807) (hb : b < w.heap.size) (hL : Lies w b off bl) (hT : Table 0 w) :
    Calls Tryd.prog 69 #[.agg (wcells s.list).toArray, .slice (some ⟨b, off, none⟩) 64 cap] w fun e w' => e = .returned (.agg (wcells (block s bl).list).toArray) ∧ Below w.heap.size w w' := by
  obtain ⟨Z8, HA8, HS8, H8⟩ := noughts38
  obtain ⟨Z, HZ, HA, HS, H1, HZ64⟩ := noughts45
  obtain ⟨D, HD, HSD, H1D, H8D⟩ := words_row s.list 107 8 rfl size38
  obtain ⟨V, HV, HSV, H1V, H64V⟩ := words_row (sched bl) 121 64 (sched_length bl) size45
  have HZV : Hid (Z.size = V.size) := by show _ = _; rw [HZ64.out, H64V.out]
  have HTB : Hid (Table 0 w) := hT
  have HOK : Hid (OkSt s) := hs
  have HK : Hid (∀ w1, Below w.heap.size w w1 → Calls Tryd.prog 80 #[.slice (some ⟨b, off, none⟩) 64 cap] w1 fun e w' => e = .returned (.agg V) ∧ Below w1.heap.size w1 w') := by
    intro w1 hb1
    rw [HV.out]
    exact sched_any b off cap bl w1 hl hc hc2 (Nat.lt_of_lt_of_le hb hb1.size) (hL.keep hb1 hb)
  rw [← HD.out]
  clear hL hl hT hs
  go_enter Tryd.func69, Tryd.ntmps69
  go_wp2_with (first
    | (refine wpList_alloc_row rfl 107 rfl Z8 HA8.out ?_)
    | fail)
  have hB0 : Below w.heap.size w ((w.alloc (.cells D 107)).alloc (.cells Z8 107)) := ((Below.refl _ _).alloc (Nat.le_refl _) _).alloc (by simp) _
  refine (HK.out _ hB0).mono ?_
  rintro e w1 ⟨rfl, hb1⟩
  have hs1 := hb1.size
  simp only [World.size_alloc] at hs1
  go_wp2_with (first
    | (refine wpList_alloc_row rfl 121 rfl Z HA.out ?_)
    | (refine wpList_store_row rfl 121 (.tmp 5) (.tmp 18) rfl w1.heap.size V rfl rfl 121 Z (heap_alloc_new w1 _) HSV.out HZV.out H1V.out ?_)
    | fail)
  obtain ⟨w2, hw2⟩ : ∃ w2, w2 = (w1.alloc (.cells Z 121)).setRow w1.heap.size V := ⟨_, rfl⟩
  rw [← hw2]
  have HG : Hid (w2.heap[w.heap.size]? = some (.cells D 107 (0, 0)) ∧ w2.heap[w.heap.size + 1]? = some (.cells Z8 107 (0, 0)) ∧ w2.heap[w1.heap.size]? = some (.cells V 121 (0, 0))) := by
    rw [hw2]
    refine ⟨keep_var ?_ _ _, keep_var ?_ _ _, new_var w1 Z V 121⟩
    · rw [hb1.block _ (by simp only [World.size_alloc]; omega)]; exact heap_alloc2_old w _ _
    · rw [hb1.block _ (by simp only [World.size_alloc]; omega)]; exact heap_alloc2_new w _ _
  have hB2 : Below w.heap.size w w2 := by
    rw [hw2]
    exact below_var (hB0.trans (hb1.mono (by simp only [World.size_alloc]; omega))) (by omega) _ _
  have HT2 : Hid (Table 0 w2) := HTB.out.keep hB2
  obtain ⟨gw, HGW⟩ : ∃ gw, Hid (gw = w1.heap.size) := ⟨_, (rfl : w1.heap.size = _)⟩
  rw [← HGW.out] at HG ⊢
  clear hw2 hb1 hs1 hB0 HK HTB
  have D8 : ∀ j, (hj : j < 8) → w2.cell? ⟨w.heap.size, j, none⟩ = some (.int .u32 (s.list[j]'(by rw [list_length]; exact hj))) := fun j hj => by
    have := HG.out.1
    rw [HD.out] at this
    exact wrow_cell this j hj
  have d0 : w2.cell? ⟨w.heap.size, 0, none⟩ = some (.int .u32 s.a) := D8 0 (by omega)
  have d1 : w2.cell? ⟨w.heap.size, 1, none⟩ = some (.int .u32 s.b) := D8 1 (by omega)
  have d2 : w2.cell? ⟨w.heap.size, 2, none⟩ = some (.int .u32 s.c) := D8 2 (by omega)
  have d3 : w2.cell? ⟨w.heap.size, 3, none⟩ = some (.int .u32 s.d) := D8 3 (by omega)
  have d4 : w2.cell? ⟨w.heap.size, 4, none⟩ = some (.int .u32 s.e) := D8 4 (by omega)
  have d5 : w2.cell? ⟨w.heap.size, 5, none⟩ = some (.int .u32 s.f) := D8 5 (by omega)
  have d6 : w2.cell? ⟨w.heap.size, 6, none⟩ = some (.int .u32 s.g) := D8 6 (by omega)
  have d7 : w2.cell? ⟨w.heap.size, 7, none⟩ = some (.int .u32 s.h) := D8 7 (by omega)
  clear D8
  go_quiet (fail)
  go_wp2
  go_quiet (fail)
  go_wp2
  go_loopw [6, 7, 8, 9, 10, 11, 12, 13, 35] (fun v6 v7 v8 v9 v10 v11 v12 v13 v35 wr => ∃ (k : Nat) (r : St) (n : Nat), k ≤ 64 ∧ v35 = .int .i64 k ∧ v6 = .int .u32 r.a ∧ v7 = .int .u32 r.b ∧ v8 = .int .u32 r.c ∧ v9 = .int .u32 r.d ∧
      v10 = .int .u32 r.e ∧ v11 = .int .u32 r.f ∧ v12 = .int .u32 r.g ∧ v13 = .int .u32 r.h ∧ Hid (r = Sums.run s (sched bl) k) ∧ wr = w2.drewN n)
    (fun _ _ _ _ _ _ _ _ v _ => 64 - (intOf v).toNat)
  case atStart => exact ⟨0, s, _, by omega, rfl, rfl, rfl, rfl, rfl, rfl, rfl, rfl, rfl, (rfl : s = _), by rw [World.drewN_drewN]⟩
  case round =>
    obtain ⟨k, r, n, hk, rfl, rfl, rfl, rfl, rfl, rfl, rfl, rfl, rfl, HR, rfl⟩ := hrel
    by_cases hlt : k < 64
    · have hdi : decide ((k : Int) < 64) = true := by rw [decide_eq_true_eq]; omega
      have HOr : Hid (OkSt r) := by show OkSt _; rw [HR.out]; exact run_ok _ _ _ HOK.out
      obtain ⟨kk, HKK⟩ : ∃ kk, Hid (kk = kT.getD k 0) := ⟨_, (rfl : kT.getD k 0 = _)⟩
      obtain ⟨ww, HWW⟩ : ∃ ww, Hid (ww = (sched bl).getD k 0) := ⟨_, (rfl : (sched bl).getD k 0 = _)⟩
      have ck : (w2.drewN n).cell? ⟨0, k, none⟩ = some (.int .u32 kk) := by
        rw [HKK.out]; exact HT2.out.2 k hlt
      have cw : (w2.drewN n).cell? ⟨gw, k, none⟩ = some (.int .u32 ww) := by
        have h1 := HG.out.2.2
        rw [HV.out] at h1
        have := wrow_cell h1 k (by rw [sched_length]; omega)
        rw [HWW.out]
        simpa [List.getD, List.getElem?_eq_getElem (show k < (sched bl).length by rw [sched_length]; omega)] using this
      have HE : Hid (Sums.step r kk ww = Sums.run s (sched bl) (k + 1)) := by
        show _ = _
        rw [HKK.out, HWW.out, HR.out]
        rfl
      obtain ⟨ra, rb, rc, rd, re, rf, rg, rh⟩ := r
      have HB : Hid ((0 ≤ ra ∧ ra ≤ 4294967295) ∧ (0 ≤ re ∧ re ≤ 4294967295)) := ⟨HOr.out ra (by simp [St.list]), HOr.out re (by simp [St.list])⟩
      have T6 : Hid _ := fun w => turned_any re 6 64 67108864 w HB.out.2.1 HB.out.2.2 (by unfold Turn; decide)
      have T11 : Hid _ := fun w => turned_any re 11 2048 2097152 w HB.out.2.1 HB.out.2.2 (by unfold Turn; decide)
      have T25 : Hid _ := fun w => turned_any re 25 33554432 128 w HB.out.2.1 HB.out.2.2 (by unfold Turn; decide)
      have T2 : Hid _ := fun w => turned_any ra 2 4 1073741824 w HB.out.1.1 HB.out.1.2 (by unfold Turn; decide)
      have T13 : Hid _ := fun w => turned_any ra 13 8192 524288 w HB.out.1.1 HB.out.1.2 (by unfold Turn; decide)
      have T22 : Hid _ := fun w => turned_any ra 22 4194304 1024 w HB.out.1.1 HB.out.1.2 (by unfold Turn; decide)
      have ia := fun W => idxW W 0 k (k : Int) rfl hlt
      have ib := fun W => idxW W gw k (k : Int) rfl hlt
      clear HR HOr
      go_wp2
      refine wp_region_held_drew (S := (fun W => W.cell? ⟨0, k, none⟩ = some (.int .u32 kk) ∧ W.cell? ⟨gw, k, none⟩ = some (.int .u32 ww))) (by kernel_rfl) ⟨ck, cw⟩ (fun hHeld => ?_)
      refine wpAnyH_take (i := 0) (oi := { dst := some 38, op := Op.move (Operand.tmp 13), type := 106, pos := "sha.go:79", after := #[], guard := none }) (v := .int .u32 (rh)) rfl (by kernel_rfl) (by kernel_rfl) (by kernel_rfl) (fun _ _ _ h => h) (Or.inl ⟨by rfl, by intro W hSw; go_simp⟩) hHeld ?_
      try simp only [Act.put, List.setIfInBounds_toArray, List.set_cons_zero, List.set_cons_succ]
      refine wpAnyH_take (i := 1) (oi := { dst := some 39, op := Op.move (Operand.tmp 10), type := 106, pos := "sha.go:79", after := #[], guard := none }) (v := .int .u32 (re)) rfl (by kernel_rfl) (by kernel_rfl) (by kernel_rfl) (fun _ _ _ h => h) (Or.inl ⟨by rfl, by intro W hSw; go_simp⟩) hHeld ?_
      try simp only [Act.put, List.setIfInBounds_toArray, List.set_cons_zero, List.set_cons_succ]
      refine wpAnyH_take (i := 3) (oi := { dst := some 41, op := Op.move (Operand.tmp 10), type := 106, pos := "sha.go:79", after := #[], guard := none }) (v := .int .u32 (re)) rfl (by kernel_rfl) (by kernel_rfl) (by kernel_rfl) (fun _ _ _ h => h) (Or.inl ⟨by rfl, by intro W hSw; go_simp⟩) hHeld ?_
      try simp only [Act.put, List.setIfInBounds_toArray, List.set_cons_zero, List.set_cons_succ]
      refine wpAnyH_take (i := 6) (oi := { dst := some 44, op := Op.move (Operand.tmp 10), type := 106, pos := "sha.go:79", after := #[], guard := none }) (v := .int .u32 (re)) rfl (by kernel_rfl) (by kernel_rfl) (by kernel_rfl) (fun _ _ _ h => h) (Or.inl ⟨by rfl, by intro W hSw; go_simp⟩) hHeld ?_
      try simp only [Act.put, List.setIfInBounds_toArray, List.set_cons_zero, List.set_cons_succ]
      refine wpAnyH_take (i := 10) (oi := { dst := some 48, op := Op.move (Operand.tmp 10), type := 106, pos := "sha.go:79", after := #[], guard := none }) (v := .int .u32 (re)) rfl (by kernel_rfl) (by kernel_rfl) (by kernel_rfl) (fun _ _ _ h => h) (Or.inl ⟨by rfl, by intro W hSw; go_simp⟩) hHeld ?_
      try simp only [Act.put, List.setIfInBounds_toArray, List.set_cons_zero, List.set_cons_succ]
      refine wpAnyH_take (i := 11) (oi := { dst := some 49, op := Op.move (Operand.tmp 11), type := 106, pos := "sha.go:79", after := #[], guard := none }) (v := .int .u32 (rf)) rfl (by kernel_rfl) (by kernel_rfl) (by kernel_rfl) (fun _ _ _ h => h) (Or.inl ⟨by rfl, by intro W hSw; go_simp⟩) hHeld ?_
      try simp only [Act.put, List.setIfInBounds_toArray, List.set_cons_zero, List.set_cons_succ]
      refine wpAnyH_take (i := 12) (oi := { dst := some 50, op := Op.binOp BinOp.and 106 (Operand.tmp 48) (Operand.tmp 49) 106, type := 106, pos := "sha.go:79", after := #[{ on := 10, ground := Ground.data }, { on := 11, ground := Ground.data }], guard := none }) (v := .int .u32 (bits .and .u32 (re) (rf))) rfl (by kernel_rfl) (by kernel_rfl) (by kernel_rfl) (fun _ _ _ h => h) (Or.inl ⟨by rfl, by intro W hSw; go_simp; first | done | exact u32w _ | (rw [u32w]; first | rfl | omega) | omega | exact wrap_int _ (by omega) (by omega)⟩) hHeld ?_
      try simp only [Act.put, List.setIfInBounds_toArray, List.set_cons_zero, List.set_cons_succ]
      refine wpAnyH_take (i := 13) (oi := { dst := some 51, op := Op.move (Operand.tmp 10), type := 106, pos := "sha.go:79", after := #[], guard := none }) (v := .int .u32 (re)) rfl (by kernel_rfl) (by kernel_rfl) (by kernel_rfl) (fun _ _ _ h => h) (Or.inl ⟨by rfl, by intro W hSw; go_simp⟩) hHeld ?_
      try simp only [Act.put, List.setIfInBounds_toArray, List.set_cons_zero, List.set_cons_succ]
      refine wpAnyH_take (i := 14) (oi := { dst := some 52, op := Op.unOp UnOp.xor 106 (Operand.tmp 51), type := 106, pos := "sha.go:79", after := #[{ on := 13, ground := Ground.data }], guard := none }) (v := .int .u32 (bits .xor .u32 4294967295 (re))) rfl (by kernel_rfl) (by kernel_rfl) (by kernel_rfl) (fun _ _ _ h => h) (Or.inl ⟨by rfl, by intro W hSw; go_simp; first | done | rfl⟩) hHeld ?_
      try simp only [Act.put, List.setIfInBounds_toArray, List.set_cons_zero, List.set_cons_succ]
      refine wpAnyH_take (i := 15) (oi := { dst := some 53, op := Op.move (Operand.tmp 12), type := 106, pos := "sha.go:79", after := #[], guard := none }) (v := .int .u32 (rg)) rfl (by kernel_rfl) (by kernel_rfl) (by kernel_rfl) (fun _ _ _ h => h) (Or.inl ⟨by rfl, by intro W hSw; go_simp⟩) hHeld ?_
      try simp only [Act.put, List.setIfInBounds_toArray, List.set_cons_zero, List.set_cons_succ]
      refine wpAnyH_take (i := 16) (oi := { dst := some 54, op := Op.binOp BinOp.and 106 (Operand.tmp 52) (Operand.tmp 53) 106, type := 106, pos := "sha.go:79", after := #[{ on := 14, ground := Ground.data }, { on := 15, ground := Ground.data }], guard := none }) (v := .int .u32 (bits .and .u32 (bits .xor .u32 4294967295 (re)) (rg))) rfl (by kernel_rfl) (by kernel_rfl) (by kernel_rfl) (fun _ _ _ h => h) (Or.inl ⟨by rfl, by intro W hSw; go_simp; first | done | exact u32w _ | (rw [u32w]; first | rfl | omega) | omega | exact wrap_int _ (by omega) (by omega)⟩) hHeld ?_
      try simp only [Act.put, List.setIfInBounds_toArray, List.set_cons_zero, List.set_cons_succ]
      refine wpAnyH_take (i := 17) (oi := { dst := some 55, op := Op.binOp BinOp.xor 106 (Operand.tmp 50) (Operand.tmp 54) 106, type := 106, pos := "sha.go:79", after := #[{ on := 12, ground := Ground.data }, { on := 16, ground := Ground.data }], guard := none }) (v := .int .u32 (bits .xor .u32 (bits .and .u32 (re) (rf)) (bits .and .u32 (bits .xor .u32 4294967295 (re)) (rg)))) rfl (by kernel_rfl) (by kernel_rfl) (by kernel_rfl) (fun _ _ _ h => h) (Or.inl ⟨by rfl, by intro W hSw; go_simp; first | done | exact u32w _ | (rw [u32w]; first | rfl | omega) | omega | exact wrap_int _ (by omega) (by omega)⟩) hHeld ?_
      try simp only [Act.put, List.setIfInBounds_toArray, List.set_cons_zero, List.set_cons_succ]
      refine wpAnyH_take (i := 19) (oi := { dst := some 57, op := Op.move (Operand.tmp 14), type := 3, pos := "sha.go:79", after := #[], guard := none }) (v := .int .i64 (k : Int)) rfl (by kernel_rfl) (by kernel_rfl) (by kernel_rfl) (fun _ _ _ h => h) (Or.inl ⟨by rfl, by intro W hSw; go_simp⟩) hHeld ?_
      try simp only [Act.put, List.setIfInBounds_toArray, List.set_cons_zero, List.set_cons_succ]
      refine wpAnyH_take (i := 20) (oi := { dst := some 58, op := Op.indexAddr 121 (Operand.global 0) (Operand.tmp 57), type := 0, pos := "sha.go:79", after := #[{ on := 19, ground := Ground.data }], guard := none }) (v := .pointer (some ⟨0, k, none⟩)) rfl (by kernel_rfl) (by kernel_rfl) (by kernel_rfl) (fun _ _ _ h => h) (Or.inl ⟨by rfl, by intro W hSw; go_simp⟩) hHeld ?_
      try simp only [Act.put, List.setIfInBounds_toArray, List.set_cons_zero, List.set_cons_succ]
      refine wpAnyH_take (i := 21) (oi := { dst := some 59, op := Op.load 106 (Operand.tmp 58), type := 106, pos := "sha.go:79", after := #[{ on := 20, ground := Ground.data }], guard := none }) (v := .int .u32 (kk)) rfl (by kernel_rfl) (by kernel_rfl) (by kernel_rfl) (fun _ _ _ h => h) (Or.inl ⟨by rfl, by intro W hSw; obtain ⟨s1, s2⟩ := hSw; go_simp⟩) hHeld ?_
      try simp only [Act.put, List.setIfInBounds_toArray, List.set_cons_zero, List.set_cons_succ]
      refine wpAnyH_take (i := 23) (oi := { dst := some 61, op := Op.move (Operand.tmp 14), type := 3, pos := "sha.go:79", after := #[], guard := none }) (v := .int .i64 (k : Int)) rfl (by kernel_rfl) (by kernel_rfl) (by kernel_rfl) (fun _ _ _ h => h) (Or.inl ⟨by rfl, by intro W hSw; go_simp⟩) hHeld ?_
      try simp only [Act.put, List.setIfInBounds_toArray, List.set_cons_zero, List.set_cons_succ]
      refine wpAnyH_take (i := 24) (oi := { dst := some 62, op := Op.indexAddr 121 (Operand.tmp 5) (Operand.tmp 61), type := 0, pos := "sha.go:79", after := #[{ on := 23, ground := Ground.data }], guard := none }) (v := .pointer (some ⟨gw, k, none⟩)) rfl (by kernel_rfl) (by kernel_rfl) (by kernel_rfl) (fun _ _ _ h => h) (Or.inl ⟨by rfl, by intro W hSw; go_simp⟩) hHeld ?_
      try simp only [Act.put, List.setIfInBounds_toArray, List.set_cons_zero, List.set_cons_succ]
      refine wpAnyH_take (i := 25) (oi := { dst := some 63, op := Op.load 106 (Operand.tmp 62), type := 106, pos := "sha.go:79", after := #[{ on := 24, ground := Ground.data }], guard := none }) (v := .int .u32 (ww)) rfl (by kernel_rfl) (by kernel_rfl) (by kernel_rfl) (fun _ _ _ h => h) (Or.inl ⟨by rfl, by intro W hSw; obtain ⟨s1, s2⟩ := hSw; go_simp⟩) hHeld ?_
      try simp only [Act.put, List.setIfInBounds_toArray, List.set_cons_zero, List.set_cons_succ]
      refine wpAnyH_ready (rs := [2]) (by kernel_rfl) (by simp) ?_
      refine AllReadyH.cons (o := { dst := some 40, op := Op.call { callee := Callee.value (Operand.func 81), args := #[Operand.tmp 39, Operand.const (Value.int IntKind.i64 6)], argTypes := #[106, 3] }, type := 106, pos := "sha.go:79", after := #[{ on := 1, ground := Ground.data }], guard := none }) rfl (fun K hK => ?_) AllReadyH.nil
      go_simp
      refine (T6.out _).mono ?_
      rintro e w' ⟨rfl, rfl⟩
      go_wp2_with fail
      refine hK.out _ _ hHeld (fun hHeld => ?_)
      clear hK K
      try simp only [Act.put, List.setIfInBounds_toArray, List.set_cons_zero, List.set_cons_succ]
      refine wpAnyH_ready (rs := [4]) (by kernel_rfl) (by simp) ?_
      refine AllReadyH.cons (o := { dst := some 42, op := Op.call { callee := Callee.value (Operand.func 81), args := #[Operand.tmp 41, Operand.const (Value.int IntKind.i64 11)], argTypes := #[106, 3] }, type := 106, pos := "sha.go:79", after := #[{ on := 3, ground := Ground.data }, { on := 2, ground := Ground.chain }], guard := none }) rfl (fun K hK => ?_) AllReadyH.nil
      go_simp
      refine (T11.out _).mono ?_
      rintro e w' ⟨rfl, rfl⟩
      go_wp2_with fail
      refine hK.out _ _ hHeld (fun hHeld => ?_)
      clear hK K
      try simp only [Act.put, List.setIfInBounds_toArray, List.set_cons_zero, List.set_cons_succ]
      refine wpAnyH_take (i := 5) (oi := { dst := some 43, op := Op.binOp BinOp.xor 106 (Operand.tmp 40) (Operand.tmp 42) 106, type := 106, pos := "sha.go:79", after := #[{ on := 2, ground := Ground.data }, { on := 4, ground := Ground.data }], guard := none }) (v := .int .u32 (bits .xor .u32 (rot (re) 64 67108864) (rot (re) 2048 2097152))) rfl (by kernel_rfl) (by kernel_rfl) (by kernel_rfl) (fun _ _ _ h => h) (Or.inl ⟨by rfl, by intro W hSw; go_simp; first | done | exact u32w _ | (rw [u32w]; first | rfl | omega) | omega | exact wrap_int _ (by omega) (by omega)⟩) hHeld ?_
      try simp only [Act.put, List.setIfInBounds_toArray, List.set_cons_zero, List.set_cons_succ]
      refine wpAnyH_ready (rs := [7]) (by kernel_rfl) (by simp) ?_
      refine AllReadyH.cons (o := { dst := some 45, op := Op.call { callee := Callee.value (Operand.func 81), args := #[Operand.tmp 44, Operand.const (Value.int IntKind.i64 25)], argTypes := #[106, 3] }, type := 106, pos := "sha.go:79", after := #[{ on := 6, ground := Ground.data }, { on := 4, ground := Ground.chain }], guard := none }) rfl (fun K hK => ?_) AllReadyH.nil
      go_simp
      refine (T25.out _).mono ?_
      rintro e w' ⟨rfl, rfl⟩
      go_wp2_with fail
      refine hK.out _ _ hHeld (fun hHeld => ?_)
      clear hK K
      try simp only [Act.put, List.setIfInBounds_toArray, List.set_cons_zero, List.set_cons_succ]
      refine wpAnyH_take (i := 8) (oi := { dst := some 46, op := Op.binOp BinOp.xor 106 (Operand.tmp 43) (Operand.tmp 45) 106, type := 106, pos := "sha.go:79", after := #[{ on := 5, ground := Ground.data }, { on := 7, ground := Ground.data }], guard := none }) (v := .int .u32 (bits .xor .u32 (bits .xor .u32 (rot (re) 64 67108864) (rot (re) 2048 2097152)) (rot (re) 33554432 128))) rfl (by kernel_rfl) (by kernel_rfl) (by kernel_rfl) (fun _ _ _ h => h) (Or.inl ⟨by rfl, by intro W hSw; go_simp; first | done | exact u32w _ | (rw [u32w]; first | rfl | omega) | omega | exact wrap_int _ (by omega) (by omega)⟩) hHeld ?_
      try simp only [Act.put, List.setIfInBounds_toArray, List.set_cons_zero, List.set_cons_succ]
      refine wpAnyH_take (i := 9) (oi := { dst := some 47, op := Op.binOp BinOp.add 106 (Operand.tmp 38) (Operand.tmp 46) 106, type := 106, pos := "sha.go:79", after := #[{ on := 0, ground := Ground.data }, { on := 8, ground := Ground.data }], guard := none }) (v := .int .u32 (((rh) + (bits .xor .u32 (bits .xor .u32 (rot (re) 64 67108864) (rot (re) 2048 2097152)) (rot (re) 33554432 128))) % 4294967296)) rfl (by kernel_rfl) (by kernel_rfl) (by kernel_rfl) (fun _ _ _ h => h) (Or.inl ⟨by rfl, by intro W hSw; go_simp; first | done | exact u32w _ | (rw [u32w]; first | rfl | omega) | omega | exact wrap_int _ (by omega) (by omega)⟩) hHeld ?_
      try simp only [Act.put, List.setIfInBounds_toArray, List.set_cons_zero, List.set_cons_succ]
      refine wpAnyH_take (i := 18) (oi := { dst := some 56, op := Op.binOp BinOp.add 106 (Operand.tmp 47) (Operand.tmp 55) 106, type := 106, pos := "sha.go:79", after := #[{ on := 9, ground := Ground.data }, { on := 17, ground := Ground.data }], guard := none }) (v := .int .u32 (((((rh) + (bits .xor .u32 (bits .xor .u32 (rot (re) 64 67108864) (rot (re) 2048 2097152)) (rot (re) 33554432 128))) % 4294967296) + (bits .xor .u32 (bits .and .u32 (re) (rf)) (bits .and .u32 (bits .xor .u32 4294967295 (re)) (rg)))) % 4294967296)) rfl (by kernel_rfl) (by kernel_rfl) (by kernel_rfl) (fun _ _ _ h => h) (Or.inl ⟨by rfl, by intro W hSw; go_simp; first | done | exact u32w _ | (rw [u32w]; first | rfl | omega) | omega | exact wrap_int _ (by omega) (by omega)⟩) hHeld ?_
      try simp only [Act.put, List.setIfInBounds_toArray, List.set_cons_zero, List.set_cons_succ]
      refine wpAnyH_take (i := 22) (oi := { dst := some 60, op := Op.binOp BinOp.add 106 (Operand.tmp 56) (Operand.tmp 59) 106, type := 106, pos := "sha.go:79", after := #[{ on := 18, ground := Ground.data }, { on := 21, ground := Ground.data }], guard := none }) (v := .int .u32 (((((((rh) + (bits .xor .u32 (bits .xor .u32 (rot (re) 64 67108864) (rot (re) 2048 2097152)) (rot (re) 33554432 128))) % 4294967296) + (bits .xor .u32 (bits .and .u32 (re) (rf)) (bits .and .u32 (bits .xor .u32 4294967295 (re)) (rg)))) % 4294967296) + (kk)) % 4294967296)) rfl (by kernel_rfl) (by kernel_rfl) (by kernel_rfl) (fun _ _ _ h => h) (Or.inl ⟨by rfl, by intro W hSw; go_simp; first | done | exact u32w _ | (rw [u32w]; first | rfl | omega) | omega | exact wrap_int _ (by omega) (by omega)⟩) hHeld ?_
      try simp only [Act.put, List.setIfInBounds_toArray, List.set_cons_zero, List.set_cons_succ]
      refine wpAnyH_take (i := 26) (oi := { dst := some 64, op := Op.binOp BinOp.add 106 (Operand.tmp 60) (Operand.tmp 63) 106, type := 106, pos := "sha.go:79", after := #[{ on := 22, ground := Ground.data }, { on := 25, ground := Ground.data }], guard := none }) (v := .int .u32 (((((((((rh) + (bits .xor .u32 (bits .xor .u32 (rot (re) 64 67108864) (rot (re) 2048 2097152)) (rot (re) 33554432 128))) % 4294967296) + (bits .xor .u32 (bits .and .u32 (re) (rf)) (bits .and .u32 (bits .xor .u32 4294967295 (re)) (rg)))) % 4294967296) + (kk)) % 4294967296) + (ww)) % 4294967296)) rfl (by kernel_rfl) (by kernel_rfl) (by kernel_rfl) (fun _ _ _ h => h) (Or.inl ⟨by rfl, by intro W hSw; go_simp; first | done | exact u32w _ | (rw [u32w]; first | rfl | omega) | omega | exact wrap_int _ (by omega) (by omega)⟩) hHeld ?_
      try simp only [Act.put, List.setIfInBounds_toArray, List.set_cons_zero, List.set_cons_succ]
      refine wpAnyH_take (i := 27) (oi := { dst := some 15, op := Op.assign (Operand.tmp 64), type := 106, pos := "sha.go:79", after := #[{ on := 26, ground := Ground.data }, { on := 7, ground := Ground.chain }, { on := 0, ground := Ground.phase }, { on := 1, ground := Ground.phase }, { on := 2, ground := Ground.phase }, { on := 3, ground := Ground.phase }, { on := 4, ground := Ground.phase }, { on := 5, ground := Ground.phase }, { on := 6, ground := Ground.phase }, { on := 7, ground := Ground.phase }, { on := 8, ground := Ground.phase }, { on := 9, ground := Ground.phase }, { on := 10, ground := Ground.phase }, { on := 11, ground := Ground.phase }, { on := 12, ground := Ground.phase }, { on := 13, ground := Ground.phase }, { on := 14, ground := Ground.phase }, { on := 15, ground := Ground.phase }, { on := 16, ground := Ground.phase }, { on := 17, ground := Ground.phase }, { on := 18, ground := Ground.phase }, { on := 19, ground := Ground.phase }, { on := 20, ground := Ground.phase }, { on := 21, ground := Ground.phase }, { on := 22, ground := Ground.phase }, { on := 23, ground := Ground.phase }, { on := 24, ground := Ground.phase }, { on := 25, ground := Ground.phase }, { on := 26, ground := Ground.phase }], guard := none }) (v := .int .u32 (((((((((rh) + (bits .xor .u32 (bits .xor .u32 (rot (re) 64 67108864) (rot (re) 2048 2097152)) (rot (re) 33554432 128))) % 4294967296) + (bits .xor .u32 (bits .and .u32 (re) (rf)) (bits .and .u32 (bits .xor .u32 4294967295 (re)) (rg)))) % 4294967296) + (kk)) % 4294967296) + (ww)) % 4294967296)) rfl (by kernel_rfl) (by kernel_rfl) (by kernel_rfl) (fun _ _ _ h => h) (Or.inl ⟨by rfl, by intro W hSw; go_simp⟩) hHeld ?_
      try simp only [Act.put, List.setIfInBounds_toArray, List.set_cons_zero, List.set_cons_succ]
      refine wpAnyH_done (by kernel_rfl) ?_ _
      go_wp2_with (first
        | (go_at_call 81; refine (T2.out _).mono ?_; rintro e w' ⟨rfl, rfl⟩)
        | (go_at_call 81; refine (T13.out _).mono ?_; rintro e w' ⟨rfl, rfl⟩)
        | (go_at_call 81; refine (T22.out _).mono ?_; rintro e w' ⟨rfl, rfl⟩))
      go_roundw
      case rel =>
        refine ⟨k + 1, Sums.step ⟨ra, rb, rc, rd, re, rf, rg, rh⟩ kk ww, n + 1, by omega, by go_num, ?_, rfl, rfl, rfl, ?_, rfl, rfl, rfl, HE, rfl⟩
        · congr 1
          simp only [Sums.step, pOf, qOf, add32, xor32, and32, not32]
          omega
        · congr 1
          simp only [Sums.step, pOf, qOf, add32, xor32, and32, not32]
          omega
      case measure => simp [intOf]; omega
    · obtain rfl : k = 64 := by omega
      obtain ⟨ra, rb, rc, rd, re, rf, rg, rh⟩ := r
      have HE : Hid (block s bl = plus s ⟨ra, rb, rc, rd, re, rf, rg, rh⟩) := by
        show _ = _
        rw [HR.out]
        rfl
      have H8Z : Hid (w2.heap[w.heap.size + 1]? = some (.cells Z8 107 (0, 0))) := HG.out.2.1
      have F1 : Hid ((wcells (plus s ⟨ra, rb, rc, rd, re, rf, rg, rh⟩).list).toArray.size = 8) := (rfl : _ = _)
      have F2 : Hid ((Tryd.prog.info? 107).map (·.size) = some (wcells (plus s ⟨ra, rb, rc, rd, re, rf, rg, rh⟩).list).toArray.size) := by show _ = _; rw [F1.out]; exact size38
      have F3 : Hid (Z8.size = (wcells (plus s ⟨ra, rb, rc, rd, re, rf, rg, rh⟩).list).toArray.size) := by show _ = _; rw [F1.out]; exact H8.out
      have F4 : Hid ((wcells (plus s ⟨ra, rb, rc, rd, re, rf, rg, rh⟩).list).toArray.all (·.oneCell') = true) := wcells_all _
      go_wp2_with (first
        | (refine wpList_store_row rfl 107 (.tmp 4) (.tmp 130) rfl (w.heap.size + 1) (wcells (plus s ⟨ra, rb, rc, rd, re, rf, rg, rh⟩).list).toArray rfl (by rfl) 107 Z8 H8Z.out F2.out F3.out F4.out ?_)
        | fail)
      rw [HE.out]
      refine bodyPost_ret (v := .agg (wcells (plus s ⟨ra, rb, rc, rd, re, rf, rg, rh⟩).list).toArray) ?_ rfl ⟨rfl, ?_⟩
      · exact results_cell_row (p := 4) (ty := 107) rfl _ _ (w.heap.size + 1) 107 _ (0, 0) _ rfl (setRow_heap _ _ _ _ 107 _ H8Z.out) Tryd.underlying107 rfl F2.out
      · exact below_setRow (below_drewN hB2 _) (by omega) _
end Go.Proofs.YtdnhnjimhbbabaaDoor

/- What sha.message answers: the parts' bytes, and what fills them up to whole blocks. -/
namespace Go.Proofs.YtdnhnjimhbbabaaDoor
open Go.RowKit Sums
set_option linter.unusedVariables false
set_option linter.unusedSimpArgs false
theorem info5' : (Tryd.prog.info? 5).map (fun i => (i.zero, i.size, i.bytes)) = some (some (.int .u8 0), 1, 1) := by kernel_rfl
theorem size5' : (Tryd.prog.info? 5).map (·.size) = some 1 := by kernel_rfl
/-- How many bytes some texts have; these bytes. -/
def total : List ByteArray → Nat
  | [] => 0
  | s :: r => s.size + total r
def joinL (ss : List ByteArray) : List UInt8 := ss.flatMap fun s => s.data.toList
theorem joinL_length (ss : List ByteArray) : (joinL ss).length = total ss := by
  induction ss with
  | nil => rfl
  | cons s r ih => simp [joinL, total] at ih ⊢; rw [ih]
theorem joinL_append (a b : List ByteArray) : joinL (a ++ b) = joinL a ++ joinL b := by simp [joinL]
theorem total_append (a b : List ByteArray) : total (a ++ b) = total a + total b := by
  induction a with
  | nil => simp [total]
  | cons s r ih => simp [total, ih]; omega
theorem take_succ_parts (ss : List ByteArray) (k : Nat) (h : k < ss.length) : ss.take (k + 1) = ss.take k ++ [ss[k]] := by
  rw [List.take_add_one, List.getElem?_eq_getElem h]; rfl
theorem total_take (ss : List ByteArray) (k : Nat) : total (ss.take k) ≤ total ss := by
  have h := total_append (ss.take k) (ss.drop k)
  rw [List.take_append_drop] at h
  omega
theorem total_step (ss : List ByteArray) (k : Nat) (h : k < ss.length) : total (ss.take (k + 1)) = total (ss.take k) + ss[k].size := by
  rw [take_succ_parts ss k h, total_append]; rfl
/-- A slice of texts that can be read. -/
def Texts (w : World) (a : Option Addr) (len : Nat) (ss : List ByteArray) : Prop :=
  ss.length = len ∧ (len = 0 ∨ ∃ b off, a = some ⟨b, off, none⟩ ∧ b < w.heap.size ∧ ∀ i, (hi : i < ss.length) → w.cell? ⟨b, off + i, none⟩ = some (.string ss[i]))
theorem Texts.keep {w w' : World} {a : Option Addr} {len : Nat} {ss : List ByteArray} (h : Texts w a len ss) (hb : Below w.heap.size w w') : Texts w' a len ss := by
  refine ⟨h.1, ?_⟩
  rcases h.2 with h0 | ⟨b, off, rfl, hlt, hc⟩
  · exact .inl h0
  · exact .inr ⟨b, off, rfl, Nat.lt_of_lt_of_le hlt hb.size, fun i hi => by rw [hb.cell (p := ⟨b, off + i, none⟩) hlt]; exact hc i hi⟩
theorem own_row {w : World} {B g n : Nat} {l : List UInt8} (h : w.ownsRow B 5 1 (.slice (some ⟨g, 0, none⟩) n n) n (cellsOf l)) : w.heap[g]? = some (.cells (cellsOf l).toArray 5 (0, 0)) := by
  rcases h.2 with ⟨h0, _⟩ | ⟨g', cap, cur, hv, _, hg, _, _, hsz, ht⟩
  · cases h0
  · cases hv
    rw [hg]
    have : cur.toList = cellsOf l := by
      rw [← ht, List.take_of_length_le]
      simp [hsz]
    rw [← this]
theorem cells_made (n : Nat) : (madeCells #[Value.int .u8 0] n).toList = cellsOf (List.replicate n 0) := by
  rw [toList_madeCells_one]; simp [cellsOf]
/-- What lies in the row when k texts have been copied. -/
def filled (l : List UInt8) (n : Nat) : List UInt8 := l ++ List.replicate (n - l.length) 0
theorem filled_length (l : List UInt8) (n : Nat) (h : l.length ≤ n) : (filled l n).length = n := by simp [filled]; omega
theorem filled_copy (l x : List UInt8) (n : Nat) (h : l.length + x.length ≤ n) :
    (cellsOf (filled l n)).take l.length ++ cellsOf x ++ (cellsOf (filled l n)).drop (l.length + x.length) = cellsOf (filled (l ++ x) n) := by
  unfold filled
  rw [cellsOf_append, List.take_left' (by rw [cellsOf_length]), ← List.drop_drop, List.drop_left' (by rw [cellsOf_length]), cellsOf_append, cellsOf_append]
  simp [cellsOf, Nat.sub_sub]
theorem be8_bytes (n : Nat) (h : n < 18446744073709551616) : be8 n = bytes4 ((n / 4294967296 : Nat) : Int) ++ bytes4 ((n % 4294967296 : Nat) : Int) := by
  unfold be8 bytes4
  have e : ∀ a b : Nat, a % 256 = b % 256 → UInt8.ofNat a = UInt8.ofNat b := fun a b h => by
    apply UInt8.toNat_inj.mp
    rw [UInt8.toNat_ofNat', UInt8.toNat_ofNat']
    exact h
  simp only [List.cons_append, List.nil_append, List.cons.injEq, and_true]
  refine ⟨e _ _ (by omega), e _ _ (by omega), e _ _ (by omega), e _ _ (by omega), e _ _ (by omega), e _ _ (by omega), e _ _ (by omega), e _ _ (by omega)⟩
/-- The mark and the length, put into the filled row, make the message. -/
theorem pad_puts (l : List UInt8) (h : l.length ≤ 1000000) :
    put4 (put4 ((filled l (64 * nBlocks l.length)).set l.length 128) (64 * nBlocks l.length - 8) (((8 * l.length) / 4294967296 : Nat) : Int)) (64 * nBlocks l.length - 4) (((8 * l.length) % 4294967296 : Nat) : Int) = pad l := by
  have hn : l.length + 9 ≤ 64 * nBlocks l.length := by unfold nBlocks; omega
  unfold pad
  generalize 64 * nBlocks l.length = N at hn ⊢
  have e0 : (filled l N).set l.length 128 = l ++ 128 :: List.replicate (N - 9 - l.length) 0 ++ List.replicate 8 0 := by
    unfold filled
    rw [List.set_append, if_neg (by omega), Nat.sub_self, show N - l.length = (N - 9 - l.length) + 8 + 1 by omega, List.replicate_succ, List.set_cons_zero, List.append_assoc, List.cons_append, List.replicate_append_replicate]
  have pa : ∀ (A B : List UInt8) (o : Nat) (z : Int), o = A.length → put4 (A ++ B) o z = A ++ bytes4 z ++ B.drop 4 := by
    intro A B o z ho
    subst ho
    unfold put4
    rw [List.take_left' rfl, ← List.drop_drop, List.drop_left' rfl]
  rw [e0, pa _ _ _ _ (by simp; omega), pa _ _ _ _ (by simp [bytes4]; omega)]
  rw [be8_bytes _ (by omega)]
  simp
set_option maxHeartbeats 2000000 in
set_option maxRecDepth 100000 in
theorem message_any (a : Option Addr) (len cap : Nat) (ss : List ByteArray) (w : World) (hT : Texts w a len ss) (ht : total ss ≤ 1000000) (hlen : len ≤ 9223372036854775807) :
    Calls Tryd.prog 68 #[.slice a len cap] w fun e w' => ∃ g, e = .returned (.slice (some ⟨g, 0, none⟩) (64 * nBlocks (total ss)) (64 * nBlocks (total ss))) ∧
      w'.heap[g]? = some (.cells (cellsOf (pad (joinL ss))).toArray 5 (0, 0)) ∧ w.heap.size ≤ g ∧ Below w.heap.size w w' := by
  obtain ⟨i0, hi, hz0, hz1, hz2⟩ := info_parts info5'
  have HT : Hid (Texts w a len ss) := hT
  have HSL : Hid (ss.length = len) := hT.1
  have HTT : Hid (total ss ≤ 1000000) := ht
  have HI : Hid _ := hi
  have HZ : Hid (i0.zero = some (.int .u8 0) ∧ i0.size = 1 ∧ i0.bytes = 1) := ⟨hz0, hz1, hz2⟩
  clear hT ht hi hz0 hz1 hz2
  go_enter Tryd.func68, Tryd.ntmps68
  go_wp2
  go_loop [3, 14] (fun v i => ∃ k t : Nat, k ≤ len ∧ t ≤ 1000000 ∧ i = .int .i64 k ∧ v = .int .i64 t ∧ Hid (t = total (ss.take k))) (fun _ i => len - (intOf i).toNat)
  case atStart => exact ⟨0, 0, by omega, by omega, rfl, rfl, (rfl : 0 = _)⟩
  case round =>
    obtain ⟨k, t, hk, ht, rfl, rfl, HTK⟩ := hrel
    by_cases hlt : k < len
    · have hlk : k < ss.length := by have := HSL.out; omega
      obtain ⟨p, HP⟩ : ∃ p, Hid (p = ss[k]) := ⟨_, (rfl : ss[k] = _)⟩
      have HN : Hid (t + p.size = total (ss.take (k + 1))) := by
        show _ = _
        rw [total_step ss k hlk, HTK.out, HP.out]
      have hps : t + p.size ≤ 1000000 := by
        have h1 := total_take ss (k + 1)
        have h2 := HN.out
        have h3 := HTT.out
        omega
      obtain ⟨b, off, rfl, hcell⟩ : ∃ b off, a = some ⟨b, off, none⟩ ∧ w.cell? ⟨b, off + k, none⟩ = some (.string p) := by
        rcases HT.out.2 with h0 | ⟨b, off, e, _, hc⟩
        · omega
        · exact ⟨b, off, e, by rw [hc k hlk, HP.out]⟩
      have hlt' : (k : Int) < (len : Int) := by omega
      go_wp2
      go_round
      case rel => exact ⟨k + 1, t + p.size, by omega, by omega, by go_num, by go_num, HN⟩
      case measure => simp [intOf]; omega
    · obtain rfl : len = k := by omega
      have HTA : Hid (t = total ss) := by
        have := HTK.out
        rw [List.take_of_length_le (by have := HSL.out; omega)] at this
        exact this
      clear HTK
      obtain ⟨N, HN⟩ : ∃ N, Hid (N = 64 * nBlocks t) := ⟨_, (rfl : 64 * nBlocks t = _)⟩
      have hN9 : t + 9 ≤ N := by have := HN.out; unfold nBlocks at this; omega
      have hNm : N ≤ 1000100 := by have := HN.out; unfold nBlocks at this; omega
      have HNI : Hid (((t : Int) + 1 + 8 + 64 - 1) / 64 * 64 = (N : Int)) := by
        show _ = _
        have := HN.out
        unfold nBlocks at this
        omega
      go_wp2_with (first
        | (at_make; refine wpList_make_full _ rfl (.tmp 30) (.tmp 30) 35 rfl w.heap.size 5 i0 (.int .u8 0) 1 Tryd.underlying35 HI.out HZ.out.1 HZ.out.2.1 .i64 .i64 _ _ N rfl rfl ?c1 ?c2 ?c3 ?c4 ?c5 ?_)
        | fail)
      case c1 => exact HNI.out
      case c2 => exact HNI.out
      case c3 => rw [HZ.out.2.2]; omega
      case c4 => unfold maxLen; omega
      intro w1 hown hgrow
      have HG1 : Hid (w1.heap[w.heap.size]? = some (.cells (cellsOf (filled [] N)).toArray 5 (0, 0))) := by
        have h1 : w1.ownsRow w.heap.size 5 1 (.slice (some ⟨w.heap.size, 0, none⟩) N N) N (cellsOf (filled [] N)) := by
          have h2 := hown
          rw [cells_made] at h2
          exact h2
        exact own_row h1
      have hB1 : Below w.heap.size w w1 := (Below.refl _ _).grown hgrow (Nat.le_refl _) (by intro k hk; cases hk)
      clear hown hgrow HNI
      go_wp2
      go_loopw [8, 34] (fun v i wr => ∃ k q : Nat, k ≤ len ∧ q ≤ t ∧ i = .int .i64 k ∧ v = .int .i64 q ∧ Hid (q = total (ss.take k)) ∧ Hid (wr.heap[w.heap.size]? = some (.cells (cellsOf (filled (joinL (ss.take k)) N)).toArray 5 (0, 0))) ∧ Below w.heap.size w wr)
        (fun _ i _ => len - (intOf i).toNat)
      case atStart => exact ⟨0, 0, by omega, by omega, rfl, rfl, (rfl : 0 = _), HG1, hB1⟩
      case round =>
        clear HG1 hB1
        obtain ⟨k, q, hk, hq, rfl, rfl, HQ, HG, hB⟩ := hrel
        by_cases hlt : k < len
        · have hlk : k < ss.length := by have := HSL.out; omega
          obtain ⟨p, HP⟩ : ∃ p, Hid (p = ss[k]) := ⟨_, (rfl : ss[k] = _)⟩
          have HQ2 : Hid (q + p.size = total (ss.take (k + 1))) := by
            show _ = _
            rw [total_step ss k hlk, HQ.out, HP.out]
          have hps : q + p.size ≤ t := by
            have h1 := total_take ss (k + 1)
            have h2 := HQ2.out
            have h3 := HTA.out
            omega
          obtain ⟨b, off, rfl, hcell⟩ : ∃ b off, a = some ⟨b, off, none⟩ ∧ wr.cell? ⟨b, off + k, none⟩ = some (.string p) := by
            rcases (HT.out.keep hB).2 with h0 | ⟨b, off, e, _, hc⟩
            · omega
            · exact ⟨b, off, e, by rw [hc k hlk, HP.out]⟩
          have hlt' : (k : Int) < (len : Int) := by omega
          have HJ : Hid ((joinL (ss.take k)).length = q) := by show _ = _; rw [joinL_length, HQ.out]
          have hcopy := fun ty => Lib.run_copy_row_string (P := Tryd.prog) wr 35 9 ty 5 w.heap.size q (N - q) (N - q) p _ 5 Tryd.underlying35 size5' HG.out (by omega) (by
            have := filled_length (joinL (ss.take k)) N (by rw [HJ.out]; omega)
            simp [cellsOf_length, this]; omega)
          have HC : Hid ((List.take q (cellsOf (filled (joinL (ss.take k)) N)) ++ Lib.byteCells p.data.toList ++ List.drop (q + p.size) (cellsOf (filled (joinL (ss.take k)) N))).toArray = (cellsOf (filled (joinL (ss.take (k + 1))) N)).toArray) := by
            show _ = _
            have h1 := filled_copy (joinL (ss.take k)) p.data.toList N (by rw [HJ.out]; show q + p.size ≤ N; omega)
            rw [HJ.out] at h1
            have e : joinL (ss.take (k + 1)) = joinL (ss.take k) ++ p.data.toList := by
              rw [take_succ_parts ss k hlk, joinL_append, HP.out]
              simp [joinL]
            rw [e, ← h1]
            rfl
          rw [show (cellsOf (filled (joinL (ss.take k)) N)).toArray.toList = cellsOf (filled (joinL (ss.take k)) N) by simp, HC.out] at hcopy
          go_wp2
          go_roundw
          case rel => exact ⟨k + 1, q + p.size, by omega, by omega, by go_num, by go_num, HQ2, setRow_heap _ _ _ _ 5 _ HG.out, below_setRow hB (Nat.le_refl _) _⟩
          case measure => simp [intOf]; omega
        · obtain rfl : len = k := by omega
          obtain ⟨J, HJ⟩ : ∃ J, Hid (J = joinL ss) := ⟨_, (rfl : joinL ss = _)⟩
          have HJL : Hid (J.length = t) := by show _ = _; rw [HJ.out, joinL_length, HTA.out]
          have hqt : t = q := by
            have := HQ.out
            rw [List.take_of_length_le (by have := HSL.out; omega)] at this
            rw [this, HTA.out]
          subst hqt
          have HF : Hid (wr.heap[w.heap.size]? = some (.cells (cellsOf (filled J N)).toArray 5 (0, 0))) := by
            have := HG.out
            rw [List.take_of_length_le (by have := HSL.out; omega), ← HJ.out] at this
            exact this
          have HFL : Hid ((filled J N).length = N) := filled_length J N (by rw [HJL.out]; omega)
          have hcell : wr.cell? ⟨w.heap.size, t, none⟩ = some (.int .u8 (((filled J N)[t]'(by rw [HFL.out]; omega)).toNat : Int)) := by
            rw [cell_of_row wr _ _ _ 5 (0, 0) HF.out]; simp [cellsOf_at (filled J N) t (by rw [HFL.out]; omega)]
          have hfz : wr.frozen? ⟨w.heap.size, t, none⟩ = false := frozen_of_row wr _ _ _ 5 HF.out
          have HF2 : Hid ((wr.setCell ⟨w.heap.size, t, none⟩ (.int .u8 128)).heap[w.heap.size]? = some (.cells (cellsOf ((filled J N).set t 128)).toArray 5 (0, 0))) := by
            show _ = _
            have := row_set HF.out t 128
            rw [show ((128 : UInt8).toNat : Int) = 128 from rfl] at this
            rw [this]
            exact setRow_heap _ _ _ _ 5 _ HF.out
          clear HQ HG HSL
          have HL2 : Hid (((filled J N).set t 128).length = N) := by show _ = _; rw [List.length_set, HFL.out]
          go_wp2_with fail
          refine (putWord_any w.heap.size (N - 8) _ _ 5 ((filled J N).set t 128) _ _ (by omega) (by rw [HL2.out]; omega) (by omega) (by omega) HF2.out).mono ?_
          rintro e w3 ⟨rfl, rfl⟩
          have HF3 := setRow_heap _ _ _ (cellsOf (put4 ((filled J N).set t 128) (N - 8) ((t : Int) * 8 / 4294967296))).toArray 5 _ HF2.out
          have HL3 : Hid ((put4 ((filled J N).set t 128) (N - 8) ((t : Int) * 8 / 4294967296)).length = N) := by show _ = _; rw [put4_length _ _ _ (by rw [HL2.out]; omega), HL2.out]
          have HF4 : Hid _ := HF3
          clear HF3
          go_wp2_with fail
          refine (putWord_any w.heap.size (N - 4) _ _ 5 (put4 ((filled J N).set t 128) (N - 8) ((t : Int) * 8 / 4294967296)) _ _ (by omega) (by rw [HL3.out]; omega) (by omega) (by omega) HF4.out).mono ?_
          rintro e w4 ⟨rfl, rfl⟩
          go_wp2
          go_ret
          refine ⟨w.heap.size, ?_, ?_, Nat.le_refl _, below_setRow (below_setRow (hB.setCell (Nat.le_refl _) _) (Nat.le_refl _) _) (Nat.le_refl _) _⟩
          · rw [← HTA.out, ← HN.out]; rfl
          · have hp := pad_puts J (by rw [HJL.out]; omega)
            rw [HJL.out, ← HN.out, show (((8 * t) / 4294967296 : Nat) : Int) = (t : Int) * 8 / 4294967296 by omega, show (((8 * t) % 4294967296 : Nat) : Int) = (t : Int) * 8 by omega] at hp
            rw [hp, ← HJ.out]
            exact setRow_heap _ _ _ _ 5 _ HF4.out
end Go.Proofs.YtdnhnjimhbbabaaDoor

/- What sha.Of answers: the sum of the parts' bytes, one part behind the other. -/
namespace Go.Proofs.YtdnhnjimhbbabaaDoor
open Go.RowKit Sums
set_option linter.unusedVariables false
set_option linter.unusedSimpArgs false
theorem zero27 : (Tryd.prog.info? 24).map (fun i => (i.zero, i.size)) = some (some (.agg (cellsOf (List.replicate 32 0)).toArray), 32) := by kernel_rfl
theorem noughts27 : ∃ Z : Array Value, Hid (Z = (cellsOf (List.replicate 32 0)).toArray) ∧ Hid ((Tryd.prog.info? 24).map (fun i => (i.zero, i.size)) = some (some (.agg Z), Z.size)) ∧
    Hid ((Tryd.prog.info? 24).map (·.size) = some Z.size) ∧ Hid (Z.all (·.oneCell') = true) ∧ Hid (Z.size = 32) :=
  ⟨(cellsOf (List.replicate 32 0)).toArray, (rfl : _ = _), zero27, size23, cellsOf_all _, (rfl : _ = _)⟩
theorem dig_row' (l : List UInt8) (hl : l.length = 32) : ∃ D : Array Value, Hid (D = (cellsOf l).toArray) ∧ Hid ((Tryd.prog.info? 24).map (·.size) = some D.size) ∧ Hid (D.all (·.oneCell') = true) ∧ Hid (D.size = 32) := by
  refine ⟨(cellsOf l).toArray, (rfl : _ = _), ?_, cellsOf_all l, ?_⟩
  · show _ = _
    rw [size23]; simp [cellsOf_length, hl]
  · show _ = _
    simp [cellsOf_length, hl]
/-- A whole array read, or stored, as one step of a region that draws its order. -/
theorem step_load_row {P : Program} {ops : Array Oper} {o : Oper} {a : Act} {w : World} {K : Act → World → Prop} {Q : Exit → Act → World → Prop} {E : Prop} (hw : Region.wanted o (yielded ops a.tmps) = true) (ty : TypeId) (x : Operand) (ho : o.op = .load ty x)
    (g : Nat) (hx : a.eval x = .pointer (some ⟨g, 0, none⟩)) (t : TypeId) (cs : Array Value) (fr : Nat × Nat) (d : TypeDesc) (hg : w.heap[g]? = some (.cells cs t fr))
    (hu : P.underlying ty = some d) (hd : (match d with | .struct _ | .array _ _ => true | _ => false) = true) (hi : (P.info? ty).map (·.size) = some cs.size)
    (h : K (a.put o.dst (.agg cs)) w) : if Region.wanted o (yielded ops a.tmps) = true then Oper.wp P o a w K Q else E := by
  rw [if_pos hw]
  exact wp_load_row ty x ho g hx t cs fr d hg hu hd hi h
theorem step_store_row {P : Program} {ops : Array Oper} {o : Oper} {a : Act} {w : World} {K : Act → World → Prop} {Q : Exit → Act → World → Prop} {E : Prop} (hw : Region.wanted o (yielded ops a.tmps) = true) (ty : TypeId) (x y : Operand) (ho : o.op = .store ty x y)
    (g : Nat) (cells : Array Value) (hx : a.eval x = .pointer (some ⟨g, 0, none⟩)) (hy : a.eval y = .agg cells)
    (t : TypeId) (old : Array Value) (hg : w.heap[g]? = some (.cells old t (0, 0))) (hi : (P.info? ty).map (·.size) = some cells.size)
    (hold : old.size = cells.size) (h1 : cells.all (·.oneCell') = true)
    (h : K (a.put o.dst undef) (w.setRow g cells)) : if Region.wanted o (yielded ops a.tmps) = true then Oper.wp P o a w K Q else E := by
  rw [if_pos hw]
  exact wp_store_row ty x y ho g cells hx hy t old hg hi hold h1 h
theorem pad_length (l : List UInt8) : (pad l).length = 64 * nBlocks l.length := by
  unfold pad be8
  simp
  unfold nBlocks
  omega
theorem first_ok : OkSt first := by
  intro z hz
  simp only [first, St.list, List.mem_cons, List.not_mem_nil, or_false] at hz
  rcases hz with rfl | rfl | rfl | rfl | rfl | rfl | rfl | rfl <;> omega
theorem blocks_ok (s : St) (m : List UInt8) (n : Nat) (h : OkSt s) : OkSt (blocks s m n) := by
  induction n with
  | zero => exact h
  | succ n ih => exact plus_ok _ _
theorem slice_from (w : World) (g i : Nat) (hi : i < 8) :
    (Instr.sliceAt 24 (.pointer (some ⟨g, 0, none⟩)) (some (.int .i64 (4 * (i : Int)))) none none).run Tryd.prog w = .ok (.slice (some ⟨g, 4 * i, none⟩) (32 - 4 * i) (32 - 4 * i)) w := by
  have h1 : 4 * (i : Int) ≤ 32 := by omega
  have h2 : 0 ≤ 4 * (i : Int) := by omega
  simp [Instr.sliceAt, Instr.slice, Instr.sliceBounds, Instr.sliceBound, asIntOf, run_underlying Tryd.underlying24, Instr.sureAddr, h1, h2]
  rw [show (4 * (i : Int)).toNat = 4 * i by omega, if_neg (by omega), add_plain]
  simp
theorem flat4_length (l : List Int) : (l.flatMap bytes4).length = 4 * l.length := by
  induction l with
  | nil => rfl
  | cons z l ih => simp [bytes4] at ih ⊢; omega
/-- The first i words' bytes, and noughts behind them. -/
def part (l : List Int) (i : Nat) : List UInt8 := (l.take i).flatMap bytes4 ++ List.replicate (32 - 4 * i) 0
theorem part_length (l : List Int) (i : Nat) (hl : l.length = 8) (hi : i ≤ 8) : (part l i).length = 32 := by
  unfold part
  rw [List.length_append, flat4_length, List.length_take, List.length_replicate]
  omega
theorem part_put (l : List Int) (i : Nat) (hl : l.length = 8) (hi : i < 8) : put4 (part l i) (4 * i) l[i] = part l (i + 1) := by
  unfold part put4
  have h1 : ((l.take i).flatMap bytes4).length = 4 * i := by rw [flat4_length, List.length_take]; omega
  rw [List.take_left' h1, ← List.drop_drop, List.drop_left' h1, List.take_add_one, List.getElem?_eq_getElem (by omega), List.flatMap_append]
  simp
  omega
theorem part_all (l : List Int) (hl : l.length = 8) : part l 8 = l.flatMap bytes4 := by
  unfold part
  rw [List.take_of_length_le (by omega)]
  simp
theorem sumD_length (l : List UInt8) : (sumD l).length = 32 := by
  unfold sumD
  rw [flat4_length]
  rfl
set_option maxHeartbeats 2000000 in
set_option maxRecDepth 100000 in
theorem of_any (a : Option Addr) (len cap : Nat) (ss : List ByteArray) (w : World) (hT : Texts w a len ss) (ht : total ss ≤ 1000000) (hlen : len ≤ 9223372036854775807) (hK : Table 0 w) :
    Calls Tryd.prog 51 #[.slice a len cap] w fun e w' => e = .returned (digV (sumD (joinL ss))) ∧ Below w.heap.size w w' := by
  obtain ⟨Z, HZ, HA, HS, H1, H32⟩ := noughts27
  obtain ⟨Z8, HA8, HS8, H8⟩ := noughts38
  have HSF : Hid ((Tryd.prog.info? 107).map (·.size) = some (wcells first.list).toArray.size) := size38
  have HZF : Hid (Z8.size = (wcells first.list).toArray.size) := H8.out
  have H1F : Hid ((wcells first.list).toArray.all (·.oneCell') = true) := wcells_all _
  have HM : Hid (∀ w1, Below w.heap.size w w1 → Calls Tryd.prog 68 #[.slice a len cap] w1 fun e w' => ∃ g, e = .returned (.slice (some ⟨g, 0, none⟩) (64 * nBlocks (total ss)) (64 * nBlocks (total ss))) ∧
      w'.heap[g]? = some (.cells (cellsOf (pad (joinL ss))).toArray 5 (0, 0)) ∧ w1.heap.size ≤ g ∧ Below w1.heap.size w1 w') := fun w1 hb1 => message_any a len cap ss w1 (hT.keep hb1) ht hlen
  have HTB : Hid (Table 0 w) := hK
  have HTT : Hid (total ss ≤ 1000000) := ht
  clear hT hK ht
  go_enter Tryd.func51, Tryd.ntmps51
  go_wp2_with (first
    | (refine wpList_alloc_row rfl 24 rfl Z HA.out ?_)
    | (refine wpList_alloc_row rfl 107 rfl Z8 HA8.out ?_)
    | (refine wpList_store_row rfl 107 (.tmp 3) (.tmp 9) rfl (w.alloc (.cells Z 24)).heap.size (wcells first.list).toArray rfl (by rfl) 107 Z8 (heap_alloc_new (w.alloc (.cells Z 24)) _) HSF.out HZF.out H1F.out ?_)
    | fail)
  have hB0 : Below w.heap.size w (((w.alloc (.cells Z 24)).alloc (.cells Z8 107)).setRow (w.heap.size + 1) (wcells first.list).toArray) := below_setRow (((Below.refl _ _).alloc (Nat.le_refl _) _).alloc (by simp) _) (by omega) _
  refine (HM.out _ hB0).mono ?_
  rintro e w1 ⟨g, rfl, hg, hgs, hb1⟩
  have hgs' : w.heap.size + 2 ≤ g := by simp only [setRow_size, World.size_alloc] at hgs; omega
  obtain ⟨N, HN⟩ : ∃ N, Hid (N = nBlocks (total ss)) := ⟨_, (rfl : nBlocks (total ss) = _)⟩
  rw [← HN.out]
  have hN : N ≤ 20000 := by have := HN.out; have := HTT.out; unfold nBlocks at *; omega
  have HG0 : Hid (w1.heap[w.heap.size]? = some (.cells Z 24 (0, 0)) ∧ w1.heap[w.heap.size + 1]? = some (.cells (wcells (blocks first (pad (joinL ss)) 0).list).toArray 107 (0, 0))) := by
    refine ⟨?_, ?_⟩
    · rw [hb1.block _ (by simp only [setRow_size, World.size_alloc]; omega), setRow_other _ _ _ _ (by omega)]; exact heap_alloc2_old w _ _
    · rw [hb1.block _ (by simp only [setRow_size, World.size_alloc]; omega)]; exact setRow_heap _ _ _ _ 107 _ (heap_alloc2_new w _ _)
  have HGM : Hid (w1.heap[g]? = some (.cells (cellsOf (pad (joinL ss))).toArray 5 (0, 0))) := hg
  have hB1 : Below w.heap.size w w1 := hB0.trans (hb1.mono (by simp only [setRow_size, World.size_alloc]; omega))
  have hgw : g < w1.heap.size := heap_lt hg
  clear hg hgs hb1 hB0 HM
  go_wp2
  go_loopw [5] (fun v wr => ∃ k : Nat, k ≤ N ∧ v = .int .i64 (64 * (k : Int)) ∧ Hid (wr.heap[w.heap.size]? = some (.cells Z 24 (0, 0)) ∧ wr.heap[w.heap.size + 1]? = some (.cells (wcells (blocks first (pad (joinL ss)) k).list).toArray 107 (0, 0)) ∧
      wr.heap[g]? = some (.cells (cellsOf (pad (joinL ss))).toArray 5 (0, 0))) ∧ Below w.heap.size w wr)
    (fun v _ => 64 * N - (intOf v).toNat)
  case atStart => exact ⟨0, by omega, rfl, ⟨HG0.out.1, HG0.out.2, HGM.out⟩, hB1⟩
  case round =>
    clear HG0 HGM hB1
    obtain ⟨k, hk, rfl, HG, hB⟩ := hrel
    by_cases hlt : k < N
    · have hdi : decide ((64 : Int) * (k : Int) < 64 * (N : Int)) = true := by rw [decide_eq_true_eq]; omega
      have hw64 := wrap_int (64 * (k : Int) + 64) (by omega) (by omega)
      obtain ⟨m, HM⟩ : ∃ m, Hid (m = pad (joinL ss)) := ⟨_, (rfl : pad (joinL ss) = _)⟩
      have HML : Hid (m.length = 64 * N) := by show _ = _; rw [HM.out, pad_length, joinL_length, HN.out]
      obtain ⟨s, HSt⟩ : ∃ s, Hid (s = blocks first (pad (joinL ss)) k) := ⟨_, (rfl : blocks first (pad (joinL ss)) k = _)⟩
      obtain ⟨L, HL, HSL, H1L, H8L⟩ := words_row s.list 107 8 rfl size38
      obtain ⟨L2, HL2, HSL2, H1L2, H8L2⟩ := words_row (block s ((m.drop (64 * k)).take 64)).list 107 8 rfl size38
      have HLL : Hid (L.size = L2.size) := by show _ = _; rw [H8L.out, H8L2.out]
      have HGs : Hid (wr.heap[w.heap.size + 1]? = some (.cells L 107 (0, 0))) := by show _ = _; rw [HL.out, HSt.out]; exact HG.out.2.1
      have HKM : Hid (∀ w2, Below wr.heap.size wr w2 → Calls Tryd.prog 69 #[.agg L, .slice (some ⟨g, 64 * k, none⟩) 64 (64 * N - 64 * k)] w2 fun e w' => e = .returned (.agg L2) ∧ Below w2.heap.size w2 w') := by
        intro w2 hb2
        rw [HL.out, HL2.out]
        have hgr := heap_lt HG.out.2.2
        have hly : Lies wr g 0 m := fun i hi => by
          rw [Nat.zero_add, cell_of_row wr g i _ 5 (0, 0) HG.out.2.2, ← HM.out]
          simp [cellsOf_at m i hi]
        have hl2 : Lies w2 g (0 + 64 * k) ((m.drop (64 * k)).take 64) := ((hly.keep hb2 hgr).drop (64 * k)).take 64
        rw [Nat.zero_add] at hl2
        have hlen2 : ((m.drop (64 * k)).take 64).length = 64 := by
          have := HML.out
          simp; omega
        exact mixed_any s g (64 * k) (64 * N - 64 * k) _ w2 (by rw [HSt.out]; exact blocks_ok _ _ _ first_ok) hlen2 (by omega) (by omega) (Nat.lt_of_lt_of_le hgr hb2.size) hl2 ((HTB.out.keep hB).keep hb2)
      have hb0 : (0 : Int) ≤ 64 * (k : Int) := by omega
      have hb1 : 64 * (k : Int) ≤ 64 * (k : Int) + 64 := by omega
      have hb2 : 64 * (k : Int) + 64 ≤ 64 * (N : Int) := by omega
      go_wp2
      refine wp_region_held_drew (S := (fun _ => True)) (by kernel_rfl) trivial (fun hHeld => ?_)
      refine wpAnyH_take (i := 1) (oi := { dst := some 19, op := Op.move (Operand.tmp 4), type := 35, pos := "sha.go:33", after := #[], guard := none }) (v := .slice (some ⟨g, 0, none⟩) (64 * N) (64 * N)) rfl (by kernel_rfl) (by kernel_rfl) (by kernel_rfl) (fun _ _ _ h => h) (Or.inl ⟨by rfl, by intro w hSw; go_simp⟩) hHeld ?_
      try simp only [Act.put, List.setIfInBounds_toArray, List.set_cons_zero, List.set_cons_succ]
      refine wpAnyH_take (i := 2) (oi := { dst := some 20, op := Op.move (Operand.tmp 5), type := 3, pos := "sha.go:33", after := #[], guard := none }) (v := .int .i64 (64 * (k : Int))) rfl (by kernel_rfl) (by kernel_rfl) (by kernel_rfl) (fun _ _ _ h => h) (Or.inl ⟨by rfl, by intro w hSw; go_simp⟩) hHeld ?_
      try simp only [Act.put, List.setIfInBounds_toArray, List.set_cons_zero, List.set_cons_succ]
      refine wpAnyH_take (i := 3) (oi := { dst := some 21, op := Op.move (Operand.tmp 5), type := 3, pos := "sha.go:33", after := #[], guard := none }) (v := .int .i64 (64 * (k : Int))) rfl (by kernel_rfl) (by kernel_rfl) (by kernel_rfl) (fun _ _ _ h => h) (Or.inl ⟨by rfl, by intro w hSw; go_simp⟩) hHeld ?_
      try simp only [Act.put, List.setIfInBounds_toArray, List.set_cons_zero, List.set_cons_succ]
      refine wpAnyH_take (i := 4) (oi := { dst := some 22, op := Op.binOp BinOp.add 3 (Operand.tmp 21) (Operand.const (Value.int IntKind.i64 64)) 3, type := 3, pos := "sha.go:33", after := #[{ on := 3, ground := Ground.data }], guard := none }) (v := .int .i64 (64 * (k : Int) + 64)) rfl (by kernel_rfl) (by kernel_rfl) (by kernel_rfl) (fun _ _ _ h => h) (Or.inl ⟨by rfl, by intro w hSw; go_simp⟩) hHeld ?_
      try simp only [Act.put, List.setIfInBounds_toArray, List.set_cons_zero, List.set_cons_succ]
      refine wpAnyH_take (i := 5) (oi := { dst := some 23, op := Op.slice 35 (Operand.tmp 19) (some (Operand.tmp 20)) (some (Operand.tmp 22)) none, type := 35, pos := "sha.go:33", after := #[{ on := 1, ground := Ground.data }, { on := 2, ground := Ground.data }, { on := 4, ground := Ground.data }], guard := none }) (v := .slice (some ⟨g, 64 * k, none⟩) 64 (64 * N - 64 * k)) rfl (by kernel_rfl) (by kernel_rfl) (by kernel_rfl) (fun _ _ _ h => h) (Or.inl ⟨by rfl, by intro W hSw; go_simp; rw [show (64 * (k : Int)).toNat = 64 * k by omega, if_neg (by omega)]; exact ⟨rfl, by omega, rfl⟩⟩) hHeld ?_
      try simp only [Act.put, List.setIfInBounds_toArray, List.set_cons_zero, List.set_cons_succ]
      refine wpAnyH_ready (rs := [0]) (by kernel_rfl) (by simp) ?_
      refine AllReadyH.cons (o := { dst := some 18, op := Op.load 107 (Operand.tmp 3), type := 107, pos := "sha.go:33", after := #[], guard := none }) rfl (fun K hK => ?_) AllReadyH.nil
      refine step_load_row (by rfl) 107 (.tmp 3) rfl (w.heap.size + 1) rfl 107 L (0, 0) _ HGs.out Tryd.underlying107 rfl HSL.out ?_
      refine hK.out _ _ trivial (fun hHeld => ?_)
      clear hK K
      try simp only [Act.put, List.setIfInBounds_toArray, List.set_cons_zero, List.set_cons_succ]
      refine wpAnyH_ready (rs := [6]) (by kernel_rfl) (by simp) ?_
      refine AllReadyH.cons (o := { dst := some 24, op := Op.call { callee := Callee.value (Operand.func 69), args := #[Operand.tmp 18, Operand.tmp 23], argTypes := #[107, 35] }, type := 107, pos := "sha.go:33", after := #[{ on := 0, ground := Ground.data }, { on := 5, ground := Ground.data }], guard := none }) rfl (fun K hK => ?_) AllReadyH.nil
      go_simp
      refine (HKM.out _ (Below.refl _ _).drew).mono ?_
      rintro e w3 ⟨rfl, hb3⟩
      have HG3 : Hid (w3.heap[w.heap.size + 1]? = some (.cells L 107 (0, 0))) := (hb3.block _ (heap_lt HGs.out)).trans HGs.out
      go_wp2_with fail
      refine hK.out _ _ trivial (fun hHeld => ?_)
      clear hK K
      try simp only [Act.put, List.setIfInBounds_toArray, List.set_cons_zero, List.set_cons_succ]
      refine wpAnyH_ready (rs := [7]) (by kernel_rfl) (by simp) ?_
      refine AllReadyH.cons (o := { dst := none, op := Op.store 107 (Operand.tmp 3) (Operand.tmp 24), type := 0, pos := "sha.go:33", after := #[{ on := 6, ground := Ground.data }, { on := 6, ground := Ground.chain }, { on := 0, ground := Ground.phase }, { on := 1, ground := Ground.phase }, { on := 2, ground := Ground.phase }, { on := 3, ground := Ground.phase }, { on := 4, ground := Ground.phase }, { on := 5, ground := Ground.phase }, { on := 6, ground := Ground.phase }], guard := none }) rfl (fun K hK => ?_) AllReadyH.nil
      refine step_store_row (by rfl) 107 (.tmp 3) (.tmp 24) rfl (w.heap.size + 1) L2 rfl rfl 107 L HG3.out HSL2.out HLL.out H1L2.out ?_
      refine hK.out _ _ trivial (fun hHeld => ?_)
      clear hK K
      try simp only [Act.put, List.setIfInBounds_toArray, List.set_cons_zero, List.set_cons_succ]
      refine wpAnyH_done (by kernel_rfl) ?_ _
      have HN2 : Hid ((wcells (blocks first (pad (joinL ss)) (k + 1)).list).toArray = L2) := by
        show _ = _
        rw [HL2.out, HM.out]
        unfold blocks
        rw [← HSt.out]
      go_wp2
      go_roundw
      case rel =>
        refine ⟨k + 1, by omega, by go_num, ⟨?_, ?_, ?_⟩, below_setRow (hB.trans (((Below.refl _ _).drew.trans hb3).mono hB.size)) (by omega) _⟩
        · rw [setRow_other _ _ _ _ (by omega), hb3.block _ (heap_lt HG.out.1)]; exact HG.out.1
        · rw [HN2.out]; exact setRow_heap _ _ _ _ 107 _ HG3.out
        · rw [setRow_other _ _ _ _ (by omega), hb3.block _ (heap_lt HG.out.2.2)]; exact HG.out.2.2
      case measure => simp [intOf]; omega
    · obtain rfl : N = k := by omega
      obtain ⟨s, HSt⟩ : ∃ s, Hid (s = blocks first (pad (joinL ss)) N) := ⟨_, (rfl : blocks first (pad (joinL ss)) N = _)⟩
      obtain ⟨L, HL, HSL, H1L, H8L⟩ := words_row s.list 107 8 rfl size38
      have HGs : Hid (wr.heap[w.heap.size + 1]? = some (.cells L 107 (0, 0))) := by show _ = _; rw [HL.out, HSt.out]; exact HG.out.2.1
      have HOs : Hid (OkSt s) := by show OkSt _; rw [HSt.out]; exact blocks_ok _ _ _ first_ok
      have HE : Hid (sumD (joinL ss) = s.list.flatMap bytes4) := by
        show _ = _
        unfold sumD endOf
        rw [joinL_length, ← HN.out, ← HSt.out]
      go_wp2_with (first
        | (refine wpList_alloc_row rfl 24 rfl Z HA.out ?_)
        | (refine wpList_load_row rfl 107 (.tmp 3) rfl (w.heap.size + 1) rfl 107 L (0, 0) _ (heap_keep HGs.out) Tryd.underlying107 rfl HSL.out ?_)
        | fail)
      have hgd : w.heap.size + 2 ≤ wr.heap.size := by have := heap_lt HG.out.2.2; omega
      have HD0 : Hid ((wr.alloc (.cells Z 24)).heap[wr.heap.size]? = some (.cells (cellsOf (part s.list 0)).toArray 24 (0, 0)) ∧ (wr.alloc (.cells Z 24)).heap[w.heap.size]? = some (.cells Z 24 (0, 0))) := by
        refine ⟨?_, heap_keep HG.out.1⟩
        have e : (cellsOf (part s.list 0)).toArray = Z := by rw [HZ.out]; rfl
        rw [e]
        exact heap_alloc_new wr _
      have hB3 : Below w.heap.size w (wr.alloc (.cells Z 24)) := hB.alloc (by omega) _
      clear HG HGs hB
      generalize wr.heap.size = gd at hgd HD0 ⊢
      generalize wr.alloc (.cells Z 24) = w4 at HD0 hB3 ⊢
      go_loopw [26] (fun v wd => ∃ i : Nat, i ≤ 8 ∧ v = .int .i64 i ∧ Hid (wd.heap[gd]? = some (.cells (cellsOf (part s.list i)).toArray 24 (0, 0)) ∧ wd.heap[w.heap.size]? = some (.cells Z 24 (0, 0))) ∧ Below w.heap.size w wd)
        (fun v _ => 8 - (intOf v).toNat)
      case atStart => exact ⟨0, by omega, rfl, HD0, hB3⟩
      case round =>
        clear HD0 hB3
        obtain ⟨i, hi, rfl, HD, hB⟩ := hrel
        by_cases hlt : i < 8
        · have hdi : decide ((i : Int) < 8) = true := by rw [decide_eq_true_eq]; omega
          obtain ⟨z, HZi⟩ : ∃ z, Hid (z = s.list[i]'hlt) := ⟨_, (rfl : s.list[i]'hlt = _)⟩
          have hz : 0 ≤ z ∧ z ≤ 4294967295 := by rw [HZi.out]; exact HOs.out _ (List.getElem_mem _)
          have hidx : ∀ w, (Instr.index 107 (.agg L) (.int .i64 i)).run Tryd.prog w = .ok (.int .u32 z) w := fun w =>
            run_index_agg w 107 106 8 L .i64 i _ .u32 Tryd.underlying107 Tryd.underlying106 hlt (by rw [HL.out, HZi.out]; simp [wcells_at s.list i hlt]) (by kernel_rfl)
          have hw4 := wrap_int (4 * (i : Int)) (by omega) (by omega)
          have HP : Hid (put4 (part s.list i) (4 * i) z = part s.list (i + 1)) := by
            show _ = _
            rw [HZi.out]
            exact part_put s.list i rfl hlt
          have HPL : Hid ((part s.list i).length = 32) := part_length s.list i rfl (by omega)
          have hsl := fun w => slice_from w gd i hlt
          go_wp2_with fail
          refine (putWord_any gd (4 * i) _ _ 24 (part s.list i) z wr (by omega) (by rw [HPL.out]; omega) hz.1 hz.2 HD.out.1).mono ?_
          rintro e w5 ⟨rfl, rfl⟩
          rw [HP.out]
          go_wp2
          go_roundw
          case rel => exact ⟨i + 1, by omega, by go_num, ⟨setRow_heap _ _ _ _ 24 _ HD.out.1, by rw [setRow_other _ _ _ _ (by omega)]; exact HD.out.2⟩, below_setRow hB (by omega) _⟩
          case measure => simp [intOf]; omega
        · obtain rfl : i = 8 := by omega
          obtain ⟨D, HDD, HSD, H1D, H32D⟩ := dig_row' (sumD (joinL ss)) (sumD_length _)
          have HZD : Hid (Z.size = D.size) := by show _ = _; rw [H32.out, H32D.out]
          have HDs : Hid (wr.heap[gd]? = some (.cells D 24 (0, 0))) := by
            show _ = _
            have := HD.out.1
            rw [part_all s.list rfl, ← HE.out] at this
            rw [HDD.out]
            exact this
          go_wp2_with (first
            | (refine wpList_load_row rfl 24 (.tmp 6) rfl gd rfl 24 D (0, 0) _ HDs.out Tryd.underlying24 rfl HSD.out ?_)
            | (refine wpList_store_row rfl 24 (.tmp 2) (.tmp 36) rfl w.heap.size D rfl rfl 24 Z HD.out.2 HSD.out HZD.out H1D.out ?_)
            | fail)
          refine bodyPost_ret (v := .agg D) ?_ rfl ⟨?_, ?_⟩
          · exact results_cell_row (p := 2) (ty := 24) rfl _ _ w.heap.size 24 D (0, 0) _ rfl (setRow_heap _ _ _ _ 24 _ HD.out.2) Tryd.underlying24 rfl HSD.out
          · rw [HDD.out]; rfl
          · exact below_setRow hB (Nat.le_refl _) _
end Go.Proofs.YtdnhnjimhbbabaaDoor

/- What sha.Empty, sha.Leaf and sha.Knot answer. -/
namespace Go.Proofs.YtdnhnjimhbbabaaDoor
open Go.RowKit Sums
set_option linter.unusedVariables false
set_option linter.unusedSimpArgs false
/-- Texts in a new block. -/
theorem texts_new (w : World) (ss : List ByteArray) (t : TypeId) : Texts (w.alloc (.cells (ss.map Value.string).toArray t)) (some ⟨w.heap.size, 0, none⟩) ss.length ss := by
  refine ⟨rfl, .inr ⟨w.heap.size, 0, rfl, by simp, fun i hi => ?_⟩⟩
  rw [Nat.zero_add, cell_of_row _ _ i _ t (0, 0) (heap_alloc_new w _)]
  simp [List.getElem?_eq_getElem hi]
/-- Of, where a block of texts was just made. -/
theorem of_new (ss : List ByteArray) (t : TypeId) (w : World) (ht : total ss ≤ 1000000) (hlen : ss.length ≤ 9223372036854775807) (hK : Table 0 w) (D : Array Value) (HD : Hid (D = (cellsOf (sumD (joinL ss))).toArray)) (n cap g : Nat) (hn : n = ss.length) (hg : g = w.heap.size)
    (cs : Array Value) (hcs : cs = (ss.map Value.string).toArray) :
    Calls Tryd.prog 51 #[.slice (some ⟨g, 0, none⟩) n cap] (w.alloc (.cells cs t)) fun e w' => e = .returned (.agg D) ∧ Below w.heap.size w w' := by
  subst hcs hn hg
  have h := of_any _ ss.length cap ss _ (texts_new w ss t) ht hlen (hK.keep ((Below.refl _ _).alloc (Nat.le_refl _) _))
  refine h.mono ?_
  rintro e w' ⟨he, hb⟩
  refine ⟨?_, ((Below.refl _ _).alloc (Nat.le_refl _) _).trans (hb.mono (by simp))⟩
  rw [he, HD.out]
  rfl
theorem range_keep {W W' : World} {g o : Nat} {l : List Value} (hb : Below W.heap.size W W') (h : W.rangeAt g o l) : W'.rangeAt g o l := fun j v hj => by
  have hc := h j v hj
  rw [hb.cell (World.block_lt_of_cell? _ _ hc)]
  exact hc
theorem range_row {W : World} {g : Nat} {l : List Value} {t : TypeId} {fr : Nat × Nat} (h : W.heap[g]? = some (.cells l.toArray t fr)) : W.rangeAt g 0 l := fun j v hj => by
  rw [Nat.zero_add, cell_of_row W g j _ t fr h]
  simpa using hj
end Go.Proofs.YtdnhnjimhbbabaaDoor

/- Digests held against one another; sums of texts that lie somewhere. -/
namespace Go.Proofs.YtdnhnjimhbbabaaDoor
open Go.RowKit Sums
set_option linter.unusedVariables false
theorem hidk {p : Prop} (h : p) : Hid p := h
theorem sizeOf5 (w : World) : (sizeOf 5).run Tryd.prog w = .ok 1 w := by
  cases hq : Tryd.prog.info? 5 with
  | none => have := size5; simp [hq] at this
  | some i => have := size5; simp [hq] at this; simp [sizeOf, typeInfo, hq, this]
theorem eqDig (xs ys : List UInt8) (hx : xs.length = 32) (hy : ys.length = 32) (w : World) : (binOp .eql 24 (.agg (cellsOf xs).toArray) (.agg (cellsOf ys).toArray)).run Tryd.prog w = .ok (.bool (xs == ys)) w :=
  run_eql_bytes w 24 5 32 Tryd.underlying24 Tryd.underlying5 sizeOf5 xs ys hx hy
/-- Of, of texts that lie somewhere. -/
theorem of_lies (ss : List ByteArray) (ht : total ss ≤ 1000000) (hlen : ss.length ≤ 9223372036854775807) (D : Array Value) (HD : Hid (D = (cellsOf (sumD (joinL ss))).toArray)) (W : World) (a : Option Addr) (n cap : Nat)
    (hT : Texts W a n ss) (hK : Table 0 W) :
    Calls Tryd.prog 51 #[.slice a n cap] W fun e w' => e = .returned (.agg D) ∧ Below W.heap.size W w' := by
  have h := of_any _ n cap ss W hT ht (by rw [← hT.1]; exact hlen) hK
  rw [HD.out]
  exact h
end Go.Proofs.YtdnhnjimhbbabaaDoor

/- Laws of memory: variables that are arrays, made, read and written; digests and keys held against one another. -/
namespace Go.Proofs.YtdnhnjimhbbabaaDoor
open Go.RowKit Sums
set_option linter.unusedVariables false
set_option linter.unusedSimpArgs false
/-- An array read by its row, where the order is drawn. -/
theorem yieldsIf_row {P : Program} {ops : Array Oper} {S : World → Prop} {o : Oper} {a : Act} (hw : Region.wanted o (yielded ops a.tmps) = true) (ty : TypeId) (x : Operand) (ho : o.op = .load ty x) (g : Nat) (hx : a.eval x = .pointer (some ⟨g, 0, none⟩)) (t : TypeId) (cs : Array Value) (fr : Nat × Nat) (d : TypeDesc) (hg : ∀ w, S w → w.heap[g]? = some (.cells cs t fr))
    (hu : P.underlying ty = some d) (hd : d.isRow = true) (hi : (P.info? ty).map (·.size) = some cs.size) : YieldsIf P ops S o (.agg cs) a := by
  have := yieldsIf_load_mid (P := P) (ops := ops) (S := S) hw ty x ho g 0 hx cs.toList d (fun w h => range_row (t := t) (fr := fr) (by simpa using hg w h)) hu hd (by simpa using hi)
  simpa using this
/-- What a write of a whole row leaves. -/
structure Wrote (g : Nat) (D : Array Value) (t : TypeId) (w w' : World) : Prop where
  row : w'.heap[g]? = some (.cells D t (0, 0))
  other : ∀ k, k ≠ g → w'.heap[k]? = w.heap[k]?
  below : ∀ (B : Nat) (a : World), Below B a w → B ≤ g → Below B a w'
theorem wrote_row {w : World} {g : Nat} {Z D : Array Value} {t : TypeId} (h : w.heap[g]? = some (.cells Z t (0, 0))) : Wrote g D t w (w.setRow g D) :=
  ⟨setRow_heap _ _ _ _ t _ h, fun k hk => setRow_other _ _ _ _ hk, fun B a hb hg => below_setRow hb hg _⟩
/-- What a new variable leaves. -/
structure Made (g : Nat) (Z : Array Value) (t : TypeId) (w w' : World) : Prop where
  new : g = w.heap.size
  row : w'.heap[g]? = some (.cells Z t (0, 0))
  below : Below w.heap.size w w'
theorem step_set_var {P : Program} {ops : Array Oper} {o : Oper} {a : Act} {w : World} {K : Act → World → Prop} {Q : Exit → Act → World → Prop} {E : Prop} (hw : Region.wanted o (yielded ops a.tmps) = true) (t : TypeId) (x y : Operand) (ho : o.op = .store t x y)
    (g : Nat) (D : Array Value) (hx : a.eval x = .pointer (some ⟨g, 0, none⟩)) (hy : a.eval y = .agg D) (t' : TypeId) (Z : Array Value) (hg : w.heap[g]? = some (.cells Z t' (0, 0))) (hi : (P.info? t).map (·.size) = some D.size) (hold : Z.size = D.size) (h1 : D.all (·.oneCell') = true)
    (h : ∀ w', Hid (Wrote g D t' w w') → K (a.put o.dst undef) w') : if Region.wanted o (yielded ops a.tmps) = true then Oper.wp P o a w K Q else E :=
  step_store_row hw t x y ho g D hx hy t' Z hg hi hold h1 (h _ (wrote_row hg))
theorem alloc_size (w : World) (o : Obj) : (w.alloc o).heap.size = w.heap.size + 1 := by simp
theorem beqL (xs ys : List UInt8) : (xs == ys) = decide (xs = ys) := by by_cases h : xs = ys <;> simp [h]
theorem eqDigV (xs ys : List UInt8) (hx : xs.length = 32) (hy : ys.length = 32) (X Y : Array Value) (HX : Hid (X = (cellsOf xs).toArray)) (HY : Hid (Y = (cellsOf ys).toArray)) (b : Bool) (hb : decide (xs = ys) = b) (w : World) : (binOp .eql 24 (.agg X) (.agg Y)).run Tryd.prog w = .ok (.bool b) w := by
  rw [HX.out, HY.out, eqDig xs ys hx hy, ← hb, beqL]
/-- A variable that is an array, made; the world behind it is a letter. -/
theorem wpList_new_var {P : Program} {ops : Array Oper} {rest : List Oper} {o : Oper} {a : Act} {w : World} {Q : Exit → Act → World → Prop} (hg : o.guard = none) (t : TypeId) (ho : o.op = .alloc t)
    (cs : Array Value) (hz : (P.info? t).map (fun i => (i.zero, i.size)) = some (some (.agg cs), cs.size)) (h : ∀ g w', Hid (Made g cs t w w') → wpList P ops Q rest (a.put o.dst (.pointer (some ⟨g, 0, none⟩))) w') : wpList P ops Q (o :: rest) a w :=
  wpList_alloc_row hg t ho cs hz (h w.heap.size _ ⟨rfl, heap_alloc_new w _, (Below.refl _ _).alloc (Nat.le_refl _) _⟩)
theorem wpList_set_var {P : Program} {ops : Array Oper} {rest : List Oper} {o : Oper} {a : Act} {w : World} {Q : Exit → Act → World → Prop} (hgd : o.guard = none) (t : TypeId) (x y : Operand) (ho : o.op = .store t x y)
    (g : Nat) (D : Array Value) (hx : a.eval x = .pointer (some ⟨g, 0, none⟩)) (hy : a.eval y = .agg D) (t' : TypeId) (Z : Array Value) (hg : w.heap[g]? = some (.cells Z t' (0, 0))) (hi : (P.info? t).map (·.size) = some D.size) (hold : Z.size = D.size) (h1 : D.all (·.oneCell') = true)
    (h : ∀ w', Hid (Wrote g D t' w w') → wpList P ops Q rest (a.put o.dst undef) w') : wpList P ops Q (o :: rest) a w :=
  wpList_store_row hgd t x y ho g D hx hy t' Z hg hi hold h1 (h _ (wrote_row hg))
/-- An array read out of the midst of a row. -/
theorem yieldsIf_mid {P : Program} {ops : Array Oper} {S : World → Prop} {op : Oper} {a : Act} (hw : Region.wanted op (yielded ops a.tmps) = true) (ty : TypeId) (x : Operand) (ho : op.op = .load ty x)
    (b o : Nat) (hx : a.eval x = .pointer (some ⟨b, o, none⟩)) (D : Array Value) (d : TypeDesc) (hS : ∀ w, S w → w.rangeAt b o D.toList)
    (hu : P.underlying ty = some d) (hd : d.isRow = true) (hi : (P.info? ty).map (·.size) = some D.size) : YieldsIf P ops S op (.agg D) a := by
  have := yieldsIf_load_mid (P := P) (ops := ops) (S := S) hw ty x ho b o hx D.toList d hS hu hd (by simpa using hi)
  simpa using this
theorem wpList_mid {P : Program} {ops : Array Oper} {rest : List Oper} {op : Oper} {a : Act} {w : World} {Q : Exit → Act → World → Prop} (hgd : op.guard = none) (ty : TypeId) (x : Operand) (ho : op.op = .load ty x)
    (b o : Nat) (hx : a.eval x = .pointer (some ⟨b, o, none⟩)) (D : Array Value) (d : TypeDesc) (hc : w.rangeAt b o D.toList)
    (hu : P.underlying ty = some d) (hd : d.isRow = true) (hi : (P.info? ty).map (·.size) = some D.size)
    (h : wpList P ops Q rest (a.put op.dst (.agg D)) w) : wpList P ops Q (op :: rest) a w :=
  wpList_load_mid hgd ty x ho b o hx D.toList d hc hu hd (by simpa using hi) (by simpa using h)
theorem slice_at (w : World) (g o : Nat) : (Instr.sliceAt 24 (.pointer (some ⟨g, o, none⟩)) none none none).run Tryd.prog w = .ok (.slice (some ⟨g, o, none⟩) 32 32) w := by
  simp [Instr.sliceAt, Instr.slice, Instr.sliceBounds, run_underlying Tryd.underlying24, Instr.sureAddr]
  rw [add_plain]
  simp
theorem conv_at (W : World) (g o : Nat) (l : List UInt8) (hl : l.length = 32) (h : W.rangeAt g o (cellsOf l)) : Sem.run Tryd.prog (convert 35 9 (.slice (some ⟨g, o, none⟩) 32 32)) W = .ok (.string ⟨l.toArray⟩) W := by
  have := run_convert_bytes_back (P := Tryd.prog) W 35 9 5 ⟨g, o, none⟩ 32 l Tryd.underlying35 Tryd.underlying5 Tryd.underlying9 (fun j hj => by
    rw [add_plain]
    exact h j _ (cellsOf_at l j hj))
  rw [hl] at this
  exact this
/-! Keys: arrays of 32 bytes, of another type than digests. -/
theorem zeroY : (Tryd.prog.info? 23).map (fun i => (i.zero, i.size)) = some (some (.agg (cellsOf (List.replicate 32 0)).toArray), 32) := by kernel_rfl
theorem sizeY : (Tryd.prog.info? 23).map (·.size) = some 32 := by kernel_rfl
theorem noughtsY : ∃ Z : Array Value, Hid (Z = (cellsOf (List.replicate 32 0)).toArray) ∧ Hid ((Tryd.prog.info? 23).map (fun i => (i.zero, i.size)) = some (some (.agg Z), Z.size)) ∧ Hid (Z.size = 32) :=
  ⟨(cellsOf (List.replicate 32 0)).toArray, (rfl : _ = _), zeroY, (rfl : _ = _)⟩
theorem key_row (l : List UInt8) (hl : l.length = 32) : ∃ D : Array Value, Hid (D = (cellsOf l).toArray) ∧ Hid ((Tryd.prog.info? 23).map (·.size) = some D.size) ∧ Hid (D.all (·.oneCell') = true) ∧ Hid (D.size = 32) := by
  refine ⟨(cellsOf l).toArray, (rfl : _ = _), ?_, cellsOf_all l, ?_⟩
  · show _ = _
    rw [sizeY]; simp [cellsOf_length, hl]
  · show _ = _
    simp [cellsOf_length, hl]
theorem xor8 (x y : UInt8) : bits .xor .u8 (x.toNat : Int) (y.toNat : Int) = ((x ^^^ y).toNat : Int) := by
  rw [u8_xor_nat _ _ x.toNat_lt y.toNat_lt, UInt8.toNat_xor]
end Go.Proofs.YtdnhnjimhbbabaaDoor

/- What the document's small functions on heads answer: is a head right; numbers and digests. -/
namespace Go.Proofs.YtdnhnjimhbbabaaDoor
open Go.RowKit Sums Nums
set_option linter.unusedVariables false
set_option linter.unusedSimpArgs false
set_option maxRecDepth 100000
/-! Heads in memory: three numbers, a digest, a number. -/
def hcells (h : HdT) : List Value := [.int .i64 h.r, .int .i64 h.e, .int .i64 h.s] ++ cellsOf h.d ++ [.int .i64 h.t]
theorem hcells_length (h : HdT) (hd : h.d.length = 32) : (hcells h).length = 36 := by simp [hcells, cellsOf_length, hd]
def scells (s : SgT) : List Value := hcells s.h ++ [.int .i64 s.n] ++ cellsOf s.g
theorem scells_length (s : SgT) (hd : s.h.d.length = 32) (hg : s.g.length = 32) : (scells s).length = 69 := by simp [scells, hcells_length _ hd, cellsOf_length, hg]
/-- What the parts of a head's row read as. -/
structure HRow (W : World) (g o : Nat) (h : HdT) : Prop where
  r : W.cell? ⟨g, o, none⟩ = some (.int .i64 h.r)
  e : W.cell? ⟨g, o + 1, none⟩ = some (.int .i64 h.e)
  s : W.cell? ⟨g, o + 2, none⟩ = some (.int .i64 h.s)
  d : W.rangeAt g (o + 3) (cellsOf h.d)
  t : W.cell? ⟨g, o + 35, none⟩ = some (.int .i64 h.t)
theorem hrow_of {W : World} {g o : Nat} {h : HdT} (hd : h.d.length = 32) (hr : W.rangeAt g o (hcells h)) : HRow W g o h := by
  refine ⟨?_, ?_, ?_, ?_, ?_⟩
  · have := hr 0 (.int .i64 h.r) rfl; simpa using this
  · exact hr 1 (.int .i64 h.e) rfl
  · exact hr 2 (.int .i64 h.s) rfl
  · intro j v hj
    have hlt := (List.getElem?_eq_some_iff.1 hj).1
    have := hr (3 + j) v (by
      unfold hcells
      rw [List.append_assoc, List.getElem?_append_right (by simp), List.getElem?_append_left (by simpa using hlt)]
      simpa using hj)
    rw [Nat.add_assoc]; exact this
  · have := hr 35 (.int .i64 h.t) (by
      unfold hcells
      rw [List.getElem?_append_right (by simp [cellsOf_length, hd])]
      simp [cellsOf_length, hd])
    exact this
theorem hrow_new (w : World) (h : HdT) (hd : h.d.length = 32) (C : Array Value) (HC : Hid (C = (hcells h).toArray)) (t : TypeId) : HRow (w.alloc (.cells C t)) w.heap.size 0 h := by
  refine hrow_of hd ?_
  intro j v hj
  rw [Nat.zero_add, cell_of_row _ _ j _ t (0, 0) (heap_alloc_new w _), HC.out]
  simpa using hj
end Go.Proofs.YtdnhnjimhbbabaaDoor

/- Rows of bytes: made, and written byte by byte; the new world is a letter. -/
namespace Go.Proofs.YtdnhnjimhbbabaaDoor
open Go.RowKit Sums
set_option linter.unusedVariables false
set_option linter.unusedSimpArgs false
theorem wrote_cell {w : World} {g i : Nat} {cs : Array Value} {t : TypeId} (v : Value) (h : w.heap[g]? = some (.cells cs t (0, 0))) : Wrote g (cs.setIfInBounds i v) t w (w.setCell ⟨g, i, none⟩ v) :=
  ⟨Go.heap_setCell_same w g i cs t v h, fun k hk => Below.heap_setCell _ _ _ _ hk, fun B a hb hg => hb.setCell hg _⟩
theorem wpList_put8 {P : Program} {ops : Array Oper} {rest : List Oper} {o : Oper} {a : Act} {w : World} {Q : Exit → Act → World → Prop} (hgd : o.guard = none) (t : TypeId) (x y : Operand) (ho : o.op = .store t x y) (hs : ∀ w, (sizeOf t).run P w = .ok 1 w)
    (g i : Nat) (n : Int) (hx : a.eval x = .pointer (some ⟨g, i, none⟩)) (hy : a.eval y = .int .u8 n) (cs : Array Value) (t' : TypeId) (hg : w.heap[g]? = some (.cells cs t' (0, 0))) (hi : i < cs.size)
    (h : ∀ w', Hid (Wrote g (cs.setIfInBounds i (.int .u8 n)) t' w w') → wpList P ops Q rest (a.put o.dst undef) w') : wpList P ops Q (o :: rest) a w := by
  refine wpList_plain hgd fun K hK => ?_
  have hc : w.cell? ⟨g, i, none⟩ = some cs[i] := by rw [cell_of_row w g i cs t' (0, 0) hg, Array.getElem?_eq_getElem hi]
  have hf : w.frozen? ⟨g, i, none⟩ = false := frozen_of_row w g i cs t' hg
  have hrun : (Instr.storeAt t (.pointer (some ⟨g, i, none⟩)) (.int .u8 n)).run P w = .ok () (w.setCell ⟨g, i, none⟩ (.int .u8 n)) := by
    simp [go_sem, hc, hf, hs]
  unfold Oper.wp execOp
  simp only [ho, hx, hy, hrun, Sem.run_bind, Result.andThen_ok]
  exact hK _ _ (h _ (wrote_cell _ hg))
theorem cells_put (l : List UInt8) (k : Nat) (x : UInt8) : ((cellsOf l).toArray.setIfInBounds k (.int .u8 (x.toNat : Int))) = (cellsOf (l.set k x)).toArray := by
  unfold cellsOf
  rw [List.setIfInBounds_toArray, List.map_set]
end Go.Proofs.YtdnhnjimhbbabaaDoor

/- What pack's fault and appendField do: the fault of a field; a field's bytes behind bytes that are owned. -/
namespace Go.Proofs.YtdnhnjimhbbabaaDoor
open Go.RowKit Nums
set_option maxRecDepth 100000
theorem cellsOf_str (s : ByteArray) : Lib.strCells s = cellsOf s.data.toList := rfl
theorem fault_any (last tag : Int) (d : ByteArray) (w : World) (hd : d.size ≤ maxLen) :
    Calls Tryd.prog 74 #[.int .i64 last, .agg #[.int .i64 tag, .string d]] w fun e w' => e = .returned (.int .i64 (faultOf last tag d.size)) ∧ Below w.heap.size w w' := by
  unfold maxLen at hd
  have hb : Below w.heap.size w (w.alloc (.cells #[.int .i64 tag, .string d] 59)) := (Below.refl _ _).alloc (Nat.le_refl _) _
  by_cases h1 : tag ≤ last
  · have HF : Hid (faultOf last tag d.size = 1) := by simp [Hid, faultOf, h1]
    go_enter Tryd.func74, Tryd.ntmps74
    go_wp2
    go_ret
    rw [HF.out]
    exact ⟨rfl, hb⟩
  · by_cases h2 : 255 < tag
    · have HF : Hid (faultOf last tag d.size = 1) := by simp [Hid, faultOf, h2]
      go_enter Tryd.func74, Tryd.ntmps74
      go_wp2
      go_ret
      rw [HF.out]
      exact ⟨rfl, hb⟩
    · by_cases h3 : (65536 : Int) < (d.size : Int)
      · have HF : Hid (faultOf last tag d.size = 2) := by
          show _ = _
          rw [faultOf, if_neg (by omega), if_pos (by omega)]
        go_enter Tryd.func74, Tryd.ntmps74
        go_wp2
        go_ret
        rw [HF.out]
        exact ⟨rfl, hb⟩
      · have HF : Hid (faultOf last tag d.size = 0) := by
          show _ = _
          rw [faultOf, if_neg (by omega), if_neg (by omega)]
        go_enter Tryd.func74, Tryd.ntmps74
        go_wp2
        go_ret
        rw [HF.out]
        exact ⟨rfl, hb⟩
theorem row_low {w : World} {B : Nat} {v : Value} {n : Nat} {xs : List Value} (h : w.ownsRow B 5 1 v n xs) : ∀ k, v.ownBlock = some k → B ≤ k := fun k hk => (h.lt k hk).1
end Go.Proofs.YtdnhnjimhbbabaaDoor

/- What pack.Get answers. -/
namespace Go.Proofs.YtdnhnjimhbbabaaDoor
open Go.RowKit Nums
set_option maxRecDepth 100000
theorem get_short (a : Option Addr) (len cap : Nat) (w : World) (h : len < 4) :
    Calls Tryd.prog 87 #[.slice a len cap] w fun e w' => e = .returned (.tuple #[.agg #[.int .i64 0, .string ⟨#[]⟩], .int .i64 0, .int .i64 10]) ∧ Below w.heap.size w w' := by
  go_enter Tryd.func87, Tryd.ntmps87
  go_wp2
  refine bodyPost_ret (v := .tuple #[.agg #[.int .i64 0, .string ⟨#[]⟩], .int .i64 0, .int .i64 10]) (by simp [results, Tryd.results87, go_sem]) rfl ⟨rfl, ?_⟩
  exact (Below.refl _ _).alloc (Nat.le_refl _) _
/-- The world in which Get's answer lies: a block of its own. -/
theorem below_get (w : World) (nq : Nat) (x y : Value) :
    Below w.heap.size w ((((w.alloc (.cells #[.int .i64 0, .string ⟨#[]⟩] 59)).drewN nq).setCell ⟨w.heap.size, 0, none⟩ x).setCell ⟨w.heap.size, 1, none⟩ y) :=
  ((below_drewN ((Below.refl _ _).alloc (Nat.le_refl _) _) nq).setCell (Nat.le_refl _) _).setCell (Nat.le_refl _) _
set_option maxHeartbeats 1000000 in
theorem get_form (b off len cap : Nat) (w : World) (h : 4 ≤ len) (c0 c1 c2 c3 N : Nat) (hb : b < w.heap.size)
    (h0 : w.cell? ⟨b, off, none⟩ = some (.int .u8 c0)) (h1 : w.cell? ⟨b, off + 1, none⟩ = some (.int .u8 c1))
    (h2 : w.cell? ⟨b, off + 2, none⟩ = some (.int .u8 c2)) (h3 : w.cell? ⟨b, off + 3, none⟩ = some (.int .u8 c3))
    (g0 : (c0 : Int) ≤ 255) (g1 : (c1 : Int) ≤ 255) (g2 : (c2 : Int) ≤ 255) (g3 : (c3 : Int) ≤ 255) (hN : (N : Int) ≤ 16777215)
    (hbits : bits .or .i64 (bits .or .i64 ((c1 : Int) * 65536) ((c2 : Int) * 256)) (c3 : Int) = (N : Int))
    (hc : ((c0 : Int) == 0) = true ∨ (((c0 : Int) == 0) = false ∧ (65536 : Int) < (N : Int))) :
    Calls Tryd.prog 87 #[.slice (some ⟨b, off, none⟩) len cap] w fun e w' => e = .returned (.tuple #[.agg #[.int .i64 0, .string ⟨#[]⟩], .int .i64 0, .int .i64 11]) ∧ Below w.heap.size w w' := by
  have l0 : (0 : Int) < (len : Int) := by omega
  have l1 : (1 : Int) < (len : Int) := by omega
  have l2 : (2 : Int) < (len : Int) := by omega
  have l3 : (3 : Int) < (len : Int) := by omega
  rcases hc with hc | ⟨hc, hc2⟩
  all_goals
    go_enter Tryd.func87, Tryd.ntmps87
    go_wp2
    go_quiet (fail)
    go_wp2
    exact bodyPost_ret (v := .tuple #[.agg #[.int .i64 0, .string ⟨#[]⟩], .int .i64 0, .int .i64 11]) (by simp [results, Tryd.results87, go_sem]) rfl ⟨rfl, below_get _ _ _ _⟩
set_option maxHeartbeats 1000000 in
theorem get_cut (b off len cap : Nat) (w : World) (h : 4 ≤ len) (c0 c1 c2 c3 N : Nat) (hb : b < w.heap.size)
    (h0 : w.cell? ⟨b, off, none⟩ = some (.int .u8 c0)) (h1 : w.cell? ⟨b, off + 1, none⟩ = some (.int .u8 c1))
    (h2 : w.cell? ⟨b, off + 2, none⟩ = some (.int .u8 c2)) (h3 : w.cell? ⟨b, off + 3, none⟩ = some (.int .u8 c3))
    (g0 : (c0 : Int) ≤ 255) (g1 : (c1 : Int) ≤ 255) (g2 : (c2 : Int) ≤ 255) (g3 : (c3 : Int) ≤ 255) (hN : (N : Int) ≤ 65536)
    (hbits : bits .or .i64 (bits .or .i64 ((c1 : Int) * 65536) ((c2 : Int) * 256)) (c3 : Int) = (N : Int))
    (hc : ((c0 : Int) == 0) = false) (hl : (len : Int) < 4 + (N : Int)) :
    Calls Tryd.prog 87 #[.slice (some ⟨b, off, none⟩) len cap] w fun e w' => e = .returned (.tuple #[.agg #[.int .i64 0, .string ⟨#[]⟩], .int .i64 0, .int .i64 10]) ∧ Below w.heap.size w w' := by
  have l0 : (0 : Int) < (len : Int) := by omega
  have l1 : (1 : Int) < (len : Int) := by omega
  have l2 : (2 : Int) < (len : Int) := by omega
  have l3 : (3 : Int) < (len : Int) := by omega
  have hn : ¬ (65536 : Int) < (N : Int) := by omega
  go_enter Tryd.func87, Tryd.ntmps87
  go_wp2
  go_quiet (fail)
  go_wp2
  exact bodyPost_ret (v := .tuple #[.agg #[.int .i64 0, .string ⟨#[]⟩], .int .i64 0, .int .i64 10]) (by simp [results, Tryd.results87, go_sem]) rfl ⟨rfl, below_get _ _ _ _⟩
set_option maxHeartbeats 1000000 in
theorem get_field (b off len cap : Nat) (w : World) (h : 4 ≤ len) (c0 c1 c2 c3 N : Nat) (hb : b < w.heap.size) (hlc : len ≤ cap) (hcm : cap ≤ 9223372036854775807)
    (h0 : w.cell? ⟨b, off, none⟩ = some (.int .u8 c0)) (h1 : w.cell? ⟨b, off + 1, none⟩ = some (.int .u8 c1))
    (h2 : w.cell? ⟨b, off + 2, none⟩ = some (.int .u8 c2)) (h3 : w.cell? ⟨b, off + 3, none⟩ = some (.int .u8 c3))
    (g0 : (c0 : Int) ≤ 255) (g1 : (c1 : Int) ≤ 255) (g2 : (c2 : Int) ≤ 255) (g3 : (c3 : Int) ≤ 255) (hN : (N : Int) ≤ 65536)
    (hbits : bits .or .i64 (bits .or .i64 ((c1 : Int) * 65536) ((c2 : Int) * 256)) (c3 : Int) = (N : Int))
    (hc : ((c0 : Int) == 0) = false) (hl : 4 + (N : Int) ≤ (len : Int)) (d : List UInt8) (hd : d.length = N) (hdata : ∀ (j : Nat) (hj : j < d.length), w.cell? ⟨b, off + 4 + j, none⟩ = some (.int .u8 d[j].toNat)) :
    Calls Tryd.prog 87 #[.slice (some ⟨b, off, none⟩) len cap] w fun e w' => e = .returned (.tuple #[.agg #[.int .i64 c0, .string ⟨d.toArray⟩], .int .i64 (4 + N), .int .i64 0]) ∧ Below w.heap.size w w' := by
  have l0 : (0 : Int) < (len : Int) := by omega
  have l1 : (1 : Int) < (len : Int) := by omega
  have l2 : (2 : Int) < (len : Int) := by omega
  have l3 : (3 : Int) < (len : Int) := by omega
  have hn : ¬ (65536 : Int) < (N : Int) := by omega
  have hl' : ¬ (len : Int) < 4 + (N : Int) := by omega
  by_cases hcap : cap = 4
  · have hlen : len = 4 := by omega
    have hN0 : N = 0 := by omega
    subst hN0 hlen hcap
    have hd0 : d = [] := List.eq_nil_of_length_eq_zero hd
    subst hd0
    have hconv : ∀ nq, Sem.run Tryd.prog (convert 35 9 (.slice (some ⟨b, off, none⟩) 0 0)) ((w.alloc (.cells #[.int .i64 0, .string ⟨#[]⟩] 59)).drewN nq) = .ok (.string ⟨#[]⟩) ((w.alloc (.cells #[.int .i64 0, .string ⟨#[]⟩] 59)).drewN nq) :=
      fun nq => run_convert_bytes_back (P := Tryd.prog) _ 35 9 5 ⟨b, off, none⟩ 0 [] Tryd.underlying35 Tryd.underlying5 Tryd.underlying9 (fun j hj => by simp at hj)
    clear hdata hd
    go_enter Tryd.func87, Tryd.ntmps87
    go_wp2
    go_quiet (fail)
    go_wp2
    exact bodyPost_ret (v := .tuple #[.agg #[.int .i64 c0, .string ⟨#[]⟩], .int .i64 4, .int .i64 0]) (by simp [results, Tryd.results87, go_sem]) rfl ⟨rfl, below_get _ _ _ _⟩
  · have hconv : ∀ nq, Sem.run Tryd.prog (convert 35 9 (.slice (some ⟨b, off + 4, none⟩) N (cap - 4))) ((w.alloc (.cells #[.int .i64 0, .string ⟨#[]⟩] 59)).drewN nq) = .ok (.string ⟨d.toArray⟩) ((w.alloc (.cells #[.int .i64 0, .string ⟨#[]⟩] 59)).drewN nq) := by
      intro nq
      have := run_convert_bytes_back (P := Tryd.prog) ((w.alloc (.cells #[.int .i64 0, .string ⟨#[]⟩] 59)).drewN nq) 35 9 5 ⟨b, off + 4, none⟩ (cap - 4) d Tryd.underlying35 Tryd.underlying5 Tryd.underlying9 (fun j hj => by
        rw [add_plain]
        have h1 : Below w.heap.size w ((w.alloc (.cells #[.int .i64 0, .string ⟨#[]⟩] 59)).drewN nq) := below_drewN ((Below.refl _ _).alloc (Nat.le_refl _) _) nq
        rw [h1.cell (p := ⟨b, off + 4 + j, none⟩) hb]
        exact hdata j hj)
      rw [hd] at this
      exact this
    clear hdata hd
    go_enter Tryd.func87, Tryd.ntmps87
    go_wp2
    go_quiet (fail)
    go_wp2
    exact bodyPost_ret (v := .tuple #[.agg #[.int .i64 c0, .string ⟨d.toArray⟩], .int .i64 (4 + N), .int .i64 0]) (by simp [results, Tryd.results87, go_sem]) rfl ⟨rfl, below_get _ _ _ _⟩
end Go.Proofs.YtdnhnjimhbbabaaDoor

/- Both Gets answer as one plain function of the bytes. -/
namespace Go.Proofs.YtdnhnjimhbbabaaDoor
open Go.RowKit Nums
set_option maxRecDepth 100000
/-- A slice of bytes that can be read: its bytes are l. -/
def Reads (w : World) (a : Option Addr) (len cap : Nat) (l : List UInt8) : Prop :=
  l.length = len ∧ len ≤ cap ∧ cap ≤ 9223372036854775807 ∧
  ((a = none ∧ cap = 0) ∨ (∃ ad, a = some ad ∧ len = 0) ∨ ∃ b off, a = some ⟨b, off, none⟩ ∧ b < w.heap.size ∧ ∀ (i : Nat) (h : i < l.length), w.cell? ⟨b, off + i, none⟩ = some (.int .u8 l[i].toNat))
theorem Reads.below {w w' : World} {a : Option Addr} {len cap : Nat} {l : List UInt8} (h : Reads w a len cap l) (hb : Below w.heap.size w w') : Reads w' a len cap l := by
  obtain ⟨h1, h2, h3, h4⟩ := h
  refine ⟨h1, h2, h3, ?_⟩
  rcases h4 with h4 | h4 | ⟨b, off, e, hlt, hc⟩
  · exact .inl h4
  · exact .inr (.inl h4)
  · refine .inr (.inr ?_)
    exact ⟨b, off, e, Nat.lt_of_lt_of_le hlt hb.size, fun i hi => (hb.cell (p := ⟨b, off + i, none⟩) hlt).trans (hc i hi)⟩
def gotten (l : List UInt8) : Ending := .returned (.tuple #[.agg #[.int .i64 (gT l), .string ⟨(gD l).toArray⟩], .int .i64 (gN l), .int .i64 (gE l)])
theorem gotten_no {l : List UInt8} {k : Nat} (h : gE l = k) (hk : k ≠ 0) : gotten l = .returned (.tuple #[.agg #[.int .i64 0, .string ⟨#[]⟩], .int .i64 0, .int .i64 k]) := by
  have h0 : gE l ≠ 0 := by omega
  rw [gotten, gT, gD, gN, if_neg h0, if_neg h0, if_neg h0, h]; rfl
theorem gotten_yes {l : List UInt8} (h : gE l = 0) : gotten l = .returned (.tuple #[.agg #[.int .i64 ((l.getD 0 0).toNat : Nat), .string ⟨((l.drop 4).take (size3 l)).toArray⟩], .int .i64 (4 + (size3 l : Int)), .int .i64 0]) := by
  simp [gotten, gT, gD, gN, h]
/-- What a walk needs to know of bytes that are long enough. -/
theorem Reads.heads {w : World} {a : Option Addr} {len cap : Nat} {l : List UInt8} (h : Reads w a len cap l) (h4 : 4 ≤ len) :
    ∃ b off, a = some ⟨b, off, none⟩ ∧ b < w.heap.size ∧ w.cell? ⟨b, off, none⟩ = some (.int .u8 (l.getD 0 0).toNat) ∧ w.cell? ⟨b, off + 1, none⟩ = some (.int .u8 (l.getD 1 0).toNat) ∧
      w.cell? ⟨b, off + 2, none⟩ = some (.int .u8 (l.getD 2 0).toNat) ∧ w.cell? ⟨b, off + 3, none⟩ = some (.int .u8 (l.getD 3 0).toNat) ∧
      ∀ (n : Nat), 4 + n ≤ len → ((l.drop 4).take n).length = n ∧ ∀ (j : Nat) (hj : j < ((l.drop 4).take n).length), w.cell? ⟨b, off + 4 + j, none⟩ = some (.int .u8 ((l.drop 4).take n)[j].toNat) := by
  obtain ⟨h1, h2, h3, ⟨_, h0⟩ | ⟨_, _, h0⟩ | ⟨b, off, e, hlt, hc⟩⟩ := h
  · omega
  · omega
  · have hg : ∀ i, i < len → w.cell? ⟨b, off + i, none⟩ = some (.int .u8 (l.getD i 0).toNat) := fun i hi => by
      rw [hc i (by omega), List.getD, List.getElem?_eq_getElem (by omega)]; rfl
    refine ⟨b, off, e, hlt, hg 0 (by omega), hg 1 (by omega), hg 2 (by omega), hg 3 (by omega), ?_⟩
    intro n hn
    refine ⟨by simp; omega, fun j hj => ?_⟩
    have hj' : j < n := by simp at hj; omega
    have := hc (4 + j) (by omega)
    rw [← Nat.add_assoc] at this
    rw [this]
    simp
theorem get_any (a : Option Addr) (len cap : Nat) (l : List UInt8) (w : World) (h : Reads w a len cap l) :
    Calls Tryd.prog 87 #[.slice a len cap] w fun e w' => e = gotten l ∧ Below w.heap.size w w' := by
  by_cases h4 : len < 4
  · rw [gotten_no (gE_short (by rw [h.1]; exact h4)) (by decide)]
    exact get_short a len cap w h4
  · obtain ⟨b, off, rfl, hlt, h0, h1, h2, h3, hd⟩ := h.heads (by omega)
    have n0 : ¬ l.length < 4 := by rw [h.1]; exact h4
    have b0 := (l.getD 0 0).toNat_lt
    have b1 := (l.getD 1 0).toNat_lt
    have b2 := (l.getD 2 0).toNat_lt
    have b3 := (l.getD 3 0).toNat_lt
    have hb := or3 _ _ _ b1 b2 b3
    change _ = ((size3 l : Nat) : Int) at hb
    have hs : size3 l ≤ 16777215 := by unfold size3; omega
    by_cases hf : (l.getD 0 0).toNat = 0 ∨ 65536 < size3 l
    · rw [gotten_no (gE_form n0 hf) (by decide)]
      exact get_form b off len cap w (by omega) _ _ _ _ (size3 l) hlt h0 h1 h2 h3 (by omega) (by omega) (by omega) (by omega) (by omega) hb (by
        by_cases hz : (l.getD 0 0).toNat = 0
        · left; rw [hz]; rfl
        · right; exact ⟨by simpa using hz, by omega⟩)
    · have hz : (((l.getD 0 0).toNat : Int) == 0) = false := by
        have : ¬ (l.getD 0 0).toNat = 0 := fun h => hf (.inl h)
        simpa using this
      by_cases hc : l.length < 4 + size3 l
      · rw [gotten_no (gE_cut n0 hf hc) (by decide)]
        exact get_cut b off len cap w (by omega) _ _ _ _ (size3 l) hlt h0 h1 h2 h3 (by omega) (by omega) (by omega) (by omega) (by omega) hb hz (by rw [h.1] at hc; omega)
      · rw [gotten_yes (gE_ok n0 hf hc)]
        have hl : 4 + size3 l ≤ len := by rw [h.1] at hc; omega
        exact get_field b off len cap w (by omega) _ _ _ _ (size3 l) hlt h.2.1 h.2.2.1 h0 h1 h2 h3 (by omega) (by omega) (by omega) (by omega) (by omega) hb hz (by omega) _ (hd _ hl).1 (hd _ hl).2
end Go.Proofs.YtdnhnjimhbbabaaDoor

/- Rows that the call owns, and bytes that can be read: what appends do to them. -/
namespace Go.Proofs.YtdnhnjimhbbabaaDoor
open Go.RowKit Nums
set_option maxRecDepth 100000
theorem own_lower {w : World} {B B' e size n : Nat} {v : Value} {xs : List Value} (h : w.ownsRow B e size v n xs) (hB : B' ≤ B) : w.ownsRow B' e size v n xs := by
  refine ⟨h.1, ?_⟩
  rcases h.2 with h2 | ⟨g, cap, cur, e1, hb, r⟩
  · exact .inl h2
  · exact .inr ⟨g, cap, cur, e1, Nat.le_trans hB hb, r⟩
/-- What is owned can be read. -/
theorem reads_own {w : World} {B : Nat} {v : Value} {l : List UInt8} (h : w.ownsRow B 5 1 v l.length (cellsOf l)) : ∃ a cap, v = .slice a l.length cap ∧ Reads w a l.length cap l := by
  rcases h.2 with ⟨rfl, h0⟩ | ⟨g, cap, cur, rfl, hb, hg, hn, hm, hs, ht⟩
  · refine ⟨none, 0, by rw [h0], rfl, by omega, by decide, .inl ⟨rfl, rfl⟩⟩
  · have hlt := (h.lt g rfl).2
    refine ⟨_, _, rfl, rfl, hn, by unfold maxLen at hm; omega, .inr (.inr ⟨g, 0, rfl, hlt, fun i hi => ?_⟩)⟩
    have := cells_at h rfl i hi
    rwa [add_plain] at this
end Go.Proofs.YtdnhnjimhbbabaaDoor

/- The keeper's Kept answers true where lent bytes and the marks behind them are as they were. -/
namespace Go.Proofs.YtdnhnjimhbbabaaDoor
open Go.RowKit Nums
set_option maxRecDepth 100000
theorem conv_reads {w : World} {a : Option Addr} {len cap : Nat} {l : List UInt8} (h : Reads w a len cap l) :
    Sem.run Tryd.prog (convert 35 9 (.slice a len cap)) w = .ok (.string ⟨l.toArray⟩) w := by
  obtain ⟨h1, h2, h3, ⟨rfl, h0⟩ | ⟨ad, rfl, h0⟩ | ⟨b, off, rfl, hlt, hc⟩⟩ := h
  · have hl : l = [] := List.eq_nil_of_length_eq_zero (by omega)
    subst hl
    exact run_convert_bytes_nil (P := Tryd.prog) w 35 5 Tryd.underlying35 Tryd.underlying5 len cap 9 Tryd.underlying9
  · subst h1
    exact run_convert_bytes_back (P := Tryd.prog) w 35 9 5 ad cap l Tryd.underlying35 Tryd.underlying5 Tryd.underlying9 (fun j hj => by omega)
  · subst h1
    exact run_convert_bytes_back (P := Tryd.prog) w 35 9 5 ⟨b, off, none⟩ cap l Tryd.underlying35 Tryd.underlying5 Tryd.underlying9 (fun j hj => by rw [add_plain]; exact hc j hj)
end Go.Proofs.YtdnhnjimhbbabaaDoor

/- What the document's Bytes, May, BytesSigned and Tag answer. -/
namespace Go.Proofs.YtdnhnjimhbbabaaDoor
open Go.RowKit Sums Nums
set_option linter.unusedVariables false
set_option linter.unusedSimpArgs false
set_option maxRecDepth 100000
theorem cell_keep {W W' : World} {p : Addr} {v : Value} (hb : Below W.heap.size W W') (h : W.cell? p = some v) : W'.cell? p = some v := by
  rw [hb.cell (World.block_lt_of_cell? _ _ h)]; exact h
theorem HRow.keep {W W' : World} {g o : Nat} {h : HdT} (hr : HRow W g o h) (hb : Below W.heap.size W W') : HRow W' g o h :=
  ⟨cell_keep hb hr.r, cell_keep hb hr.e, cell_keep hb hr.s, range_keep hb hr.d, cell_keep hb hr.t⟩
theorem sizeH : (Tryd.prog.info? 26).map (·.size) = some 36 := by kernel_rfl
theorem sizeS : (Tryd.prog.info? 28).map (·.size) = some 69 := by kernel_rfl
theorem head_row (h : HdT) (hd : h.d.length = 32) : ∃ C : Array Value, Hid (C = (hcells h).toArray) ∧ Hid ((Tryd.prog.info? 26).map (·.size) = some C.size) ∧ Hid (C.size = 36) := by
  refine ⟨(hcells h).toArray, hidk rfl, ?_, ?_⟩
  · show _ = _
    rw [sizeH]; simp [hcells_length h hd]
  · show _ = _
    simp [hcells_length h hd]
end Go.Proofs.YtdnhnjimhbbabaaDoor

/- What the document's May, BytesSigned, PutSigned and Tag answer. -/
namespace Go.Proofs.YtdnhnjimhbbabaaDoor
open Go.RowKit Sums Nums
set_option linter.unusedVariables false
set_option linter.unusedSimpArgs false
set_option maxRecDepth 100000
/-- What the parts of a signed head's row read as. -/
structure SRow (W : World) (g o : Nat) (s : SgT) : Prop where
  h : W.rangeAt g o (hcells s.h)
  n : W.cell? ⟨g, o + 36, none⟩ = some (.int .i64 s.n)
  g : W.rangeAt g (o + 37) (cellsOf s.g)
theorem SRow.keep {W W' : World} {g o : Nat} {s : SgT} (hr : SRow W g o s) (hb : Below W.heap.size W W') : SRow W' g o s := ⟨range_keep hb hr.h, cell_keep hb hr.n, range_keep hb hr.g⟩
theorem srow_of {W : World} {g o : Nat} {s : SgT} (hd : s.h.d.length = 32) (hr : W.rangeAt g o (scells s)) : SRow W g o s := by
  have hl := hcells_length s.h hd
  refine ⟨?_, ?_, ?_⟩
  · intro j v hj
    have hlt := (List.getElem?_eq_some_iff.1 hj).1
    exact hr j v (by
      unfold scells
      rw [List.append_assoc, List.getElem?_append_left hlt]; exact hj)
  · exact hr 36 (.int .i64 s.n) (by
      unfold scells
      rw [List.append_assoc, List.getElem?_append_right (by omega), hl]
      rfl)
  · intro j v hj
    have hlt := (List.getElem?_eq_some_iff.1 hj).1
    have := hr (37 + j) v (by
      unfold scells
      rw [List.getElem?_append_right (by rw [List.length_append, hl, List.length_singleton]; omega), List.length_append, hl, List.length_singleton, show 37 + j - (36 + 1) = j by omega]
      exact hj)
    rw [Nat.add_assoc]; exact this
theorem srow_new (w : World) (s : SgT) (hd : s.h.d.length = 32) (C : Array Value) (HC : Hid (C = (scells s).toArray)) (t : TypeId) : SRow (w.alloc (.cells C t)) w.heap.size 0 s := by
  refine srow_of hd ?_
  intro j v hj
  rw [Nat.zero_add, cell_of_row _ _ j _ t (0, 0) (heap_alloc_new w _), HC.out]
  simpa using hj
end Go.Proofs.YtdnhnjimhbbabaaDoor

/- Structs of numbers and digests: heads and signed heads, built and compared. -/
namespace Go.Proofs.YtdnhnjimhbbabaaDoor
open Go.RowKit Sums Nums
set_option linter.unusedVariables false
set_option linter.unusedSimpArgs false
set_option maxRecDepth 100000
theorem fold_set (D : List Value) : ∀ (k off : Nat) (cs : Array Value) (pre old rest : List Value), cs.toList = pre ++ old ++ rest → pre.length = off + k → old.length = D.length →
    ((D.zipIdx k).foldl (fun cs (c, j) => cs.setIfInBounds (off + j) c) cs).toList = pre ++ D ++ rest := by
  induction D with
  | nil =>
    intro k off cs pre old rest h hp ho
    have : old = [] := List.eq_nil_of_length_eq_zero ho
    subst this
    simpa using h
  | cons d D ih =>
    intro k off cs pre old rest h hp ho
    match old, ho with
    | x :: old, ho =>
      rw [List.zipIdx_cons, List.foldl_cons]
      have := ih (k + 1) off (cs.setIfInBounds (off + k) d) (pre ++ [d]) old rest (by
        rw [Array.toList_setIfInBounds, h, ← hp]
        simp) (by simp; omega) (by simpa using ho)
      rw [this]
      simp
/-- A struct that is built, where the order is drawn. -/
theorem yieldsIf_build {P : Program} {ops : Array Oper} {S : World → Prop} {o : Oper} {a : Act} (hw : Region.wanted o (yielded ops a.tmps) = true) (t : TypeId) (parts : Array (Nat × Operand)) (ho : o.op = .build t parts) (vals : Array (Nat × Value)) (hv : (parts.toList.map fun p => (p.1, a.eval p.2)) = vals.toList)
    (v : Value) (hrun : ∀ W, (Instr.build t vals).run P W = .ok v W) : YieldsIf P ops S o v a :=
  .inl ⟨hw, fun w _ => by
    have hv' : (parts.map fun (i, x) => (i, a.eval x)) = vals := by
      apply Array.ext'
      rw [Array.toList_map, ← hv]
    subst hv'
    unfold execOp
    simp only [ho, Sem.run_bind, hrun, Result.andThen_ok]
    rfl⟩
theorem fill_val (place : Nat → Option (Nat × Nat)) (i off n : Nat) (v : Value) (D cs : Array Value) (pre old post : List Value) (more : List (Nat × Value)) (hv : v.cells = D) (hp : place i = some (off, n)) (hn : D.size = n) (hcs : cs.toList = pre ++ old ++ post) (hpre : pre.length = off) (hold : old.length = n) :
    Instr.fill place cs ((i, v) :: more) = Instr.fill place (pre ++ D.toList ++ post).toArray more := by
  have hcz : cs.size = off + n + post.length := by rw [← Array.length_toList, hcs]; simp only [List.length_append, hpre, hold]
  conv => lhs; unfold Instr.fill
  simp only [hp, hv, hn]
  rw [if_neg (by simp; omega)]
  congr 1
  apply Array.ext'
  have := fold_set D.toList 0 off cs pre old post hcs (by omega) (by rw [hold, Array.length_toList, hn])
  rw [← this, ← Array.foldl_toList]
  congr 2
  simp
def zeroH : HdT := ⟨0, 0, 0, List.replicate 32 0, 0⟩
def zeroS : SgT := ⟨zeroH, 0, List.replicate 32 0⟩
theorem infoH : (Tryd.prog.info? 26).map (fun i => (i.zero, i.size)) = some (some (.agg (hcells zeroH).toArray), 36) := by kernel_rfl
theorem infoS : (Tryd.prog.info? 28).map (fun i => (i.zero, i.size)) = some (some (.agg (scells zeroS).toArray), 69) := by kernel_rfl
theorem builtH0 : Tryd.prog.built 26 [] = some (hcells zeroH).toArray := by kernel_rfl
theorem builtS0 : Tryd.prog.built 28 [] = some (scells zeroS).toArray := by kernel_rfl
theorem one_cells (h : HdT) : (hcells h).toArray.all (·.oneCell') = true := by
  rw [List.all_toArray, List.all_eq_true]
  intro v hv
  unfold hcells at hv
  simp only [List.mem_append, List.mem_cons, List.not_mem_nil, or_false] at hv
  rcases hv with ((rfl | rfl | rfl) | hv) | rfl
  · rfl
  · rfl
  · rfl
  · exact cellsOf_one _ v hv
  · rfl
theorem one_cellsS (s : SgT) : (scells s).toArray.all (·.oneCell') = true := by
  rw [List.all_toArray, List.all_eq_true]
  intro v hv
  unfold scells at hv
  simp only [List.mem_append, List.mem_cons, List.not_mem_nil, or_false] at hv
  rcases hv with (hv | rfl) | hv
  · have := one_cells s.h
    rw [List.all_toArray, List.all_eq_true] at this
    exact this v hv
  · rfl
  · exact cellsOf_one _ v hv
theorem head_row5 (h : HdT) (hd : h.d.length = 32) : ∃ C : Array Value, Hid (C = (hcells h).toArray) ∧ Hid ((Tryd.prog.info? 26).map (·.size) = some C.size) ∧ Hid (C.all (·.oneCell') = true) ∧ Hid (C.size = 36) := by
  refine ⟨(hcells h).toArray, hidk rfl, ?_, one_cells h, ?_⟩
  · show _ = _
    rw [sizeH]; simp [hcells_length h hd]
  · show _ = _
    simp [hcells_length h hd]
theorem sign_row (s : SgT) (hd : s.h.d.length = 32) (hg : s.g.length = 32) : ∃ C : Array Value, Hid (C = (scells s).toArray) ∧ Hid ((Tryd.prog.info? 28).map (·.size) = some C.size) ∧ Hid (C.all (·.oneCell') = true) ∧ Hid (C.size = 69) := by
  refine ⟨(scells s).toArray, hidk rfl, ?_, one_cellsS s, ?_⟩
  · show _ = _
    rw [sizeS]; simp [scells_length s hd hg]
  · show _ = _
    simp [scells_length s hd hg]
theorem noughtsH : ∃ Z : Array Value, Hid (Z = (hcells zeroH).toArray) ∧ Hid ((Tryd.prog.info? 26).map (fun i => (i.zero, i.size)) = some (some (.agg Z), Z.size)) ∧ Hid (Tryd.prog.built 26 [] = some Z) ∧ Hid (Z.size = 36) :=
  ⟨(hcells zeroH).toArray, hidk rfl, infoH, builtH0, hidk rfl⟩
theorem noughtsS : ∃ Z : Array Value, Hid (Z = (scells zeroS).toArray) ∧ Hid ((Tryd.prog.info? 28).map (fun i => (i.zero, i.size)) = some (some (.agg Z), Z.size)) ∧ Hid (Tryd.prog.built 28 [] = some Z) ∧ Hid (Z.size = 69) :=
  ⟨(scells zeroS).toArray, hidk rfl, infoS, builtS0, hidk rfl⟩
end Go.Proofs.YtdnhnjimhbbabaaDoor

/- What the document's Tag, Sign and Verify answer. -/
namespace Go.Proofs.YtdnhnjimhbbabaaDoor
open Go.RowKit Sums Nums
set_option linter.unusedVariables false
set_option linter.unusedSimpArgs false
set_option maxRecDepth 100000
/-- What Sign answers. -/
def signsO (h : HdT) (n : Int) : Bool := rightH h && (decide (1 ≤ n) && decide (n ≤ 3))
def signO (master : List UInt8) (h : HdT) (n : Int) : SgT := if signsO h n = true then ⟨h, n, tagD master h n⟩ else zeroS
def signE (h : HdT) (n : Int) : Int := if signsO h n = true then 0 else 70
theorem signsO_owner (h : HdT) (n : Int) (hs : signsO h n = true) : owner h.r n = true := by
  unfold signsO at hs
  simp only [Bool.and_eq_true, decide_eq_true_eq] at hs
  have := (rightH_iff h).1 hs.1
  exact (owner_iff _ _).2 (by omega)
theorem signO_digs (hs : ∀ l, (sumD l).length = 32) (master : List UInt8) (h : HdT) (n : Int) (hd : h.d.length = 32) : (signO master h n).h.d.length = 32 ∧ (signO master h n).g.length = 32 := by
  unfold signO
  split
  · exact ⟨hd, hs _⟩
  · exact ⟨rfl, rfl⟩
end Go.Proofs.YtdnhnjimhbbabaaDoor

/- pack.appendField at whatever tag: its lowest byte. -/
namespace Go.Proofs.YtdnhnjimhbbabaaDoor
open Go.RowKit Nums
set_option maxRecDepth 100000
/-- Whatever is no row of elements of type T lies as it lay. -/
def Spares (T : TypeId) (w w' : World) : Prop := ∀ (b : Nat) (o : Obj), w.heap[b]? = some o → (∀ c m, o ≠ Obj.cells c T m) → w'.heap[b]? = some o
theorem Spares.refl (T : TypeId) (w : World) : Spares T w w := fun _ _ h _ => h
theorem Spares.trans {T : TypeId} {a b c : World} (h : Spares T a b) (k : Spares T b c) : Spares T a c := fun i o hi ho => k i o (h i o hi ho) ho
theorem Spares.below {T : TypeId} {a b : World} (h : Below a.heap.size a b) : Spares T a b := fun i _ hi _ => (h.block i (Array.getElem?_eq_some_iff.1 hi).1).trans hi
theorem Spares.alloc (T : TypeId) (w : World) (o : Obj) : Spares T w (w.alloc o) := Spares.below ((Below.refl _ _).alloc (Nat.le_refl _) _)
theorem Spares.drew (T : TypeId) (w : World) : Spares T w w.drew := fun _ _ h _ => h
theorem Spares.grown {T : TypeId} {w w' : World} {B size n : Nat} {v : Value} {xs : List Value} (hown : w.ownsRow B T size v n xs) (hg : w.grownBy w' v.ownBlock) : Spares T w w' := by
  intro i o hi ho
  refine (hg.block i (Array.getElem?_eq_some_iff.1 hi).1 ?_).trans hi
  intro e
  rcases hown.2 with ⟨rfl, _⟩ | ⟨g, cap, cur, rfl, _, hgb, _⟩
  · simp [Value.ownBlock] at e
  · obtain rfl : i = g := by simpa [Value.ownBlock] using e
    rw [hgb] at hi
    cases hi
    exact ho _ _ rfl
theorem head_cellsI (tag : Int) (d : ByteArray) (hd : d.size ≤ 65536) :
    [Value.int .u8 (tag % 256), .int .u8 ((d.size : Int) / 65536), .int .u8 ((d.size : Int) / 256 % 256), .int .u8 ((d.size : Int) % 256)] ++ Lib.strCells d = cellsOf (fieldBytesI tag d.data.toList) := by
  have hl : d.data.toList.length = d.size := by simp
  have e1 : tag % 256 = ((UInt8.ofNat (tag % 256).toNat).toNat : Int) := by rw [UInt8.toNat_ofNat']; omega
  have e2 : (d.size : Int) / 65536 = (d.size : Int) / 65536 % 256 := by omega
  rw [cellsOf_str, fieldBytesI, hl, e2]
  simp only [cellsOf, List.map_cons, List.cons_append, List.nil_append, byte_mod, ← e1]
  rfl
set_option maxHeartbeats 1000000 in
theorem appendField_int (v : Value) (l : List UInt8) (B : Nat) (tag : Int) (d : ByteArray) (w : World) (hd : d.size ≤ 65536) (hB : B ≤ w.heap.size) (hl : l.length ≤ 1099511627776)
    (hown : w.ownsRow B 5 1 v l.length (cellsOf l)) :
    Calls Tryd.prog 58 #[v, .agg #[.int .i64 tag, .string d]] w fun e w' => ∃ v', e = .returned v' ∧
      w'.ownsRow B 5 1 v' (l ++ fieldBytesI tag d.data.toList).length (cellsOf (l ++ fieldBytesI tag d.data.toList)) ∧ Below B w w' ∧ Spares 5 w w' := by
  obtain ⟨i0, hi, hz0, hz1, hz2⟩ := info_parts info5
  have HL : Hid (l.length ≤ 1099511627776) := hl
  clear hl
  go_enter Tryd.func58, Tryd.ntmps58
  go_wp2_with (first
    | (at_builtin; refine wpList_append_own _ rfl (.tmp 9) (.tmp 21) 35 rfl B 5 i0 (.int .u8 0) 1 1 Tryd.underlying35 hi hz0 hz1 hz2 rfl (by decide) _ _ _ rfl ((hown.alloc _).alloc _) ⟨w.heap.size + 1, 0, none⟩ 4 4 [.int .u8 (tag % 256), .int .u8 ((d.size : Int) / 65536), .int .u8 ((d.size : Int) / 256 % 256), .int .u8 ((d.size : Int) % 256)] rfl rfl ?c1 ?c2 ?c3 ?c4 ?c5 ?_)
    | fail)
  case c1 =>
    intro j u hj
    match j, hj with
    | 0, hj => simp at hj; subst hj; simp [Addr.add]
    | 1, hj => simp at hj; subst hj; simp [Addr.add]
    | 2, hj => simp at hj; subst hj; simp [Addr.add]
    | 3, hj => simp at hj; subst hj; simp [Addr.add]
  case c2 => intro u hu; simp at hu; rcases hu with rfl | rfl | rfl | rfl <;> rfl
  case c3 => have := HL.out; unfold maxLen; omega
  case c4 => have := HL.out; omega
  case c5 => simp; omega
  intro v1 w1 hown1 hgrow1 _
  have hb1 : Below B w w1 := (((Below.refl _ _).alloc hB _).alloc (by simp; omega) _).grown hgrow1 (by simp; omega) (row_low hown)
  have hs1 : Spares 5 w w1 := ((Spares.alloc 5 w _).trans (Spares.alloc 5 _ _)).trans (Spares.grown ((hown.alloc _).alloc _) hgrow1)
  have HS1 : Hid (Spares 5 w w1) := hs1
  clear hs1
  have hbox : w1.cell? ⟨w.heap.size, 1, none⟩ = some (.string d) := by
    refine hgrow1.cell ?_ ?_
    · simp
    · intro e; have := (hown.lt _ e.symm).2; simp at this
  clear hgrow1
  go_wp2_with (first
    | (at_builtin; refine Lib.wpList_append_own_string _ rfl (.tmp 23) (.tmp 25) 35 9 rfl B 5 i0 Tryd.underlying35 Tryd.underlying9 hi hz0 hz1 hz2 _ _ _ rfl hown1 d rfl ?d1 ?d2 ?d3 ?_)
    | fail)
  case d1 => have := HL.out; unfold maxLen; omega
  case d2 => have := HL.out; omega
  case d3 => exact Nat.le_trans hB hb1.size
  intro v2 w2 hown2 hgrow2 _
  have hb2 : Below B w w2 := hb1.grown hgrow2 (Nat.le_trans hB hb1.size) (row_low hown1)
  have HS2 : Hid (Spares 5 w w2) := HS1.out.trans (Spares.grown hown1 hgrow2)
  have hown3 : w2.ownsRow B 5 1 v2 (l ++ fieldBytesI tag d.data.toList).length (cellsOf (l ++ fieldBytesI tag d.data.toList)) := by
    have e1 : (l ++ fieldBytesI tag d.data.toList).length = l.length + 4 + d.size := by
      rw [List.length_append, fieldBytesI_length]; simp; omega
    rw [e1, cellsOf_append, ← head_cellsI tag d hd]
    simpa only [List.append_assoc, List.cons_append, List.nil_append] using hown2
  clear hown2 hgrow2 hown1 hbox
  go_wp2
  go_ret
  exact ⟨_, rfl, hown3, hb2, HS2.out⟩
end Go.Proofs.YtdnhnjimhbbabaaDoor
