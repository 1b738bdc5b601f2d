/- Texts of our own that the row of KeepReads leans on, part 3. -/
import Derived.Test.YtjpmmbmhkpgjcaaKeepReadsJ2
import Derived.WalkKit

/- Rows, fields and numbers as bytes, as plain functions: what is laid, what is read, and back. No program is spoken of. -/
namespace Go.Proofs.Ytjpmmbmhkpgjcaa
open Go.RowKit Nums
set_option maxRecDepth 100000
set_option linter.unusedVariables false
/-- Are these bytes a number's? -/
def isNum (l : List UInt8) : Bool := decide (l.length ≤ 8 ∧ l[0]? ≠ some 0 ∧ val l < 4611686018427387904)
def vOf (l : List UInt8) : Int := if isNum l then val l else 0
def eOf (l : List UInt8) : Int := if isNum l then 0 else 11
/-- What Number answers. -/
def nOf (n : Int) : ByteArray := if 0 ≤ n ∧ n ≤ 4611686018427387903 then ⟨(num n.toNat).toArray⟩ else ByteArray.empty
def neOf (n : Int) : Int := if 0 ≤ n ∧ n ≤ 4611686018427387903 then 0 else 1
theorem v_yes {l : List UInt8} (h : isNum l = true) : vOf l = val l ∧ eOf l = 0 := by simp [vOf, eOf, h]
theorem v_no {l : List UInt8} (h : isNum l = false) : vOf l = 0 ∧ eOf l = 11 := by simp [vOf, eOf, h]
/-- A field's bytes: its tag, how many bytes its data has (three bytes), and these. -/
def fieldBytes (tag : Nat) (d : List UInt8) : List UInt8 :=
  UInt8.ofNat (tag % 256) :: UInt8.ofNat (d.length / 65536 % 256) :: UInt8.ofNat (d.length / 256 % 256) :: UInt8.ofNat (d.length % 256) :: d
def faultOf (last tag : Int) (size : Nat) : Int := if tag ≤ last ∨ 255 < tag then 1 else if 65536 < size then 2 else 0
theorem byte_mod (n : Nat) : ((UInt8.ofNat (n % 256)).toNat : Int) = (n : Int) % 256 := by rw [UInt8.toNat_ofNat']; omega
theorem fieldBytes_length (tag : Nat) (l : List UInt8) : (fieldBytes tag l).length = 4 + l.length := by simp [fieldBytes]; omega
def fieldBytesI (tag : Int) (d : List UInt8) : List UInt8 :=
  UInt8.ofNat (tag % 256).toNat :: UInt8.ofNat (d.length / 65536 % 256) :: UInt8.ofNat (d.length / 256 % 256) :: UInt8.ofNat (d.length % 256) :: d
theorem fieldBytesI_nat (tag : Int) (d : List UInt8) (h : 1 ≤ tag ∧ tag ≤ 255) : fieldBytesI tag d = fieldBytes tag.toNat d := by
  have e : (tag % 256).toNat = tag.toNat % 256 := by omega
  rw [fieldBytesI, fieldBytes, e]
theorem fieldBytesI_length (tag : Int) (l : List UInt8) : (fieldBytesI tag l).length = 4 + l.length := by simp [fieldBytesI]; omega
def size3 (l : List UInt8) : Nat := 65536 * (l.getD 1 0).toNat + 256 * (l.getD 2 0).toNat + (l.getD 3 0).toNat
def gE (l : List UInt8) : Nat := if l.length < 4 then 10 else if (l.getD 0 0).toNat = 0 ∨ 65536 < size3 l then 11 else if l.length < 4 + size3 l then 10 else 0
def gT (l : List UInt8) : Nat := if gE l = 0 then (l.getD 0 0).toNat else 0
def gD (l : List UInt8) : List UInt8 := if gE l = 0 then (l.drop 4).take (size3 l) else []
def gN (l : List UInt8) : Nat := if gE l = 0 then 4 + size3 l else 0
theorem or_low (a b k p : Nat) (hp : p = 2 ^ k) (hb : b < p) : a * p ||| b = a * p + b := by
  subst hp
  have h := Nat.shiftLeft_add_eq_or_of_lt hb a
  rw [Nat.shiftLeft_eq] at h
  exact h.symm
theorem or3 (c1 c2 c3 : Nat) (h1 : c1 < 256) (h2 : c2 < 256) (h3 : c3 < 256) :
    bits .or .i64 (bits .or .i64 ((c1 : Int) * 65536) ((c2 : Int) * 256)) (c3 : Int) = ((65536 * c1 + 256 * c2 + c3 : Nat) : Int) := by
  have key : ∀ a b : Nat, a < 4294967296 → b < 4294967296 → bits .or .i64 (a : Int) (b : Int) = ((a ||| b : Nat) : Int) := by
    intro a b ha hb
    have hx : a ||| b < 2 ^ 32 := Nat.or_lt_two_pow (by omega) (by omega)
    have h1 : (BitVec.ofInt 64 (a : Int)).toNat = a := by
      rw [BitVec.ofInt_natCast, BitVec.toNat_ofNat]; exact Nat.mod_eq_of_lt (by omega)
    have h2 : (BitVec.ofInt 64 (b : Int)).toNat = b := by
      rw [BitVec.ofInt_natCast, BitVec.toNat_ofNat]; exact Nat.mod_eq_of_lt (by omega)
    show IntKind.i64.wrap ((BitVec.ofInt 64 (a : Int) ||| BitVec.ofInt 64 (b : Int)).toNat : Int) = _
    rw [BitVec.toNat_or, h1, h2, IntKind.wrap_i64]
    omega
  have e1 : (c1 : Int) * 65536 = ((c1 * 65536 : Nat) : Int) := by omega
  have e2 : (c2 : Int) * 256 = ((c2 * 256 : Nat) : Int) := by omega
  rw [e1, e2, key _ _ (by omega) (by omega)]
  rw [or_low c1 (c2 * 256) 16 65536 (by decide) (by omega), key _ _ (by omega) (by omega)]
  have e3 : c1 * 65536 + c2 * 256 = (c1 * 256 + c2) * 256 := by omega
  rw [e3, or_low (c1 * 256 + c2) c3 8 256 (by decide) h3]
  omega
theorem gE_short {l : List UInt8} (h : l.length < 4) : gE l = 10 := by rw [gE, if_pos h]
theorem gE_form {l : List UInt8} (h : ¬ l.length < 4) (h2 : (l.getD 0 0).toNat = 0 ∨ 65536 < size3 l) : gE l = 11 := by rw [gE, if_neg h, if_pos h2]
theorem gE_cut {l : List UInt8} (h : ¬ l.length < 4) (h2 : ¬ ((l.getD 0 0).toNat = 0 ∨ 65536 < size3 l)) (h3 : l.length < 4 + size3 l) : gE l = 10 := by rw [gE, if_neg h, if_neg h2, if_pos h3]
theorem gE_ok {l : List UInt8} (h : ¬ l.length < 4) (h2 : ¬ ((l.getD 0 0).toNat = 0 ∨ 65536 < size3 l)) (h3 : ¬ l.length < 4 + size3 l) : gE l = 0 := by rw [gE, if_neg h, if_neg h2, if_neg h3]
/-- A field that was gone through, with what is wrong with it. -/
structure Jd where
  tag : Int
  d : ByteArray
  e : Int
  ok : e = 0 → d.size ≤ 65536
theorem fault_ok (last tag : Int) (d : ByteArray) (h : faultOf last tag d.size = 0) : d.size ≤ 65536 := by
  unfold faultOf at h
  by_cases h1 : tag ≤ last ∨ 255 < tag
  · rw [if_pos h1] at h; omega
  · rw [if_neg h1] at h
    by_cases h2 : 65536 < d.size
    · rw [if_pos h2] at h; omega
    · omega
def judge (last : Int) : List (Int × ByteArray) → List Jd
  | [] => []
  | f :: r => ⟨f.1, f.2, faultOf last f.1 f.2.size, fault_ok last f.1 f.2⟩ :: judge f.1 r
/-- A field that was read, with what is wrong with it. -/
structure Pd where
  tag : Nat
  d : List UInt8
  e : Nat
/-- What is wrong with the first field of bytes, behind a tag. -/
def pE (last : Nat) (l : List UInt8) : Nat := if gE l = 0 then (if faultOf last (gT l) (gD l).length = 0 then 0 else 11) else gE l
def pX (last : Nat) (l : List UInt8) : Pd := ⟨gT l, gD l, pE last l⟩
def parse : Nat → Nat → List UInt8 → List Pd
  | 0, _, _ => []
  | k + 1, last, l => if l = [] then [] else pX last l :: if pE last l = 0 then parse k (gT l) (l.drop (gN l)) else []
theorem gN_le {l : List UInt8} (h : gE l = 0) : 4 ≤ gN l ∧ gN l ≤ l.length ∧ gT l ≤ 255 ∧ (gD l).length ≤ 65536 ∧ 1 ≤ gT l := by
  have h0 := h
  unfold gE at h
  by_cases h1 : l.length < 4
  · rw [if_pos h1] at h; omega
  · rw [if_neg h1] at h
    by_cases h2 : (l.getD 0 0).toNat = 0 ∨ 65536 < size3 l
    · rw [if_pos h2] at h; omega
    · rw [if_neg h2] at h
      by_cases h3 : l.length < 4 + size3 l
      · rw [if_pos h3] at h; omega
      · have := (l.getD 0 0).toNat_lt
        rw [gN, gT, gD, if_pos h0, if_pos h0, if_pos h0]
        refine ⟨by omega, by omega, by omega, ?_, by omega⟩
        rw [List.length_take]; omega
theorem gD_le (l : List UInt8) : (gD l).length ≤ 65536 := by
  by_cases h : gE l = 0
  · exact (gN_le h).2.2.2.1
  · rw [gD, if_neg h]; simp
/-- More fuel than there are bytes changes nothing. -/
theorem pE_ok {last : Nat} {l : List UInt8} (h : gE l = 0) (hf : faultOf last (gT l) (gD l).length = 0) : pE last l = 0 := by rw [pE, if_pos h, if_pos hf]
theorem parse_cons {k last : Nat} {l : List UInt8} (h : l ≠ []) : parse (k + 1) last l = pX last l :: if pE last l = 0 then parse k (gT l) (l.drop (gN l)) else [] := by rw [parse, if_neg h]
theorem parse_fuel : ∀ (k m last : Nat) (l : List UInt8), l.length ≤ k → k ≤ m → parse m last l = parse k last l
  | 0, m, last, l, h, _ => by
    have : l = [] := List.eq_nil_of_length_eq_zero (by omega)
    subst this
    cases m <;> simp [parse]
  | k + 1, m, last, l, h, hm => by
    obtain ⟨m', rfl⟩ : ∃ m', m = m' + 1 := ⟨m - 1, by omega⟩
    simp only [parse]
    by_cases hl : l = []
    · simp [hl]
    · rw [if_neg hl, if_neg hl]
      by_cases he : pE last l = 0
      · rw [if_pos he, if_pos he]
        have hg : gE l = 0 := by
          unfold pE at he
          by_cases h0 : gE l = 0
          · exact h0
          · rw [if_neg h0] at he; exact absurd he h0
        have hn := gN_le hg
        rw [parse_fuel k m' (gT l) (l.drop (gN l)) (by rw [List.length_drop]; omega) (by omega)]
      · rw [if_neg he, if_neg he]
/-- Fields as cells. -/
def fcells : List (Int × ByteArray) → List Value
  | [] => []
  | f :: r => .int .i64 f.1 :: .string f.2 :: fcells r
theorem fcells_length : ∀ fs, (fcells fs).length = fs.length * 2
  | [] => rfl
  | f :: r => by simp [fcells, fcells_length r]; omega
theorem fcells_append : ∀ a b, fcells (a ++ b) = fcells a ++ fcells b
  | [], _ => rfl
  | f :: r, b => by simp [fcells, fcells_append r b]
def toF (ps : List Pd) : List (Int × ByteArray) := ps.map fun x => ((x.tag : Int), ⟨x.d.toArray⟩)
theorem toF_snoc (ps : List Pd) (x : Pd) : toF (ps ++ [x]) = toF ps ++ [((x.tag : Int), ⟨x.d.toArray⟩)] := by simp [toF]
theorem toF_length (ps : List Pd) : (toF ps).length = ps.length := by simp [toF]
def layE : Int → List (Int × ByteArray) → Int
  | _, [] => 0
  | last, f :: r => if faultOf last f.1 f.2.size = 0 then layE f.1 r else faultOf last f.1 f.2.size
def rowB : List (Int × ByteArray) → List UInt8
  | [] => []
  | f :: r => fieldBytesI f.1 f.2.data.toList ++ rowB r
def rowOf (fs : List (Int × ByteArray)) : List UInt8 := if layE 0 fs = 0 then rowB fs else []
theorem rowB_append : ∀ a b, rowB (a ++ b) = rowB a ++ rowB b
  | [], _ => rfl
  | f :: r, b => by simp [rowB, rowB_append r b]
theorem layE_all : ∀ (last : Int) (fs : List (Int × ByteArray)), (∀ x ∈ judge last fs, x.e = 0) → layE last fs = 0
  | _, [], _ => rfl
  | last, f :: r, h => by
    have h1 : faultOf last f.1 f.2.size = 0 := h _ List.mem_cons_self
    rw [layE, if_pos h1]
    exact layE_all f.1 r (fun x hx => h x (List.mem_cons_of_mem _ hx))
theorem layE_first : ∀ (pre : List Jd) (last : Int) (fs : List (Int × ByteArray)) (x : Jd), (pre ++ [x]) <+: judge last fs → (∀ y ∈ pre, y.e = 0) → x.e ≠ 0 → layE last fs = x.e
  | [], last, [], x, h, _, _ => by simp [judge] at h
  | [], last, f :: r, x, h, _, hx => by
    rw [judge, List.nil_append, List.cons_prefix_cons] at h
    obtain ⟨rfl, _⟩ := h
    rw [layE, if_neg hx]
  | y :: pre, last, [], x, h, _, _ => by simp [judge] at h
  | y :: pre, last, f :: r, x, h, hz, hx => by
    rw [judge, List.cons_append, List.cons_prefix_cons] at h
    obtain ⟨rfl, h2⟩ := h
    have h1 : faultOf last f.1 f.2.size = 0 := hz _ List.mem_cons_self
    rw [layE, if_pos h1]
    exact layE_first pre f.1 r x h2 (fun z hz' => hz z (List.mem_cons_of_mem _ hz')) hx
def firstE : List Pd → Nat
  | [] => 0
  | x :: r => if x.e = 0 then firstE r else x.e
def readE (bs : List UInt8) : Nat := firstE (parse (bs.length + 1) 0 bs)
def readF (bs : List UInt8) : List (Int × ByteArray) := if readE bs = 0 then toF (parse (bs.length + 1) 0 bs) else []
theorem firstE_all : ∀ ps : List Pd, (∀ x ∈ ps, x.e = 0) → firstE ps = 0
  | [], _ => rfl
  | x :: r, h => by rw [firstE, if_pos (h x List.mem_cons_self)]; exact firstE_all r (fun y hy => h y (List.mem_cons_of_mem _ hy))
theorem firstE_first : ∀ (pre ps : List Pd) (x : Pd), (pre ++ [x]) <+: ps → (∀ y ∈ pre, y.e = 0) → x.e ≠ 0 → firstE ps = x.e
  | [], [], x, h, _, _ => by simp at h
  | [], p :: r, x, h, _, hx => by
    rw [List.nil_append, List.cons_prefix_cons] at h
    obtain ⟨rfl, _⟩ := h
    rw [firstE, if_neg hx]
  | y :: pre, [], x, h, _, _ => by simp at h
  | y :: pre, p :: r, x, h, hz, hx => by
    rw [List.cons_append, List.cons_prefix_cons] at h
    obtain ⟨rfl, h2⟩ := h
    rw [firstE, if_pos (hz _ List.mem_cons_self)]
    exact firstE_first pre r x h2 (fun z hz' => hz z (List.mem_cons_of_mem _ hz')) hx
theorem fault_pos {last tag : Int} {size : Nat} (hl : 0 ≤ last) (h : faultOf last tag size = 0) : 1 ≤ tag ∧ tag ≤ 255 ∧ size ≤ 65536 := by
  unfold faultOf at h
  by_cases h1 : tag ≤ last ∨ 255 < tag
  · rw [if_pos h1] at h; omega
  · rw [if_neg h1] at h
    by_cases h2 : 65536 < size
    · rw [if_pos h2] at h; omega
    · omega
theorem got_field (tag : Nat) (d more : List UInt8) (ht : 1 ≤ tag ∧ tag ≤ 255) (hd : d.length ≤ 65536) :
    gE (fieldBytes tag d ++ more) = 0 ∧ gT (fieldBytes tag d ++ more) = tag ∧ gD (fieldBytes tag d ++ more) = d ∧ gN (fieldBytes tag d ++ more) = (fieldBytes tag d).length := by
  have e0 : ((fieldBytes tag d ++ more).getD 0 0).toNat = tag := by
    simp [fieldBytes]; omega
  have es : size3 (fieldBytes tag d ++ more) = d.length := by
    simp [fieldBytes, size3]; omega
  have el : (fieldBytes tag d ++ more).length = 4 + d.length + more.length := by rw [List.length_append, fieldBytes_length]
  have h0 : gE (fieldBytes tag d ++ more) = 0 := gE_ok (by omega) (by rw [e0, es]; omega) (by rw [es, el]; omega)
  refine ⟨h0, by rw [gT, if_pos h0, e0], ?_, by rw [gN, if_pos h0, es, fieldBytes_length]⟩
  rw [gD, if_pos h0, es]
  simp [fieldBytes]
/-- A field that was laid, as it is read. -/
def asPd (f : Int × ByteArray) : Pd := ⟨f.1.toNat, f.2.data.toList, 0⟩
theorem toF_asPd (fs : List (Int × ByteArray)) (h : ∀ f ∈ fs, 0 ≤ f.1) : toF (fs.map asPd) = fs := by
  induction fs with
  | nil => rfl
  | cons f r ih =>
    have h1 := h f List.mem_cons_self
    have h2 := ih (fun g hg => h g (List.mem_cons_of_mem _ hg))
    unfold toF at h2 ⊢
    rw [List.map_cons, List.map_cons, h2]
    congr 1
    obtain ⟨t, d⟩ := f
    simp only [asPd]
    simp only at h1
    congr 1
    omega
theorem lay_cons {last : Int} {f : Int × ByteArray} {r : List (Int × ByteArray)} (h : layE last (f :: r) = 0) : faultOf last f.1 f.2.size = 0 ∧ layE f.1 r = 0 := by
  rw [layE] at h
  by_cases h1 : faultOf last f.1 f.2.size = 0
  · rw [if_pos h1] at h; exact ⟨h1, h⟩
  · rw [if_neg h1] at h; exact absurd h h1
theorem lay_pos : ∀ (last : Int) (fs : List (Int × ByteArray)), 0 ≤ last → layE last fs = 0 → ∀ f ∈ fs, 0 ≤ f.1
  | _, [], _, _, f, hf => by simp at hf
  | last, g :: r, hl, h, f, hf => by
    obtain ⟨h1, h2⟩ := lay_cons h
    have hp := fault_pos hl h1
    rcases List.mem_cons.1 hf with rfl | hf
    · omega
    · exact lay_pos g.1 r (by omega) h2 f hf
/-- The first field of a row's bytes. -/
theorem row_first {last : Nat} {f : Int × ByteArray} {r : List (Int × ByteArray)} {more : List UInt8} (h : faultOf last f.1 f.2.size = 0) (hr : more = rowB r) :
    let l := rowB (f :: r)
    l ≠ [] ∧ gE l = 0 ∧ gT l = f.1.toNat ∧ gD l = f.2.data.toList ∧ l.drop (gN l) = more ∧ pE last l = 0 ∧ gN l = 4 + f.2.data.toList.length := by
  have hp := fault_pos (Int.natCast_nonneg last) h
  have hd : f.2.data.toList.length ≤ 65536 := by simpa using hp.2.2
  have e : rowB (f :: r) = fieldBytes f.1.toNat f.2.data.toList ++ rowB r := by rw [rowB, fieldBytesI_nat _ _ ⟨hp.1, hp.2.1⟩]
  obtain ⟨g1, g2, g3, g4⟩ := got_field f.1.toNat f.2.data.toList (rowB r) (by omega) hd
  intro l
  show rowB (f :: r) ≠ [] ∧ _
  rw [show l = rowB (f :: r) from rfl, e]
  refine ⟨by simp [fieldBytes], g1, g2, g3, by rw [g4, List.drop_left, hr], ?_, by rw [g4, fieldBytes_length]⟩
  refine pE_ok g1 ?_
  rw [g2, g3]
  have e1 : ((f.1.toNat : Nat) : Int) = f.1 := by omega
  have e2 : f.2.data.toList.length = f.2.size := by simp
  rw [e1, e2]
  exact h
theorem parse_row : ∀ (fs : List (Int × ByteArray)) (k last : Nat), layE last fs = 0 → (rowB fs).length ≤ k → parse k last (rowB fs) = fs.map asPd
  | [], k, last, _, _ => by cases k <;> simp [parse, rowB]
  | f :: r, k, last, h, hk => by
    obtain ⟨h1, h2⟩ := lay_cons h
    obtain ⟨ne, g1, g2, g3, g4, g5, g6⟩ := row_first (r := r) h1 rfl
    have hp := fault_pos (Int.natCast_nonneg last) h1
    have hlen : (rowB (f :: r)).length = 4 + f.2.data.toList.length + (rowB r).length := by
      rw [rowB, List.length_append, fieldBytesI_length]
    obtain ⟨k', rfl⟩ : ∃ k', k = k' + 1 := ⟨k - 1, by omega⟩
    rw [parse_cons ne, if_pos g5, g2, g4]
    have ih := parse_row r k' f.1.toNat (by rw [show ((f.1.toNat : Nat) : Int) = f.1 by omega]; exact h2) (by omega)
    rw [ih, List.map_cons]
    congr 1
    unfold pX asPd
    rw [g2, g3, g5]
theorem read_row {fs : List (Int × ByteArray)} (h : layE 0 fs = 0) : readE (rowB fs) = 0 ∧ readF (rowB fs) = fs := by
  have hp := parse_row fs ((rowB fs).length + 1) 0 h (by omega)
  have h0 : readE (rowB fs) = 0 := by
    rw [readE, hp]
    apply firstE_all
    intro x hx
    obtain ⟨f, _, rfl⟩ := List.mem_map.1 hx
    rfl
  refine ⟨h0, ?_⟩
  rw [readF, if_pos h0, hp]
  exact toF_asPd fs (lay_pos 0 fs (by decide) h)
/-- Bytes whose first field is right are that field's and the rest. -/
theorem bytes_first {l : List UInt8} (h : gE l = 0) : l = fieldBytes (gT l) (gD l) ++ l.drop (gN l) ∧ (gD l).length ≤ 65536 := by
  have h0 := h
  have hn := gN_le h
  refine ⟨?_, hn.2.2.2.1⟩
  match l, hn.2.1 with
  | [], hl => simp at hl; omega
  | [_], hl => simp at hl; omega
  | [_, _], hl => simp at hl; omega
  | [_, _, _], hl => simp at hl; omega
  | a :: b :: c :: d :: r, hl =>
    have ht : gT (a :: b :: c :: d :: r) = a.toNat := by rw [gT, if_pos h]; rfl
    have hs : size3 (a :: b :: c :: d :: r) = 65536 * b.toNat + 256 * c.toNat + d.toNat := rfl
    have hN : gN (a :: b :: c :: d :: r) = 4 + size3 (a :: b :: c :: d :: r) := by rw [gN, if_pos h]
    have hD : gD (a :: b :: c :: d :: r) = r.take (size3 (a :: b :: c :: d :: r)) := by rw [gD, if_pos h]; rfl
    have hlr : (r.take (size3 (a :: b :: c :: d :: r))).length = size3 (a :: b :: c :: d :: r) := by
      rw [List.length_take]
      rw [hN] at hl
      simp only [List.length_cons] at hl
      omega
    have hb := b.toNat_lt
    have hc := c.toNat_lt
    have hd := d.toNat_lt
    have ha := a.toNat_lt
    rw [ht, hD, hN, fieldBytes, hlr, hs]
    have e1 : UInt8.ofNat (a.toNat % 256) = a := by rw [Nat.mod_eq_of_lt ha]; exact UInt8.ofNat_toNat
    have e2 : UInt8.ofNat ((65536 * b.toNat + 256 * c.toNat + d.toNat) / 65536 % 256) = b := by
      rw [show (65536 * b.toNat + 256 * c.toNat + d.toNat) / 65536 % 256 = b.toNat by omega]; exact UInt8.ofNat_toNat
    have e3 : UInt8.ofNat ((65536 * b.toNat + 256 * c.toNat + d.toNat) / 256 % 256) = c := by
      rw [show (65536 * b.toNat + 256 * c.toNat + d.toNat) / 256 % 256 = c.toNat by omega]; exact UInt8.ofNat_toNat
    have e4 : UInt8.ofNat ((65536 * b.toNat + 256 * c.toNat + d.toNat) % 256) = d := by
      rw [show (65536 * b.toNat + 256 * c.toNat + d.toNat) % 256 = d.toNat by omega]; exact UInt8.ofNat_toNat
    rw [e1, e2, e3, e4]
    simp only [List.cons_append, List.drop_succ_cons, Nat.add_comm 4]
    rw [List.take_append_drop]
theorem lay_parse : ∀ (k last : Nat) (l : List UInt8), l.length ≤ k → firstE (parse k last l) = 0 → layE last (toF (parse k last l)) = 0 ∧ rowB (toF (parse k last l)) = l ∧ (parse k last l).length + last ≤ 255 + (if parse k last l = [] then last else 0)
  | 0, last, l, hk, _ => by
    have : l = [] := List.eq_nil_of_length_eq_zero (by omega)
    subst this
    simp [parse, toF, layE, rowB]
  | k + 1, last, l, hk, h => by
    by_cases hl : l = []
    · subst hl; simp [parse, toF, layE, rowB]
    · rw [parse_cons hl] at h ⊢
      rw [firstE] at h
      have he : pE last l = 0 := by
        by_cases he : pE last l = 0
        · exact he
        · rw [if_neg (show ¬ (pX last l).e = 0 from he)] at h; exact absurd h he
      rw [if_pos (show (pX last l).e = 0 from he), if_pos he] at h
      rw [if_pos he]
      have hg : gE l = 0 := by
        unfold pE at he
        by_cases h0 : gE l = 0
        · exact h0
        · rw [if_neg h0] at he; exact absurd he h0
      have hf : faultOf last (gT l) (gD l).length = 0 := by
        unfold pE at he
        rw [if_pos hg] at he
        by_cases hf : faultOf last (gT l) (gD l).length = 0
        · exact hf
        · rw [if_neg hf] at he; omega
      have hn := gN_le hg
      obtain ⟨i1, i2, i3⟩ := lay_parse k (gT l) (l.drop (gN l)) (by rw [List.length_drop]; omega) h
      obtain ⟨b1, b2⟩ := bytes_first hg
      have hds : (⟨(gD l).toArray⟩ : ByteArray).size = (gD l).length := by show (gD l).toArray.size = _; simp
      have hrise : (last : Int) < (gT l : Int) := by
        unfold faultOf at hf
        by_cases hh : (gT l : Int) ≤ (last : Int) ∨ 255 < (gT l : Int)
        · rw [if_pos hh] at hf; omega
        · omega
      refine ⟨?_, ?_, ?_⟩
      · show layE last (((gT l : Int), ⟨(gD l).toArray⟩) :: toF (parse k (gT l) (l.drop (gN l)))) = 0
        rw [layE]
        show (if faultOf last (gT l) (⟨(gD l).toArray⟩ : ByteArray).size = 0 then layE (gT l) _ else _) = 0
        rw [hds, if_pos hf]
        exact i1
      · show rowB (((gT l : Int), ⟨(gD l).toArray⟩) :: toF (parse k (gT l) (l.drop (gN l)))) = l
        rw [rowB, i2]
        show fieldBytesI (gT l) (gD l).toArray.toList ++ _ = l
        rw [fieldBytesI_nat _ _ (by omega)]
        exact b1.symm
      · rw [if_neg (by simp), List.length_cons]
        by_cases hnil : parse k (gT l) (l.drop (gN l)) = []
        · rw [hnil]; simp; omega
        · rw [if_neg hnil] at i3; omega
theorem lay_read {bs : List UInt8} (h : readE bs = 0) : layE 0 (readF bs) = 0 ∧ rowOf (readF bs) = bs ∧ (readF bs).length ≤ 255 := by
  obtain ⟨i1, i2, i3⟩ := lay_parse (bs.length + 1) 0 bs (by omega) h
  rw [readF, if_pos h]
  have i1' : layE 0 (toF (parse (bs.length + 1) 0 bs)) = 0 := i1
  refine ⟨i1', by rw [rowOf, if_pos i1']; exact i2, ?_⟩
  rw [toF_length]
  by_cases hnil : parse (bs.length + 1) 0 bs = []
  · rw [hnil]; simp
  · rw [if_neg hnil] at i3; omega
theorem num_isNum (N : Nat) (h : N < 4611686018427387904) : isNum (num N) = true := by
  have hN : N < 2 ^ 64 := by omega
  unfold isNum
  rw [decide_eq_true_eq, num_length, val_num N hN]
  refine ⟨nb_le N hN, ?_, h⟩
  have hf := fits_nb N hN
  unfold num
  generalize nb N = k at hf
  match k with
  | 0 => simp [be]
  | k + 1 =>
    obtain ⟨h1, h2⟩ := hf
    simp at h2
    have hd : 0 < N / 256 ^ k := Nat.div_pos h2 (Nat.pow_pos (by decide))
    have hl : N / 256 ^ k < 256 := by
      rw [Nat.div_lt_iff_lt_mul (Nat.pow_pos (by decide)), Nat.mul_comm, ← Nat.pow_succ]; exact h1
    simp only [be, List.getElem?_cons_zero, ne_eq, Option.some.injEq]
    intro e
    have := congrArg UInt8.toNat e
    rw [UInt8.toNat_ofNat'] at this
    simp at this
    omega
theorem num_val (l : List UInt8) (h : isNum l = true) : num (val l) = l := by
  unfold isNum at h
  rw [decide_eq_true_eq] at h
  obtain ⟨h1, h2, h3⟩ := h
  have hf : Fits l.length (val l) := by
    refine ⟨val_lt l, ?_⟩
    match l with
    | [] => exact .inl rfl
    | x :: r =>
      right
      rw [val_cons]
      simp at h2 ⊢
      have hx : 0 < x.toNat := by
        rcases Nat.eq_zero_or_pos x.toNat with h | h
        · exact absurd (UInt8.toNat_inj.mp (by simpa using h)) h2
        · exact h
      have := Nat.le_mul_of_pos_left (256 ^ r.length) hx
      omega
  rw [← num_of_fits (by omega) hf, be_val]
end Go.Proofs.Ytjpmmbmhkpgjcaa
