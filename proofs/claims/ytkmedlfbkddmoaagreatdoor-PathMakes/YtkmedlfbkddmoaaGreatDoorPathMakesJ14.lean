/- Texts of our own that the row of PathMakes leans on, part 14. -/
import Derived.Test.YtkmedlfbkddmoaaGreatDoorPathMakesJ1
import Derived.Test.YtkmedlfbkddmoaaGreatDoorPathMakesJ13
import Derived.WalkKit
/- Rows, fields and numbers as bytes, as plain functions: what is laid, what is read, and back. No program is spoken of. -/
namespace Go.Proofs.YtkmedlfbkddmoaaGreatDoor
open Go.RowKit Nums
set_option maxRecDepth 100000
set_option linter.unusedVariables false
def isNum (l : List UInt8) : Bool := decide (l.length ≤ 8 ∧ l[0]? ≠ some 0 ∧ val l < 4611686018427387904)
def nOf (n : Int) : ByteArray := if 0 ≤ n ∧ n ≤ 4611686018427387903 then ⟨(num n.toNat).toArray⟩ else ByteArray.empty
def neOf (n : Int) : Int := if 0 ≤ n ∧ n ≤ 4611686018427387903 then 0 else 1
def fieldBytes (tag : Nat) (d : List UInt8) : List UInt8 :=
  UInt8.ofNat (tag % 256) :: UInt8.ofNat (d.length / 65536 % 256) :: UInt8.ofNat (d.length / 256 % 256) :: UInt8.ofNat (d.length % 256) :: d
def faultOf (last tag : Int) (size : Nat) : Int := if tag ≤ last ∨ 255 < tag then 1 else if 65536 < size then 2 else 0
theorem byte_mod (n : Nat) : ((UInt8.ofNat (n % 256)).toNat : Int) = (n : Int) % 256 := by rw [UInt8.toNat_ofNat']; omega
theorem fieldBytes_length (tag : Nat) (l : List UInt8) : (fieldBytes tag l).length = 4 + l.length := by simp [fieldBytes]; omega
def fieldBytesI (tag : Int) (d : List UInt8) : List UInt8 :=
  UInt8.ofNat (tag % 256).toNat :: UInt8.ofNat (d.length / 65536 % 256) :: UInt8.ofNat (d.length / 256 % 256) :: UInt8.ofNat (d.length % 256) :: d
theorem fieldBytesI_nat (tag : Int) (d : List UInt8) (h : 1 ≤ tag ∧ tag ≤ 255) : fieldBytesI tag d = fieldBytes tag.toNat d := by
  have e : (tag % 256).toNat = tag.toNat % 256 := by omega
  rw [fieldBytesI, fieldBytes, e]
theorem fieldBytesI_length (tag : Int) (l : List UInt8) : (fieldBytesI tag l).length = 4 + l.length := by simp [fieldBytesI]; omega
def size3 (l : List UInt8) : Nat := 65536 * (l.getD 1 0).toNat + 256 * (l.getD 2 0).toNat + (l.getD 3 0).toNat
def gE (l : List UInt8) : Nat := if l.length < 4 then 10 else if (l.getD 0 0).toNat = 0 ∨ 65536 < size3 l then 11 else if l.length < 4 + size3 l then 10 else 0
def gT (l : List UInt8) : Nat := if gE l = 0 then (l.getD 0 0).toNat else 0
def gD (l : List UInt8) : List UInt8 := if gE l = 0 then (l.drop 4).take (size3 l) else []
def gN (l : List UInt8) : Nat := if gE l = 0 then 4 + size3 l else 0
structure Jd where
  tag : Int
  d : ByteArray
  e : Int
  ok : e = 0 → d.size ≤ 65536
theorem fault_ok (last tag : Int) (d : ByteArray) (h : faultOf last tag d.size = 0) : d.size ≤ 65536 := by
  unfold faultOf at h
  by_cases h1 : tag ≤ last ∨ 255 < tag
  · rw [if_pos h1] at h; omega
  · rw [if_neg h1] at h
    by_cases h2 : 65536 < d.size
    · rw [if_pos h2] at h; omega
    · omega
def judge (last : Int) : List (Int × ByteArray) → List Jd
  | [] => []
  | f :: r => ⟨f.1, f.2, faultOf last f.1 f.2.size, fault_ok last f.1 f.2⟩ :: judge f.1 r
structure Pd where
  tag : Nat
  d : List UInt8
  e : Nat
def pE (last : Nat) (l : List UInt8) : Nat := if gE l = 0 then (if faultOf last (gT l) (gD l).length = 0 then 0 else 11) else gE l
def pX (last : Nat) (l : List UInt8) : Pd := ⟨gT l, gD l, pE last l⟩
def parse : Nat → Nat → List UInt8 → List Pd
  | 0, _, _ => []
  | k + 1, last, l => if l = [] then [] else pX last l :: if pE last l = 0 then parse k (gT l) (l.drop (gN l)) else []
def fcells : List (Int × ByteArray) → List Value
  | [] => []
  | f :: r => .int .i64 f.1 :: .string f.2 :: fcells r
theorem fcells_length : ∀ fs, (fcells fs).length = fs.length * 2
  | [] => rfl
  | f :: r => by simp [fcells, fcells_length r]; omega
theorem fcells_append : ∀ a b, fcells (a ++ b) = fcells a ++ fcells b
  | [], _ => rfl
  | f :: r, b => by simp [fcells, fcells_append r b]
def toF (ps : List Pd) : List (Int × ByteArray) := ps.map fun x => ((x.tag : Int), ⟨x.d.toArray⟩)
def layE : Int → List (Int × ByteArray) → Int
  | _, [] => 0
  | last, f :: r => if faultOf last f.1 f.2.size = 0 then layE f.1 r else faultOf last f.1 f.2.size
def rowB : List (Int × ByteArray) → List UInt8
  | [] => []
  | f :: r => fieldBytesI f.1 f.2.data.toList ++ rowB r
def rowOf (fs : List (Int × ByteArray)) : List UInt8 := if layE 0 fs = 0 then rowB fs else []
theorem rowB_append : ∀ a b, rowB (a ++ b) = rowB a ++ rowB b
  | [], _ => rfl
  | f :: r, b => by simp [rowB, rowB_append r b]
theorem layE_all : ∀ (last : Int) (fs : List (Int × ByteArray)), (∀ x ∈ judge last fs, x.e = 0) → layE last fs = 0
  | _, [], _ => rfl
  | last, f :: r, h => by
    have h1 : faultOf last f.1 f.2.size = 0 := h _ List.mem_cons_self
    rw [layE, if_pos h1]
    exact layE_all f.1 r (fun x hx => h x (List.mem_cons_of_mem _ hx))
theorem layE_first : ∀ (pre : List Jd) (last : Int) (fs : List (Int × ByteArray)) (x : Jd), (pre ++ [x]) <+: judge last fs → (∀ y ∈ pre, y.e = 0) → x.e ≠ 0 → layE last fs = x.e
  | [], last, [], x, h, _, _ => by simp [judge] at h
  | [], last, f :: r, x, h, _, hx => by
    rw [judge, List.nil_append, List.cons_prefix_cons] at h
    obtain ⟨rfl, _⟩ := h
    rw [layE, if_neg hx]
  | y :: pre, last, [], x, h, _, _ => by simp [judge] at h
  | y :: pre, last, f :: r, x, h, hz, hx => by
    rw [judge, List.cons_append, List.cons_prefix_cons] at h
    obtain ⟨rfl, h2⟩ := h
    have h1 : faultOf last f.1 f.2.size = 0 := hz _ List.mem_cons_self
    rw [layE, if_pos h1]
    exact layE_first pre f.1 r x h2 (fun z hz' => hz z (List.mem_cons_of_mem _ hz')) hx
def firstE : List Pd → Nat
  | [] => 0
  | x :: r => if x.e = 0 then firstE r else x.e
def readE (bs : List UInt8) : Nat := firstE (parse (bs.length + 1) 0 bs)
def readF (bs : List UInt8) : List (Int × ByteArray) := if readE bs = 0 then toF (parse (bs.length + 1) 0 bs) else []
theorem fault_ref (last tag : Int) (size : Nat) (hl : 0 ≤ last) : faultOf last tag size = if tag ≤ last then 1 else faultOf 0 tag size := by
  unfold faultOf
  by_cases h : tag ≤ last
  · rw [if_pos (.inl h), if_pos h]
  · rw [if_neg h]
    by_cases h2 : 255 < tag
    · rw [if_pos (show tag ≤ last ∨ 255 < tag from .inr h2), if_pos (show tag ≤ 0 ∨ 255 < tag from .inr h2)]
    · rw [if_neg (show ¬ (tag ≤ last ∨ 255 < tag) by omega), if_neg (show ¬ (tag ≤ 0 ∨ 255 < tag) by omega)]
theorem fault_pos {last tag : Int} {size : Nat} (hl : 0 ≤ last) (h : faultOf last tag size = 0) : 1 ≤ tag ∧ tag ≤ 255 ∧ size ≤ 65536 := by
  unfold faultOf at h
  by_cases h1 : tag ≤ last ∨ 255 < tag
  · rw [if_pos h1] at h; omega
  · rw [if_neg h1] at h
    by_cases h2 : 65536 < size
    · rw [if_pos h2] at h; omega
    · omega
end Go.Proofs.YtkmedlfbkddmoaaGreatDoor
/- Heads as bytes, signed by a node, as the document defines them. No program is spoken of. -/
namespace Go.Proofs.YtkmedlfbkddmoaaGreatDoor
open Nums Sums
set_option maxRecDepth 100000
set_option linter.unusedVariables false
def bA (l : List UInt8) : ByteArray := ⟨l.toArray⟩
theorem bA_list (l : List UInt8) : (bA l).data.toList = l := rfl
theorem bA_size (l : List UInt8) : (bA l).size = l.length := by show l.toArray.size = _; simp
theorem bA_of (s : ByteArray) : bA s.data.toList = s := rfl
def valO (l : List UInt8) : Int := if isNum l then val l else -1
theorem nOf_size (n : Int) : (nOf n).size ≤ 8 := by
  unfold nOf
  split
  · rename_i h
    show (num n.toNat).toArray.size ≤ 8
    have := nb_le n.toNat (by omega)
    simpa [num_length] using this
  · show 0 ≤ 8; omega
def tagsN (n : Nat) : List Int := (List.range n).map fun (i : Nat) => (Int.ofNat i) + 1
def partsO (bs : List UInt8) (n : Nat) : Option (List ByteArray) := if readE bs = 0 ∧ (readF bs).map (·.1) = tagsN n then some ((readF bs).map (·.2)) else none
def fieldsN (l : List ByteArray) : List (Int × ByteArray) := (tagsN l.length).zip l
theorem tagsN_length (n : Nat) : (tagsN n).length = n := by simp [tagsN]
structure HdT where
  r : Int
  e : Int
  s : Int
  d : List UInt8
  t : Int
def rightH (h : HdT) : Bool := decide (1 ≤ h.r) && decide (h.r ≤ 5) && decide (1 ≤ h.e) && decide (h.e ≤ 900000000) && decide (0 ≤ h.s) && decide (h.s ≤ 100000) && decide (0 ≤ h.t) && decide (h.t ≤ 900000000)
theorem rightH_iff (h : HdT) : rightH h = true ↔ (1 ≤ h.r ∧ h.r ≤ 5 ∧ 1 ≤ h.e ∧ h.e ≤ 900000000 ∧ 0 ≤ h.s ∧ h.s ≤ 100000 ∧ 0 ≤ h.t ∧ h.t ≤ 900000000) := by
  unfold rightH
  simp only [Bool.and_eq_true, decide_eq_true_eq]
  omega
def hL (h : HdT) : List ByteArray := [nOf h.r, nOf h.e, nOf h.s, bA h.d, nOf h.t]
def headB (h : HdT) : List UInt8 := rowB (fieldsN (hL h))
theorem fault_none (last tag : Int) (n : Nat) (h : last < tag ∧ tag ≤ 255) (hn : n ≤ 65536) : faultOf last tag n = 0 := by
  unfold faultOf
  rw [if_neg (by omega), if_neg (by omega)]
theorem layE_hL (h : HdT) (hd : h.d.length = 32) : layE 0 (fieldsN (hL h)) = 0 := by
  have e : fieldsN (hL h) = [(1, nOf h.r), (2, nOf h.e), (3, nOf h.s), (4, bA h.d), (5, nOf h.t)] := rfl
  have b1 := nOf_size h.r
  have b2 := nOf_size h.e
  have b3 := nOf_size h.s
  have b5 := nOf_size h.t
  have b4 : (bA h.d).size = 32 := by rw [bA_size]; exact hd
  rw [e]
  simp only [layE]
  rw [if_pos (fault_none _ _ _ (by omega) (by omega)), if_pos (fault_none _ _ _ (by omega) (by omega)), if_pos (fault_none _ _ _ (by omega) (by omega)), if_pos (fault_none _ _ _ (by omega) (by omega)), if_pos (fault_none _ _ _ (by omega) (by omega))]
def headOf (x1 x2 x3 x4 x5 : ByteArray) : HdT := ⟨valO x1.data.toList, valO x2.data.toList, valO x3.data.toList, x4.data.toList, valO x5.data.toList⟩
def getO (bs : List UInt8) : Option HdT :=
  match partsO bs 5 with
  | some [x1, x2, x3, x4, x5] => if x4.size = 32 ∧ rightH (headOf x1 x2 x3 x4 x5) = true then some (headOf x1 x2 x3 x4 x5) else none
  | _ => none
theorem rowB_length : ∀ (fs : List (Int × ByteArray)), (rowB fs).length = 4 * fs.length + (fs.map fun f => f.2.size).sum
  | [] => rfl
  | f :: r => by
    show (fieldBytesI f.1 f.2.data.toList ++ rowB r).length = _
    rw [List.length_append, rowB_length r, fieldBytesI_length]
    simp only [List.length_cons, List.map_cons, List.sum_cons]
    have : f.2.data.toList.length = f.2.size := rfl
    omega
theorem headB_length (h : HdT) (hd : h.d.length = 32) : (headB h).length ≤ 84 := by
  have b1 := nOf_size h.r
  have b2 := nOf_size h.e
  have b3 := nOf_size h.s
  have b5 := nOf_size h.t
  have b4 : (bA h.d).size = 32 := by rw [bA_size]; exact hd
  unfold headB
  rw [rowB_length]
  show 4 * 5 + ((nOf h.r).size + ((nOf h.e).size + ((nOf h.s).size + ((bA h.d).size + ((nOf h.t).size + 0))))) ≤ 84
  omega
structure SgT where
  h : HdT
  n : Int
  g : List UInt8
def mayS (s : SgT) : Bool := rightH s.h && decide (1 ≤ s.n) && decide (s.n ≤ 3)
theorem mayS_iff (s : SgT) : mayS s = true ↔ (rightH s.h = true ∧ 1 ≤ s.n ∧ s.n ≤ 3) := by
  unfold mayS
  simp only [Bool.and_eq_true, decide_eq_true_eq]
  constructor
  · rintro ⟨⟨a, b⟩, c⟩; exact ⟨a, b, c⟩
  · rintro ⟨a, b, c⟩; exact ⟨⟨a, b⟩, c⟩
def sL (s : SgT) : List ByteArray := [bA (headB s.h), nOf s.n, bA s.g]
def signB (s : SgT) : List UInt8 := rowB (fieldsN (sL s))
theorem layE_sL (s : SgT) (hd : s.h.d.length = 32) (hg : s.g.length = 32) : layE 0 (fieldsN (sL s)) = 0 := by
  have e : fieldsN (sL s) = [(1, bA (headB s.h)), (2, nOf s.n), (3, bA s.g)] := rfl
  have b1 := headB_length s.h hd
  have b2 := nOf_size s.n
  have b3 : (bA s.g).size = 32 := by rw [bA_size]; exact hg
  have b4 : (bA (headB s.h)).size ≤ 84 := by rw [bA_size]; exact b1
  rw [e]
  simp only [layE]
  rw [if_pos (fault_none _ _ _ (by omega) (by omega)), if_pos (fault_none _ _ _ (by omega) (by omega)), if_pos (fault_none _ _ _ (by omega) (by omega))]
theorem signB_length (s : SgT) (hd : s.h.d.length = 32) (hg : s.g.length = 32) : (signB s).length ≤ 136 := by
  have b1 := headB_length s.h hd
  have b2 := nOf_size s.n
  have b3 : (bA s.g).size = 32 := by rw [bA_size]; exact hg
  have b4 : (bA (headB s.h)).size ≤ 84 := by rw [bA_size]; exact b1
  unfold signB
  rw [rowB_length]
  show 4 * 3 + ((bA (headB s.h)).size + ((nOf s.n).size + ((bA s.g).size + 0))) ≤ 136
  omega
def headT (h : HdT) : List UInt8 := [104, 101, 97, 100, 32] ++ headB h
def tagD (master : List UInt8) (h : HdT) (n : Int) : List UInt8 := macD (keyD master h.r n) (headT h)
theorem tagD_length (hs : ∀ l, (sumD l).length = 32) (master : List UInt8) (h : HdT) (n : Int) : (tagD master h n).length = 32 := hs _
def verE (master : List UInt8) (s : SgT) : Int := if mayS s = true then (if tagD master s.h s.n = s.g then 0 else 72) else 70
theorem mayS_owner (s : SgT) (h : mayS s = true) : owner s.h.r s.n = true := by
  obtain ⟨a, b, c⟩ := (mayS_iff s).1 h
  have := (rightH_iff s.h).1 a
  exact (owner_iff _ _).2 (by omega)
end Go.Proofs.YtkmedlfbkddmoaaGreatDoor
