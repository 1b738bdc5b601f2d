/- Texts of our own that the row of PathCrosses leans on, part 4. -/
import Derived.Test.YtkmedlfbkddmoaaDoorPathCrossesJ2
import Derived.Test.YtkmedlfbkddmoaaDoorPathCrossesJ3
/- Heads as bytes, signed by a node, as the document defines them. No program is spoken of. -/
namespace Go.Proofs.YtkmedlfbkddmoaaDoor
open Nums Sums
set_option maxRecDepth 100000
set_option linter.unusedVariables false
def bA (l : List UInt8) : ByteArray := ⟨l.toArray⟩
theorem bA_list (l : List UInt8) : (bA l).data.toList = l := rfl
theorem bA_size (l : List UInt8) : (bA l).size = l.length := by show l.toArray.size = _; simp
theorem bA_of (s : ByteArray) : bA s.data.toList = s := rfl
def valO (l : List UInt8) : Int := if isNum l then val l else -1
theorem nOf_size (n : Int) : (nOf n).size ≤ 8 := by
  unfold nOf
  split
  · rename_i h
    show (num n.toNat).toArray.size ≤ 8
    have := nb_le n.toNat (by omega)
    simpa [num_length] using this
  · show 0 ≤ 8; omega
def tagsN (n : Nat) : List Int := (List.range n).map fun (i : Nat) => (Int.ofNat i) + 1
def partsO (bs : List UInt8) (n : Nat) : Option (List ByteArray) := if readE bs = 0 ∧ (readF bs).map (·.1) = tagsN n then some ((readF bs).map (·.2)) else none
def fieldsN (l : List ByteArray) : List (Int × ByteArray) := (tagsN l.length).zip l
structure HdT where
  r : Int
  e : Int
  s : Int
  d : List UInt8
  t : Int
def rightH (h : HdT) : Bool := decide (1 ≤ h.r) && decide (h.r ≤ 5) && decide (1 ≤ h.e) && decide (h.e ≤ 900000000) && decide (0 ≤ h.s) && decide (h.s ≤ 100000) && decide (0 ≤ h.t) && decide (h.t ≤ 900000000)
theorem rightH_iff (h : HdT) : rightH h = true ↔ (1 ≤ h.r ∧ h.r ≤ 5 ∧ 1 ≤ h.e ∧ h.e ≤ 900000000 ∧ 0 ≤ h.s ∧ h.s ≤ 100000 ∧ 0 ≤ h.t ∧ h.t ≤ 900000000) := by
  unfold rightH
  simp only [Bool.and_eq_true, decide_eq_true_eq]
  omega
def hL (h : HdT) : List ByteArray := [nOf h.r, nOf h.e, nOf h.s, bA h.d, nOf h.t]
def headB (h : HdT) : List UInt8 := rowB (fieldsN (hL h))
theorem fault_none (last tag : Int) (n : Nat) (h : last < tag ∧ tag ≤ 255) (hn : n ≤ 65536) : faultOf last tag n = 0 := by
  unfold faultOf
  rw [if_neg (by omega), if_neg (by omega)]
theorem layE_hL (h : HdT) (hd : h.d.length = 32) : layE 0 (fieldsN (hL h)) = 0 := by
  have e : fieldsN (hL h) = [(1, nOf h.r), (2, nOf h.e), (3, nOf h.s), (4, bA h.d), (5, nOf h.t)] := rfl
  have b1 := nOf_size h.r
  have b2 := nOf_size h.e
  have b3 := nOf_size h.s
  have b5 := nOf_size h.t
  have b4 : (bA h.d).size = 32 := by rw [bA_size]; exact hd
  rw [e]
  simp only [layE]
  rw [if_pos (fault_none _ _ _ (by omega) (by omega)), if_pos (fault_none _ _ _ (by omega) (by omega)), if_pos (fault_none _ _ _ (by omega) (by omega)), if_pos (fault_none _ _ _ (by omega) (by omega)), if_pos (fault_none _ _ _ (by omega) (by omega))]
def headOf (x1 x2 x3 x4 x5 : ByteArray) : HdT := ⟨valO x1.data.toList, valO x2.data.toList, valO x3.data.toList, x4.data.toList, valO x5.data.toList⟩
def getO (bs : List UInt8) : Option HdT :=
  match partsO bs 5 with
  | some [x1, x2, x3, x4, x5] => if x4.size = 32 ∧ rightH (headOf x1 x2 x3 x4 x5) = true then some (headOf x1 x2 x3 x4 x5) else none
  | _ => none
theorem rowB_length : ∀ (fs : List (Int × ByteArray)), (rowB fs).length = 4 * fs.length + (fs.map fun f => f.2.size).sum
  | [] => rfl
  | f :: r => by
    show (fieldBytesI f.1 f.2.data.toList ++ rowB r).length = _
    rw [List.length_append, rowB_length r, fieldBytesI_length]
    simp only [List.length_cons, List.map_cons, List.sum_cons]
    have : f.2.data.toList.length = f.2.size := rfl
    omega
theorem headB_length (h : HdT) (hd : h.d.length = 32) : (headB h).length ≤ 84 := by
  have b1 := nOf_size h.r
  have b2 := nOf_size h.e
  have b3 := nOf_size h.s
  have b5 := nOf_size h.t
  have b4 : (bA h.d).size = 32 := by rw [bA_size]; exact hd
  unfold headB
  rw [rowB_length]
  show 4 * 5 + ((nOf h.r).size + ((nOf h.e).size + ((nOf h.s).size + ((bA h.d).size + ((nOf h.t).size + 0))))) ≤ 84
  omega
structure SgT where
  h : HdT
  n : Int
  g : List UInt8
def mayS (s : SgT) : Bool := rightH s.h && decide (1 ≤ s.n) && decide (s.n ≤ 3)
theorem mayS_iff (s : SgT) : mayS s = true ↔ (rightH s.h = true ∧ 1 ≤ s.n ∧ s.n ≤ 3) := by
  unfold mayS
  simp only [Bool.and_eq_true, decide_eq_true_eq]
  constructor
  · rintro ⟨⟨a, b⟩, c⟩; exact ⟨a, b, c⟩
  · rintro ⟨a, b, c⟩; exact ⟨⟨a, b⟩, c⟩
def sL (s : SgT) : List ByteArray := [bA (headB s.h), nOf s.n, bA s.g]
def signB (s : SgT) : List UInt8 := rowB (fieldsN (sL s))
theorem layE_sL (s : SgT) (hd : s.h.d.length = 32) (hg : s.g.length = 32) : layE 0 (fieldsN (sL s)) = 0 := by
  have e : fieldsN (sL s) = [(1, bA (headB s.h)), (2, nOf s.n), (3, bA s.g)] := rfl
  have b1 := headB_length s.h hd
  have b2 := nOf_size s.n
  have b3 : (bA s.g).size = 32 := by rw [bA_size]; exact hg
  have b4 : (bA (headB s.h)).size ≤ 84 := by rw [bA_size]; exact b1
  rw [e]
  simp only [layE]
  rw [if_pos (fault_none _ _ _ (by omega) (by omega)), if_pos (fault_none _ _ _ (by omega) (by omega)), if_pos (fault_none _ _ _ (by omega) (by omega))]
theorem signB_length (s : SgT) (hd : s.h.d.length = 32) (hg : s.g.length = 32) : (signB s).length ≤ 136 := by
  have b1 := headB_length s.h hd
  have b2 := nOf_size s.n
  have b3 : (bA s.g).size = 32 := by rw [bA_size]; exact hg
  have b4 : (bA (headB s.h)).size ≤ 84 := by rw [bA_size]; exact b1
  unfold signB
  rw [rowB_length]
  show 4 * 3 + ((bA (headB s.h)).size + ((nOf s.n).size + ((bA s.g).size + 0))) ≤ 136
  omega
def headT (h : HdT) : List UInt8 := [104, 101, 97, 100, 32] ++ headB h
def tagD (master : List UInt8) (h : HdT) (n : Int) : List UInt8 := macD (keyD master h.r n) (headT h)
theorem tagD_length (hs : ∀ l, (sumD l).length = 32) (master : List UInt8) (h : HdT) (n : Int) : (tagD master h n).length = 32 := hs _
def verE (master : List UInt8) (s : SgT) : Int := if mayS s = true then (if tagD master s.h s.n = s.g then 0 else 72) else 70
theorem mayS_owner (s : SgT) (h : mayS s = true) : owner s.h.r s.n = true := by
  obtain ⟨a, b, c⟩ := (mayS_iff s).1 h
  have := (rightH_iff s.h).1 a
  exact (owner_iff _ _).2 (by omega)
end Go.Proofs.YtkmedlfbkddmoaaDoor
