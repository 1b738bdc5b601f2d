/- Texts of our own that the row of EntryClaims leans on, part 4. -/
import Derived.Test.YtgkfodmccfnaoaaEntryClaimsJ2
import Derived.Test.YtgkfodmccfnaoaaEntryClaimsJ3

/- Heads as bytes, signed by a node, as the document defines them. No program is spoken of. -/
namespace Go.Proofs.Ytgkfodmccfnaoaa
open Nums Sums
set_option maxRecDepth 100000
set_option linter.unusedVariables false
def bA (l : List UInt8) : ByteArray := ⟨l.toArray⟩
theorem bA_list (l : List UInt8) : (bA l).data.toList = l := rfl
theorem bA_size (l : List UInt8) : (bA l).size = l.length := by show l.toArray.size = _; simp
theorem bA_of (s : ByteArray) : bA s.data.toList = s := rfl
/-! Numbers, and back. -/
/-- A number; -1: it is none. -/
def valO (l : List UInt8) : Int := if isNum l then val l else -1
theorem nOf_list (n : Int) (h : 0 ≤ n ∧ n ≤ 4611686018427387903) : (nOf n).data.toList = num n.toNat := by unfold nOf; rw [if_pos h]
theorem nOf_size (n : Int) : (nOf n).size ≤ 8 := by
  unfold nOf
  split
  · rename_i h
    show (num n.toNat).toArray.size ≤ 8
    have := nb_le n.toNat (by omega)
    simpa [num_length] using this
  · show 0 ≤ 8; omega
theorem valO_nOf (n : Int) (h : 0 ≤ n ∧ n ≤ 4611686018427387903) : valO (nOf n).data.toList = n := by
  rw [nOf_list n h, valO, num_isNum n.toNat (by omega), if_pos rfl, val_num n.toNat (by omega)]
  omega
theorem nOf_valO (l : List UInt8) (h : 0 ≤ valO l) : (nOf (valO l)).data.toList = l ∧ valO l ≤ 4611686018427387903 := by
  unfold valO at h ⊢
  by_cases hn : isNum l = true
  · rw [if_pos hn] at h ⊢
    have hlt : val l < 4611686018427387904 := by
      have := hn
      unfold isNum at this
      rw [decide_eq_true_eq] at this
      exact this.2.2
    refine ⟨?_, by omega⟩
    rw [nOf_list _ (by omega), Int.toNat_natCast, num_val l hn]
  · rw [if_neg hn] at h
    omega
/-! A row whose fields have the tags 1 to n. -/
def tagsN (n : Nat) : List Int := (List.range n).map fun (i : Nat) => (Int.ofNat i) + 1
/-- What the fields of a row have, if their tags are 1 to n. -/
def partsO (bs : List UInt8) (n : Nat) : Option (List ByteArray) := if readE bs = 0 ∧ (readF bs).map (·.1) = tagsN n then some ((readF bs).map (·.2)) else none
def fieldsN (l : List ByteArray) : List (Int × ByteArray) := (tagsN l.length).zip l
theorem tagsN_length (n : Nat) : (tagsN n).length = n := by simp [tagsN]
theorem fieldsN_fst (l : List ByteArray) : (fieldsN l).map (·.1) = tagsN l.length := by
  unfold fieldsN
  rw [List.map_fst_zip (by rw [tagsN_length]; exact Nat.le_refl _)]
theorem fieldsN_snd (l : List ByteArray) : (fieldsN l).map (·.2) = l := by
  unfold fieldsN
  rw [List.map_snd_zip (by rw [tagsN_length]; exact Nat.le_refl _)]
theorem zip_fst_snd : ∀ (fs : List (Int × ByteArray)), (fs.map (·.1)).zip (fs.map (·.2)) = fs
  | [] => rfl
  | f :: r => by simp [zip_fst_snd r]
/-- What is laid is read. -/
theorem parts_row (l : List ByteArray) (h : layE 0 (fieldsN l) = 0) : partsO (rowB (fieldsN l)) l.length = some l := by
  obtain ⟨h1, h2⟩ := read_row h
  unfold partsO
  rw [h2, if_pos ⟨h1, fieldsN_fst l⟩, fieldsN_snd]
/-- What is read is laid as the same bytes. -/
theorem row_parts {bs : List UInt8} {n : Nat} {l : List ByteArray} (h : partsO bs n = some l) : l.length = n ∧ layE 0 (fieldsN l) = 0 ∧ rowB (fieldsN l) = bs := by
  unfold partsO at h
  split at h
  · rename_i hh
    have hl : (readF bs).map (·.2) = l := Option.some.inj h
    have hlen : l.length = n := by
      rw [← hl, List.length_map, ← List.length_map (f := (·.1)), hh.2, tagsN_length]
    have he : fieldsN l = readF bs := by
      unfold fieldsN
      rw [hlen, ← hh.2, ← hl, zip_fst_snd]
    obtain ⟨a, b, _⟩ := lay_read hh.1
    refine ⟨hlen, by rw [he]; exact a, ?_⟩
    rw [he]
    unfold rowOf at b
    rwa [if_pos a] at b
  · cases h
/-! Heads. -/
structure HdT where
  r : Int
  e : Int
  s : Int
  d : List UInt8
  t : Int
def hL (h : HdT) : List ByteArray := [nOf h.r, nOf h.e, nOf h.s, bA h.d, nOf h.t]
theorem fault_none (last tag : Int) (n : Nat) (h : last < tag ∧ tag ≤ 255) (hn : n ≤ 65536) : faultOf last tag n = 0 := by
  unfold faultOf
  rw [if_neg (by omega), if_neg (by omega)]
theorem nOf_back (x : ByteArray) (h : 0 ≤ valO x.data.toList) : nOf (valO x.data.toList) = x := by
  have := (nOf_valO _ h).1
  rw [← bA_of (nOf (valO x.data.toList)), this]
  rfl
theorem rowB_length : ∀ (fs : List (Int × ByteArray)), (rowB fs).length = 4 * fs.length + (fs.map fun f => f.2.size).sum
  | [] => rfl
  | f :: r => by
    show (fieldBytesI f.1 f.2.data.toList ++ rowB r).length = _
    rw [List.length_append, rowB_length r, fieldBytesI_length]
    simp only [List.length_cons, List.map_cons, List.sum_cons]
    have : f.2.data.toList.length = f.2.size := rfl
    omega
/-! Signed heads. -/
structure SgT where
  h : HdT
  n : Int
  g : List UInt8
end Go.Proofs.Ytgkfodmccfnaoaa
