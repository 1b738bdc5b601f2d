/- Texts of our own that the row of KeepReads leans on, part 5. -/
import Derived.Test.YtjpmmbmhkpgjcaaKeepReadsJ3
import Derived.Test.YtjpmmbmhkpgjcaaKeepReadsJ4

/- Heads as bytes, signed by a node, as the document defines them. No program is spoken of. -/
namespace Go.Proofs.Ytjpmmbmhkpgjcaa
open Nums Sums
set_option maxRecDepth 100000
set_option linter.unusedVariables false
def bA (l : List UInt8) : ByteArray := ⟨l.toArray⟩
theorem bA_list (l : List UInt8) : (bA l).data.toList = l := rfl
theorem bA_size (l : List UInt8) : (bA l).size = l.length := by show l.toArray.size = _; simp
theorem bA_of (s : ByteArray) : bA s.data.toList = s := rfl
/-! Numbers, and back. -/
/-- A number; -1: it is none. -/
def valO (l : List UInt8) : Int := if isNum l then val l else -1
theorem nOf_list (n : Int) (h : 0 ≤ n ∧ n ≤ 4611686018427387903) : (nOf n).data.toList = num n.toNat := by unfold nOf; rw [if_pos h]
theorem nOf_size (n : Int) : (nOf n).size ≤ 8 := by
  unfold nOf
  split
  · rename_i h
    show (num n.toNat).toArray.size ≤ 8
    have := nb_le n.toNat (by omega)
    simpa [num_length] using this
  · show 0 ≤ 8; omega
theorem valO_nOf (n : Int) (h : 0 ≤ n ∧ n ≤ 4611686018427387903) : valO (nOf n).data.toList = n := by
  rw [nOf_list n h, valO, num_isNum n.toNat (by omega), if_pos rfl, val_num n.toNat (by omega)]
  omega
theorem nOf_valO (l : List UInt8) (h : 0 ≤ valO l) : (nOf (valO l)).data.toList = l ∧ valO l ≤ 4611686018427387903 := by
  unfold valO at h ⊢
  by_cases hn : isNum l = true
  · rw [if_pos hn] at h ⊢
    have hlt : val l < 4611686018427387904 := by
      have := hn
      unfold isNum at this
      rw [decide_eq_true_eq] at this
      exact this.2.2
    refine ⟨?_, by omega⟩
    rw [nOf_list _ (by omega), Int.toNat_natCast, num_val l hn]
  · rw [if_neg hn] at h
    omega
/-! A row whose fields have the tags 1 to n. -/
def tagsN (n : Nat) : List Int := (List.range n).map fun (i : Nat) => (Int.ofNat i) + 1
/-- What the fields of a row have, if their tags are 1 to n. -/
def partsO (bs : List UInt8) (n : Nat) : Option (List ByteArray) := if readE bs = 0 ∧ (readF bs).map (·.1) = tagsN n then some ((readF bs).map (·.2)) else none
def fieldsN (l : List ByteArray) : List (Int × ByteArray) := (tagsN l.length).zip l
theorem tagsN_length (n : Nat) : (tagsN n).length = n := by simp [tagsN]
theorem fieldsN_fst (l : List ByteArray) : (fieldsN l).map (·.1) = tagsN l.length := by
  unfold fieldsN
  rw [List.map_fst_zip (by rw [tagsN_length]; exact Nat.le_refl _)]
theorem fieldsN_snd (l : List ByteArray) : (fieldsN l).map (·.2) = l := by
  unfold fieldsN
  rw [List.map_snd_zip (by rw [tagsN_length]; exact Nat.le_refl _)]
theorem zip_fst_snd : ∀ (fs : List (Int × ByteArray)), (fs.map (·.1)).zip (fs.map (·.2)) = fs
  | [] => rfl
  | f :: r => by simp [zip_fst_snd r]
/-- What is laid is read. -/
theorem parts_row (l : List ByteArray) (h : layE 0 (fieldsN l) = 0) : partsO (rowB (fieldsN l)) l.length = some l := by
  obtain ⟨h1, h2⟩ := read_row h
  unfold partsO
  rw [h2, if_pos ⟨h1, fieldsN_fst l⟩, fieldsN_snd]
/-- What is read is laid as the same bytes. -/
theorem row_parts {bs : List UInt8} {n : Nat} {l : List ByteArray} (h : partsO bs n = some l) : l.length = n ∧ layE 0 (fieldsN l) = 0 ∧ rowB (fieldsN l) = bs := by
  unfold partsO at h
  split at h
  · rename_i hh
    have hl : (readF bs).map (·.2) = l := Option.some.inj h
    have hlen : l.length = n := by
      rw [← hl, List.length_map, ← List.length_map (f := (·.1)), hh.2, tagsN_length]
    have he : fieldsN l = readF bs := by
      unfold fieldsN
      rw [hlen, ← hh.2, ← hl, zip_fst_snd]
    obtain ⟨a, b, _⟩ := lay_read hh.1
    refine ⟨hlen, by rw [he]; exact a, ?_⟩
    rw [he]
    unfold rowOf at b
    rwa [if_pos a] at b
  · cases h
/-! Heads. -/
structure HdT where
  r : Int
  e : Int
  s : Int
  d : List UInt8
  t : Int
/-- Is a head right? -/
def rightH (h : HdT) : Bool := decide (1 ≤ h.r) && decide (h.r ≤ 5) && decide (1 ≤ h.e) && decide (h.e ≤ 900000000) && decide (0 ≤ h.s) && decide (h.s ≤ 100000) && decide (0 ≤ h.t) && decide (h.t ≤ 900000000)
theorem rightH_iff (h : HdT) : rightH h = true ↔ (1 ≤ h.r ∧ h.r ≤ 5 ∧ 1 ≤ h.e ∧ h.e ≤ 900000000 ∧ 0 ≤ h.s ∧ h.s ≤ 100000 ∧ 0 ≤ h.t ∧ h.t ≤ 900000000) := by
  unfold rightH
  simp only [Bool.and_eq_true, decide_eq_true_eq]
  omega
def hL (h : HdT) : List ByteArray := [nOf h.r, nOf h.e, nOf h.s, bA h.d, nOf h.t]
/-- A right head's bytes. -/
def headB (h : HdT) : List UInt8 := rowB (fieldsN (hL h))
theorem fault_none (last tag : Int) (n : Nat) (h : last < tag ∧ tag ≤ 255) (hn : n ≤ 65536) : faultOf last tag n = 0 := by
  unfold faultOf
  rw [if_neg (by omega), if_neg (by omega)]
theorem layE_hL (h : HdT) (hd : h.d.length = 32) : layE 0 (fieldsN (hL h)) = 0 := by
  have e : fieldsN (hL h) = [(1, nOf h.r), (2, nOf h.e), (3, nOf h.s), (4, bA h.d), (5, nOf h.t)] := rfl
  have b1 := nOf_size h.r
  have b2 := nOf_size h.e
  have b3 := nOf_size h.s
  have b5 := nOf_size h.t
  have b4 : (bA h.d).size = 32 := by rw [bA_size]; exact hd
  rw [e]
  simp only [layE]
  rw [if_pos (fault_none _ _ _ (by omega) (by omega)), if_pos (fault_none _ _ _ (by omega) (by omega)), if_pos (fault_none _ _ _ (by omega) (by omega)), if_pos (fault_none _ _ _ (by omega) (by omega)), if_pos (fault_none _ _ _ (by omega) (by omega))]
def headOf (x1 x2 x3 x4 x5 : ByteArray) : HdT := ⟨valO x1.data.toList, valO x2.data.toList, valO x3.data.toList, x4.data.toList, valO x5.data.toList⟩
/-- The right head whose bytes these are. -/
def getO (bs : List UInt8) : Option HdT :=
  match partsO bs 5 with
  | some [x1, x2, x3, x4, x5] => if x4.size = 32 ∧ rightH (headOf x1 x2 x3 x4 x5) = true then some (headOf x1 x2 x3 x4 x5) else none
  | _ => none
theorem headOf_hL (h : HdT) (hr : rightH h = true) : headOf (nOf h.r) (nOf h.e) (nOf h.s) (bA h.d) (nOf h.t) = h := by
  have hb := (rightH_iff h).1 hr
  unfold headOf
  rw [valO_nOf h.r (by omega), valO_nOf h.e (by omega), valO_nOf h.s (by omega), valO_nOf h.t (by omega), bA_list]
theorem getO_head (h : HdT) (hr : rightH h = true) (hd : h.d.length = 32) : getO (headB h) = some h := by
  unfold getO headB
  have hp : partsO (rowB (fieldsN (hL h))) 5 = some (hL h) := parts_row (hL h) (layE_hL h hd)
  rw [hp]
  show (if (bA h.d).size = 32 ∧ rightH (headOf (nOf h.r) (nOf h.e) (nOf h.s) (bA h.d) (nOf h.t)) = true then some (headOf (nOf h.r) (nOf h.e) (nOf h.s) (bA h.d) (nOf h.t)) else none) = some h
  rw [headOf_hL h hr, if_pos ⟨by rw [bA_size]; exact hd, hr⟩]
theorem nOf_back (x : ByteArray) (h : 0 ≤ valO x.data.toList) : nOf (valO x.data.toList) = x := by
  have := (nOf_valO _ h).1
  rw [← bA_of (nOf (valO x.data.toList)), this]
  rfl
theorem getO_some {bs : List UInt8} {h : HdT} (hg : getO bs = some h) : rightH h = true ∧ h.d.length = 32 ∧ headB h = bs := by
  unfold getO at hg
  split at hg
  · rename_i x1 x2 x3 x4 x5 hp
    split at hg
    · rename_i hh
      have he : headOf x1 x2 x3 x4 x5 = h := Option.some.inj hg
      obtain ⟨_, hl, hr⟩ := row_parts hp
      have hb := (rightH_iff _).1 hh.2
      have hL5 : hL h = [x1, x2, x3, x4, x5] := by
        rw [← he]
        unfold headOf at hb
        show [nOf (valO x1.data.toList), nOf (valO x2.data.toList), nOf (valO x3.data.toList), bA x4.data.toList, nOf (valO x5.data.toList)] = _
        simp only at hb
        rw [nOf_back x1 (by omega), nOf_back x2 (by omega), nOf_back x3 (by omega), nOf_back x5 (by omega), bA_of]
      refine ⟨by rw [← he]; exact hh.2, ?_, ?_⟩
      · rw [← he]; exact hh.1
      · unfold headB; rw [hL5]; exact hr
    · cases hg
  · cases hg
theorem rowB_length : ∀ (fs : List (Int × ByteArray)), (rowB fs).length = 4 * fs.length + (fs.map fun f => f.2.size).sum
  | [] => rfl
  | f :: r => by
    show (fieldBytesI f.1 f.2.data.toList ++ rowB r).length = _
    rw [List.length_append, rowB_length r, fieldBytesI_length]
    simp only [List.length_cons, List.map_cons, List.sum_cons]
    have : f.2.data.toList.length = f.2.size := rfl
    omega
theorem headB_length (h : HdT) (hd : h.d.length = 32) : (headB h).length ≤ 84 := by
  have b1 := nOf_size h.r
  have b2 := nOf_size h.e
  have b3 := nOf_size h.s
  have b5 := nOf_size h.t
  have b4 : (bA h.d).size = 32 := by rw [bA_size]; exact hd
  unfold headB
  rw [rowB_length]
  show 4 * 5 + ((nOf h.r).size + ((nOf h.e).size + ((nOf h.s).size + ((bA h.d).size + ((nOf h.t).size + 0))))) ≤ 84
  omega
/-! Signed heads. -/
structure SgT where
  h : HdT
  n : Int
  g : List UInt8
/-- May a signed head be? -/
def mayS (s : SgT) : Bool := rightH s.h && decide (1 ≤ s.n) && decide (s.n ≤ 3)
theorem mayS_iff (s : SgT) : mayS s = true ↔ (rightH s.h = true ∧ 1 ≤ s.n ∧ s.n ≤ 3) := by
  unfold mayS
  simp only [Bool.and_eq_true, decide_eq_true_eq]
  constructor
  · rintro ⟨⟨a, b⟩, c⟩; exact ⟨a, b, c⟩
  · rintro ⟨a, b, c⟩; exact ⟨⟨a, b⟩, c⟩
def sL (s : SgT) : List ByteArray := [bA (headB s.h), nOf s.n, bA s.g]
def signB (s : SgT) : List UInt8 := rowB (fieldsN (sL s))
theorem layE_sL (s : SgT) (hd : s.h.d.length = 32) (hg : s.g.length = 32) : layE 0 (fieldsN (sL s)) = 0 := by
  have e : fieldsN (sL s) = [(1, bA (headB s.h)), (2, nOf s.n), (3, bA s.g)] := rfl
  have b1 := headB_length s.h hd
  have b2 := nOf_size s.n
  have b3 : (bA s.g).size = 32 := by rw [bA_size]; exact hg
  have b4 : (bA (headB s.h)).size ≤ 84 := by rw [bA_size]; exact b1
  rw [e]
  simp only [layE]
  rw [if_pos (fault_none _ _ _ (by omega) (by omega)), if_pos (fault_none _ _ _ (by omega) (by omega)), if_pos (fault_none _ _ _ (by omega) (by omega))]
def getS (bs : List UInt8) : Option SgT :=
  match partsO bs 3 with
  | some [x1, x2, x3] =>
    match getO x1.data.toList with
    | some h => if x3.size = 32 ∧ mayS ⟨h, valO x2.data.toList, x3.data.toList⟩ = true then some ⟨h, valO x2.data.toList, x3.data.toList⟩ else none
    | none => none
  | _ => none
theorem getS_sign (s : SgT) (hm : mayS s = true) (hd : s.h.d.length = 32) (hg : s.g.length = 32) : getS (signB s) = some s := by
  obtain ⟨hr, h1, h3⟩ := (mayS_iff s).1 hm
  unfold getS signB
  have hp : partsO (rowB (fieldsN (sL s))) 3 = some (sL s) := parts_row (sL s) (layE_sL s hd hg)
  rw [hp]
  show (match getO (headB s.h) with | some h => if (bA s.g).size = 32 ∧ mayS ⟨h, valO (nOf s.n).data.toList, s.g⟩ = true then some (⟨h, valO (nOf s.n).data.toList, s.g⟩ : SgT) else none | none => none) = some s
  rw [getO_head s.h hr hd, valO_nOf s.n (by omega)]
  show (if (bA s.g).size = 32 ∧ mayS s = true then some s else none) = some s
  rw [if_pos ⟨by rw [bA_size]; exact hg, hm⟩]
theorem getS_some {bs : List UInt8} {s : SgT} (hs : getS bs = some s) : mayS s = true ∧ s.h.d.length = 32 ∧ s.g.length = 32 ∧ signB s = bs := by
  unfold getS at hs
  split at hs
  · rename_i x1 x2 x3 hp
    split at hs
    · rename_i h hg
      split at hs
      · rename_i hh
        have he := Option.some.inj hs
        obtain ⟨_, hl, hr⟩ := row_parts hp
        obtain ⟨g1, g2, g3⟩ := getO_some hg
        obtain ⟨m1, m2, m3⟩ := (mayS_iff _).1 hh.2
        have hL3 : sL s = [x1, x2, x3] := by
          rw [← he]
          show [bA (headB h), nOf (valO x2.data.toList), bA x3.data.toList] = _
          rw [g3, nOf_back x2 (by simp only at m2; omega), bA_of, bA_of]
        refine ⟨by rw [← he]; exact hh.2, by rw [← he]; exact g2, by rw [← he]; exact hh.1, ?_⟩
        unfold signB; rw [hL3]; exact hr
      · cases hs
    · cases hs
  · cases hs
theorem signB_length (s : SgT) (hd : s.h.d.length = 32) (hg : s.g.length = 32) : (signB s).length ≤ 136 := by
  have b1 := headB_length s.h hd
  have b2 := nOf_size s.n
  have b3 : (bA s.g).size = 32 := by rw [bA_size]; exact hg
  have b4 : (bA (headB s.h)).size ≤ 84 := by rw [bA_size]; exact b1
  unfold signB
  rw [rowB_length]
  show 4 * 3 + ((bA (headB s.h)).size + ((nOf s.n).size + ((bA s.g).size + 0))) ≤ 136
  omega
end Go.Proofs.Ytjpmmbmhkpgjcaa
