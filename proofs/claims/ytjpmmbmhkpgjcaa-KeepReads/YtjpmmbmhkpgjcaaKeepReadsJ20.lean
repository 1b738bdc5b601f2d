/- Texts of our own that the row of KeepReads leans on, part 20. -/
import Derived.Test.YtjpmmbmhkpgjcaaKeepReadsJ4
import Derived.Test.YtjpmmbmhkpgjcaaKeepReadsJ18
import Derived.Test.YtjpmmbmhkpgjcaaKeepReadsJ19

/- What the document's Verify and Parts answer. -/
namespace Go.Proofs.Ytjpmmbmhkpgjcaa
open Go.RowKit Sums Nums
set_option linter.unusedVariables false
set_option linter.unusedSimpArgs false
set_option maxRecDepth 100000

end Go.Proofs.Ytjpmmbmhkpgjcaa

/- What the document's Parts answers. -/
namespace Go.Proofs.Ytjpmmbmhkpgjcaa
open Go.RowKit Sums Nums
set_option linter.unusedVariables false
set_option linter.unusedSimpArgs false
set_option maxRecDepth 100000

end Go.Proofs.Ytjpmmbmhkpgjcaa

/- What the document's Get answers. -/
namespace Go.Proofs.Ytjpmmbmhkpgjcaa
open Go.RowKit Sums Nums
set_option linter.unusedVariables false
set_option linter.unusedSimpArgs false
set_option maxRecDepth 100000
def getHO (bs : List UInt8) : HdT := (getO bs).getD zeroH
def getHE (bs : List UInt8) : Int := if (getO bs).isSome then 0 else 70
theorem getHO_digs (bs : List UInt8) : (getHO bs).d.length = 32 := by
  unfold getHO
  cases h : getO bs with
  | none => rfl
  | some x => exact (getO_some h).2.1
end Go.Proofs.Ytjpmmbmhkpgjcaa

/- What the document's GetSigned answers. -/
namespace Go.Proofs.Ytjpmmbmhkpgjcaa
open Go.RowKit Sums Nums
set_option linter.unusedVariables false
set_option linter.unusedSimpArgs false
set_option maxRecDepth 100000
/-- '[]byte(s)': a new row that reads s. -/
theorem wpList_conv_text {P : Program} {ops : Array Oper} {rest : List Oper} {o : Oper} {a : Act} {w : World} {Q : Exit → Act → World → Prop} (hg : o.guard = none) (src dst e : TypeId) (x : Operand) (ho : o.op = .convert src dst x)
    (s : ByteArray) (hx : a.eval x = .string s) (hs : P.underlying src = some .string) (hd : P.underlying dst = some (.slice e)) (he : P.underlying e = some (.int .u8)) (hl : s.size ≤ maxLen)
    (h : ∀ b c w', Hid (Reads w' (some b) s.size c s.data.toList ∧ Below w.heap.size w w') → wpList P ops Q rest (a.put o.dst (.slice (some b) s.size c)) w') : wpList P ops Q (o :: rest) a w := by
  refine wpList_plain hg fun K hK => ?_
  have hr := run_bytes_of_string (P := P) w src dst e s hs hd he
  obtain ⟨c, hc⟩ : ∃ c, grownCap w s.size 0 e = c := ⟨_, rfl⟩
  have h1 : s.size ≤ c := by rw [← hc]; exact grownCap_ge w s.size 0 e
  have h2 : c ≤ maxLen := by rw [← hc]; exact grownCap_le_maxLen w s.size 0 e hl
  rw [hc] at hr
  obtain ⟨C, hC⟩ : ∃ C, bytesRow s c = C := ⟨_, rfl⟩
  rw [hC] at hr
  have hB : Below w.heap.size w (w.drew.alloc (.cells C e (C.size, C.size + 1))) := (Below.refl _ _).drew.alloc (Nat.le_refl _) _
  have hR : Reads (w.drew.alloc (.cells C e (C.size, C.size + 1))) (some ⟨w.heap.size, 0, none⟩) s.size c s.data.toList := by
    refine ⟨Array.length_toList, h1, by unfold maxLen at h2; omega, .inr (.inr ⟨w.heap.size, 0, rfl, ?_, fun i hi => ?_⟩)⟩
    · show w.heap.size < (w.heap.push _).size
      simp
    · have hn : (w.drew.alloc (.cells C e (C.size, C.size + 1))).heap[w.heap.size]? = some (.cells C e (C.size, C.size + 1)) := by
        show (w.heap.push _)[w.heap.size]? = _
        simp
      have hi' : i < s.data.size := by simpa using hi
      simp only [World.cell?, hn, Nat.zero_add]
      rw [← hC]
      unfold bytesRow
      rw [Array.getElem?_append_left (by simpa using hi')]
      simp
      exact ⟨s.data[i], Array.getElem?_eq_getElem hi', rfl⟩
  have hk := hK _ _ (h _ _ _ ⟨hR, hB⟩)
  unfold Oper.wp execOp
  simp only [ho]
  simp [hx, hr]
  exact hk
def getSO (bs : List UInt8) : SgT := (getS bs).getD zeroS
def getSE (bs : List UInt8) : Int := if (getS bs).isSome then 0 else 70
end Go.Proofs.Ytjpmmbmhkpgjcaa

/- Claims, entries and items as bytes, as the document defines them. -/
namespace Go.Proofs.Ytjpmmbmhkpgjcaa
open Nums Sums
set_option linter.unusedVariables false
set_option maxRecDepth 100000
/-! Claims. -/
structure ClT where
  r : Int
  e : Int
  n : Int
  s : Int
  d : List UInt8
def zeroC : ClT := ⟨0, 0, 0, 0, List.replicate 32 0⟩
/-! Are two the same? -/
def eqHB (a b : HdT) : Bool := decide (a.r = b.r) && decide (a.e = b.e) && decide (a.s = b.s) && decide (a.d = b.d) && decide (a.t = b.t)
theorem eqHB_iff (a b : HdT) : eqHB a b = true ↔ a = b := by
  cases a; cases b
  unfold eqHB
  simp only [Bool.and_eq_true, decide_eq_true_eq, HdT.mk.injEq]
  constructor
  · rintro ⟨⟨⟨⟨h1, h2⟩, h3⟩, h4⟩, h5⟩; exact ⟨h1, h2, h3, h4, h5⟩
  · rintro ⟨h1, h2, h3, h4, h5⟩; exact ⟨⟨⟨⟨h1, h2⟩, h3⟩, h4⟩, h5⟩
def eqSB (a b : SgT) : Bool := eqHB a.h b.h && decide (a.n = b.n) && decide (a.g = b.g)
theorem eqSB_iff (a b : SgT) : eqSB a b = true ↔ a = b := by
  cases a; cases b
  unfold eqSB
  simp only [Bool.and_eq_true, decide_eq_true_eq, SgT.mk.injEq, eqHB_iff]
  constructor
  · rintro ⟨⟨h1, h2⟩, h3⟩; exact ⟨h1, h2, h3⟩
  · rintro ⟨h1, h2, h3⟩; exact ⟨⟨h1, h2⟩, h3⟩
def eqCB (a b : ClT) : Bool := decide (a.r = b.r) && decide (a.e = b.e) && decide (a.n = b.n) && decide (a.s = b.s) && decide (a.d = b.d)
theorem eqCB_iff (a b : ClT) : eqCB a b = true ↔ a = b := by
  cases a; cases b
  unfold eqCB
  simp only [Bool.and_eq_true, decide_eq_true_eq, ClT.mk.injEq]
  constructor
  · rintro ⟨⟨⟨⟨h1, h2⟩, h3⟩, h4⟩, h5⟩; exact ⟨h1, h2, h3, h4, h5⟩
  · rintro ⟨h1, h2, h3, h4, h5⟩; exact ⟨⟨⟨⟨h1, h2⟩, h3⟩, h4⟩, h5⟩
/-- Is a claim right? -/
def rightC (c : ClT) : Bool := decide (1 ≤ c.r) && decide (c.r ≤ 5) && decide (1 ≤ c.e) && decide (c.e ≤ 900000000) && decide (1 ≤ c.n) && decide (c.n ≤ 3) && decide (0 ≤ c.s) && decide (c.s ≤ 100000)
theorem rightC_iff (c : ClT) : rightC c = true ↔ (1 ≤ c.r ∧ c.r ≤ 5 ∧ 1 ≤ c.e ∧ c.e ≤ 900000000 ∧ 1 ≤ c.n ∧ c.n ≤ 3 ∧ 0 ≤ c.s ∧ c.s ≤ 100000) := by
  unfold rightC
  simp only [Bool.and_eq_true, decide_eq_true_eq]
  omega
def cL (c : ClT) : List ByteArray := [nOf c.r, nOf c.e, nOf c.n, nOf c.s, bA c.d]
/-- A right claim's bytes. -/
def claimB (c : ClT) : List UInt8 := rowB (fieldsN (cL c))
theorem layE_cL (c : ClT) (hd : c.d.length = 32) : layE 0 (fieldsN (cL c)) = 0 := by
  have e : fieldsN (cL c) = [(1, nOf c.r), (2, nOf c.e), (3, nOf c.n), (4, nOf c.s), (5, bA c.d)] := rfl
  have b1 := nOf_size c.r
  have b2 := nOf_size c.e
  have b3 := nOf_size c.n
  have b4 := nOf_size c.s
  have b5 : (bA c.d).size = 32 := by rw [bA_size]; exact hd
  rw [e]
  simp only [layE]
  rw [if_pos (fault_none _ _ _ (by omega) (by omega)), if_pos (fault_none _ _ _ (by omega) (by omega)), if_pos (fault_none _ _ _ (by omega) (by omega)), if_pos (fault_none _ _ _ (by omega) (by omega)), if_pos (fault_none _ _ _ (by omega) (by omega))]
def claimOf (x1 x2 x3 x4 x5 : ByteArray) : ClT := ⟨valO x1.data.toList, valO x2.data.toList, valO x3.data.toList, valO x4.data.toList, x5.data.toList⟩
/-- The right claim whose bytes these are. -/
def getC (bs : List UInt8) : Option ClT :=
  match partsO bs 5 with
  | some [x1, x2, x3, x4, x5] => if x5.size = 32 ∧ rightC (claimOf x1 x2 x3 x4 x5) = true then some (claimOf x1 x2 x3 x4 x5) else none
  | _ => none
theorem claimOf_cL (c : ClT) (hr : rightC c = true) : claimOf (nOf c.r) (nOf c.e) (nOf c.n) (nOf c.s) (bA c.d) = c := by
  have hb := (rightC_iff c).1 hr
  unfold claimOf
  rw [valO_nOf c.r (by omega), valO_nOf c.e (by omega), valO_nOf c.n (by omega), valO_nOf c.s (by omega), bA_list]
theorem getC_claim (c : ClT) (hr : rightC c = true) (hd : c.d.length = 32) : getC (claimB c) = some c := by
  unfold getC claimB
  have hp : partsO (rowB (fieldsN (cL c))) 5 = some (cL c) := parts_row (cL c) (layE_cL c hd)
  rw [hp]
  show (if (bA c.d).size = 32 ∧ rightC (claimOf (nOf c.r) (nOf c.e) (nOf c.n) (nOf c.s) (bA c.d)) = true then some (claimOf (nOf c.r) (nOf c.e) (nOf c.n) (nOf c.s) (bA c.d)) else none) = some c
  rw [claimOf_cL c hr, if_pos ⟨by rw [bA_size]; exact hd, hr⟩]
theorem getC_some {bs : List UInt8} {c : ClT} (hg : getC bs = some c) : rightC c = true ∧ c.d.length = 32 ∧ claimB c = bs := by
  unfold getC at hg
  split at hg
  · rename_i x1 x2 x3 x4 x5 hp
    split at hg
    · rename_i hh
      have he : claimOf x1 x2 x3 x4 x5 = c := Option.some.inj hg
      obtain ⟨_, hl, hr⟩ := row_parts hp
      have hb := (rightC_iff _).1 hh.2
      have hL5 : cL c = [x1, x2, x3, x4, x5] := by
        rw [← he]
        unfold claimOf at hb
        show [nOf (valO x1.data.toList), nOf (valO x2.data.toList), nOf (valO x3.data.toList), nOf (valO x4.data.toList), bA x5.data.toList] = _
        simp only at hb
        rw [nOf_back x1 (by omega), nOf_back x2 (by omega), nOf_back x3 (by omega), nOf_back x4 (by omega), bA_of]
      refine ⟨by rw [← he]; exact hh.2, ?_, ?_⟩
      · rw [← he]; exact hh.1
      · unfold claimB; rw [hL5]; exact hr
    · cases hg
  · cases hg
theorem claimB_length (c : ClT) (hd : c.d.length = 32) : (claimB c).length ≤ 84 := by
  have b1 := nOf_size c.r
  have b2 := nOf_size c.e
  have b3 := nOf_size c.n
  have b4 := nOf_size c.s
  have b5 : (bA c.d).size = 32 := by rw [bA_size]; exact hd
  unfold claimB
  rw [rowB_length]
  show 4 * 5 + ((nOf c.r).size + ((nOf c.e).size + ((nOf c.n).size + ((nOf c.s).size + ((bA c.d).size + 0))))) ≤ 84
  omega
def getCO (bs : List UInt8) : ClT := (getC bs).getD zeroC
def getCE (bs : List UInt8) : Int := if (getC bs).isSome then 0 else 60
/-! Entries. -/
structure EnT where
  k : Int
  c : Int
  s : Int
  t : ByteArray
  h : SgT
  m : ClT
def zeroE : EnT := ⟨0, 0, 0, ByteArray.empty, zeroS, zeroC⟩
theorem byte_ext {a b : ByteArray} (h : a.data.toList = b.data.toList) : a = b := by
  rw [← bA_of a, ← bA_of b, h]
theorem enT_ext {a b : EnT} (h : a.k = b.k ∧ a.c = b.c ∧ a.s = b.s ∧ a.t.data.toList = b.t.data.toList ∧ a.h = b.h ∧ a.m = b.m) : a = b := by
  obtain ⟨h1, h2, h3, h4, h5, h6⟩ := h
  cases a; cases b
  simp only at h1 h2 h3 h4 h5 h6
  rw [h1, h2, h3, byte_ext h4, h5, h6]
def eqEB (a b : EnT) : Bool := decide (a.k = b.k) && decide (a.c = b.c) && decide (a.s = b.s) && decide (a.t.data.toList = b.t.data.toList) && eqSB a.h b.h && eqCB a.m b.m
theorem eqEB_iff (a b : EnT) : eqEB a b = true ↔ a = b := by
  unfold eqEB
  simp only [Bool.and_eq_true, decide_eq_true_eq, eqSB_iff, eqCB_iff]
  constructor
  · rintro ⟨⟨⟨⟨⟨h1, h2⟩, h3⟩, h4⟩, h5⟩, h6⟩; exact enT_ext ⟨h1, h2, h3, h4, h5, h6⟩
  · intro h; rw [h]; exact ⟨⟨⟨⟨⟨rfl, rfl⟩, rfl⟩, rfl⟩, rfl⟩, rfl⟩
theorem empty_of {t : ByteArray} (h : t.size = 0) : t = ByteArray.empty := by
  apply byte_ext
  have : t.data.toList.length = 0 := h
  rw [List.eq_nil_of_length_eq_zero this]
  rfl
/-- Is an entry right? -/
def rightE (x : EnT) : Bool :=
  if x.k = 1 then decide (1 ≤ x.c ∧ x.c ≤ 3 ∧ 1 ≤ x.s ∧ x.s ≤ 1000000 ∧ x.t.size ≤ 200) && eqSB x.h zeroS && eqCB x.m zeroC
  else if x.k = 2 then decide (x.c = 0 ∧ x.s = 0 ∧ x.t.size = 0) && mayS x.h && eqCB x.m zeroC
  else if x.k = 3 then decide (x.c = 0 ∧ x.s = 0 ∧ x.t.size = 0) && eqSB x.h zeroS && rightC x.m
  else false
/-- The digests in it have 32 bytes. -/
structure OkE (x : EnT) : Prop where
  h : x.h.h.d.length = 32
  g : x.h.g.length = 32
  m : x.m.d.length = 32
def fieldsE (x : EnT) : List (Int × ByteArray) :=
  (1, nOf x.k) :: (if x.k = 1 then [(2, nOf x.c), (3, nOf x.s), (4, x.t)] else if x.k = 2 then [(5, bA (signB x.h))] else if x.k = 3 then [(6, bA (claimB x.m))] else [])
/-- A right entry's bytes. -/
def entryB (x : EnT) : List UInt8 := rowB (fieldsE x)
theorem right_kinds {x : EnT} (h : rightE x = true) :
    (x.k = 1 ∧ 1 ≤ x.c ∧ x.c ≤ 3 ∧ 1 ≤ x.s ∧ x.s ≤ 1000000 ∧ x.t.size ≤ 200 ∧ x.h = zeroS ∧ x.m = zeroC) ∨ (x.k = 2 ∧ x.c = 0 ∧ x.s = 0 ∧ x.t.size = 0 ∧ mayS x.h = true ∧ x.m = zeroC) ∨ (x.k = 3 ∧ x.c = 0 ∧ x.s = 0 ∧ x.t.size = 0 ∧ x.h = zeroS ∧ rightC x.m = true) := by
  unfold rightE at h
  by_cases h1 : x.k = 1
  · rw [if_pos h1] at h
    simp only [Bool.and_eq_true, decide_eq_true_eq, eqSB_iff, eqCB_iff] at h
    exact .inl ⟨h1, h.1.1.1, h.1.1.2.1, h.1.1.2.2.1, h.1.1.2.2.2.1, h.1.1.2.2.2.2, h.1.2, h.2⟩
  · rw [if_neg h1] at h
    by_cases h2 : x.k = 2
    · rw [if_pos h2] at h
      simp only [Bool.and_eq_true, decide_eq_true_eq, eqCB_iff] at h
      exact .inr (.inl ⟨h2, h.1.1.1, h.1.1.2.1, h.1.1.2.2, h.1.2, h.2⟩)
    · rw [if_neg h2] at h
      by_cases h3 : x.k = 3
      · rw [if_pos h3] at h
        simp only [Bool.and_eq_true, decide_eq_true_eq, eqSB_iff] at h
        exact .inr (.inr ⟨h3, h.1.1.1, h.1.1.2.1, h.1.1.2.2, h.1.2, h.2⟩)
      · rw [if_neg h3] at h
        cases h
theorem fields_user {x : EnT} (h : x.k = 1) : fieldsE x = [(1, nOf 1), (2, nOf x.c), (3, nOf x.s), (4, x.t)] := by unfold fieldsE; rw [if_pos h, h]
theorem fields_anchor {x : EnT} (h : x.k = 2) : fieldsE x = [(1, nOf 2), (5, bA (signB x.h))] := by unfold fieldsE; rw [if_neg (by omega), if_pos h, h]
theorem fields_claim {x : EnT} (h : x.k = 3) : fieldsE x = [(1, nOf 3), (6, bA (claimB x.m))] := by unfold fieldsE; rw [if_neg (by omega), if_neg (by omega), if_pos h, h]
theorem layE_entry {x : EnT} (h : rightE x = true) (ok : OkE x) : layE 0 (fieldsE x) = 0 := by
  rcases right_kinds h with ⟨hk, h1⟩ | ⟨hk, h1⟩ | ⟨hk, h1⟩
  · have b1 := nOf_size 1
    have b2 := nOf_size x.c
    have b3 := nOf_size x.s
    rw [fields_user hk]
    simp only [layE]
    rw [if_pos (fault_none _ _ _ (by omega) (by omega)), if_pos (fault_none _ _ _ (by omega) (by omega)), if_pos (fault_none _ _ _ (by omega) (by omega)), if_pos (fault_none _ _ _ (by omega) (by omega))]
  · have b1 := nOf_size 2
    have b2 : (bA (signB x.h)).size ≤ 136 := by rw [bA_size]; exact signB_length x.h ok.h ok.g
    rw [fields_anchor hk]
    simp only [layE]
    rw [if_pos (fault_none _ _ _ (by omega) (by omega)), if_pos (fault_none _ _ _ (by omega) (by omega))]
  · have b1 := nOf_size 3
    have b2 : (bA (claimB x.m)).size ≤ 84 := by rw [bA_size]; exact claimB_length x.m ok.m
    rw [fields_claim hk]
    simp only [layE]
    rw [if_pos (fault_none _ _ _ (by omega) (by omega)), if_pos (fault_none _ _ _ (by omega) (by omega))]
theorem entryB_length {x : EnT} (h : rightE x = true) (ok : OkE x) : (entryB x).length ≤ 240 := by
  unfold entryB
  rw [rowB_length]
  rcases right_kinds h with ⟨hk, h1⟩ | ⟨hk, h1⟩ | ⟨hk, h1⟩
  · have b1 := nOf_size 1
    have b2 := nOf_size x.c
    have b3 := nOf_size x.s
    rw [fields_user hk]
    show 4 * 4 + ((nOf 1).size + ((nOf x.c).size + ((nOf x.s).size + (x.t.size + 0)))) ≤ 240
    omega
  · have b1 := nOf_size 2
    have b2 : (bA (signB x.h)).size ≤ 136 := by rw [bA_size]; exact signB_length x.h ok.h ok.g
    rw [fields_anchor hk]
    show 4 * 2 + ((nOf 2).size + ((bA (signB x.h)).size + 0)) ≤ 240
    omega
  · have b1 := nOf_size 3
    have b2 : (bA (claimB x.m)).size ≤ 84 := by rw [bA_size]; exact claimB_length x.m ok.m
    rw [fields_claim hk]
    show 4 * 2 + ((nOf 3).size + ((bA (claimB x.m)).size + 0)) ≤ 240
    omega
/-- What one field says of the entry. -/
def stepE (x : EnT) (f : Int × ByteArray) : EnT :=
  if f.1 = 1 then { x with k := valO f.2.data.toList }
  else if f.1 = 2 then { x with c := valO f.2.data.toList }
  else if f.1 = 3 then { x with s := valO f.2.data.toList }
  else if f.1 = 4 then { x with t := f.2 }
  else if f.1 = 5 then { x with h := getSO f.2.data.toList }
  else if f.1 = 6 then { x with m := getCO f.2.data.toList }
  else x
def guessE (fs : List (Int × ByteArray)) : EnT := fs.foldl stepE zeroE
theorem guess_fields {x : EnT} (h : rightE x = true) (ok : OkE x) : guessE (fieldsE x) = x := by
  rcases right_kinds h with ⟨hk, c1, c2, s1, s2, ht, hh, hm⟩ | ⟨hk, hc, hs, ht, hh, hm⟩ | ⟨hk, hc, hs, ht, hh, hm⟩
  · rw [fields_user hk]
    show (⟨valO (nOf 1).data.toList, valO (nOf x.c).data.toList, valO (nOf x.s).data.toList, x.t, zeroS, zeroC⟩ : EnT) = x
    rw [valO_nOf 1 (by omega), valO_nOf x.c (by omega), valO_nOf x.s (by omega)]
    exact enT_ext ⟨hk.symm, rfl, rfl, rfl, hh.symm, hm.symm⟩
  · rw [fields_anchor hk]
    show (⟨valO (nOf 2).data.toList, 0, 0, ByteArray.empty, getSO (signB x.h), zeroC⟩ : EnT) = x
    have e : getSO (signB x.h) = x.h := by unfold getSO; rw [getS_sign x.h hh ok.h ok.g]; rfl
    rw [valO_nOf 2 (by omega), e]
    exact enT_ext ⟨hk.symm, hc.symm, hs.symm, by rw [empty_of ht], rfl, hm.symm⟩
  · rw [fields_claim hk]
    show (⟨valO (nOf 3).data.toList, 0, 0, ByteArray.empty, zeroS, getCO (claimB x.m)⟩ : EnT) = x
    have e : getCO (claimB x.m) = x.m := by unfold getCO; rw [getC_claim x.m hm ok.m]; rfl
    rw [valO_nOf 3 (by omega), e]
    exact enT_ext ⟨hk.symm, hc.symm, hs.symm, by rw [empty_of ht], hh.symm, rfl⟩
/-- The right entry whose bytes these are. -/
def getE (bs : List UInt8) : Option EnT := if readE bs = 0 ∧ rightE (guessE (readF bs)) = true ∧ entryB (guessE (readF bs)) = bs then some (guessE (readF bs)) else none
theorem getE_entry {x : EnT} (h : rightE x = true) (ok : OkE x) : getE (entryB x) = some x := by
  obtain ⟨h1, h2⟩ := read_row (layE_entry h ok)
  have e : guessE (readF (entryB x)) = x := by
    show guessE (readF (rowB (fieldsE x))) = x
    rw [h2]; exact guess_fields h ok
  unfold getE
  rw [e, if_pos ⟨h1, h, rfl⟩]
theorem getSO_ok (bs : List UInt8) : (getSO bs).h.d.length = 32 ∧ (getSO bs).g.length = 32 := by
  unfold getSO
  cases h : Go.Proofs.Ytjpmmbmhkpgjcaa.getS bs with
  | none => exact ⟨rfl, rfl⟩
  | some x => exact ⟨(getS_some h).2.1, (getS_some h).2.2.1⟩
theorem getCO_ok (bs : List UInt8) : (getCO bs).d.length = 32 := by
  unfold getCO
  cases h : getC bs with
  | none => rfl
  | some x => exact (getC_some h).2.1
theorem stepE_ok {x : EnT} (ok : OkE x) (f : Int × ByteArray) : OkE (stepE x f) := by
  unfold stepE
  by_cases h1 : f.1 = 1
  · rw [if_pos h1]; exact ⟨ok.h, ok.g, ok.m⟩
  rw [if_neg h1]
  by_cases h2 : f.1 = 2
  · rw [if_pos h2]; exact ⟨ok.h, ok.g, ok.m⟩
  rw [if_neg h2]
  by_cases h3 : f.1 = 3
  · rw [if_pos h3]; exact ⟨ok.h, ok.g, ok.m⟩
  rw [if_neg h3]
  by_cases h4 : f.1 = 4
  · rw [if_pos h4]; exact ⟨ok.h, ok.g, ok.m⟩
  rw [if_neg h4]
  by_cases h5 : f.1 = 5
  · rw [if_pos h5]; exact ⟨(getSO_ok _).1, (getSO_ok _).2, ok.m⟩
  rw [if_neg h5]
  by_cases h6 : f.1 = 6
  · rw [if_pos h6]; exact ⟨ok.h, ok.g, getCO_ok _⟩
  rw [if_neg h6]; exact ok
theorem zeroE_ok : OkE zeroE := ⟨rfl, rfl, rfl⟩
theorem foldE_ok : ∀ (fs : List (Int × ByteArray)) (x : EnT), OkE x → OkE (fs.foldl stepE x)
  | [], _, ok => ok
  | f :: r, x, ok => foldE_ok r (stepE x f) (stepE_ok ok f)
theorem guessE_ok (fs : List (Int × ByteArray)) : OkE (guessE fs) := foldE_ok fs zeroE zeroE_ok
theorem getE_some {bs : List UInt8} {x : EnT} (h : getE bs = some x) : rightE x = true ∧ OkE x ∧ entryB x = bs := by
  unfold getE at h
  split at h
  · rename_i hh
    have e := Option.some.inj h
    rw [← e]
    exact ⟨hh.2.1, guessE_ok _, hh.2.2⟩
  · cases h
def getEO (bs : List UInt8) : EnT := (getE bs).getD zeroE
def getEE (bs : List UInt8) : Int := if (getE bs).isSome then 0 else 60
/-! Items. -/
structure ItT where
  p : Int
  e : EnT
def zeroI : ItT := ⟨0, zeroE⟩
def rightI (x : ItT) : Bool := decide (1 ≤ x.p) && decide (x.p ≤ 900000000) && rightE x.e
theorem rightI_iff (x : ItT) : rightI x = true ↔ (1 ≤ x.p ∧ x.p ≤ 900000000 ∧ rightE x.e = true) := by
  unfold rightI
  simp only [Bool.and_eq_true, decide_eq_true_eq]
  constructor
  · rintro ⟨⟨a, b⟩, c⟩; exact ⟨a, b, c⟩
  · rintro ⟨a, b, c⟩; exact ⟨⟨a, b⟩, c⟩
def iL (x : ItT) : List ByteArray := [nOf x.p, bA (entryB x.e)]
def itemB (x : ItT) : List UInt8 := rowB (fieldsN (iL x))
theorem layE_iL {x : ItT} (h : rightI x = true) (ok : OkE x.e) : layE 0 (fieldsN (iL x)) = 0 := by
  have e : fieldsN (iL x) = [(1, nOf x.p), (2, bA (entryB x.e))] := rfl
  have b1 := nOf_size x.p
  have b2 : (bA (entryB x.e)).size ≤ 240 := by rw [bA_size]; exact entryB_length ((rightI_iff x).1 h).2.2 ok
  rw [e]
  simp only [layE]
  rw [if_pos (fault_none _ _ _ (by omega) (by omega)), if_pos (fault_none _ _ _ (by omega) (by omega))]
theorem itemB_length {x : ItT} (h : rightI x = true) (ok : OkE x.e) : (itemB x).length ≤ 256 := by
  have b1 := nOf_size x.p
  have b2 : (bA (entryB x.e)).size ≤ 240 := by rw [bA_size]; exact entryB_length ((rightI_iff x).1 h).2.2 ok
  unfold itemB
  rw [rowB_length]
  show 4 * 2 + ((nOf x.p).size + ((bA (entryB x.e)).size + 0)) ≤ 256
  omega
/-- The right item whose bytes these are. -/
def getI (bs : List UInt8) : Option ItT :=
  match partsO bs 2 with
  | some [x1, x2] =>
    match getE x2.data.toList with
    | some e => if rightI ⟨valO x1.data.toList, e⟩ = true then some ⟨valO x1.data.toList, e⟩ else none
    | none => none
  | _ => none
theorem getI_item {x : ItT} (h : rightI x = true) (ok : OkE x.e) : getI (itemB x) = some x := by
  obtain ⟨h1, h2, h3⟩ := (rightI_iff x).1 h
  unfold getI itemB
  have hp : partsO (rowB (fieldsN (iL x))) 2 = some (iL x) := parts_row (iL x) (layE_iL h ok)
  rw [hp]
  show (match getE (entryB x.e) with | some e => if rightI ⟨valO (nOf x.p).data.toList, e⟩ = true then some (⟨valO (nOf x.p).data.toList, e⟩ : ItT) else none | none => none) = some x
  rw [getE_entry h3 ok, valO_nOf x.p (by omega)]
  show (if rightI x = true then some x else none) = some x
  rw [if_pos h]
theorem getI_some {bs : List UInt8} {x : ItT} (hs : getI bs = some x) : rightI x = true ∧ OkE x.e ∧ itemB x = bs := by
  unfold getI at hs
  split at hs
  · rename_i x1 x2 hp
    split at hs
    · rename_i e hg
      split at hs
      · rename_i hh
        have he := Option.some.inj hs
        obtain ⟨_, hl, hr⟩ := row_parts hp
        obtain ⟨g1, g2, g3⟩ := getE_some hg
        obtain ⟨m1, m2, m3⟩ := (rightI_iff _).1 hh
        have hL2 : iL x = [x1, x2] := by
          rw [← he]
          show [nOf (valO x1.data.toList), bA (entryB e)] = _
          rw [g3, nOf_back x1 (by simp only at m1; omega), bA_of]
        refine ⟨by rw [← he]; exact hh, by rw [← he]; exact g2, ?_⟩
        unfold itemB; rw [hL2]; exact hr
      · cases hs
    · cases hs
  · cases hs
def getIO (bs : List UInt8) : ItT := (getI bs).getD zeroI
def getIE (bs : List UInt8) : Int := if (getI bs).isSome then 0 else 60
end Go.Proofs.Ytjpmmbmhkpgjcaa

/- A region's log as the document defines it (chapter 11). -/
namespace Go.Proofs.Ytjpmmbmhkpgjcaa
open Nums Sums
set_option linter.unusedVariables false
set_option maxRecDepth 100000
/-- Is a log right at a place? -/
def okAt (l : List ItT) (i : Nat) : Bool :=
  match l[i]? with
  | none => true
  | some x => rightI x && (decide (i = 0) || (match l[i - 1]? with | none => true | some y => decide (y.p ≤ x.p)))
def rightK (l : List ItT) (k : Nat) : Bool := (List.range k).all (okAt l)
/-- Is a log right? -/
def rightL (l : List ItT) : Bool := decide (l.length ≤ 2000) && rightK l l.length
theorem rightK_succ (l : List ItT) (k : Nat) : rightK l (k + 1) = (rightK l k && okAt l k) := by
  unfold rightK
  rw [List.range_succ, List.all_append]
  simp
theorem rightK_iff (l : List ItT) (k : Nat) : rightK l k = true ↔ ∀ i, i < k → okAt l i = true := by
  unfold rightK
  rw [List.all_eq_true]
  constructor
  · intro h i hi; exact h i (List.mem_range.2 hi)
  · intro h i hi; exact h i (List.mem_range.1 hi)
theorem okAt_iff {l : List ItT} {i : Nat} {x : ItT} (h : l[i]? = some x) : okAt l i = true ↔ rightI x = true ∧ (i ≠ 0 → ∀ y, l[i - 1]? = some y → y.p ≤ x.p) := by
  unfold okAt
  rw [h]
  simp only [Bool.and_eq_true, Bool.or_eq_true, decide_eq_true_eq]
  constructor
  · rintro ⟨h1, h2⟩
    refine ⟨h1, fun h0 y hy => ?_⟩
    rcases h2 with h2 | h2
    · exact absurd h2 h0
    · rw [hy] at h2; simpa using h2
  · rintro ⟨h1, h2⟩
    refine ⟨h1, ?_⟩
    by_cases h0 : i = 0
    · exact .inl h0
    · right
      cases hy : l[i - 1]? with
      | none => rfl
      | some y => simpa using h2 h0 y hy
theorem rightL_iff (l : List ItT) : rightL l = true ↔ l.length ≤ 2000 ∧ ∀ i, i < l.length → okAt l i = true := by
  unfold rightL
  rw [Bool.and_eq_true, decide_eq_true_eq, rightK_iff]
theorem right_item {l : List ItT} (h : rightL l = true) {x : ItT} (hx : x ∈ l) : rightI x = true := by
  obtain ⟨i, hi, rfl⟩ := List.getElem_of_mem hx
  exact ((okAt_iff (List.getElem?_eq_getElem hi)).1 ((rightL_iff l).1 h |>.2 i hi)).1
/-- A user's entry of a client. -/
def isU (x : ItT) (c : Int) : Bool := decide (x.e.k = 1) && decide (x.e.c = c)
def isO (x : ItT) (c s : Int) : Bool := isU x c && decide (s ≤ x.e.s)
def oldL (l : List ItT) (c s : Int) : Bool := l.any fun x => isO x c s
/-- Is an Epoch below the last item's? -/
def lowB (l : List ItT) (p : Int) : Bool := match l.getLast? with | none => false | some y => decide (p < y.p)
def mayE (l : List ItT) (x : ItT) : Int :=
  if rightL l = false ∨ rightI x = false then 100 else if lowB l x.p = true then 102 else if l.length = 2000 then 2 else
  if x.e.k = 1 ∧ oldL l x.e.c x.e.s = true then 101 else 0
end Go.Proofs.Ytjpmmbmhkpgjcaa

/- A log that grew by items that May lets in; the first items of a log; the iterators' lists (chapter 11). -/
namespace Go.Proofs.Ytjpmmbmhkpgjcaa
open Nums Sums
set_option linter.unusedVariables false
set_option maxRecDepth 100000
/-! What Check goes by. -/
def lastE (l : List ItT) (k : Nat) : Int := if k = 0 then 0 else match l[k - 1]? with | none => 0 | some y => y.p
theorem okAt_last {l : List ItT} {k : Nat} {x : ItT} (h : l[k]? = some x) : okAt l k = (rightI x && decide (lastE l k ≤ x.p)) := by
  have hk : k < l.length := (List.getElem?_eq_some_iff.1 h).1
  unfold okAt lastE
  rw [h]
  by_cases h0 : k = 0
  · subst h0
    simp only [decide_true, Bool.true_or, Bool.and_true, if_true]
    cases hr : rightI x
    · rfl
    · have := ((rightI_iff x).1 hr).1
      rw [decide_eq_true (show (0 : Int) ≤ x.p by omega)]
      rfl
  · rw [if_neg h0, List.getElem?_eq_getElem (show k - 1 < l.length by omega)]
    simp [h0]
theorem lastE_succ {l : List ItT} {k : Nat} {x : ItT} (h : l[k]? = some x) : lastE l (k + 1) = x.p := by
  unfold lastE
  rw [if_neg (by omega), Nat.add_sub_cancel, h]
/-! A client's entries, in their order. -/
structure Ur where
  i : Nat
  e : EnT
  ok : OkE e
def entsF (l : List ItT) (hok : ∀ x ∈ l, OkE x.e) (c : Int) (k : Nat) : List Ur := (List.range' k (l.length - k)).filterMap fun j => if h : j < l.length then (if isU l[j] c then some ⟨j, l[j].e, hok _ (List.getElem_mem h)⟩ else none) else none
theorem entsF_end (l : List ItT) (hok : ∀ x ∈ l, OkE x.e) (c : Int) (k : Nat) (hk : l.length ≤ k) : entsF l hok c k = [] := by
  unfold entsF
  rw [Nat.sub_eq_zero_of_le hk]
  rfl
theorem entsF_next (l : List ItT) (hok : ∀ x ∈ l, OkE x.e) (c : Int) (k : Nat) (hk : k < l.length) : entsF l hok c k = (if isU l[k] c then [⟨k, l[k].e, hok _ (List.getElem_mem hk)⟩] else []) ++ entsF l hok c (k + 1) := by
  unfold entsF
  rw [show l.length - k = (l.length - (k + 1)) + 1 by omega, List.range'_succ, List.filterMap_cons]
  simp only [dif_pos hk]
  cases isU l[k] c <;> rfl
theorem entsF_mem {l : List ItT} {hok : ∀ x ∈ l, OkE x.e} {c : Int} {k : Nat} {y : Ur} (h : y ∈ entsF l hok c k) : ∃ hi : y.i < l.length, k ≤ y.i ∧ isU l[y.i] c = true ∧ y.e = l[y.i].e := by
  unfold entsF at h
  rw [List.mem_filterMap] at h
  obtain ⟨j, hj, e⟩ := h
  rw [List.mem_range'_1] at hj
  by_cases hl : j < l.length
  · rw [dif_pos hl] at e
    by_cases hu : isU l[j] c = true
    · rw [if_pos hu] at e
      cases e
      exact ⟨hl, hj.1, hu, rfl⟩
    · rw [if_neg hu] at e; cases e
  · rw [dif_neg hl] at e; cases e
theorem mem_entsF {l : List ItT} (hok : ∀ x ∈ l, OkE x.e) {c : Int} {j : Nat} (hj : j < l.length) (hu : isU l[j] c = true) : (⟨j, l[j].e, hok _ (List.getElem_mem hj)⟩ : Ur) ∈ entsF l hok c 0 := by
  unfold entsF
  rw [List.mem_filterMap]
  refine ⟨j, by rw [List.mem_range'_1]; omega, ?_⟩
  rw [dif_pos hj, if_pos hu]
theorem old_any {l : List ItT} (hok : ∀ x ∈ l, OkE x.e) {c s : Int} : oldL l c s = (entsF l hok c 0).any fun y => decide (s ≤ y.e.s) := by
  rw [Bool.eq_iff_iff, List.any_eq_true]
  unfold oldL
  rw [List.any_eq_true]
  constructor
  · rintro ⟨x, hx, h⟩
    obtain ⟨j, hj, rfl⟩ := List.getElem_of_mem hx
    unfold isO at h
    rw [Bool.and_eq_true] at h
    exact ⟨_, mem_entsF hok hj h.1, h.2⟩
  · rintro ⟨y, hy, h⟩
    obtain ⟨hi, _, hu, he⟩ := entsF_mem hy
    refine ⟨l[y.i], List.getElem_mem hi, ?_⟩
    unfold isO
    rw [hu, ← he]
    exact h
end Go.Proofs.Ytjpmmbmhkpgjcaa

/- Claims and addresses as the document defines them (chapter 12). -/
namespace Go.Proofs.Ytjpmmbmhkpgjcaa
open Nums Sums
set_option linter.unusedVariables false
set_option maxRecDepth 100000
/-- An address. -/
structure AdT where
  r : Int
  n : Int
theorem AdT.ext' {a b : AdT} (h1 : a.r = b.r) (h2 : a.n = b.n) : a = b := by cases a; cases b; simp_all
end Go.Proofs.Ytjpmmbmhkpgjcaa

/- Claims that are right, found and recorded (chapter 12). -/
namespace Go.Proofs.Ytjpmmbmhkpgjcaa
open Nums Sums
set_option linter.unusedVariables false
set_option maxRecDepth 100000
def aheadC (a b : ClT) : Bool := decide (a.r < b.r ∨ (a.r = b.r ∧ a.e < b.e))
/-- Are claims right at a place? -/
def okC (l : List ClT) (i : Nat) : Bool :=
  match l[i]? with
  | none => true
  | some x => rightC x && (decide (i = 0) || (match l[i - 1]? with | none => true | some y => aheadC y x))
def rightCK (l : List ClT) (k : Nat) : Bool := (List.range k).all (okC l)
def rightCs (l : List ClT) : Bool := rightCK l l.length
def isC (x : ClT) (r e : Int) : Bool := decide (x.r = r) && decide (x.e = e)
def findC (l : List ClT) (r e : Int) : Option ClT := l.find? fun x => isC x r e
def insC (c : ClT) : List ClT → List ClT
  | [] => [c]
  | x :: t => if aheadC c x = true then c :: x :: t else x :: insC c t
/-- P12.2. -/
def recE (l : List ClT) (c : ClT) : Int :=
  if rightCs l = false ∨ rightC c = false then 110 else match findC l c.r c.e with
  | none => 0
  | some x => if eqCB x c = true then 0 else 111
def recL (l : List ClT) (c : ClT) : List ClT := if recE l c = 0 then (if (findC l c.r c.e).isSome then l else insC c l) else []
end Go.Proofs.Ytjpmmbmhkpgjcaa

/- What is kept, and records (chapter 15), as lists. -/
namespace Go.Proofs.Ytjpmmbmhkpgjcaa
open Nums Sums
set_option linter.unusedVariables false
set_option maxRecDepth 100000
structure KeT where
  e : Int
  g : Int
  l : List ItT
  k : List ClT
def zeroKe : KeT := ⟨0, 0, [], []⟩
/-- Is an item the one that names a log's leader? -/
def isLd (g : Int) (x : ItT) : Bool := decide (x.p = g) && decide (x.e.k = 3) && decide (x.e.m.e = g)
def leadL (g : Int) (l : List ItT) : Int := if g = 1 then 1 else ((l.find? (isLd g)).map fun x => x.e.m.n).getD 0
def rightKe (t : KeT) : Bool :=
  decide (1 ≤ t.e) && decide (t.e ≤ 900000000) && decide (1 ≤ t.g) && decide (t.g ≤ t.e) && rightL t.l && rightCs t.k && !lowB t.l t.g && decide (0 < leadL t.g t.l)
structure ReT where
  k : Int
  e : Int
  f : Int
  x : ItT
  l : List ItT
  c : ClT
def zeroR : ReT := ⟨0, 0, 0, zeroI, [], zeroC⟩
def eqIB (a b : ItT) : Bool := decide (a.p = b.p) && eqEB a.e b.e
theorem eqIB_iff (a b : ItT) : eqIB a b = true ↔ a = b := by
  unfold eqIB
  rw [Bool.and_eq_true, decide_eq_true_eq, eqEB_iff]
  cases a; cases b; simp
def mayR (r : ReT) : Bool :=
  if r.k = 1 then decide (1 ≤ r.e) && decide (r.e ≤ 900000000) && decide (r.f = 0) && (eqIB r.x zeroI && eqCB r.c zeroC) && decide (r.l.length = 0)
  else if r.k = 2 then decide (r.e = 0) && decide (r.f = 0) && rightI r.x && decide (r.l.length = 0) && eqCB r.c zeroC
  else if r.k = 3 then decide (1 ≤ r.e) && decide (r.e ≤ 900000000) && (decide (0 ≤ r.f) && decide (r.f ≤ 2000)) && (eqIB r.x zeroI && eqCB r.c zeroC) && rightL r.l
  else if r.k = 4 then decide (r.e = 0) && decide (r.f = 0) && eqIB r.x zeroI && decide (r.l.length = 0) && rightC r.c
  else false
/-- What a record makes, ahead of the last look. -/
def kpX (t : KeT) (r : ReT) : KeT :=
  if r.k = 1 then { t with e := r.e }
  else if r.k = 2 then { t with l := t.l ++ [r.x] }
  else if r.k = 3 then { t with e := r.e, g := r.e, l := t.l.take r.f.toNat ++ r.l }
  else { t with k := recL t.k r.c }
/-- What refuses a record. -/
def kpW (t : KeT) (r : ReT) : Int :=
  if r.k = 1 then (if r.e < t.e then 140 else 0)
  else if r.k = 2 then (if r.x.p ≠ t.g ∨ mayE t.l r.x ≠ 0 then 140 else 0)
  else if r.k = 3 then (if r.e < t.e then 140 else if (t.l.length : Int) < r.f then 141 else 0)
  else (if recE t.k r.c ≠ 0 then 140 else 0)
def kpE (t : KeT) (r : ReT) : Int :=
  if rightKe t = false then 1 else if mayR r = false then 140 else if kpW t r ≠ 0 then kpW t r else if rightKe (kpX t r) = false then 140 else 0
def kpO (t : KeT) (r : ReT) : KeT := if kpE t r = 0 then kpX t r else zeroKe
theorem kpE_ok {t : KeT} {r : ReT} (h : kpE t r = 0) : rightKe t = true ∧ mayR r = true ∧ kpW t r = 0 ∧ rightKe (kpX t r) = true ∧ kpO t r = kpX t r := by
  have h0 : kpO t r = kpX t r := by unfold kpO; rw [if_pos h]
  unfold kpE at h
  by_cases h1 : rightKe t = false
  · rw [if_pos h1] at h; cases h
  rw [if_neg h1] at h
  by_cases h2 : mayR r = false
  · rw [if_pos h2] at h; cases h
  rw [if_neg h2] at h
  by_cases h3 : kpW t r ≠ 0
  · rw [if_pos h3] at h; exact absurd h h3
  rw [if_neg h3] at h
  by_cases h4 : rightKe (kpX t r) = false
  · rw [if_pos h4] at h; cases h
  exact ⟨by simpa using h1, by simpa using h2, Classical.not_not.1 h3, by simpa using h4, h0⟩
theorem mayR_kinds {r : ReT} (h : mayR r = true) : r.k = 1 ∨ r.k = 2 ∨ r.k = 3 ∨ r.k = 4 := by
  unfold mayR at h
  by_cases h1 : r.k = 1; exact .inl h1
  by_cases h2 : r.k = 2; exact .inr (.inl h2)
  by_cases h3 : r.k = 3; exact .inr (.inr (.inl h3))
  by_cases h4 : r.k = 4; exact .inr (.inr (.inr h4))
  rw [if_neg h1, if_neg h2, if_neg h3, if_neg h4] at h
  cases h
theorem kp_no {t : KeT} {r : ReT} (h : kpE t r ≠ 0) : kpO t r = zeroKe := by unfold kpO; rw [if_neg h]
end Go.Proofs.Ytjpmmbmhkpgjcaa

/- Heads and signed heads held against each other by == and !=. -/
namespace Go.Proofs.Ytjpmmbmhkpgjcaa
open Go.RowKit Sums Nums
set_option linter.unusedVariables false
set_option linter.unusedSimpArgs false
set_option maxRecDepth 100000
theorem sizeOfDD (w : World) : (sizeOf 30).run Try.prog w = .ok 32 w := by
  cases hq : Try.prog.info? 30 with
  | none => have := size23; simp [hq] at this
  | some i => have := size23; simp [hq] at this; simp [sizeOf, typeInfo, hq, this]
theorem sizeOfHH (w : World) : (sizeOf 32).run Try.prog w = .ok 36 w := by
  cases hq : Try.prog.info? 32 with
  | none => have := sizeH; simp [hq] at this
  | some i => have := sizeH; simp [hq] at this; simp [sizeOf, typeInfo, hq, this]
theorem cut_list (l : List Value) (off n : Nat) (m : List Value) (h : (l.drop off).take n = m) : l.toArray.extract off (off + n) = m.toArray := by
  rw [← h, List.extract_toArray, List.extract_eq_take_drop, Nat.add_sub_cancel_left]
theorem part_dig (l : List Value) (off : Nat) (m : List Value) (h : (l.drop off).take 32 = m) (w : World) : (Go.part 30 l.toArray off).run Try.prog w = .ok (.agg m.toArray) w := by
  have e := cut_list l off 32 m h
  simp only [Go.part, isAgg, run_underlying Try.underlying30, sizeOfDD, Sem.run_bind, Sem.run_pure, Result.andThen_ok, if_true, e]
theorem part_head (l : List Value) (off : Nat) (m : List Value) (h : (l.drop off).take 36 = m) (w : World) : (Go.part 32 l.toArray off).run Try.prog w = .ok (.agg m.toArray) w := by
  have e := cut_list l off 36 m h
  simp only [Go.part, isAgg, run_underlying Try.underlying32, sizeOfHH, Sem.run_bind, Sem.run_pure, Result.andThen_ok, if_true, e]
theorem part_int (l : List Value) (off : Nat) (v : Value) (h : l[off]? = some v) (w : World) : (Go.part 3 l.toArray off).run Try.prog w = .ok v w := by
  simp [Go.part, isAgg, run_underlying Try.underlying3, h]
theorem heldH : Try.prog.stoodInHeld 32 = false := by kernel_rfl
theorem heldS : Try.prog.stoodInHeld 34 = false := by kernel_rfl
theorem hcells_d (h : HdT) (hd : h.d.length = 32) : ((hcells h).drop 3).take 32 = cellsOf h.d := by
  show (cellsOf h.d ++ [Value.int .i64 h.t]).take 32 = _
  rw [List.take_left' (by rw [cellsOf_length, hd])]
theorem hcells_t (h : HdT) (hd : h.d.length = 32) : (hcells h)[35]? = some (.int .i64 h.t) := by
  unfold hcells
  rw [List.getElem?_append_right (by simp [cellsOf_length, hd])]
  simp [cellsOf_length, hd]
theorem scells_h (s : SgT) (hd : s.h.d.length = 32) : ((scells s).drop 0).take 36 = hcells s.h := by
  unfold scells
  rw [List.drop_zero, List.append_assoc, List.take_left' (hcells_length _ hd)]
theorem scells_n (s : SgT) (hd : s.h.d.length = 32) : (scells s)[36]? = some (.int .i64 s.n) := by
  unfold scells
  rw [List.append_assoc, List.getElem?_append_right (by rw [hcells_length _ hd]; omega), hcells_length _ hd]
  rfl
theorem scells_g (s : SgT) (hd : s.h.d.length = 32) (hg : s.g.length = 32) : ((scells s).drop 37).take 32 = cellsOf s.g := by
  unfold scells
  rw [List.drop_left' (by simp [hcells_length _ hd]), List.take_of_length_le (by rw [cellsOf_length, hg]; omega)]
theorem equalHead (d : Nat) (a b : HdT) (ha : a.d.length = 32) (hb : b.d.length = 32) (x : Bool) (hx : x = true ↔ a = b) (w : World) : (Op.equalIn (d + 4) 32 (.agg (hcells a).toArray) (.agg (hcells b).toArray)).run Try.prog w = .ok x w := by
  have hf : Try.prog.fieldsOf 32 = #[{ name := "Region", type := 3, offset := 0, embedded := false, tag := "", pkgPath := "", byteOffset := 0 }, { name := "Epoch", type := 3, offset := 1, embedded := false, tag := "", pkgPath := "", byteOffset := 8 }, { name := "Size", type := 3, offset := 2, embedded := false, tag := "", pkgPath := "", byteOffset := 16 }, { name := "Root", type := 30, offset := 3, embedded := false, tag := "", pkgPath := "", byteOffset := 24 }, { name := "Tick", type := 3, offset := 35, embedded := false, tag := "", pkgPath := "", byteOffset := 56 }] := by
    unfold Program.fieldsOf; rw [Try.underlying32]
  have p0 := fun (h : HdT) W => part_int (hcells h) 0 (.int .i64 h.r) rfl W
  have p1 := fun (h : HdT) W => part_int (hcells h) 1 (.int .i64 h.e) rfl W
  have p2 := fun (h : HdT) W => part_int (hcells h) 2 (.int .i64 h.s) rfl W
  have p3a := fun W => part_dig (hcells a) 3 _ (hcells_d a ha) W
  have p3b := fun W => part_dig (hcells b) 3 _ (hcells_d b hb) W
  have p4a := fun W => part_int (hcells a) 35 _ (hcells_t a ha) W
  have p4b := fun W => part_int (hcells b) 35 _ (hcells_t b hb) W
  have ei := fun (x y : Int) W => run_equalIn_int (P := Try.prog) W (d + 2) 3 .i64 .i64 x y Try.underlying3
  have ed : ∀ W, (Op.equalIn (d + 3) 30 (.agg (cellsOf a.d).toArray) (.agg (cellsOf b.d).toArray)).run Try.prog W = .ok (a.d == b.d) W := fun W => run_equalIn_bytes (P := Try.prog) W (d + 1) 30 5 32 Try.underlying30 Try.underlying5 sizeOf5 a.d b.d ha hb
  rw [run_equalIn_struct w (d + 3) 32 _ _ (by rw [hf]; exact Try.underlying32) heldH, hf]
  obtain ⟨b0, h0⟩ : ∃ x, (a.r == b.r) = x := ⟨_, rfl⟩
  obtain ⟨b1, h1⟩ : ∃ x, (a.e == b.e) = x := ⟨_, rfl⟩
  obtain ⟨b2, h2⟩ : ∃ x, (a.s == b.s) = x := ⟨_, rfl⟩
  obtain ⟨b3, h3⟩ : ∃ x, (a.d == b.d) = x := ⟨_, rfl⟩
  obtain ⟨b4, h4⟩ : ∃ x, (a.t == b.t) = x := ⟨_, rfl⟩
  have hq : x = (b0 && b1 && b2 && b3 && b4) := by
    rw [← h0, ← h1, ← h2, ← h3, ← h4, Bool.eq_iff_iff]
    rw [hx]
    simp only [Bool.and_eq_true, beq_iff_eq]
    constructor
    · rintro rfl; simp
    · rintro ⟨⟨⟨⟨e0, e1⟩, e2⟩, e3⟩, e4⟩
      cases a; cases b
      simp only at e0 e1 e2 e3 e4
      rw [e0, e1, e2, e3, e4]
  have x0 := ei a.r b.r
  have x1 := ei a.e b.e
  have x2 := ei a.s b.s
  have x4 := ei a.t b.t
  rw [h0] at x0
  rw [h1] at x1
  rw [h2] at x2
  rw [h3] at ed
  rw [h4] at x4
  rw [hq]
  obtain ⟨A, hA⟩ : ∃ A, (hcells a).toArray = A := ⟨_, rfl⟩
  obtain ⟨B, hB⟩ : ∃ B, (hcells b).toArray = B := ⟨_, rfl⟩
  have p0a := p0 a
  have p0b := p0 b
  have p1a := p1 a
  have p1b := p1 b
  have p2a := p2 a
  have p2b := p2 b
  rw [hA] at p0a p1a p2a p3a p4a
  rw [hB] at p0b p1b p2b p3b p4b
  rw [hA, hB]
  obtain ⟨DA, hDA⟩ : ∃ D, (cellsOf a.d).toArray = D := ⟨_, rfl⟩
  obtain ⟨DB, hDB⟩ : ∃ D, (cellsOf b.d).toArray = D := ⟨_, rfl⟩
  rw [hDA] at p3a ed
  rw [hDB] at p3b ed
  simp [Op.eqFields, p0a, p0b, p1a, p1b, p2a, p2b, p3a, p3b, p4a, p4b, x0, x1, x2, x4, ed]
  cases b0 <;> cases b1 <;> cases b2 <;> cases b3 <;> cases b4 <;> simp
theorem equalSigned (d : Nat) (a b : SgT) (ha : a.h.d.length = 32) (hb : b.h.d.length = 32) (ga : a.g.length = 32) (gb : b.g.length = 32) (x : Bool) (hx : x = true ↔ a = b) (w : World) : (Op.equalIn (d + 5) 34 (.agg (scells a).toArray) (.agg (scells b).toArray)).run Try.prog w = .ok x w := by
  have hf : Try.prog.fieldsOf 34 = #[{ name := "Head", type := 32, offset := 0, embedded := false, tag := "", pkgPath := "", byteOffset := 0 }, { name := "Node", type := 3, offset := 36, embedded := false, tag := "", pkgPath := "", byteOffset := 64 }, { name := "Tag", type := 30, offset := 37, embedded := false, tag := "", pkgPath := "", byteOffset := 72 }] := by
    unfold Program.fieldsOf; rw [Try.underlying34]
  obtain ⟨b0, hb0⟩ : ∃ x : Bool, x = true ↔ a.h = b.h := by
    by_cases h : a.h = b.h
    · exact ⟨true, by simp [h]⟩
    · exact ⟨false, by simp [h]⟩
  have p0a := fun W => part_head (scells a) 0 _ (scells_h a ha) W
  have p0b := fun W => part_head (scells b) 0 _ (scells_h b hb) W
  have p1a := fun W => part_int (scells a) 36 _ (scells_n a ha) W
  have p1b := fun W => part_int (scells b) 36 _ (scells_n b hb) W
  have p2a := fun W => part_dig (scells a) 37 _ (scells_g a ha ga) W
  have p2b := fun W => part_dig (scells b) 37 _ (scells_g b hb gb) W
  have x0 : ∀ W, (Op.equalIn (d + 4) 32 (.agg (hcells a.h).toArray) (.agg (hcells b.h).toArray)).run Try.prog W = .ok b0 W := fun W => equalHead d a.h b.h ha hb b0 hb0 W
  have x1 := fun W => run_equalIn_int (P := Try.prog) W (d + 3) 3 .i64 .i64 a.n b.n Try.underlying3
  have x2 : ∀ W, (Op.equalIn (d + 4) 30 (.agg (cellsOf a.g).toArray) (.agg (cellsOf b.g).toArray)).run Try.prog W = .ok (a.g == b.g) W := fun W => run_equalIn_bytes (P := Try.prog) W (d + 2) 30 5 32 Try.underlying30 Try.underlying5 sizeOf5 a.g b.g ga gb
  rw [run_equalIn_struct w (d + 4) 34 _ _ (by rw [hf]; exact Try.underlying34) heldS, hf]
  obtain ⟨b1, h1⟩ : ∃ x, (a.n == b.n) = x := ⟨_, rfl⟩
  obtain ⟨b2, h2⟩ : ∃ x, (a.g == b.g) = x := ⟨_, rfl⟩
  have hq : x = (b0 && b1 && b2) := by
    rw [← h1, ← h2, Bool.eq_iff_iff]
    rw [hx]
    simp only [Bool.and_eq_true, beq_iff_eq, hb0]
    constructor
    · rintro rfl; simp
    · rintro ⟨⟨e0, e1⟩, e2⟩
      cases a; cases b
      simp only at e0 e1 e2
      rw [e0, e1, e2]
  rw [h1] at x1
  rw [h2] at x2
  rw [hq]
  obtain ⟨A, hA⟩ : ∃ A, (scells a).toArray = A := ⟨_, rfl⟩
  obtain ⟨B, hB⟩ : ∃ B, (scells b).toArray = B := ⟨_, rfl⟩
  rw [hA] at p0a p1a p2a
  rw [hB] at p0b p1b p2b
  rw [hA, hB]
  obtain ⟨DA, hDA⟩ : ∃ D, (cellsOf a.g).toArray = D := ⟨_, rfl⟩
  obtain ⟨DB, hDB⟩ : ∃ D, (cellsOf b.g).toArray = D := ⟨_, rfl⟩
  rw [hDA] at p2a x2
  rw [hDB] at p2b x2
  obtain ⟨EA, hEA⟩ : ∃ D, (hcells a.h).toArray = D := ⟨_, rfl⟩
  obtain ⟨EB, hEB⟩ : ∃ D, (hcells b.h).toArray = D := ⟨_, rfl⟩
  rw [hEA] at p0a x0
  rw [hEB] at p0b x0
  simp [Op.eqFields, p0a, p0b, p1a, p1b, p2a, p2b, x0, x1, x2]
  cases b0 <;> cases b1 <;> cases b2 <;> simp
theorem eqSigned (a b : SgT) (ha : a.h.d.length = 32) (hb : b.h.d.length = 32) (ga : a.g.length = 32) (gb : b.g.length = 32) (A B : Array Value) (HA : Hid (A = (scells a).toArray)) (HB : Hid (B = (scells b).toArray)) (x : Bool) (hx : x = true ↔ a = b) (w : World) : (binOp .eql 34 (.agg A) (.agg B)).run Try.prog w = .ok (.bool x) w := by
  rw [run_eql_struct, HA.out, HB.out, show (10000 : Nat) = 9995 + 5 from rfl, equalSigned 9995 a b ha hb ga gb x hx]; rfl
end Go.Proofs.Ytjpmmbmhkpgjcaa
