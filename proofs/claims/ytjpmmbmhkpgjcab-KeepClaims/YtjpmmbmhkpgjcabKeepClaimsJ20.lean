/- Texts of our own that the row of KeepClaims leans on, part 20. -/
import Derived.Test.YtjpmmbmhkpgjcabKeepClaimsJ4
import Derived.Test.YtjpmmbmhkpgjcabKeepClaimsJ18
import Derived.Test.YtjpmmbmhkpgjcabKeepClaimsJ19

/- What the document's Verify and Parts answer. -/
namespace Go.Proofs.Ytjpmmbmhkpgjcab
open Go.RowKit Sums Nums
set_option linter.unusedVariables false
set_option linter.unusedSimpArgs false
set_option maxRecDepth 100000

end Go.Proofs.Ytjpmmbmhkpgjcab

/- What the document's Parts answers. -/
namespace Go.Proofs.Ytjpmmbmhkpgjcab
open Go.RowKit Sums Nums
set_option linter.unusedVariables false
set_option linter.unusedSimpArgs false
set_option maxRecDepth 100000

end Go.Proofs.Ytjpmmbmhkpgjcab

/- What the document's Get answers. -/
namespace Go.Proofs.Ytjpmmbmhkpgjcab
open Go.RowKit Sums Nums
set_option linter.unusedVariables false
set_option linter.unusedSimpArgs false
set_option maxRecDepth 100000
def getHO (bs : List UInt8) : HdT := (getO bs).getD zeroH
end Go.Proofs.Ytjpmmbmhkpgjcab

/- What the document's GetSigned answers. -/
namespace Go.Proofs.Ytjpmmbmhkpgjcab
open Go.RowKit Sums Nums
set_option linter.unusedVariables false
set_option linter.unusedSimpArgs false
set_option maxRecDepth 100000

end Go.Proofs.Ytjpmmbmhkpgjcab

/- Claims, entries and items as bytes, as the document defines them. -/
namespace Go.Proofs.Ytjpmmbmhkpgjcab
open Nums Sums
set_option linter.unusedVariables false
set_option maxRecDepth 100000
/-! Claims. -/
structure ClT where
  r : Int
  e : Int
  n : Int
  s : Int
  d : List UInt8
def zeroC : ClT := ⟨0, 0, 0, 0, List.replicate 32 0⟩
/-! Are two the same? -/
def eqHB (a b : HdT) : Bool := decide (a.r = b.r) && decide (a.e = b.e) && decide (a.s = b.s) && decide (a.d = b.d) && decide (a.t = b.t)
theorem eqHB_iff (a b : HdT) : eqHB a b = true ↔ a = b := by
  cases a; cases b
  unfold eqHB
  simp only [Bool.and_eq_true, decide_eq_true_eq, HdT.mk.injEq]
  constructor
  · rintro ⟨⟨⟨⟨h1, h2⟩, h3⟩, h4⟩, h5⟩; exact ⟨h1, h2, h3, h4, h5⟩
  · rintro ⟨h1, h2, h3, h4, h5⟩; exact ⟨⟨⟨⟨h1, h2⟩, h3⟩, h4⟩, h5⟩
def eqSB (a b : SgT) : Bool := eqHB a.h b.h && decide (a.n = b.n) && decide (a.g = b.g)
theorem eqSB_iff (a b : SgT) : eqSB a b = true ↔ a = b := by
  cases a; cases b
  unfold eqSB
  simp only [Bool.and_eq_true, decide_eq_true_eq, SgT.mk.injEq, eqHB_iff]
  constructor
  · rintro ⟨⟨h1, h2⟩, h3⟩; exact ⟨h1, h2, h3⟩
  · rintro ⟨h1, h2, h3⟩; exact ⟨⟨h1, h2⟩, h3⟩
def eqCB (a b : ClT) : Bool := decide (a.r = b.r) && decide (a.e = b.e) && decide (a.n = b.n) && decide (a.s = b.s) && decide (a.d = b.d)
theorem eqCB_iff (a b : ClT) : eqCB a b = true ↔ a = b := by
  cases a; cases b
  unfold eqCB
  simp only [Bool.and_eq_true, decide_eq_true_eq, ClT.mk.injEq]
  constructor
  · rintro ⟨⟨⟨⟨h1, h2⟩, h3⟩, h4⟩, h5⟩; exact ⟨h1, h2, h3, h4, h5⟩
  · rintro ⟨h1, h2, h3, h4, h5⟩; exact ⟨⟨⟨⟨h1, h2⟩, h3⟩, h4⟩, h5⟩
/-- Is a claim right? -/
def rightC (c : ClT) : Bool := decide (1 ≤ c.r) && decide (c.r ≤ 5) && decide (1 ≤ c.e) && decide (c.e ≤ 900000000) && decide (1 ≤ c.n) && decide (c.n ≤ 3) && decide (0 ≤ c.s) && decide (c.s ≤ 100000)
theorem rightC_iff (c : ClT) : rightC c = true ↔ (1 ≤ c.r ∧ c.r ≤ 5 ∧ 1 ≤ c.e ∧ c.e ≤ 900000000 ∧ 1 ≤ c.n ∧ c.n ≤ 3 ∧ 0 ≤ c.s ∧ c.s ≤ 100000) := by
  unfold rightC
  simp only [Bool.and_eq_true, decide_eq_true_eq]
  omega
def cL (c : ClT) : List ByteArray := [nOf c.r, nOf c.e, nOf c.n, nOf c.s, bA c.d]
/-- A right claim's bytes. -/
def claimB (c : ClT) : List UInt8 := rowB (fieldsN (cL c))
/-! Entries. -/
structure EnT where
  k : Int
  c : Int
  s : Int
  t : ByteArray
  h : SgT
  m : ClT
def zeroE : EnT := ⟨0, 0, 0, ByteArray.empty, zeroS, zeroC⟩
theorem byte_ext {a b : ByteArray} (h : a.data.toList = b.data.toList) : a = b := by
  rw [← bA_of a, ← bA_of b, h]
theorem enT_ext {a b : EnT} (h : a.k = b.k ∧ a.c = b.c ∧ a.s = b.s ∧ a.t.data.toList = b.t.data.toList ∧ a.h = b.h ∧ a.m = b.m) : a = b := by
  obtain ⟨h1, h2, h3, h4, h5, h6⟩ := h
  cases a; cases b
  simp only at h1 h2 h3 h4 h5 h6
  rw [h1, h2, h3, byte_ext h4, h5, h6]
def eqEB (a b : EnT) : Bool := decide (a.k = b.k) && decide (a.c = b.c) && decide (a.s = b.s) && decide (a.t.data.toList = b.t.data.toList) && eqSB a.h b.h && eqCB a.m b.m
theorem eqEB_iff (a b : EnT) : eqEB a b = true ↔ a = b := by
  unfold eqEB
  simp only [Bool.and_eq_true, decide_eq_true_eq, eqSB_iff, eqCB_iff]
  constructor
  · rintro ⟨⟨⟨⟨⟨h1, h2⟩, h3⟩, h4⟩, h5⟩, h6⟩; exact enT_ext ⟨h1, h2, h3, h4, h5, h6⟩
  · intro h; rw [h]; exact ⟨⟨⟨⟨⟨rfl, rfl⟩, rfl⟩, rfl⟩, rfl⟩, rfl⟩
theorem empty_of {t : ByteArray} (h : t.size = 0) : t = ByteArray.empty := by
  apply byte_ext
  have : t.data.toList.length = 0 := h
  rw [List.eq_nil_of_length_eq_zero this]
  rfl
/-- Is an entry right? -/
def rightE (x : EnT) : Bool :=
  if x.k = 1 then decide (1 ≤ x.c ∧ x.c ≤ 3 ∧ 1 ≤ x.s ∧ x.s ≤ 1000000 ∧ x.t.size ≤ 200) && eqSB x.h zeroS && eqCB x.m zeroC
  else if x.k = 2 then decide (x.c = 0 ∧ x.s = 0 ∧ x.t.size = 0) && mayS x.h && eqCB x.m zeroC
  else if x.k = 3 then decide (x.c = 0 ∧ x.s = 0 ∧ x.t.size = 0) && eqSB x.h zeroS && rightC x.m
  else false
/-- The digests in it have 32 bytes. -/
structure OkE (x : EnT) : Prop where
  h : x.h.h.d.length = 32
  g : x.h.g.length = 32
  m : x.m.d.length = 32
theorem right_kinds {x : EnT} (h : rightE x = true) :
    (x.k = 1 ∧ 1 ≤ x.c ∧ x.c ≤ 3 ∧ 1 ≤ x.s ∧ x.s ≤ 1000000 ∧ x.t.size ≤ 200 ∧ x.h = zeroS ∧ x.m = zeroC) ∨ (x.k = 2 ∧ x.c = 0 ∧ x.s = 0 ∧ x.t.size = 0 ∧ mayS x.h = true ∧ x.m = zeroC) ∨ (x.k = 3 ∧ x.c = 0 ∧ x.s = 0 ∧ x.t.size = 0 ∧ x.h = zeroS ∧ rightC x.m = true) := by
  unfold rightE at h
  by_cases h1 : x.k = 1
  · rw [if_pos h1] at h
    simp only [Bool.and_eq_true, decide_eq_true_eq, eqSB_iff, eqCB_iff] at h
    exact .inl ⟨h1, h.1.1.1, h.1.1.2.1, h.1.1.2.2.1, h.1.1.2.2.2.1, h.1.1.2.2.2.2, h.1.2, h.2⟩
  · rw [if_neg h1] at h
    by_cases h2 : x.k = 2
    · rw [if_pos h2] at h
      simp only [Bool.and_eq_true, decide_eq_true_eq, eqCB_iff] at h
      exact .inr (.inl ⟨h2, h.1.1.1, h.1.1.2.1, h.1.1.2.2, h.1.2, h.2⟩)
    · rw [if_neg h2] at h
      by_cases h3 : x.k = 3
      · rw [if_pos h3] at h
        simp only [Bool.and_eq_true, decide_eq_true_eq, eqSB_iff] at h
        exact .inr (.inr ⟨h3, h.1.1.1, h.1.1.2.1, h.1.1.2.2, h.1.2, h.2⟩)
      · rw [if_neg h3] at h
        cases h
theorem zeroE_ok : OkE zeroE := ⟨rfl, rfl, rfl⟩
/-! Items. -/
structure ItT where
  p : Int
  e : EnT
def zeroI : ItT := ⟨0, zeroE⟩
def rightI (x : ItT) : Bool := decide (1 ≤ x.p) && decide (x.p ≤ 900000000) && rightE x.e
theorem rightI_iff (x : ItT) : rightI x = true ↔ (1 ≤ x.p ∧ x.p ≤ 900000000 ∧ rightE x.e = true) := by
  unfold rightI
  simp only [Bool.and_eq_true, decide_eq_true_eq]
  constructor
  · rintro ⟨⟨a, b⟩, c⟩; exact ⟨a, b, c⟩
  · rintro ⟨a, b, c⟩; exact ⟨⟨a, b⟩, c⟩
end Go.Proofs.Ytjpmmbmhkpgjcab

/- A region's log as the document defines it (chapter 11). -/
namespace Go.Proofs.Ytjpmmbmhkpgjcab
open Nums Sums
set_option linter.unusedVariables false
set_option maxRecDepth 100000
/-- Is a log right at a place? -/
def okAt (l : List ItT) (i : Nat) : Bool :=
  match l[i]? with
  | none => true
  | some x => rightI x && (decide (i = 0) || (match l[i - 1]? with | none => true | some y => decide (y.p ≤ x.p)))
def rightK (l : List ItT) (k : Nat) : Bool := (List.range k).all (okAt l)
/-- Is a log right? -/
def rightL (l : List ItT) : Bool := decide (l.length ≤ 2000) && rightK l l.length
theorem rightK_succ (l : List ItT) (k : Nat) : rightK l (k + 1) = (rightK l k && okAt l k) := by
  unfold rightK
  rw [List.range_succ, List.all_append]
  simp
theorem rightK_iff (l : List ItT) (k : Nat) : rightK l k = true ↔ ∀ i, i < k → okAt l i = true := by
  unfold rightK
  rw [List.all_eq_true]
  constructor
  · intro h i hi; exact h i (List.mem_range.2 hi)
  · intro h i hi; exact h i (List.mem_range.1 hi)
theorem okAt_iff {l : List ItT} {i : Nat} {x : ItT} (h : l[i]? = some x) : okAt l i = true ↔ rightI x = true ∧ (i ≠ 0 → ∀ y, l[i - 1]? = some y → y.p ≤ x.p) := by
  unfold okAt
  rw [h]
  simp only [Bool.and_eq_true, Bool.or_eq_true, decide_eq_true_eq]
  constructor
  · rintro ⟨h1, h2⟩
    refine ⟨h1, fun h0 y hy => ?_⟩
    rcases h2 with h2 | h2
    · exact absurd h2 h0
    · rw [hy] at h2; simpa using h2
  · rintro ⟨h1, h2⟩
    refine ⟨h1, ?_⟩
    by_cases h0 : i = 0
    · exact .inl h0
    · right
      cases hy : l[i - 1]? with
      | none => rfl
      | some y => simpa using h2 h0 y hy
theorem okAt_append {l k : List ItT} {i : Nat} (hi : i < l.length) : okAt (l ++ k) i = okAt l i := by
  unfold okAt
  rw [List.getElem?_append_left hi, List.getElem?_append_left (by omega)]
theorem rightL_iff (l : List ItT) : rightL l = true ↔ l.length ≤ 2000 ∧ ∀ i, i < l.length → okAt l i = true := by
  unfold rightL
  rw [Bool.and_eq_true, decide_eq_true_eq, rightK_iff]
theorem right_item {l : List ItT} (h : rightL l = true) {x : ItT} (hx : x ∈ l) : rightI x = true := by
  obtain ⟨i, hi, rfl⟩ := List.getElem_of_mem hx
  exact ((okAt_iff (List.getElem?_eq_getElem hi)).1 ((rightL_iff l).1 h |>.2 i hi)).1
/-- A user's entry of a client. -/
def isU (x : ItT) (c : Int) : Bool := decide (x.e.k = 1) && decide (x.e.c = c)
def isO (x : ItT) (c s : Int) : Bool := isU x c && decide (s ≤ x.e.s)
def oldL (l : List ItT) (c s : Int) : Bool := l.any fun x => isO x c s
/-- Is an Epoch below the last item's? -/
def lowB (l : List ItT) (p : Int) : Bool := match l.getLast? with | none => false | some y => decide (p < y.p)
def mayE (l : List ItT) (x : ItT) : Int :=
  if rightL l = false ∨ rightI x = false then 100 else if lowB l x.p = true then 102 else if l.length = 2000 then 2 else
  if x.e.k = 1 ∧ oldL l x.e.c x.e.s = true then 101 else 0
theorem may_ok {l : List ItT} {x : ItT} (h : mayE l x = 0) : rightL l = true ∧ rightI x = true ∧ lowB l x.p = false ∧ l.length < 2000 ∧ (x.e.k = 1 → oldL l x.e.c x.e.s = false) := by
  unfold mayE at h
  by_cases h1 : rightL l = false ∨ rightI x = false
  · rw [if_pos h1] at h; omega
  rw [if_neg h1] at h
  have h2 : rightL l = true ∧ rightI x = true := ⟨by cases hr : rightL l <;> simp_all, by cases hr : rightI x <;> simp_all⟩
  by_cases h3 : lowB l x.p = true
  · rw [if_pos h3] at h; omega
  rw [if_neg h3] at h
  by_cases h4 : l.length = 2000
  · rw [if_pos h4] at h; omega
  rw [if_neg h4] at h
  by_cases h5 : x.e.k = 1 ∧ oldL l x.e.c x.e.s = true
  · rw [if_pos h5] at h; omega
  have := ((rightL_iff l).1 h2.1).1
  exact ⟨h2.1, h2.2, by simpa using h3, by omega, fun hk => by cases ho : oldL l x.e.c x.e.s; rfl; exact absurd ⟨hk, ho⟩ h5⟩
theorem right_snoc {l : List ItT} {x : ItT} (h : mayE l x = 0) : rightL (l ++ [x]) = true := by
  obtain ⟨h1, h2, h3, h4, h5⟩ := may_ok h
  rw [rightL_iff] at h1 ⊢
  refine ⟨by rw [List.length_append]; show l.length + 1 ≤ 2000; omega, fun i hi => ?_⟩
  rw [List.length_append] at hi
  have hi' : i < l.length + 1 := hi
  by_cases e : i < l.length
  · rw [okAt_append e]; exact h1.2 i e
  · obtain rfl : i = l.length := by omega
    refine (okAt_iff (by rw [List.getElem?_append_right (Nat.le_refl _), Nat.sub_self]; rfl)).2 ⟨h2, fun h0 y hy => ?_⟩
    rw [List.getElem?_append_left (by omega)] at hy
    unfold lowB at h3
    have hl : l.getLast? = some y := by rw [List.getLast?_eq_getElem?]; exact hy
    rw [hl] at h3
    simpa using h3
end Go.Proofs.Ytjpmmbmhkpgjcab

/- A log that grew by items that May lets in; the first items of a log; the iterators' lists (chapter 11). -/
namespace Go.Proofs.Ytjpmmbmhkpgjcab
open Nums Sums
set_option linter.unusedVariables false
set_option maxRecDepth 100000
/-! What Check goes by. -/
def lastE (l : List ItT) (k : Nat) : Int := if k = 0 then 0 else match l[k - 1]? with | none => 0 | some y => y.p
theorem okAt_last {l : List ItT} {k : Nat} {x : ItT} (h : l[k]? = some x) : okAt l k = (rightI x && decide (lastE l k ≤ x.p)) := by
  have hk : k < l.length := (List.getElem?_eq_some_iff.1 h).1
  unfold okAt lastE
  rw [h]
  by_cases h0 : k = 0
  · subst h0
    simp only [decide_true, Bool.true_or, Bool.and_true, if_true]
    cases hr : rightI x
    · rfl
    · have := ((rightI_iff x).1 hr).1
      rw [decide_eq_true (show (0 : Int) ≤ x.p by omega)]
      rfl
  · rw [if_neg h0, List.getElem?_eq_getElem (show k - 1 < l.length by omega)]
    simp [h0]
theorem lastE_succ {l : List ItT} {k : Nat} {x : ItT} (h : l[k]? = some x) : lastE l (k + 1) = x.p := by
  unfold lastE
  rw [if_neg (by omega), Nat.add_sub_cancel, h]
/-! A client's entries, in their order. -/
structure Ur where
  i : Nat
  e : EnT
  ok : OkE e
def entsF (l : List ItT) (hok : ∀ x ∈ l, OkE x.e) (c : Int) (k : Nat) : List Ur := (List.range' k (l.length - k)).filterMap fun j => if h : j < l.length then (if isU l[j] c then some ⟨j, l[j].e, hok _ (List.getElem_mem h)⟩ else none) else none
theorem entsF_end (l : List ItT) (hok : ∀ x ∈ l, OkE x.e) (c : Int) (k : Nat) (hk : l.length ≤ k) : entsF l hok c k = [] := by
  unfold entsF
  rw [Nat.sub_eq_zero_of_le hk]
  rfl
theorem entsF_next (l : List ItT) (hok : ∀ x ∈ l, OkE x.e) (c : Int) (k : Nat) (hk : k < l.length) : entsF l hok c k = (if isU l[k] c then [⟨k, l[k].e, hok _ (List.getElem_mem hk)⟩] else []) ++ entsF l hok c (k + 1) := by
  unfold entsF
  rw [show l.length - k = (l.length - (k + 1)) + 1 by omega, List.range'_succ, List.filterMap_cons]
  simp only [dif_pos hk]
  cases isU l[k] c <;> rfl
theorem entsF_mem {l : List ItT} {hok : ∀ x ∈ l, OkE x.e} {c : Int} {k : Nat} {y : Ur} (h : y ∈ entsF l hok c k) : ∃ hi : y.i < l.length, k ≤ y.i ∧ isU l[y.i] c = true ∧ y.e = l[y.i].e := by
  unfold entsF at h
  rw [List.mem_filterMap] at h
  obtain ⟨j, hj, e⟩ := h
  rw [List.mem_range'_1] at hj
  by_cases hl : j < l.length
  · rw [dif_pos hl] at e
    by_cases hu : isU l[j] c = true
    · rw [if_pos hu] at e
      cases e
      exact ⟨hl, hj.1, hu, rfl⟩
    · rw [if_neg hu] at e; cases e
  · rw [dif_neg hl] at e; cases e
theorem mem_entsF {l : List ItT} (hok : ∀ x ∈ l, OkE x.e) {c : Int} {j : Nat} (hj : j < l.length) (hu : isU l[j] c = true) : (⟨j, l[j].e, hok _ (List.getElem_mem hj)⟩ : Ur) ∈ entsF l hok c 0 := by
  unfold entsF
  rw [List.mem_filterMap]
  refine ⟨j, by rw [List.mem_range'_1]; omega, ?_⟩
  rw [dif_pos hj, if_pos hu]
theorem old_any {l : List ItT} (hok : ∀ x ∈ l, OkE x.e) {c s : Int} : oldL l c s = (entsF l hok c 0).any fun y => decide (s ≤ y.e.s) := by
  rw [Bool.eq_iff_iff, List.any_eq_true]
  unfold oldL
  rw [List.any_eq_true]
  constructor
  · rintro ⟨x, hx, h⟩
    obtain ⟨j, hj, rfl⟩ := List.getElem_of_mem hx
    unfold isO at h
    rw [Bool.and_eq_true] at h
    exact ⟨_, mem_entsF hok hj h.1, h.2⟩
  · rintro ⟨y, hy, h⟩
    obtain ⟨hi, _, hu, he⟩ := entsF_mem hy
    refine ⟨l[y.i], List.getElem_mem hi, ?_⟩
    unfold isO
    rw [hu, ← he]
    exact h
end Go.Proofs.Ytjpmmbmhkpgjcab

/- Claims and addresses as the document defines them (chapter 12). -/
namespace Go.Proofs.Ytjpmmbmhkpgjcab
open Nums Sums
set_option linter.unusedVariables false
set_option maxRecDepth 100000
/-- An address. -/
structure AdT where
  r : Int
  n : Int
theorem AdT.ext' {a b : AdT} (h1 : a.r = b.r) (h2 : a.n = b.n) : a = b := by cases a; cases b; simp_all
end Go.Proofs.Ytjpmmbmhkpgjcab

/- Claims that are right, found and recorded (chapter 12). -/
namespace Go.Proofs.Ytjpmmbmhkpgjcab
open Nums Sums
set_option linter.unusedVariables false
set_option maxRecDepth 100000
def aheadC (a b : ClT) : Bool := decide (a.r < b.r ∨ (a.r = b.r ∧ a.e < b.e))
theorem ahead_trans {a b c : ClT} (h : aheadC a b = true) (k : aheadC b c = true) : aheadC a c = true := by
  unfold aheadC at *
  rw [decide_eq_true_eq] at *
  omega
theorem ahead_total {a b : ClT} (h : ¬ (a.r = b.r ∧ a.e = b.e)) (k : aheadC a b = false) : aheadC b a = true := by
  unfold aheadC at *
  rw [decide_eq_false_iff_not] at k
  rw [decide_eq_true_eq]
  omega
theorem ahead_ne {a b : ClT} (h : aheadC a b = true) : ¬ (a.r = b.r ∧ a.e = b.e) := by
  unfold aheadC at h
  rw [decide_eq_true_eq] at h
  omega
/-- Are claims right at a place? -/
def okC (l : List ClT) (i : Nat) : Bool :=
  match l[i]? with
  | none => true
  | some x => rightC x && (decide (i = 0) || (match l[i - 1]? with | none => true | some y => aheadC y x))
def rightCK (l : List ClT) (k : Nat) : Bool := (List.range k).all (okC l)
def rightCs (l : List ClT) : Bool := rightCK l l.length
theorem rightCK_succ (l : List ClT) (k : Nat) : rightCK l (k + 1) = (rightCK l k && okC l k) := by
  unfold rightCK
  rw [List.range_succ, List.all_append]
  simp
theorem rightCK_iff (l : List ClT) (k : Nat) : rightCK l k = true ↔ ∀ i, i < k → okC l i = true := by
  unfold rightCK
  rw [List.all_eq_true]
  exact ⟨fun h i hi => h i (List.mem_range.2 hi), fun h i hi => h i (List.mem_range.1 hi)⟩
theorem okC_zero {l : List ClT} (h : 0 < l.length) : okC l 0 = rightC l[0] := by
  unfold okC; rw [List.getElem?_eq_getElem h]; simp
theorem okC_succ {l : List ClT} {j : Nat} (h : j + 1 < l.length) : okC l (j + 1) = (rightC l[j + 1] && aheadC l[j] l[j + 1]) := by
  unfold okC
  rw [List.getElem?_eq_getElem h, Nat.add_sub_cancel, List.getElem?_eq_getElem (show j < l.length by omega)]
  simp
theorem rightCs_iff (l : List ClT) : rightCs l = true ↔ (∀ x ∈ l, rightC x = true) ∧ l.Pairwise fun a b => aheadC a b = true := by
  unfold rightCs
  rw [rightCK_iff, List.pairwise_iff_getElem]
  constructor
  · intro h
    refine ⟨fun x hx => ?_, ?_⟩
    · obtain ⟨i, hi, rfl⟩ := List.getElem_of_mem hx
      have := h i hi
      cases i with
      | zero => rwa [okC_zero hi] at this
      | succ j => rw [okC_succ hi, Bool.and_eq_true] at this; exact this.1
    · intro i j hi hj hij
      obtain ⟨d, rfl⟩ : ∃ d, j = i + 1 + d := ⟨j - i - 1, by omega⟩
      induction d with
      | zero =>
        have := h (i + 1) (by omega)
        rw [okC_succ (by omega), Bool.and_eq_true] at this
        exact this.2
      | succ d ih =>
        have h1 := ih (by omega) (by omega)
        have := h (i + 1 + d + 1) (by omega)
        rw [okC_succ (by omega), Bool.and_eq_true] at this
        exact ahead_trans h1 this.2
  · rintro ⟨h1, h2⟩ i hi
    cases i with
    | zero => rw [okC_zero hi]; exact h1 _ (List.getElem_mem hi)
    | succ j => rw [okC_succ hi, h1 _ (List.getElem_mem hi), h2 j (j + 1) (by omega) hi (by omega)]; rfl
def isC (x : ClT) (r e : Int) : Bool := decide (x.r = r) && decide (x.e = e)
theorem isC_iff (x : ClT) (r e : Int) : isC x r e = true ↔ x.r = r ∧ x.e = e := by unfold isC; rw [Bool.and_eq_true, decide_eq_true_eq, decide_eq_true_eq]
def findC (l : List ClT) (r e : Int) : Option ClT := l.find? fun x => isC x r e
theorem findC_some {l : List ClT} {r e : Int} {x : ClT} (h : findC l r e = some x) : x ∈ l ∧ x.r = r ∧ x.e = e := by
  unfold findC at h
  have h2 : isC x r e = true := by have := List.find?_some h; exact this
  exact ⟨List.mem_of_find?_eq_some h, (isC_iff x r e).1 h2⟩
theorem findC_none {l : List ClT} {r e : Int} (h : findC l r e = none) : ∀ x ∈ l, ¬ (x.r = r ∧ x.e = e) := by
  unfold findC at h
  rw [List.find?_eq_none] at h
  intro x hx hh
  exact h x hx ((isC_iff x r e).2 hh)
/-- Of right claims each is found. -/
theorem findC_mem {l : List ClT} (h : rightCs l = true) {x : ClT} (hx : x ∈ l) : findC l x.r x.e = some x := by
  have hp := ((rightCs_iff l).1 h).2
  clear h
  unfold findC
  induction l with
  | nil => cases hx
  | cons y t ih =>
    have hp1 := List.pairwise_cons.1 hp
    rw [List.find?_cons]
    rcases List.mem_cons.1 hx with rfl | hx
    · rw [(isC_iff x x.r x.e).2 ⟨rfl, rfl⟩]
    · have : isC y x.r x.e = false := by
        rw [Bool.eq_false_iff]
        intro hh
        exact ahead_ne (hp1.1 x hx) ((isC_iff _ _ _).1 hh)
      rw [this]
      exact ih hx hp1.2
def insC (c : ClT) : List ClT → List ClT
  | [] => [c]
  | x :: t => if aheadC c x = true then c :: x :: t else x :: insC c t
theorem mem_insC (c : ClT) : ∀ (l : List ClT) (x : ClT), x ∈ insC c l ↔ x = c ∨ x ∈ l
  | [], x => by simp [insC]
  | y :: t, x => by
    unfold insC
    split
    · simp
    · rw [List.mem_cons, mem_insC c t x, List.mem_cons]
      constructor
      · rintro (h | h | h)
        · exact .inr (.inl h)
        · exact .inl h
        · exact .inr (.inr h)
      · rintro (h | h | h)
        · exact .inr (.inl h)
        · exact .inl h
        · exact .inr (.inr h)
theorem insC_length (c : ClT) : ∀ l : List ClT, (insC c l).length = l.length + 1
  | [] => rfl
  | y :: t => by
    unfold insC
    split
    · rfl
    · rw [List.length_cons, insC_length c t, List.length_cons]
theorem pair_ins (c : ClT) : ∀ l : List ClT, (l.Pairwise fun a b => aheadC a b = true) → (∀ x ∈ l, ¬ (x.r = c.r ∧ x.e = c.e)) → (insC c l).Pairwise fun a b => aheadC a b = true
  | [], _, _ => List.pairwise_singleton _ _
  | y :: t, h, hn => by
    have h1 := List.pairwise_cons.1 h
    unfold insC
    split
    · rename_i hb
      refine List.pairwise_cons.2 ⟨fun x hx => ?_, h⟩
      rcases List.mem_cons.1 hx with rfl | hx
      · exact hb
      · exact ahead_trans hb (h1.1 x hx)
    · rename_i hb
      refine List.pairwise_cons.2 ⟨fun x hx => ?_, pair_ins c t h1.2 fun z hz => hn z (List.mem_cons_of_mem _ hz)⟩
      rcases (mem_insC c t x).1 hx with rfl | hx
      · exact ahead_total (fun e => hn y List.mem_cons_self ⟨e.1.symm, e.2.symm⟩) (by simpa using hb)
      · exact h1.1 x hx
/-- P12.2. -/
def recE (l : List ClT) (c : ClT) : Int :=
  if rightCs l = false ∨ rightC c = false then 110 else match findC l c.r c.e with
  | none => 0
  | some x => if eqCB x c = true then 0 else 111
def recL (l : List ClT) (c : ClT) : List ClT := if recE l c = 0 then (if (findC l c.r c.e).isSome then l else insC c l) else []
theorem recE_ok {l : List ClT} {c : ClT} (h : recE l c = 0) : rightCs l = true ∧ rightC c = true ∧ (findC l c.r c.e = none ∨ findC l c.r c.e = some c) := by
  unfold recE at h
  by_cases h1 : rightCs l = false ∨ rightC c = false
  · rw [if_pos h1] at h; omega
  rw [if_neg h1] at h
  have h2 : rightCs l = true ∧ rightC c = true := ⟨by cases hr : rightCs l <;> simp_all, by cases hr : rightC c <;> simp_all⟩
  refine ⟨h2.1, h2.2, ?_⟩
  cases hf : findC l c.r c.e with
  | none => exact .inl rfl
  | some x =>
    rw [hf] at h
    by_cases hx : eqCB x c = true
    · rw [(eqCB_iff x c).1 hx]; exact .inr rfl
    · simp only at h
      rw [if_neg hx] at h
      omega
theorem recL_mem {l : List ClT} {c : ClT} (h : recE l c = 0) (x : ClT) : x ∈ recL l c ↔ x = c ∨ x ∈ l := by
  obtain ⟨h1, h2, h3⟩ := recE_ok h
  unfold recL
  rw [if_pos h]
  rcases h3 with h3 | h3
  · rw [h3]
    exact mem_insC c l x
  · rw [h3]
    exact ⟨.inr, fun e => by rcases e with rfl | e; exact (findC_some h3).1; exact e⟩
theorem recL_right {l : List ClT} {c : ClT} (h : recE l c = 0) : rightCs (recL l c) = true := by
  obtain ⟨h1, h2, h3⟩ := recE_ok h
  have h4 := (rightCs_iff l).1 h1
  rcases h3 with h3 | h3
  · have e : recL l c = insC c l := by unfold recL; rw [if_pos h, h3]; rfl
    rw [e, rightCs_iff]
    refine ⟨fun x hx => ?_, pair_ins c l h4.2 (findC_none h3)⟩
    rcases (mem_insC c l x).1 hx with rfl | hx
    · exact h2
    · exact h4.1 x hx
  · have e : recL l c = l := by unfold recL; rw [if_pos h, h3]; rfl
    rw [e]; exact h1
theorem recL_length {l : List ClT} {c : ClT} (h : recE l c = 0) : l.length ≤ (recL l c).length ∧ (recL l c).length ≤ l.length + 1 := by
  unfold recL
  rw [if_pos h]
  split
  · omega
  · rw [insC_length]; omega
/-- P12.4: what is recorded has the claim and all that were there. -/
theorem recL_finds {l : List ClT} {c : ClT} (h : recE l c = 0) : findC (recL l c) c.r c.e = some c ∧ ∀ x ∈ l, findC (recL l c) x.r x.e = some x :=
  ⟨findC_mem (recL_right h) ((recL_mem h c).2 (.inl rfl)), fun x hx => findC_mem (recL_right h) ((recL_mem h x).2 (.inr hx))⟩
end Go.Proofs.Ytjpmmbmhkpgjcab

/- What is kept, and records (chapter 15), as lists. -/
namespace Go.Proofs.Ytjpmmbmhkpgjcab
open Nums Sums
set_option linter.unusedVariables false
set_option maxRecDepth 100000
structure KeT where
  e : Int
  g : Int
  l : List ItT
  k : List ClT
def newK : KeT := ⟨1, 1, [], []⟩
def zeroKe : KeT := ⟨0, 0, [], []⟩
/-- Is an item the one that names a log's leader? -/
def isLd (g : Int) (x : ItT) : Bool := decide (x.p = g) && decide (x.e.k = 3) && decide (x.e.m.e = g)
def leadL (g : Int) (l : List ItT) : Int := if g = 1 then 1 else ((l.find? (isLd g)).map fun x => x.e.m.n).getD 0
def rightKe (t : KeT) : Bool :=
  decide (1 ≤ t.e) && decide (t.e ≤ 900000000) && decide (1 ≤ t.g) && decide (t.g ≤ t.e) && rightL t.l && rightCs t.k && !lowB t.l t.g && decide (0 < leadL t.g t.l)
def leaderK (t : KeT) : Int := if rightKe t = true then leadL t.g t.l else 0
theorem rightKe_iff (t : KeT) : rightKe t = true ↔ (1 ≤ t.e ∧ t.e ≤ 900000000 ∧ 1 ≤ t.g ∧ t.g ≤ t.e ∧ rightL t.l = true ∧ rightCs t.k = true ∧ lowB t.l t.g = false ∧ 0 < leadL t.g t.l) := by
  unfold rightKe
  simp only [Bool.and_eq_true, decide_eq_true_eq, Bool.not_eq_true']
  constructor
  · rintro ⟨⟨⟨⟨⟨⟨⟨h1, h2⟩, h3⟩, h4⟩, h5⟩, h6⟩, h7⟩, h8⟩; exact ⟨h1, h2, h3, h4, h5, h6, h7, h8⟩
  · rintro ⟨h1, h2, h3, h4, h5, h6, h7, h8⟩; exact ⟨⟨⟨⟨⟨⟨⟨h1, h2⟩, h3⟩, h4⟩, h5⟩, h6⟩, h7⟩, h8⟩
structure ReT where
  k : Int
  e : Int
  f : Int
  x : ItT
  l : List ItT
  c : ClT
def eqIB (a b : ItT) : Bool := decide (a.p = b.p) && eqEB a.e b.e
theorem eqIB_iff (a b : ItT) : eqIB a b = true ↔ a = b := by
  unfold eqIB
  rw [Bool.and_eq_true, decide_eq_true_eq, eqEB_iff]
  cases a; cases b; simp
def mayR (r : ReT) : Bool :=
  if r.k = 1 then decide (1 ≤ r.e) && decide (r.e ≤ 900000000) && decide (r.f = 0) && (eqIB r.x zeroI && eqCB r.c zeroC) && decide (r.l.length = 0)
  else if r.k = 2 then decide (r.e = 0) && decide (r.f = 0) && rightI r.x && decide (r.l.length = 0) && eqCB r.c zeroC
  else if r.k = 3 then decide (1 ≤ r.e) && decide (r.e ≤ 900000000) && (decide (0 ≤ r.f) && decide (r.f ≤ 2000)) && (eqIB r.x zeroI && eqCB r.c zeroC) && rightL r.l
  else if r.k = 4 then decide (r.e = 0) && decide (r.f = 0) && eqIB r.x zeroI && decide (r.l.length = 0) && rightC r.c
  else false
/-- What a record makes, ahead of the last look. -/
def kpX (t : KeT) (r : ReT) : KeT :=
  if r.k = 1 then { t with e := r.e }
  else if r.k = 2 then { t with l := t.l ++ [r.x] }
  else if r.k = 3 then { t with e := r.e, g := r.e, l := t.l.take r.f.toNat ++ r.l }
  else { t with k := recL t.k r.c }
/-- What refuses a record. -/
def kpW (t : KeT) (r : ReT) : Int :=
  if r.k = 1 then (if r.e < t.e then 140 else 0)
  else if r.k = 2 then (if r.x.p ≠ t.g ∨ mayE t.l r.x ≠ 0 then 140 else 0)
  else if r.k = 3 then (if r.e < t.e then 140 else if (t.l.length : Int) < r.f then 141 else 0)
  else (if recE t.k r.c ≠ 0 then 140 else 0)
def kpE (t : KeT) (r : ReT) : Int :=
  if rightKe t = false then 1 else if mayR r = false then 140 else if kpW t r ≠ 0 then kpW t r else if rightKe (kpX t r) = false then 140 else 0
def kpO (t : KeT) (r : ReT) : KeT := if kpE t r = 0 then kpX t r else zeroKe
theorem kpE_ok {t : KeT} {r : ReT} (h : kpE t r = 0) : rightKe t = true ∧ mayR r = true ∧ kpW t r = 0 ∧ rightKe (kpX t r) = true ∧ kpO t r = kpX t r := by
  have h0 : kpO t r = kpX t r := by unfold kpO; rw [if_pos h]
  unfold kpE at h
  by_cases h1 : rightKe t = false
  · rw [if_pos h1] at h; cases h
  rw [if_neg h1] at h
  by_cases h2 : mayR r = false
  · rw [if_pos h2] at h; cases h
  rw [if_neg h2] at h
  by_cases h3 : kpW t r ≠ 0
  · rw [if_pos h3] at h; exact absurd h h3
  rw [if_neg h3] at h
  by_cases h4 : rightKe (kpX t r) = false
  · rw [if_pos h4] at h; cases h
  exact ⟨by simpa using h1, by simpa using h2, Classical.not_not.1 h3, by simpa using h4, h0⟩
theorem mayR_kinds {r : ReT} (h : mayR r = true) : r.k = 1 ∨ r.k = 2 ∨ r.k = 3 ∨ r.k = 4 := by
  unfold mayR at h
  by_cases h1 : r.k = 1; exact .inl h1
  by_cases h2 : r.k = 2; exact .inr (.inl h2)
  by_cases h3 : r.k = 3; exact .inr (.inr (.inl h3))
  by_cases h4 : r.k = 4; exact .inr (.inr (.inr h4))
  rw [if_neg h1, if_neg h2, if_neg h3, if_neg h4] at h
  cases h
/-- How many items stay. -/
def stayN (t : KeT) (r : ReT) : Int := if r.k = 3 then r.f else t.l.length
theorem kp_right {t : KeT} {r : ReT} (h : kpE t r = 0) :
    rightKe t = true ∧ rightKe (kpO t r) = true ∧ t.e ≤ (kpO t r).e ∧ t.g ≤ (kpO t r).g ∧ 0 ≤ stayN t r ∧ stayN t r ≤ t.l.length ∧ stayN t r ≤ (kpO t r).l.length ∧ (kpO t r).l.take (stayN t r).toNat = t.l.take (stayN t r).toNat ∧ t.k.length ≤ (kpO t r).k.length := by
  obtain ⟨h1, h2, h3, h4, h5⟩ := kpE_ok h
  rw [h5]
  refine ⟨h1, h4, ?_⟩
  have hk := (rightKe_iff t).1 h1
  rcases mayR_kinds h2 with e | e | e | e
  · unfold kpW at h3
    rw [if_pos e] at h3
    have hlt : ¬ r.e < t.e := fun x => by rw [if_pos x] at h3; cases h3
    unfold kpX stayN
    rw [if_pos e, if_neg (by omega)]
    exact ⟨by show t.e ≤ r.e; omega, by show t.g ≤ t.g; omega, by omega, by omega, by show (t.l.length : Int) ≤ t.l.length; omega, rfl, by show t.k.length ≤ t.k.length; omega⟩
  · unfold kpX stayN
    rw [if_neg (by omega), if_pos e, if_neg (by omega)]
    refine ⟨by show t.e ≤ t.e; omega, by show t.g ≤ t.g; omega, by omega, by omega, ?_, ?_, by show t.k.length ≤ t.k.length; omega⟩
    · show (t.l.length : Int) ≤ ((t.l ++ [r.x]).length : Nat); rw [List.length_append]; omega
    · show (t.l ++ [r.x]).take _ = _; rw [Int.toNat_natCast, List.take_append_of_le_length (Nat.le_refl _)]
  · unfold kpW at h3
    rw [if_neg (by omega), if_neg (by omega), if_pos e] at h3
    have hlt : ¬ r.e < t.e := fun x => by rw [if_pos x] at h3; cases h3
    rw [if_neg hlt] at h3
    have hf : ¬ (t.l.length : Int) < r.f := fun x => by rw [if_pos x] at h3; cases h3
    have hf0 : 0 ≤ r.f := by
      unfold mayR at h2
      rw [if_neg (by omega), if_neg (by omega), if_pos e] at h2
      simp only [Bool.and_eq_true, decide_eq_true_eq] at h2
      omega
    unfold kpX stayN
    rw [if_neg (by omega), if_neg (by omega), if_pos e, if_pos e]
    refine ⟨by show t.e ≤ r.e; omega, by show t.g ≤ r.e; omega, by omega, by omega, ?_, ?_, by show t.k.length ≤ t.k.length; omega⟩
    · show r.f ≤ ((t.l.take r.f.toNat ++ r.l).length : Nat); rw [List.length_append, List.length_take]; omega
    · show (t.l.take r.f.toNat ++ r.l).take _ = _
      rw [List.take_append_of_le_length (by rw [List.length_take]; omega), List.take_take, Nat.min_self]
  · unfold kpW at h3
    rw [if_neg (by omega), if_neg (by omega), if_neg (by omega)] at h3
    have hr : recE t.k r.c = 0 := Classical.not_not.1 fun x => by rw [if_pos x] at h3; cases h3
    unfold kpX stayN
    rw [if_neg (by omega), if_neg (by omega), if_neg (by omega), if_neg (by omega)]
    exact ⟨by show t.e ≤ t.e; omega, by show t.g ≤ t.g; omega, by omega, by omega, by show (t.l.length : Int) ≤ t.l.length; omega, rfl, (recL_length hr).1⟩
theorem kp_no {t : KeT} {r : ReT} (h : kpE t r ≠ 0) : kpO t r = zeroKe := by unfold kpO; rw [if_neg h]
end Go.Proofs.Ytjpmmbmhkpgjcab

/- Heads and signed heads held against each other by == and !=. -/
namespace Go.Proofs.Ytjpmmbmhkpgjcab
open Go.RowKit Sums Nums
set_option linter.unusedVariables false
set_option linter.unusedSimpArgs false
set_option maxRecDepth 100000
theorem sizeOfDD (w : World) : (sizeOf 27).run Try.prog w = .ok 32 w := by
  cases hq : Try.prog.info? 27 with
  | none => have := size23; simp [hq] at this
  | some i => have := size23; simp [hq] at this; simp [sizeOf, typeInfo, hq, this]
theorem sizeOfHH (w : World) : (sizeOf 34).run Try.prog w = .ok 36 w := by
  cases hq : Try.prog.info? 34 with
  | none => have := sizeH; simp [hq] at this
  | some i => have := sizeH; simp [hq] at this; simp [sizeOf, typeInfo, hq, this]
theorem cut_list (l : List Value) (off n : Nat) (m : List Value) (h : (l.drop off).take n = m) : l.toArray.extract off (off + n) = m.toArray := by
  rw [← h, List.extract_toArray, List.extract_eq_take_drop, Nat.add_sub_cancel_left]
theorem part_dig (l : List Value) (off : Nat) (m : List Value) (h : (l.drop off).take 32 = m) (w : World) : (Go.part 27 l.toArray off).run Try.prog w = .ok (.agg m.toArray) w := by
  have e := cut_list l off 32 m h
  simp only [Go.part, isAgg, run_underlying Try.underlying27, sizeOfDD, Sem.run_bind, Sem.run_pure, Result.andThen_ok, if_true, e]
theorem part_head (l : List Value) (off : Nat) (m : List Value) (h : (l.drop off).take 36 = m) (w : World) : (Go.part 34 l.toArray off).run Try.prog w = .ok (.agg m.toArray) w := by
  have e := cut_list l off 36 m h
  simp only [Go.part, isAgg, run_underlying Try.underlying34, sizeOfHH, Sem.run_bind, Sem.run_pure, Result.andThen_ok, if_true, e]
theorem part_int (l : List Value) (off : Nat) (v : Value) (h : l[off]? = some v) (w : World) : (Go.part 3 l.toArray off).run Try.prog w = .ok v w := by
  simp [Go.part, isAgg, run_underlying Try.underlying3, h]
theorem heldH : Try.prog.stoodInHeld 34 = false := by kernel_rfl
theorem heldS : Try.prog.stoodInHeld 36 = false := by kernel_rfl
theorem hcells_d (h : HdT) (hd : h.d.length = 32) : ((hcells h).drop 3).take 32 = cellsOf h.d := by
  show (cellsOf h.d ++ [Value.int .i64 h.t]).take 32 = _
  rw [List.take_left' (by rw [cellsOf_length, hd])]
theorem hcells_t (h : HdT) (hd : h.d.length = 32) : (hcells h)[35]? = some (.int .i64 h.t) := by
  unfold hcells
  rw [List.getElem?_append_right (by simp [cellsOf_length, hd])]
  simp [cellsOf_length, hd]
theorem scells_h (s : SgT) (hd : s.h.d.length = 32) : ((scells s).drop 0).take 36 = hcells s.h := by
  unfold scells
  rw [List.drop_zero, List.append_assoc, List.take_left' (hcells_length _ hd)]
theorem scells_n (s : SgT) (hd : s.h.d.length = 32) : (scells s)[36]? = some (.int .i64 s.n) := by
  unfold scells
  rw [List.append_assoc, List.getElem?_append_right (by rw [hcells_length _ hd]; omega), hcells_length _ hd]
  rfl
theorem scells_g (s : SgT) (hd : s.h.d.length = 32) (hg : s.g.length = 32) : ((scells s).drop 37).take 32 = cellsOf s.g := by
  unfold scells
  rw [List.drop_left' (by simp [hcells_length _ hd]), List.take_of_length_le (by rw [cellsOf_length, hg]; omega)]
theorem equalHead (d : Nat) (a b : HdT) (ha : a.d.length = 32) (hb : b.d.length = 32) (x : Bool) (hx : x = true ↔ a = b) (w : World) : (Op.equalIn (d + 4) 34 (.agg (hcells a).toArray) (.agg (hcells b).toArray)).run Try.prog w = .ok x w := by
  have hf : Try.prog.fieldsOf 34 = #[{ name := "Region", type := 3, offset := 0, embedded := false, tag := "", pkgPath := "", byteOffset := 0 }, { name := "Epoch", type := 3, offset := 1, embedded := false, tag := "", pkgPath := "", byteOffset := 8 }, { name := "Size", type := 3, offset := 2, embedded := false, tag := "", pkgPath := "", byteOffset := 16 }, { name := "Root", type := 27, offset := 3, embedded := false, tag := "", pkgPath := "", byteOffset := 24 }, { name := "Tick", type := 3, offset := 35, embedded := false, tag := "", pkgPath := "", byteOffset := 56 }] := by
    unfold Program.fieldsOf; rw [Try.underlying34]
  have p0 := fun (h : HdT) W => part_int (hcells h) 0 (.int .i64 h.r) rfl W
  have p1 := fun (h : HdT) W => part_int (hcells h) 1 (.int .i64 h.e) rfl W
  have p2 := fun (h : HdT) W => part_int (hcells h) 2 (.int .i64 h.s) rfl W
  have p3a := fun W => part_dig (hcells a) 3 _ (hcells_d a ha) W
  have p3b := fun W => part_dig (hcells b) 3 _ (hcells_d b hb) W
  have p4a := fun W => part_int (hcells a) 35 _ (hcells_t a ha) W
  have p4b := fun W => part_int (hcells b) 35 _ (hcells_t b hb) W
  have ei := fun (x y : Int) W => run_equalIn_int (P := Try.prog) W (d + 2) 3 .i64 .i64 x y Try.underlying3
  have ed : ∀ W, (Op.equalIn (d + 3) 27 (.agg (cellsOf a.d).toArray) (.agg (cellsOf b.d).toArray)).run Try.prog W = .ok (a.d == b.d) W := fun W => run_equalIn_bytes (P := Try.prog) W (d + 1) 27 5 32 Try.underlying27 Try.underlying5 sizeOf5 a.d b.d ha hb
  rw [run_equalIn_struct w (d + 3) 34 _ _ (by rw [hf]; exact Try.underlying34) heldH, hf]
  obtain ⟨b0, h0⟩ : ∃ x, (a.r == b.r) = x := ⟨_, rfl⟩
  obtain ⟨b1, h1⟩ : ∃ x, (a.e == b.e) = x := ⟨_, rfl⟩
  obtain ⟨b2, h2⟩ : ∃ x, (a.s == b.s) = x := ⟨_, rfl⟩
  obtain ⟨b3, h3⟩ : ∃ x, (a.d == b.d) = x := ⟨_, rfl⟩
  obtain ⟨b4, h4⟩ : ∃ x, (a.t == b.t) = x := ⟨_, rfl⟩
  have hq : x = (b0 && b1 && b2 && b3 && b4) := by
    rw [← h0, ← h1, ← h2, ← h3, ← h4, Bool.eq_iff_iff]
    rw [hx]
    simp only [Bool.and_eq_true, beq_iff_eq]
    constructor
    · rintro rfl; simp
    · rintro ⟨⟨⟨⟨e0, e1⟩, e2⟩, e3⟩, e4⟩
      cases a; cases b
      simp only at e0 e1 e2 e3 e4
      rw [e0, e1, e2, e3, e4]
  have x0 := ei a.r b.r
  have x1 := ei a.e b.e
  have x2 := ei a.s b.s
  have x4 := ei a.t b.t
  rw [h0] at x0
  rw [h1] at x1
  rw [h2] at x2
  rw [h3] at ed
  rw [h4] at x4
  rw [hq]
  obtain ⟨A, hA⟩ : ∃ A, (hcells a).toArray = A := ⟨_, rfl⟩
  obtain ⟨B, hB⟩ : ∃ B, (hcells b).toArray = B := ⟨_, rfl⟩
  have p0a := p0 a
  have p0b := p0 b
  have p1a := p1 a
  have p1b := p1 b
  have p2a := p2 a
  have p2b := p2 b
  rw [hA] at p0a p1a p2a p3a p4a
  rw [hB] at p0b p1b p2b p3b p4b
  rw [hA, hB]
  obtain ⟨DA, hDA⟩ : ∃ D, (cellsOf a.d).toArray = D := ⟨_, rfl⟩
  obtain ⟨DB, hDB⟩ : ∃ D, (cellsOf b.d).toArray = D := ⟨_, rfl⟩
  rw [hDA] at p3a ed
  rw [hDB] at p3b ed
  simp [Op.eqFields, p0a, p0b, p1a, p1b, p2a, p2b, p3a, p3b, p4a, p4b, x0, x1, x2, x4, ed]
  cases b0 <;> cases b1 <;> cases b2 <;> cases b3 <;> cases b4 <;> simp
theorem equalSigned (d : Nat) (a b : SgT) (ha : a.h.d.length = 32) (hb : b.h.d.length = 32) (ga : a.g.length = 32) (gb : b.g.length = 32) (x : Bool) (hx : x = true ↔ a = b) (w : World) : (Op.equalIn (d + 5) 36 (.agg (scells a).toArray) (.agg (scells b).toArray)).run Try.prog w = .ok x w := by
  have hf : Try.prog.fieldsOf 36 = #[{ name := "Head", type := 34, offset := 0, embedded := false, tag := "", pkgPath := "", byteOffset := 0 }, { name := "Node", type := 3, offset := 36, embedded := false, tag := "", pkgPath := "", byteOffset := 64 }, { name := "Tag", type := 27, offset := 37, embedded := false, tag := "", pkgPath := "", byteOffset := 72 }] := by
    unfold Program.fieldsOf; rw [Try.underlying36]
  obtain ⟨b0, hb0⟩ : ∃ x : Bool, x = true ↔ a.h = b.h := by
    by_cases h : a.h = b.h
    · exact ⟨true, by simp [h]⟩
    · exact ⟨false, by simp [h]⟩
  have p0a := fun W => part_head (scells a) 0 _ (scells_h a ha) W
  have p0b := fun W => part_head (scells b) 0 _ (scells_h b hb) W
  have p1a := fun W => part_int (scells a) 36 _ (scells_n a ha) W
  have p1b := fun W => part_int (scells b) 36 _ (scells_n b hb) W
  have p2a := fun W => part_dig (scells a) 37 _ (scells_g a ha ga) W
  have p2b := fun W => part_dig (scells b) 37 _ (scells_g b hb gb) W
  have x0 : ∀ W, (Op.equalIn (d + 4) 34 (.agg (hcells a.h).toArray) (.agg (hcells b.h).toArray)).run Try.prog W = .ok b0 W := fun W => equalHead d a.h b.h ha hb b0 hb0 W
  have x1 := fun W => run_equalIn_int (P := Try.prog) W (d + 3) 3 .i64 .i64 a.n b.n Try.underlying3
  have x2 : ∀ W, (Op.equalIn (d + 4) 27 (.agg (cellsOf a.g).toArray) (.agg (cellsOf b.g).toArray)).run Try.prog W = .ok (a.g == b.g) W := fun W => run_equalIn_bytes (P := Try.prog) W (d + 2) 27 5 32 Try.underlying27 Try.underlying5 sizeOf5 a.g b.g ga gb
  rw [run_equalIn_struct w (d + 4) 36 _ _ (by rw [hf]; exact Try.underlying36) heldS, hf]
  obtain ⟨b1, h1⟩ : ∃ x, (a.n == b.n) = x := ⟨_, rfl⟩
  obtain ⟨b2, h2⟩ : ∃ x, (a.g == b.g) = x := ⟨_, rfl⟩
  have hq : x = (b0 && b1 && b2) := by
    rw [← h1, ← h2, Bool.eq_iff_iff]
    rw [hx]
    simp only [Bool.and_eq_true, beq_iff_eq, hb0]
    constructor
    · rintro rfl; simp
    · rintro ⟨⟨e0, e1⟩, e2⟩
      cases a; cases b
      simp only at e0 e1 e2
      rw [e0, e1, e2]
  rw [h1] at x1
  rw [h2] at x2
  rw [hq]
  obtain ⟨A, hA⟩ : ∃ A, (scells a).toArray = A := ⟨_, rfl⟩
  obtain ⟨B, hB⟩ : ∃ B, (scells b).toArray = B := ⟨_, rfl⟩
  rw [hA] at p0a p1a p2a
  rw [hB] at p0b p1b p2b
  rw [hA, hB]
  obtain ⟨DA, hDA⟩ : ∃ D, (cellsOf a.g).toArray = D := ⟨_, rfl⟩
  obtain ⟨DB, hDB⟩ : ∃ D, (cellsOf b.g).toArray = D := ⟨_, rfl⟩
  rw [hDA] at p2a x2
  rw [hDB] at p2b x2
  obtain ⟨EA, hEA⟩ : ∃ D, (hcells a.h).toArray = D := ⟨_, rfl⟩
  obtain ⟨EB, hEB⟩ : ∃ D, (hcells b.h).toArray = D := ⟨_, rfl⟩
  rw [hEA] at p0a x0
  rw [hEB] at p0b x0
  simp [Op.eqFields, p0a, p0b, p1a, p1b, p2a, p2b, x0, x1, x2]
  cases b0 <;> cases b1 <;> cases b2 <;> simp
end Go.Proofs.Ytjpmmbmhkpgjcab

/- What a record that is not an adoption makes of what is right is right. -/
namespace Go.Proofs.Ytjpmmbmhkpgjcab
open Nums Sums
set_option linter.unusedVariables false
set_option maxRecDepth 100000
theorem kpE_3k {t : KeT} {r : ReT} (h : rightKe t = true) (h2 : mayR r = true) (h3 : kpW t r ≠ 0) : kpE t r = kpW t r := by unfold kpE; rw [if_neg (by rw [h]; decide), if_neg (by rw [h2]; decide), if_pos h3]
theorem kpE_4k {t : KeT} {r : ReT} (h : rightKe t = true) (h2 : mayR r = true) (h3 : kpW t r = 0) : kpE t r = if rightKe (kpX t r) = false then 140 else 0 := by unfold kpE; rw [if_neg (by rw [h]; decide), if_neg (by rw [h2]; decide), if_neg (by rw [h3]; decide)]
theorem lead_more {g : Int} {l k : List ItT} (h : 0 < leadL g l) : 0 < leadL g (l ++ k) := by
  unfold leadL at h ⊢
  split at h
  · rename_i h1; rw [if_pos h1]; decide
  · rename_i h1
    rw [if_neg h1, List.find?_append]
    cases hf : l.find? (isLd g) with
    | none => rw [hf] at h; cases h
    | some x => rw [hf] at h; exact h
theorem kp_keeps {t : KeT} {r : ReT} (h : rightKe t = true) (hm : mayR r = true) (hw : kpW t r = 0) (h3 : r.k ≠ 3) : rightKe (kpX t r) = true := by
  have hk := (rightKe_iff t).1 h
  obtain ⟨a1, a2, a3, a4, a5, a6, a7, a8⟩ := hk
  rcases mayR_kinds hm with e | e | e | e
  · unfold kpW at hw
    rw [if_pos e] at hw
    have hlt : ¬ r.e < t.e := fun x => by rw [if_pos x] at hw; cases hw
    have hre : r.e ≤ 900000000 := by
      unfold mayR at hm
      rw [if_pos e] at hm
      simp only [Bool.and_eq_true, decide_eq_true_eq] at hm
      exact hm.1.1.1.2
    unfold kpX
    rw [if_pos e, rightKe_iff]
    exact ⟨by show 1 ≤ r.e; omega, hre, a3, by show t.g ≤ r.e; omega, a5, a6, a7, a8⟩
  · unfold kpW at hw
    rw [if_neg (by omega), if_pos e] at hw
    have hx : r.x.p = t.g ∧ mayE t.l r.x = 0 := Classical.not_not.1 fun x => by
      rw [if_pos (by rcases Classical.not_and_iff_not_or_not.1 x with q | q; exact .inl q; exact .inr q)] at hw; cases hw
    obtain ⟨b1, b2, b3, b4, b5⟩ := may_ok hx.2
    unfold kpX
    rw [if_neg (by omega), if_pos e, rightKe_iff]
    refine ⟨a1, a2, a3, a4, right_snoc hx.2, a6, ?_, lead_more a8⟩
    show lowB (t.l ++ [r.x]) t.g = false
    unfold lowB
    rw [List.getLast?_append]
    simp
    omega
  · exact absurd e h3
  · unfold kpW at hw
    rw [if_neg (by omega), if_neg (by omega), if_neg (by omega)] at hw
    have hr : recE t.k r.c = 0 := Classical.not_not.1 fun x => by rw [if_pos x] at hw; cases hw
    unfold kpX
    rw [if_neg (by omega), if_neg (by omega), if_neg (by omega), rightKe_iff]
    exact ⟨a1, a2, a3, a4, a5, recL_right hr, a7, a8⟩
theorem kpE_5k {t : KeT} {r : ReT} (h : rightKe t = true) (h2 : mayR r = true) (h3 : kpW t r = 0) (hk : r.k ≠ 3) : kpE t r = 0 := by
  rw [kpE_4k h h2 h3, if_neg (by rw [kp_keeps h h2 h3 hk]; decide)]
end Go.Proofs.Ytjpmmbmhkpgjcab
