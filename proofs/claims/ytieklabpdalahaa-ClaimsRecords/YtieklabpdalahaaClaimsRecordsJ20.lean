/- Texts of our own that the row of ClaimsRecords leans on, part 20. -/
import Derived.Test.YtieklabpdalahaaClaimsRecordsJ18
import Derived.Test.YtieklabpdalahaaClaimsRecordsJ19

/- What the document's Verify and Parts answer. -/
namespace Go.Proofs.Ytieklabpdalahaa
open Go.RowKit Sums Nums
set_option linter.unusedVariables false
set_option linter.unusedSimpArgs false
set_option maxRecDepth 100000

end Go.Proofs.Ytieklabpdalahaa

/- What the document's Parts answers. -/
namespace Go.Proofs.Ytieklabpdalahaa
open Go.RowKit Sums Nums
set_option linter.unusedVariables false
set_option linter.unusedSimpArgs false
set_option maxRecDepth 100000

end Go.Proofs.Ytieklabpdalahaa

/- What the document's Get answers. -/
namespace Go.Proofs.Ytieklabpdalahaa
open Go.RowKit Sums Nums
set_option linter.unusedVariables false
set_option linter.unusedSimpArgs false
set_option maxRecDepth 100000

end Go.Proofs.Ytieklabpdalahaa

/- What the document's GetSigned answers. -/
namespace Go.Proofs.Ytieklabpdalahaa
open Go.RowKit Sums Nums
set_option linter.unusedVariables false
set_option linter.unusedSimpArgs false
set_option maxRecDepth 100000

end Go.Proofs.Ytieklabpdalahaa

/- Claims, entries and items as bytes, as the document defines them. -/
namespace Go.Proofs.Ytieklabpdalahaa
open Nums Sums
set_option linter.unusedVariables false
set_option maxRecDepth 100000
/-! Claims. -/
structure ClT where
  r : Int
  e : Int
  n : Int
  s : Int
  d : List UInt8
def zeroC : ClT := ⟨0, 0, 0, 0, List.replicate 32 0⟩
def eqCB (a b : ClT) : Bool := decide (a.r = b.r) && decide (a.e = b.e) && decide (a.n = b.n) && decide (a.s = b.s) && decide (a.d = b.d)
theorem eqCB_iff (a b : ClT) : eqCB a b = true ↔ a = b := by
  cases a; cases b
  unfold eqCB
  simp only [Bool.and_eq_true, decide_eq_true_eq, ClT.mk.injEq]
  constructor
  · rintro ⟨⟨⟨⟨h1, h2⟩, h3⟩, h4⟩, h5⟩; exact ⟨h1, h2, h3, h4, h5⟩
  · rintro ⟨h1, h2, h3, h4, h5⟩; exact ⟨⟨⟨⟨h1, h2⟩, h3⟩, h4⟩, h5⟩
/-- Is a claim right? -/
def rightC (c : ClT) : Bool := decide (1 ≤ c.r) && decide (c.r ≤ 5) && decide (1 ≤ c.e) && decide (c.e ≤ 900000000) && decide (1 ≤ c.n) && decide (c.n ≤ 3) && decide (0 ≤ c.s) && decide (c.s ≤ 100000)
/-! Entries. -/
structure EnT where
  k : Int
  c : Int
  s : Int
  t : ByteArray
  h : SgT
  m : ClT
/-- The digests in it have 32 bytes. -/
structure OkE (x : EnT) : Prop where
  h : x.h.h.d.length = 32
  g : x.h.g.length = 32
  m : x.m.d.length = 32
end Go.Proofs.Ytieklabpdalahaa

/- Claims and addresses as the document defines them (chapter 12). -/
namespace Go.Proofs.Ytieklabpdalahaa
open Nums Sums
set_option linter.unusedVariables false
set_option maxRecDepth 100000
/-- An address. -/
structure AdT where
  r : Int
  n : Int
theorem AdT.ext' {a b : AdT} (h1 : a.r = b.r) (h2 : a.n = b.n) : a = b := by cases a; cases b; simp_all
def eqAB (a b : AdT) : Bool := decide (a.r = b.r) && decide (a.n = b.n)
/-- Is an address in a row? -/
def memA (a : AdT) (l : List AdT) : Bool := l.any (eqAB a)
end Go.Proofs.Ytieklabpdalahaa

/- Heads and signed heads held against each other by == and !=. -/
namespace Go.Proofs.Ytieklabpdalahaa
open Go.RowKit Sums Nums
set_option linter.unusedVariables false
set_option linter.unusedSimpArgs false
set_option maxRecDepth 100000
theorem sizeOfDD (w : World) : (sizeOf 24).run Try.prog w = .ok 32 w := by
  cases hq : Try.prog.info? 24 with
  | none => have := size23; simp [hq] at this
  | some i => have := size23; simp [hq] at this; simp [sizeOf, typeInfo, hq, this]
theorem cut_list (l : List Value) (off n : Nat) (m : List Value) (h : (l.drop off).take n = m) : l.toArray.extract off (off + n) = m.toArray := by
  rw [← h, List.extract_toArray, List.extract_eq_take_drop, Nat.add_sub_cancel_left]
theorem part_dig (l : List Value) (off : Nat) (m : List Value) (h : (l.drop off).take 32 = m) (w : World) : (Go.part 24 l.toArray off).run Try.prog w = .ok (.agg m.toArray) w := by
  have e := cut_list l off 32 m h
  simp only [Go.part, isAgg, run_underlying Try.underlying24, sizeOfDD, Sem.run_bind, Sem.run_pure, Result.andThen_ok, if_true, e]
theorem part_int (l : List Value) (off : Nat) (v : Value) (h : l[off]? = some v) (w : World) : (Go.part 3 l.toArray off).run Try.prog w = .ok v w := by
  simp [Go.part, isAgg, run_underlying Try.underlying3, h]
end Go.Proofs.Ytieklabpdalahaa

/- Claims that are right, found and recorded (chapter 12). -/
namespace Go.Proofs.Ytieklabpdalahaa
open Nums Sums
set_option linter.unusedVariables false
set_option maxRecDepth 100000
def aheadC (a b : ClT) : Bool := decide (a.r < b.r ∨ (a.r = b.r ∧ a.e < b.e))
/-- Are claims right at a place? -/
def okC (l : List ClT) (i : Nat) : Bool :=
  match l[i]? with
  | none => true
  | some x => rightC x && (decide (i = 0) || (match l[i - 1]? with | none => true | some y => aheadC y x))
def rightCK (l : List ClT) (k : Nat) : Bool := (List.range k).all (okC l)
def rightCs (l : List ClT) : Bool := rightCK l l.length
theorem rightCK_succ (l : List ClT) (k : Nat) : rightCK l (k + 1) = (rightCK l k && okC l k) := by
  unfold rightCK
  rw [List.range_succ, List.all_append]
  simp
theorem okC_zero {l : List ClT} (h : 0 < l.length) : okC l 0 = rightC l[0] := by
  unfold okC; rw [List.getElem?_eq_getElem h]; simp
theorem okC_succ {l : List ClT} {j : Nat} (h : j + 1 < l.length) : okC l (j + 1) = (rightC l[j + 1] && aheadC l[j] l[j + 1]) := by
  unfold okC
  rw [List.getElem?_eq_getElem h, Nat.add_sub_cancel, List.getElem?_eq_getElem (show j < l.length by omega)]
  simp
def isC (x : ClT) (r e : Int) : Bool := decide (x.r = r) && decide (x.e = e)
theorem isC_iff (x : ClT) (r e : Int) : isC x r e = true ↔ x.r = r ∧ x.e = e := by unfold isC; rw [Bool.and_eq_true, decide_eq_true_eq, decide_eq_true_eq]
def findC (l : List ClT) (r e : Int) : Option ClT := l.find? fun x => isC x r e
theorem findC_some {l : List ClT} {r e : Int} {x : ClT} (h : findC l r e = some x) : x ∈ l ∧ x.r = r ∧ x.e = e := by
  unfold findC at h
  have h2 : isC x r e = true := by have := List.find?_some h; exact this
  exact ⟨List.mem_of_find?_eq_some h, (isC_iff x r e).1 h2⟩
theorem findC_none {l : List ClT} {r e : Int} (h : findC l r e = none) : ∀ x ∈ l, ¬ (x.r = r ∧ x.e = e) := by
  unfold findC at h
  rw [List.find?_eq_none] at h
  intro x hx hh
  exact h x hx ((isC_iff x r e).2 hh)
def insC (c : ClT) : List ClT → List ClT
  | [] => [c]
  | x :: t => if aheadC c x = true then c :: x :: t else x :: insC c t
theorem mem_insC (c : ClT) : ∀ (l : List ClT) (x : ClT), x ∈ insC c l ↔ x = c ∨ x ∈ l
  | [], x => by simp [insC]
  | y :: t, x => by
    unfold insC
    split
    · simp
    · rw [List.mem_cons, mem_insC c t x, List.mem_cons]
      constructor
      · rintro (h | h | h)
        · exact .inr (.inl h)
        · exact .inl h
        · exact .inr (.inr h)
      · rintro (h | h | h)
        · exact .inr (.inl h)
        · exact .inl h
        · exact .inr (.inr h)
theorem insC_length (c : ClT) : ∀ l : List ClT, (insC c l).length = l.length + 1
  | [] => rfl
  | y :: t => by
    unfold insC
    split
    · rfl
    · rw [List.length_cons, insC_length c t, List.length_cons]
/-- P12.2. -/
def recE (l : List ClT) (c : ClT) : Int :=
  if rightCs l = false ∨ rightC c = false then 110 else match findC l c.r c.e with
  | none => 0
  | some x => if eqCB x c = true then 0 else 111
def recL (l : List ClT) (c : ClT) : List ClT := if recE l c = 0 then (if (findC l c.r c.e).isSome then l else insC c l) else []
theorem recE_ok {l : List ClT} {c : ClT} (h : recE l c = 0) : rightCs l = true ∧ rightC c = true ∧ (findC l c.r c.e = none ∨ findC l c.r c.e = some c) := by
  unfold recE at h
  by_cases h1 : rightCs l = false ∨ rightC c = false
  · rw [if_pos h1] at h; omega
  rw [if_neg h1] at h
  have h2 : rightCs l = true ∧ rightC c = true := ⟨by cases hr : rightCs l <;> simp_all, by cases hr : rightC c <;> simp_all⟩
  refine ⟨h2.1, h2.2, ?_⟩
  cases hf : findC l c.r c.e with
  | none => exact .inl rfl
  | some x =>
    rw [hf] at h
    by_cases hx : eqCB x c = true
    · rw [(eqCB_iff x c).1 hx]; exact .inr rfl
    · simp only at h
      rw [if_neg hx] at h
      omega
theorem recL_mem {l : List ClT} {c : ClT} (h : recE l c = 0) (x : ClT) : x ∈ recL l c ↔ x = c ∨ x ∈ l := by
  obtain ⟨h1, h2, h3⟩ := recE_ok h
  unfold recL
  rw [if_pos h]
  rcases h3 with h3 | h3
  · rw [h3]
    exact mem_insC c l x
  · rw [h3]
    exact ⟨.inr, fun e => by rcases e with rfl | e; exact (findC_some h3).1; exact e⟩
theorem recL_length {l : List ClT} {c : ClT} (h : recE l c = 0) : l.length ≤ (recL l c).length ∧ (recL l c).length ≤ l.length + 1 := by
  unfold recL
  rw [if_pos h]
  split
  · omega
  · rw [insC_length]; omega
end Go.Proofs.Ytieklabpdalahaa
