/- Texts of our own that the row of ClaimsMore leans on, part 20. -/
import Derived.Test.YtieklabpdalahaaClaimsMoreJ18
import Derived.Test.YtieklabpdalahaaClaimsMoreJ19

/- What the document's Verify and Parts answer. -/
namespace Go.Proofs.Ytieklabpdalahaa
open Go.RowKit Sums Nums
set_option linter.unusedVariables false
set_option linter.unusedSimpArgs false
set_option maxRecDepth 100000

end Go.Proofs.Ytieklabpdalahaa

/- What the document's Parts answers. -/
namespace Go.Proofs.Ytieklabpdalahaa
open Go.RowKit Sums Nums
set_option linter.unusedVariables false
set_option linter.unusedSimpArgs false
set_option maxRecDepth 100000

end Go.Proofs.Ytieklabpdalahaa

/- What the document's Get answers. -/
namespace Go.Proofs.Ytieklabpdalahaa
open Go.RowKit Sums Nums
set_option linter.unusedVariables false
set_option linter.unusedSimpArgs false
set_option maxRecDepth 100000

end Go.Proofs.Ytieklabpdalahaa

/- What the document's GetSigned answers. -/
namespace Go.Proofs.Ytieklabpdalahaa
open Go.RowKit Sums Nums
set_option linter.unusedVariables false
set_option linter.unusedSimpArgs false
set_option maxRecDepth 100000

end Go.Proofs.Ytieklabpdalahaa

/- Claims, entries and items as bytes, as the document defines them. -/
namespace Go.Proofs.Ytieklabpdalahaa
open Nums Sums
set_option linter.unusedVariables false
set_option maxRecDepth 100000
/-! Claims. -/
structure ClT where
  r : Int
  e : Int
  n : Int
  s : Int
  d : List UInt8
end Go.Proofs.Ytieklabpdalahaa

/- Claims and addresses as the document defines them (chapter 12). -/
namespace Go.Proofs.Ytieklabpdalahaa
open Nums Sums
set_option linter.unusedVariables false
set_option maxRecDepth 100000
/-- An address. -/
structure AdT where
  r : Int
  n : Int
theorem AdT.ext' {a b : AdT} (h1 : a.r = b.r) (h2 : a.n = b.n) : a = b := by cases a; cases b; simp_all
def eqAB (a b : AdT) : Bool := decide (a.r = b.r) && decide (a.n = b.n)
theorem eqAB_iff (a b : AdT) : eqAB a b = true ↔ a = b := by
  unfold eqAB
  rw [Bool.and_eq_true, decide_eq_true_eq, decide_eq_true_eq]
  exact ⟨fun h => AdT.ext' h.1 h.2, fun h => by rw [h]; exact ⟨rfl, rfl⟩⟩
/-- Is an address in a row? -/
def memA (a : AdT) (l : List AdT) : Bool := l.any (eqAB a)
theorem memA_iff {a : AdT} {l : List AdT} : memA a l = true ↔ a ∈ l := by
  unfold memA
  rw [List.any_eq_true]
  exact ⟨fun ⟨x, hx, e⟩ => by rw [(eqAB_iff a x).1 e]; exact hx, fun h => ⟨a, h, (eqAB_iff a a).2 rfl⟩⟩
def beforeA (a b : AdT) : Bool := decide (a.r < b.r ∨ (a.r = b.r ∧ a.n < b.n))
def insA (a : AdT) : List AdT → List AdT
  | [] => [a]
  | x :: t => if beforeA a x = true then a :: x :: t else x :: insA a t
def addA (l : List AdT) (a : AdT) : List AdT := if memA a l = true then l else insA a l
theorem mem_insA (a : AdT) : ∀ (l : List AdT) (x : AdT), x ∈ insA a l ↔ x = a ∨ x ∈ l
  | [], x => by simp [insA]
  | y :: t, x => by
    unfold insA
    split
    · simp
    · rw [List.mem_cons, mem_insA a t x, List.mem_cons]
      constructor
      · rintro (h | h | h)
        · exact .inr (.inl h)
        · exact .inl h
        · exact .inr (.inr h)
      · rintro (h | h | h)
        · exact .inr (.inl h)
        · exact .inl h
        · exact .inr (.inr h)
theorem mem_addA (l : List AdT) (a x : AdT) : x ∈ addA l a ↔ x = a ∨ x ∈ l := by
  unfold addA
  split
  · rename_i h
    exact ⟨.inr, fun e => by rcases e with rfl | e; exact memA_iff.1 h; exact e⟩
  · exact mem_insA a l x
theorem insA_length (a : AdT) : ∀ l : List AdT, (insA a l).length = l.length + 1
  | [] => rfl
  | y :: t => by
    unfold insA
    split
    · rfl
    · rw [List.length_cons, insA_length a t, List.length_cons]
/-- Has a region recorded? -/
def hasR (l : List AdT) (r : Int) : Bool :=
  (memA ⟨r, 1⟩ l && memA ⟨r, 2⟩ l) || (memA ⟨r, 1⟩ l && memA ⟨r, 3⟩ l) || (memA ⟨r, 2⟩ l && memA ⟨r, 3⟩ l)
def cntR (l : List AdT) (r : Int) : Nat := (if memA ⟨r, 1⟩ l = true then 1 else 0) + (if memA ⟨r, 2⟩ l = true then 1 else 0) + (if memA ⟨r, 3⟩ l = true then 1 else 0)
theorem hasR_cnt (l : List AdT) (r : Int) : hasR l r = decide (2 ≤ cntR l r) := by
  unfold hasR cntR
  cases memA ⟨r, 1⟩ l <;> cases memA ⟨r, 2⟩ l <;> cases memA ⟨r, 3⟩ l <;> simp
/-- Of the regions 1 to k: how many others have recorded? -/
def haveN (region : Int) (l : List AdT) : Nat → Nat
  | 0 => 0
  | k + 1 => haveN region l k + (if ((k + 1 : Nat) : Int) ≠ region ∧ hasR l ((k + 1 : Nat) : Int) = true then 1 else 0)
def enoughB (regions region : Int) (l : List AdT) : Bool :=
  decide (3 ≤ regions ∧ regions ≤ 5 ∧ 1 ≤ region ∧ region ≤ regions) && decide (regions - 1 < 2 * (haveN region l regions.toNat : Int))
theorem enoughB_iff (regions region : Int) (l : List AdT) : enoughB regions region l = true ↔ (3 ≤ regions ∧ regions ≤ 5 ∧ 1 ≤ region ∧ region ≤ regions) ∧ regions - 1 < 2 * (haveN region l regions.toNat : Int) := by
  unfold enoughB
  rw [Bool.and_eq_true, decide_eq_true_eq, decide_eq_true_eq]
theorem hasR_mono {a b : List AdT} (h : ∀ x ∈ a, x ∈ b) {r : Int} (ha : hasR a r = true) : hasR b r = true := by
  unfold hasR at *
  simp only [Bool.or_eq_true, Bool.and_eq_true, memA_iff] at *
  rcases ha with (⟨a1, a2⟩ | ⟨a1, a3⟩) | ⟨a2, a3⟩
  · exact .inl (.inl ⟨h _ a1, h _ a2⟩)
  · exact .inl (.inr ⟨h _ a1, h _ a3⟩)
  · exact .inr ⟨h _ a2, h _ a3⟩
theorem have_mono {region : Int} {a b : List AdT} (h : ∀ x ∈ a, x ∈ b) : ∀ k, haveN region a k ≤ haveN region b k
  | 0 => Nat.le_refl _
  | k + 1 => by
    have ih := have_mono (region := region) h k
    unfold haveN
    by_cases ha : ((k + 1 : Nat) : Int) ≠ region ∧ hasR a ((k + 1 : Nat) : Int) = true
    · rw [if_pos ha, if_pos ⟨ha.1, hasR_mono h ha.2⟩]
      omega
    · rw [if_neg ha]
      omega
theorem enough_more {regions region : Int} {a b : List AdT} (h : ∀ x ∈ a, x ∈ b) (ha : enoughB regions region a = true) : enoughB regions region b = true := by
  rw [enoughB_iff] at *
  have := have_mono (region := region) h regions.toNat
  exact ⟨ha.1, by omega⟩
/-- A row of one node of each region is never enough. -/
theorem enough_ones {regions region node : Int} {l : List AdT} (h : ∀ x ∈ l, x.n = node) : enoughB regions region l = false := by
  have hz : ∀ r, hasR l r = false := fun r => by
    cases hr : hasR l r
    · rfl
    · unfold hasR at hr
      simp only [Bool.or_eq_true, Bool.and_eq_true, memA_iff] at hr
      rcases hr with (⟨a1, a2⟩ | ⟨a1, a3⟩) | ⟨a2, a3⟩
      · have := h _ a1; have := h _ a2; simp at *; omega
      · have := h _ a1; have := h _ a3; simp at *; omega
      · have := h _ a2; have := h _ a3; simp at *; omega
  have hh : ∀ k, haveN region l k = 0 := fun k => by
    induction k with
    | zero => rfl
    | succ k ih =>
      unfold haveN
      rw [ih, if_neg (fun x => by rw [hz] at x; cases x.2)]
  cases he : enoughB regions region l
  · rfl
  · rw [enoughB_iff, hh] at he
    omega
end Go.Proofs.Ytieklabpdalahaa

/- Heads and signed heads held against each other by == and !=. -/
namespace Go.Proofs.Ytieklabpdalahaa
open Go.RowKit Sums Nums
set_option linter.unusedVariables false
set_option linter.unusedSimpArgs false
set_option maxRecDepth 100000
theorem part_int (l : List Value) (off : Nat) (v : Value) (h : l[off]? = some v) (w : World) : (Go.part 3 l.toArray off).run Try.prog w = .ok v w := by
  simp [Go.part, isAgg, run_underlying Try.underlying3, h]
end Go.Proofs.Ytieklabpdalahaa

/- Claims that are right, found and recorded (chapter 12). -/
namespace Go.Proofs.Ytieklabpdalahaa
open Nums Sums
set_option linter.unusedVariables false
set_option maxRecDepth 100000

end Go.Proofs.Ytieklabpdalahaa
