/- Texts of our own that the row of ClaimsOne leans on, part 20. -/
import Derived.Test.YtieklabpdalahaaClaimsOneJ18
import Derived.Test.YtieklabpdalahaaClaimsOneJ19

/- What the document's Verify and Parts answer. -/
namespace Go.Proofs.Ytieklabpdalahaa
open Go.RowKit Sums Nums
set_option linter.unusedVariables false
set_option linter.unusedSimpArgs false
set_option maxRecDepth 100000

end Go.Proofs.Ytieklabpdalahaa

/- What the document's Parts answers. -/
namespace Go.Proofs.Ytieklabpdalahaa
open Go.RowKit Sums Nums
set_option linter.unusedVariables false
set_option linter.unusedSimpArgs false
set_option maxRecDepth 100000

end Go.Proofs.Ytieklabpdalahaa

/- What the document's Get answers. -/
namespace Go.Proofs.Ytieklabpdalahaa
open Go.RowKit Sums Nums
set_option linter.unusedVariables false
set_option linter.unusedSimpArgs false
set_option maxRecDepth 100000

end Go.Proofs.Ytieklabpdalahaa

/- What the document's GetSigned answers. -/
namespace Go.Proofs.Ytieklabpdalahaa
open Go.RowKit Sums Nums
set_option linter.unusedVariables false
set_option linter.unusedSimpArgs false
set_option maxRecDepth 100000

end Go.Proofs.Ytieklabpdalahaa

/- Claims, entries and items as bytes, as the document defines them. -/
namespace Go.Proofs.Ytieklabpdalahaa
open Nums Sums
set_option linter.unusedVariables false
set_option maxRecDepth 100000
/-! Claims. -/
structure ClT where
  r : Int
  e : Int
  n : Int
  s : Int
  d : List UInt8
def zeroC : ClT := ⟨0, 0, 0, 0, List.replicate 32 0⟩
def eqCB (a b : ClT) : Bool := decide (a.r = b.r) && decide (a.e = b.e) && decide (a.n = b.n) && decide (a.s = b.s) && decide (a.d = b.d)
theorem eqCB_iff (a b : ClT) : eqCB a b = true ↔ a = b := by
  cases a; cases b
  unfold eqCB
  simp only [Bool.and_eq_true, decide_eq_true_eq, ClT.mk.injEq]
  constructor
  · rintro ⟨⟨⟨⟨h1, h2⟩, h3⟩, h4⟩, h5⟩; exact ⟨h1, h2, h3, h4, h5⟩
  · rintro ⟨h1, h2, h3, h4, h5⟩; exact ⟨⟨⟨⟨h1, h2⟩, h3⟩, h4⟩, h5⟩
/-- Is a claim right? -/
def rightC (c : ClT) : Bool := decide (1 ≤ c.r) && decide (c.r ≤ 5) && decide (1 ≤ c.e) && decide (c.e ≤ 900000000) && decide (1 ≤ c.n) && decide (c.n ≤ 3) && decide (0 ≤ c.s) && decide (c.s ≤ 100000)
end Go.Proofs.Ytieklabpdalahaa

/- Claims and addresses as the document defines them (chapter 12). -/
namespace Go.Proofs.Ytieklabpdalahaa
open Nums Sums
set_option linter.unusedVariables false
set_option maxRecDepth 100000
/-- An address. -/
structure AdT where
  r : Int
  n : Int
theorem AdT.ext' {a b : AdT} (h1 : a.r = b.r) (h2 : a.n = b.n) : a = b := by cases a; cases b; simp_all
def eqAB (a b : AdT) : Bool := decide (a.r = b.r) && decide (a.n = b.n)
theorem eqAB_iff (a b : AdT) : eqAB a b = true ↔ a = b := by
  unfold eqAB
  rw [Bool.and_eq_true, decide_eq_true_eq, decide_eq_true_eq]
  exact ⟨fun h => AdT.ext' h.1 h.2, fun h => by rw [h]; exact ⟨rfl, rfl⟩⟩
/-- Is an address in a row? -/
def memA (a : AdT) (l : List AdT) : Bool := l.any (eqAB a)
theorem memA_iff {a : AdT} {l : List AdT} : memA a l = true ↔ a ∈ l := by
  unfold memA
  rw [List.any_eq_true]
  exact ⟨fun ⟨x, hx, e⟩ => by rw [(eqAB_iff a x).1 e]; exact hx, fun h => ⟨a, h, (eqAB_iff a a).2 rfl⟩⟩
def beforeA (a b : AdT) : Bool := decide (a.r < b.r ∨ (a.r = b.r ∧ a.n < b.n))
def insA (a : AdT) : List AdT → List AdT
  | [] => [a]
  | x :: t => if beforeA a x = true then a :: x :: t else x :: insA a t
def addA (l : List AdT) (a : AdT) : List AdT := if memA a l = true then l else insA a l
/-- Has a region recorded? -/
def hasR (l : List AdT) (r : Int) : Bool :=
  (memA ⟨r, 1⟩ l && memA ⟨r, 2⟩ l) || (memA ⟨r, 1⟩ l && memA ⟨r, 3⟩ l) || (memA ⟨r, 2⟩ l && memA ⟨r, 3⟩ l)
def cntR (l : List AdT) (r : Int) : Nat := (if memA ⟨r, 1⟩ l = true then 1 else 0) + (if memA ⟨r, 2⟩ l = true then 1 else 0) + (if memA ⟨r, 3⟩ l = true then 1 else 0)
theorem hasR_cnt (l : List AdT) (r : Int) : hasR l r = decide (2 ≤ cntR l r) := by
  unfold hasR cntR
  cases memA ⟨r, 1⟩ l <;> cases memA ⟨r, 2⟩ l <;> cases memA ⟨r, 3⟩ l <;> simp
/-- Of the regions 1 to k: how many others have recorded? -/
def haveN (region : Int) (l : List AdT) : Nat → Nat
  | 0 => 0
  | k + 1 => haveN region l k + (if ((k + 1 : Nat) : Int) ≠ region ∧ hasR l ((k + 1 : Nat) : Int) = true then 1 else 0)
def othersN (region : Int) : Nat → Nat
  | 0 => 0
  | k + 1 => othersN region k + (if ((k + 1 : Nat) : Int) ≠ region then 1 else 0)
def enoughB (regions region : Int) (l : List AdT) : Bool :=
  decide (3 ≤ regions ∧ regions ≤ 5 ∧ 1 ≤ region ∧ region ≤ regions) && decide (regions - 1 < 2 * (haveN region l regions.toNat : Int))
theorem enoughB_iff (regions region : Int) (l : List AdT) : enoughB regions region l = true ↔ (3 ≤ regions ∧ regions ≤ 5 ∧ 1 ≤ region ∧ region ≤ regions) ∧ regions - 1 < 2 * (haveN region l regions.toNat : Int) := by
  unfold enoughB
  rw [Bool.and_eq_true, decide_eq_true_eq, decide_eq_true_eq]
theorem othersN_out {region : Int} : ∀ (k : Nat), ((k : Nat) : Int) < region → othersN region k = k
  | 0, _ => rfl
  | k + 1, h => by
    unfold othersN
    rw [othersN_out k (by omega), if_pos (by omega)]
theorem othersN_in {region : Int} (h1 : 1 ≤ region) : ∀ (k : Nat), region ≤ (k : Int) → othersN region k + 1 = k
  | 0, h => by omega
  | k + 1, h => by
    unfold othersN
    by_cases e : ((k + 1 : Nat) : Int) = region
    · rw [if_neg (by simp [e]), othersN_out k (by omega)]
    · rw [if_pos e]
      have := othersN_in h1 k (by omega)
      omega
/-- Two rows without a region in common are together no more than the others. -/
theorem have_apart {region : Int} {a b : List AdT} : ∀ (k : Nat), (∀ r : Int, 1 ≤ r → r ≤ (k : Int) → r ≠ region → ¬ (hasR a r = true ∧ hasR b r = true)) → haveN region a k + haveN region b k ≤ othersN region k
  | 0, _ => Nat.le_refl _
  | k + 1, h => by
    have ih := have_apart k (fun r h1 h2 h3 => h r h1 (by omega) h3)
    unfold haveN othersN
    by_cases e : ((k + 1 : Nat) : Int) ≠ region
    · have := h ((k + 1 : Nat) : Int) (by omega) (Int.le_refl _) e
      rw [if_pos e]
      by_cases ha : hasR a ((k + 1 : Nat) : Int) = true
      · have hb : ¬ hasR b ((k + 1 : Nat) : Int) = true := fun hb => this ⟨ha, hb⟩
        rw [if_pos ⟨e, ha⟩, if_neg (fun x => hb x.2)]
        omega
      · rw [if_neg (fun x => ha x.2)]
        split <;> omega
    · rw [if_neg (fun x => e x.1), if_neg (fun x => e x.1), if_neg e]
      omega
theorem hasR_common {a b : List AdT} {r : Int} (ha : hasR a r = true) (hb : hasR b r = true) : ∃ n : Int, 1 ≤ n ∧ n ≤ 3 ∧ (⟨r, n⟩ : AdT) ∈ a ∧ (⟨r, n⟩ : AdT) ∈ b := by
  unfold hasR at ha hb
  simp only [Bool.or_eq_true, Bool.and_eq_true, memA_iff] at ha hb
  rcases ha with (⟨a1, a2⟩ | ⟨a1, a3⟩) | ⟨a2, a3⟩ <;> rcases hb with (⟨b1, b2⟩ | ⟨b1, b3⟩) | ⟨b2, b3⟩
  · exact ⟨1, by omega, by omega, a1, b1⟩
  · exact ⟨1, by omega, by omega, a1, b1⟩
  · exact ⟨2, by omega, by omega, a2, b2⟩
  · exact ⟨1, by omega, by omega, a1, b1⟩
  · exact ⟨1, by omega, by omega, a1, b1⟩
  · exact ⟨3, by omega, by omega, a3, b3⟩
  · exact ⟨2, by omega, by omega, a2, b2⟩
  · exact ⟨3, by omega, by omega, a3, b3⟩
  · exact ⟨2, by omega, by omega, a2, b2⟩
/-- Two rows that are enough for one region have an address in common. -/
theorem enough_meet {regions region : Int} {a b : List AdT} (ha : enoughB regions region a = true) (hb : enoughB regions region b = true) : ∃ x ∈ a, x ∈ b ∧ x.r ≠ region ∧ 1 ≤ x.r ∧ x.r ≤ regions ∧ 1 ≤ x.n ∧ x.n ≤ 3 := by
  obtain ⟨⟨h1, h2, h3, h4⟩, h5⟩ := (enoughB_iff _ _ _).1 ha
  obtain ⟨_, h6⟩ := (enoughB_iff _ _ _).1 hb
  by_cases h : ∃ r : Int, 1 ≤ r ∧ r ≤ regions ∧ r ≠ region ∧ hasR a r = true ∧ hasR b r = true
  · obtain ⟨r, r1, r2, r3, ra, rb⟩ := h
    obtain ⟨n, n1, n2, na, nb⟩ := hasR_common ra rb
    exact ⟨⟨r, n⟩, na, nb, r3, r1, r2, n1, n2⟩
  · exfalso
    have := have_apart (region := region) (a := a) (b := b) regions.toNat (fun r r1 r2 r3 hh => h ⟨r, r1, by omega, r3, hh⟩)
    have := othersN_in h3 regions.toNat (by omega)
    omega
end Go.Proofs.Ytieklabpdalahaa

/- Heads and signed heads held against each other by == and !=. -/
namespace Go.Proofs.Ytieklabpdalahaa
open Go.RowKit Sums Nums
set_option linter.unusedVariables false
set_option linter.unusedSimpArgs false
set_option maxRecDepth 100000
theorem sizeOfDD (w : World) : (sizeOf 24).run Try.prog w = .ok 32 w := by
  cases hq : Try.prog.info? 24 with
  | none => have := size23; simp [hq] at this
  | some i => have := size23; simp [hq] at this; simp [sizeOf, typeInfo, hq, this]
theorem cut_list (l : List Value) (off n : Nat) (m : List Value) (h : (l.drop off).take n = m) : l.toArray.extract off (off + n) = m.toArray := by
  rw [← h, List.extract_toArray, List.extract_eq_take_drop, Nat.add_sub_cancel_left]
theorem part_dig (l : List Value) (off : Nat) (m : List Value) (h : (l.drop off).take 32 = m) (w : World) : (Go.part 24 l.toArray off).run Try.prog w = .ok (.agg m.toArray) w := by
  have e := cut_list l off 32 m h
  simp only [Go.part, isAgg, run_underlying Try.underlying24, sizeOfDD, Sem.run_bind, Sem.run_pure, Result.andThen_ok, if_true, e]
theorem part_int (l : List Value) (off : Nat) (v : Value) (h : l[off]? = some v) (w : World) : (Go.part 3 l.toArray off).run Try.prog w = .ok v w := by
  simp [Go.part, isAgg, run_underlying Try.underlying3, h]
end Go.Proofs.Ytieklabpdalahaa

/- Claims that are right, found and recorded (chapter 12). -/
namespace Go.Proofs.Ytieklabpdalahaa
open Nums Sums
set_option linter.unusedVariables false
set_option maxRecDepth 100000
def aheadC (a b : ClT) : Bool := decide (a.r < b.r ∨ (a.r = b.r ∧ a.e < b.e))
/-- Are claims right at a place? -/
def okC (l : List ClT) (i : Nat) : Bool :=
  match l[i]? with
  | none => true
  | some x => rightC x && (decide (i = 0) || (match l[i - 1]? with | none => true | some y => aheadC y x))
def rightCK (l : List ClT) (k : Nat) : Bool := (List.range k).all (okC l)
def rightCs (l : List ClT) : Bool := rightCK l l.length
theorem rightCK_succ (l : List ClT) (k : Nat) : rightCK l (k + 1) = (rightCK l k && okC l k) := by
  unfold rightCK
  rw [List.range_succ, List.all_append]
  simp
theorem okC_zero {l : List ClT} (h : 0 < l.length) : okC l 0 = rightC l[0] := by
  unfold okC; rw [List.getElem?_eq_getElem h]; simp
theorem okC_succ {l : List ClT} {j : Nat} (h : j + 1 < l.length) : okC l (j + 1) = (rightC l[j + 1] && aheadC l[j] l[j + 1]) := by
  unfold okC
  rw [List.getElem?_eq_getElem h, Nat.add_sub_cancel, List.getElem?_eq_getElem (show j < l.length by omega)]
  simp
def isC (x : ClT) (r e : Int) : Bool := decide (x.r = r) && decide (x.e = e)
theorem isC_iff (x : ClT) (r e : Int) : isC x r e = true ↔ x.r = r ∧ x.e = e := by unfold isC; rw [Bool.and_eq_true, decide_eq_true_eq, decide_eq_true_eq]
def findC (l : List ClT) (r e : Int) : Option ClT := l.find? fun x => isC x r e
theorem findC_some {l : List ClT} {r e : Int} {x : ClT} (h : findC l r e = some x) : x ∈ l ∧ x.r = r ∧ x.e = e := by
  unfold findC at h
  have h2 : isC x r e = true := by have := List.find?_some h; exact this
  exact ⟨List.mem_of_find?_eq_some h, (isC_iff x r e).1 h2⟩
theorem findC_none {l : List ClT} {r e : Int} (h : findC l r e = none) : ∀ x ∈ l, ¬ (x.r = r ∧ x.e = e) := by
  unfold findC at h
  rw [List.find?_eq_none] at h
  intro x hx hh
  exact h x hx ((isC_iff x r e).2 hh)
def insC (c : ClT) : List ClT → List ClT
  | [] => [c]
  | x :: t => if aheadC c x = true then c :: x :: t else x :: insC c t
theorem mem_insC (c : ClT) : ∀ (l : List ClT) (x : ClT), x ∈ insC c l ↔ x = c ∨ x ∈ l
  | [], x => by simp [insC]
  | y :: t, x => by
    unfold insC
    split
    · simp
    · rw [List.mem_cons, mem_insC c t x, List.mem_cons]
      constructor
      · rintro (h | h | h)
        · exact .inr (.inl h)
        · exact .inl h
        · exact .inr (.inr h)
      · rintro (h | h | h)
        · exact .inr (.inl h)
        · exact .inl h
        · exact .inr (.inr h)
theorem insC_length (c : ClT) : ∀ l : List ClT, (insC c l).length = l.length + 1
  | [] => rfl
  | y :: t => by
    unfold insC
    split
    · rfl
    · rw [List.length_cons, insC_length c t, List.length_cons]
/-- P12.2. -/
def recE (l : List ClT) (c : ClT) : Int :=
  if rightCs l = false ∨ rightC c = false then 110 else match findC l c.r c.e with
  | none => 0
  | some x => if eqCB x c = true then 0 else 111
def recL (l : List ClT) (c : ClT) : List ClT := if recE l c = 0 then (if (findC l c.r c.e).isSome then l else insC c l) else []
theorem recE_ok {l : List ClT} {c : ClT} (h : recE l c = 0) : rightCs l = true ∧ rightC c = true ∧ (findC l c.r c.e = none ∨ findC l c.r c.e = some c) := by
  unfold recE at h
  by_cases h1 : rightCs l = false ∨ rightC c = false
  · rw [if_pos h1] at h; omega
  rw [if_neg h1] at h
  have h2 : rightCs l = true ∧ rightC c = true := ⟨by cases hr : rightCs l <;> simp_all, by cases hr : rightC c <;> simp_all⟩
  refine ⟨h2.1, h2.2, ?_⟩
  cases hf : findC l c.r c.e with
  | none => exact .inl rfl
  | some x =>
    rw [hf] at h
    by_cases hx : eqCB x c = true
    · rw [(eqCB_iff x c).1 hx]; exact .inr rfl
    · simp only at h
      rw [if_neg hx] at h
      omega
theorem recL_mem {l : List ClT} {c : ClT} (h : recE l c = 0) (x : ClT) : x ∈ recL l c ↔ x = c ∨ x ∈ l := by
  obtain ⟨h1, h2, h3⟩ := recE_ok h
  unfold recL
  rw [if_pos h]
  rcases h3 with h3 | h3
  · rw [h3]
    exact mem_insC c l x
  · rw [h3]
    exact ⟨.inr, fun e => by rcases e with rfl | e; exact (findC_some h3).1; exact e⟩
theorem recL_length {l : List ClT} {c : ClT} (h : recE l c = 0) : l.length ≤ (recL l c).length ∧ (recL l c).length ≤ l.length + 1 := by
  unfold recL
  rw [if_pos h]
  split
  · omega
  · rw [insC_length]; omega
/-- Two claims that are found at enough nodes are one. -/
theorem one_wins {regions region : Int} {a b : List AdT} (ha : enoughB regions region a = true) (hb : enoughB regions region b = true) (T : AdT → List ClT) {r e : Int} {c d : ClT} (hca : ∀ x ∈ a, findC (T x) r e = some c) (hdb : ∀ x ∈ b, findC (T x) r e = some d) : c = d := by
  obtain ⟨x, h1, h2, _⟩ := enough_meet ha hb
  have := hca x h1
  rw [hdb x h2] at this
  exact (Option.some.inj this).symm
end Go.Proofs.Ytieklabpdalahaa
