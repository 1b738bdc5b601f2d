/- Texts of our own that the row of KeepReads leans on, part 33. -/
import Derived.Test.YtjpmmbmhkpgjcaaKeepReadsJ25
import Derived.Test.YtjpmmbmhkpgjcaaKeepReadsJ27
import Derived.Lib.AppendZerosOnto

/- The library's slices.IndexFunc, Clone and Grow, at addresses and at claims. -/
namespace Go.Proofs.Ytjpmmbmhkpgjcaa
open Go.RowKit Nums Sums
set_option linter.unusedVariables false
set_option linter.unusedSimpArgs false
set_option maxRecDepth 100000

end Go.Proofs.Ytjpmmbmhkpgjcaa

/- The library's slices.Concat of three, at addresses and at claims. -/
namespace Go.Proofs.Ytjpmmbmhkpgjcaa
open Go.RowKit Nums Sums
set_option linter.unusedVariables false
set_option linter.unusedSimpArgs false
set_option maxRecDepth 100000
/-- Three slices, in the cells of a block. -/
structure CatA (w : World) (gs : Nat) (A : Nat → Option Addr) (N C : Nat → Nat) (L : Nat → List AdT) : Prop where
  cell : ∀ k, k < 3 → w.cell? ⟨gs, k, none⟩ = some (.slice (A k) (N k) (C k))
  rd : ∀ k, k < 3 → AReads w (A k) (N k) (C k) (L k)
  nil : ∀ k, k < 3 → A k = none → C k = 0
  lt : gs < w.heap.size
theorem CatA.keep {w w' : World} {gs : Nat} {A : Nat → Option Addr} {N C : Nat → Nat} {L : Nat → List AdT} (h : CatA w gs A N C L) (hb : Below w.heap.size w w') : CatA w' gs A N C L :=
  ⟨fun k hk => by rw [hb.cell h.lt]; exact h.cell k hk, fun k hk => (h.rd k hk).keep hb, h.nil, Nat.lt_of_lt_of_le h.lt hb.size⟩
/-- Three slices, in the cells of a block. -/
structure CatC (w : World) (gs : Nat) (A : Nat → Option Addr) (N C : Nat → Nat) (L : Nat → List ClT) : Prop where
  cell : ∀ k, k < 3 → w.cell? ⟨gs, k, none⟩ = some (.slice (A k) (N k) (C k))
  rd : ∀ k, k < 3 → CReads w (A k) (N k) (C k) (L k)
  nil : ∀ k, k < 3 → A k = none → C k = 0
  lt : gs < w.heap.size
theorem CatC.keep {w w' : World} {gs : Nat} {A : Nat → Option Addr} {N C : Nat → Nat} {L : Nat → List ClT} (h : CatC w gs A N C L) (hb : Below w.heap.size w w') : CatC w' gs A N C L :=
  ⟨fun k hk => by rw [hb.cell h.lt]; exact h.cell k hk, fun k hk => (h.rd k hk).keep hb, h.nil, Nat.lt_of_lt_of_le h.lt hb.size⟩
end Go.Proofs.Ytjpmmbmhkpgjcaa

/- The program's with, at addresses and at claims: a row with one more in its place. -/
namespace Go.Proofs.Ytjpmmbmhkpgjcaa
open Go.RowKit Nums Sums
set_option linter.unusedVariables false
set_option linter.unusedSimpArgs false
set_option maxRecDepth 100000
theorem AReads.drop {w : World} {g o len cap : Nat} {l : List AdT} (h : AReads w (some ⟨g, o, none⟩) len cap l) (k : Nat) (hk : k ≤ len) : AReads w (some ⟨g, o + 2 * k, none⟩) (len - k) (cap - k) (l.drop k) := by
  have h1 := h.ln
  have h2 := h.cp
  have h3 := h.mx
  refine ⟨by rw [List.length_drop]; omega, by omega, by omega, fun x hx => h.ok x (List.mem_of_mem_drop hx), ?_⟩
  by_cases h0 : len - k = 0
  · exact .inl h0
  · refine .inr ⟨_, _, rfl, fun i hi => ?_⟩
    rw [List.length_drop] at hi
    rw [List.getElem_drop]
    have := h.range (k + i) (by omega)
    rwa [Nat.mul_add, ← Nat.add_assoc] at this
theorem CReads.drop {w : World} {g o len cap : Nat} {l : List ClT} (h : CReads w (some ⟨g, o, none⟩) len cap l) (k : Nat) (hk : k ≤ len) : CReads w (some ⟨g, o + 36 * k, none⟩) (len - k) (cap - k) (l.drop k) := by
  have h1 := h.ln
  have h2 := h.cp
  have h3 := h.mx
  refine ⟨by rw [List.length_drop]; omega, by omega, by omega, fun x hx => h.ok x (List.mem_of_mem_drop hx), ?_⟩
  by_cases h0 : len - k = 0
  · exact .inl h0
  · refine .inr ⟨_, _, rfl, fun i hi => ?_⟩
    rw [List.length_drop] at hi
    rw [List.getElem_drop]
    have := h.range (k + i) (by omega)
    rwa [Nat.mul_add, ← Nat.add_assoc] at this
end Go.Proofs.Ytjpmmbmhkpgjcaa

/- The program's with: a row with one more in its place. -/
namespace Go.Proofs.Ytjpmmbmhkpgjcaa
open Go.RowKit Nums Sums
set_option linter.unusedVariables false
set_option linter.unusedSimpArgs false
set_option maxRecDepth 100000

end Go.Proofs.Ytjpmmbmhkpgjcaa

/- The program's with: a row with one more in its place. -/
namespace Go.Proofs.Ytjpmmbmhkpgjcaa
open Go.RowKit Nums Sums
set_option linter.unusedVariables false
set_option linter.unusedSimpArgs false
set_option maxRecDepth 100000

end Go.Proofs.Ytjpmmbmhkpgjcaa

/- The program's claims: a claim that is right, Add, Find. -/
namespace Go.Proofs.Ytjpmmbmhkpgjcaa
open Go.RowKit Nums Sums
set_option linter.unusedVariables false
set_option linter.unusedSimpArgs false
set_option maxRecDepth 100000

end Go.Proofs.Ytjpmmbmhkpgjcaa

/- The program's Find. -/
namespace Go.Proofs.Ytjpmmbmhkpgjcaa
open Go.RowKit Nums Sums
set_option linter.unusedVariables false
set_option linter.unusedSimpArgs false
set_option maxRecDepth 100000

attribute [local go_sem] store_func

end Go.Proofs.Ytjpmmbmhkpgjcaa

/- The program's Check of claims. -/
namespace Go.Proofs.Ytjpmmbmhkpgjcaa
open Go.RowKit Nums Sums
set_option linter.unusedVariables false
set_option linter.unusedSimpArgs false
set_option maxRecDepth 100000

end Go.Proofs.Ytjpmmbmhkpgjcaa

/- The program's Record. -/
namespace Go.Proofs.Ytjpmmbmhkpgjcaa
open Go.RowKit Nums Sums
set_option linter.unusedVariables false
set_option linter.unusedSimpArgs false
set_option maxRecDepth 100000

end Go.Proofs.Ytjpmmbmhkpgjcaa

/- The document's Record. -/
namespace Go.Proofs.Ytjpmmbmhkpgjcaa
open Go.RowKit Nums Sums
set_option linter.unusedVariables false
set_option linter.unusedSimpArgs false
set_option maxRecDepth 100000

end Go.Proofs.Ytjpmmbmhkpgjcaa

/- The document's Fold. -/
namespace Go.Proofs.Ytjpmmbmhkpgjcaa
open Go.RowKit Nums Sums
set_option linter.unusedVariables false
set_option linter.unusedSimpArgs false
set_option maxRecDepth 100000
/-- What Fold hands out. -/
def FoldP (t : KeT) (r : ReT) (w : World) (x : Ending) (w' : World) : Prop := ∃ v', x = .returned (.tuple #[.agg (keA v'), .int .i64 (kpE t r)]) ∧ v'.t = kpO t r ∧ v'.n = v'.l.length ∧ v'.m = v'.k.length ∧ OwnKe w' w.heap.size v' ∧ Below w.heap.size w w'
theorem own_zero (W : World) (B : Nat) : OwnKe W B zeroKv := ⟨⟨rfl, .inl ⟨rfl, rfl⟩⟩, ⟨rfl, .inl ⟨rfl, rfl⟩⟩⟩
theorem FoldP.no {t : KeT} {r : ReT} {w w' : World} {E : Int} (h : kpE t r = E) (h0 : E ≠ 0) (hb : Below w.heap.size w w') : FoldP t r w (.returned (.tuple #[.agg (keA zeroKv), .int .i64 E])) w' :=
  ⟨zeroKv, by rw [h], by rw [kp_no (by rw [h]; exact h0)]; rfl, rfl, rfl, own_zero _ _, hb⟩
end Go.Proofs.Ytjpmmbmhkpgjcaa
