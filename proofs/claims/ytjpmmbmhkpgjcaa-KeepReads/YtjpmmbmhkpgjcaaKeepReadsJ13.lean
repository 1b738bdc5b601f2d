/- Texts of our own that the row of KeepReads leans on, part 13. -/
import Derived.Test.YtjpmmbmhkpgjcaaKeepReadsJ12
import Derived.Deep.RegionHeld3

/- What sha.schedule answers: W 0 to 63 of a block. -/
namespace Go.Proofs.Ytjpmmbmhkpgjcaa
open Go.RowKit Sums
set_option maxRecDepth 100000
set_option linter.unusedVariables false
set_option linter.unusedSimpArgs false
/-- Bytes that lie in a block from a place on. -/
def Lies (w : World) (b off : Nat) (l : List UInt8) : Prop := ∀ i, (hi : i < l.length) → w.cell? ⟨b, off + i, none⟩ = some (.int .u8 l[i].toNat)
theorem Lies.keep {w w' : World} {b off B : Nat} {l : List UInt8} (h : Lies w b off l) (hb : Below B w w') (hB : b < B) : Lies w' b off l := fun i hi => by
  rw [hb.cell (p := ⟨b, off + i, none⟩) hB]; exact h i hi
theorem Lies.drop {w : World} {b off : Nat} {l : List UInt8} (h : Lies w b off l) (n : Nat) : Lies w b (off + n) (l.drop n) := fun i hi => by
  have := h (n + i) (by simp at hi; omega)
  rw [← Nat.add_assoc] at this
  rw [this]
  simp
theorem Lies.take {w : World} {b off : Nat} {l : List UInt8} (h : Lies w b off l) (n : Nat) : Lies w b off (l.take n) := fun i hi => by
  have := h i (by simp at hi; omega)
  rw [this]
  simp
/-- The words so far, and noughts behind them. -/
def fill (l : List Int) : List Int := l ++ List.replicate (64 - l.length) 0
end Go.Proofs.Ytjpmmbmhkpgjcaa

/- What sha.mixed answers: the state behind a block. -/
namespace Go.Proofs.Ytjpmmbmhkpgjcaa
open Go.RowKit Sums
set_option maxRecDepth 100000
set_option linter.unusedVariables false
set_option linter.unusedSimpArgs false
/-- The table of constants lies where it was laid. -/
def Table (g : Nat) (w : World) : Prop := g < w.heap.size ∧ ∀ k, k < 64 → w.cell? ⟨g, k, none⟩ = some (.int .u32 (kT.getD k 0))
theorem Table.keep {g : Nat} {w w' : World} (h : Table g w) (hb : Below w.heap.size w w') : Table g w' :=
  ⟨Nat.lt_of_lt_of_le h.1 hb.size, fun k hk => by rw [hb.cell (p := ⟨g, k, none⟩) h.1]; exact h.2 k hk⟩
end Go.Proofs.Ytjpmmbmhkpgjcaa

/- What the document's words answers: W 0 to 63 of a block. -/
namespace Go.Proofs.Ytjpmmbmhkpgjcaa
open Go.RowKit Sums
set_option maxRecDepth 100000
set_option linter.unusedVariables false
set_option linter.unusedSimpArgs false

end Go.Proofs.Ytjpmmbmhkpgjcaa

/- What the document's block answers: the state behind a block. -/
namespace Go.Proofs.Ytjpmmbmhkpgjcaa
open Go.RowKit Sums
set_option maxRecDepth 100000
set_option linter.unusedVariables false
set_option linter.unusedSimpArgs false

end Go.Proofs.Ytjpmmbmhkpgjcaa
