/- Texts of our own that the row of DiskApart leans on, part 16. -/
import Derived.Test.YticljiffagobnabDiskApartJ6
import Derived.Test.YticljiffagobnabDiskApartJ15
import Derived.BigQuiet
import Derived.Stop.BytesEq
import Derived.Deep.MidRow
import Derived.OneCell
import Derived.Laws.BitsAllLaws
import Derived.OwnWalk

/- What sha.Of answers: the sum of the parts' bytes, one part behind the other. -/
namespace Go.Proofs.Yticljiffagobnab
open Go.RowKit Sums
set_option maxRecDepth 100000
set_option linter.unusedVariables false
set_option linter.unusedSimpArgs false
/-- The first i words' bytes, and noughts behind them. -/
def part (l : List Int) (i : Nat) : List UInt8 := (l.take i).flatMap bytes4 ++ List.replicate (32 - 4 * i) 0
end Go.Proofs.Yticljiffagobnab

/- What sha.Empty, sha.Leaf and sha.Knot answer. -/
namespace Go.Proofs.Yticljiffagobnab
open Go.RowKit Sums
set_option maxRecDepth 100000
set_option linter.unusedVariables false
set_option linter.unusedSimpArgs false

end Go.Proofs.Yticljiffagobnab

/- Digests held against one another; sums of texts that lie somewhere. -/
namespace Go.Proofs.Yticljiffagobnab
open Go.RowKit Sums
set_option maxRecDepth 100000
set_option linter.unusedVariables false

end Go.Proofs.Yticljiffagobnab

/- Laws of memory: variables that are arrays, made, read and written; digests and keys held against one another. -/
namespace Go.Proofs.Yticljiffagobnab
open Go.RowKit Sums
set_option maxRecDepth 100000
set_option linter.unusedVariables false
set_option linter.unusedSimpArgs false
/-- What a new variable leaves. -/
structure Made (g : Nat) (Z : Array Value) (t : TypeId) (w w' : World) : Prop where
  new : g = w.heap.size
  row : w'.heap[g]? = some (.cells Z t (0, 0))
  below : Below w.heap.size w w'
end Go.Proofs.Yticljiffagobnab

/- Rows of bytes: made, and written byte by byte; the new world is a letter. -/
namespace Go.Proofs.Yticljiffagobnab
open Go.RowKit Sums
set_option maxRecDepth 100000
set_option linter.unusedVariables false
set_option linter.unusedSimpArgs false
theorem wpList_make_row {ops : Array Oper} {rest : List Oper} {o : Oper} {a : Act} {w : World} {Q : Exit → Act → World → Prop} (hg : o.guard = none) (l c : Operand) (hop : o.op = Op.makeSlice 23 l c) (n : Nat) (hl : a.eval l = .int .i64 (n : Int)) (hc : a.eval c = .int .i64 (n : Int)) (hn : n ≤ 1000000)
    (h : ∀ g w', Hid (Made g (cellsOf (List.replicate n 0)).toArray 5 w w') → wpList Try.prog ops Q rest (a.put o.dst (.slice (some ⟨g, 0, none⟩) n n)) w') : wpList Try.prog ops Q (o :: rest) a w := by
  obtain ⟨i0, hi, hz0, hz1, hz2⟩ := info_parts info5'
  refine wpList_make_full w hg l c 23 hop w.heap.size 5 i0 (.int .u8 0) 1 Try.underlying23 hi hz0 hz1 .i64 .i64 _ _ n hl hc rfl rfl (by rw [hz2]; omega) (by unfold maxLen; omega) (Nat.le_refl _) ?_
  intro w' hown hgr
  refine h w.heap.size w' ⟨rfl, ?_, (Below.refl _ _).grown hgr (Nat.le_refl _) (by intro k hk; cases hk)⟩
  have e : (madeCells (Value.int .u8 0).cells (n * 1)).toList = cellsOf (List.replicate n 0) := by rw [Nat.mul_one]; exact cells_made n
  rw [e] at hown
  exact own_row hown
end Go.Proofs.Yticljiffagobnab
