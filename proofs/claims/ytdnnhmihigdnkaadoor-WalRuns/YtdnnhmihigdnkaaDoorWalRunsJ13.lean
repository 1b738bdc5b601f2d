/- Texts of our own that the row of WalRuns leans on, part 13. -/
import Derived.Test.YtdnnhmihigdnkaaDoorWalRunsJ12
import Derived.Lib.BufferWrite
import Derived.OwnWalk

/- What sha.message answers: the parts' bytes, and what fills them up to whole blocks. -/
namespace Go.Proofs.YtdnnhmihigdnkaaDoor
open Go.RowKit Sums
set_option maxRecDepth 100000
set_option linter.unusedVariables false
set_option linter.unusedSimpArgs false
theorem info5' : (Tryd.prog.info? 5).map (fun i => (i.zero, i.size, i.bytes)) = some (some (.int .u8 0), 1, 1) := by kernel_rfl
theorem take_succ_parts (ss : List ByteArray) (k : Nat) (h : k < ss.length) : ss.take (k + 1) = ss.take k ++ [ss[k]] := by
  rw [List.take_add_one, List.getElem?_eq_getElem h]; rfl
/-- A slice of texts that can be read. -/
def Texts (w : World) (a : Option Addr) (len : Nat) (ss : List ByteArray) : Prop :=
  ss.length = len ∧ (len = 0 ∨ ∃ b off, a = some ⟨b, off, none⟩ ∧ b < w.heap.size ∧ ∀ i, (hi : i < ss.length) → w.cell? ⟨b, off + i, none⟩ = some (.string ss[i]))
theorem Texts.keep {w w' : World} {a : Option Addr} {len : Nat} {ss : List ByteArray} (h : Texts w a len ss) (hb : Below w.heap.size w w') : Texts w' a len ss := by
  refine ⟨h.1, ?_⟩
  rcases h.2 with h0 | ⟨b, off, rfl, hlt, hc⟩
  · exact .inl h0
  · exact .inr ⟨b, off, rfl, Nat.lt_of_lt_of_le hlt hb.size, fun i hi => by rw [hb.cell (p := ⟨b, off + i, none⟩) hlt]; exact hc i hi⟩
theorem own_row {w : World} {B g n : Nat} {l : List UInt8} (h : w.ownsRow B 5 1 (.slice (some ⟨g, 0, none⟩) n n) n (cellsOf l)) : w.heap[g]? = some (.cells (cellsOf l).toArray 5 (0, 0)) := by
  rcases h.2 with ⟨h0, _⟩ | ⟨g', cap, cur, hv, _, hg, _, _, hsz, ht⟩
  · cases h0
  · cases hv
    rw [hg]
    have : cur.toList = cellsOf l := by
      rw [← ht, List.take_of_length_le]
      simp [hsz]
    rw [← this]
theorem cells_made (n : Nat) : (madeCells #[Value.int .u8 0] n).toList = cellsOf (List.replicate n 0) := by
  rw [toList_madeCells_one]; simp [cellsOf]
end Go.Proofs.YtdnnhmihigdnkaaDoor
