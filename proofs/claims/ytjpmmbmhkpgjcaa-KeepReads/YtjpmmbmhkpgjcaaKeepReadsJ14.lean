/- Texts of our own that the row of KeepReads leans on, part 14. -/
import Derived.Test.YtjpmmbmhkpgjcaaKeepReadsJ13
import Derived.Lib.BufferWrite
import Derived.OwnWalk
import Derived.Lib.AppendStr

/- What sha.message answers: the parts' bytes, and what fills them up to whole blocks. -/
namespace Go.Proofs.Ytjpmmbmhkpgjcaa
open Go.RowKit Sums
set_option maxRecDepth 100000
set_option linter.unusedVariables false
set_option linter.unusedSimpArgs false
/-- A slice of texts that can be read. -/
def Texts (w : World) (a : Option Addr) (len : Nat) (ss : List ByteArray) : Prop :=
  ss.length = len ∧ (len = 0 ∨ ∃ b off, a = some ⟨b, off, none⟩ ∧ b < w.heap.size ∧ ∀ i, (hi : i < ss.length) → w.cell? ⟨b, off + i, none⟩ = some (.string ss[i]))
theorem Texts.keep {w w' : World} {a : Option Addr} {len : Nat} {ss : List ByteArray} (h : Texts w a len ss) (hb : Below w.heap.size w w') : Texts w' a len ss := by
  refine ⟨h.1, ?_⟩
  rcases h.2 with h0 | ⟨b, off, rfl, hlt, hc⟩
  · exact .inl h0
  · exact .inr ⟨b, off, rfl, Nat.lt_of_lt_of_le hlt hb.size, fun i hi => by rw [hb.cell (p := ⟨b, off + i, none⟩) hlt]; exact hc i hi⟩
/-- What lies in the row when k texts have been copied. -/
def filled (l : List UInt8) (n : Nat) : List UInt8 := l ++ List.replicate (n - l.length) 0
end Go.Proofs.Ytjpmmbmhkpgjcaa

/- What the document's message answers: a text's bytes, and what fills them up to whole blocks. -/
namespace Go.Proofs.Ytjpmmbmhkpgjcaa
open Go.RowKit Sums
set_option maxRecDepth 100000
set_option linter.unusedVariables false
set_option linter.unusedSimpArgs false

end Go.Proofs.Ytjpmmbmhkpgjcaa
