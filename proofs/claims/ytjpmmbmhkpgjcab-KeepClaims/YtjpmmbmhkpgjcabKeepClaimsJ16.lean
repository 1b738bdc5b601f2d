/- Texts of our own that the row of KeepClaims leans on, part 16. -/
import Derived.Test.YtjpmmbmhkpgjcabKeepClaimsJ5
import Derived.Test.YtjpmmbmhkpgjcabKeepClaimsJ10
import Derived.Test.YtjpmmbmhkpgjcabKeepClaimsJ15

/- What the document's small functions on heads answer: is a head right; numbers and digests. -/
namespace Go.Proofs.Ytjpmmbmhkpgjcab
open Go.RowKit Sums Nums
set_option linter.unusedVariables false
set_option linter.unusedSimpArgs false
set_option maxRecDepth 100000
/-! Heads in memory: three numbers, a digest, a number. -/
def hcells (h : HdT) : List Value := [.int .i64 h.r, .int .i64 h.e, .int .i64 h.s] ++ cellsOf h.d ++ [.int .i64 h.t]
theorem hcells_length (h : HdT) (hd : h.d.length = 32) : (hcells h).length = 36 := by simp [hcells, cellsOf_length, hd]
def scells (s : SgT) : List Value := hcells s.h ++ [.int .i64 s.n] ++ cellsOf s.g
theorem scells_length (s : SgT) (hd : s.h.d.length = 32) (hg : s.g.length = 32) : (scells s).length = 69 := by simp [scells, hcells_length _ hd, cellsOf_length, hg]
/-- What the parts of a head's row read as. -/
structure HRow (W : World) (g o : Nat) (h : HdT) : Prop where
  r : W.cell? ⟨g, o, none⟩ = some (.int .i64 h.r)
  e : W.cell? ⟨g, o + 1, none⟩ = some (.int .i64 h.e)
  s : W.cell? ⟨g, o + 2, none⟩ = some (.int .i64 h.s)
  d : W.rangeAt g (o + 3) (cellsOf h.d)
  t : W.cell? ⟨g, o + 35, none⟩ = some (.int .i64 h.t)
theorem hrow_of {W : World} {g o : Nat} {h : HdT} (hd : h.d.length = 32) (hr : W.rangeAt g o (hcells h)) : HRow W g o h := by
  refine ⟨?_, ?_, ?_, ?_, ?_⟩
  · have := hr 0 (.int .i64 h.r) rfl; simpa using this
  · exact hr 1 (.int .i64 h.e) rfl
  · exact hr 2 (.int .i64 h.s) rfl
  · intro j v hj
    have hlt := (List.getElem?_eq_some_iff.1 hj).1
    have := hr (3 + j) v (by
      unfold hcells
      rw [List.append_assoc, List.getElem?_append_right (by simp), List.getElem?_append_left (by simpa using hlt)]
      simpa using hj)
    rw [Nat.add_assoc]; exact this
  · have := hr 35 (.int .i64 h.t) (by
      unfold hcells
      rw [List.getElem?_append_right (by simp [cellsOf_length, hd])]
      simp [cellsOf_length, hd])
    exact this
theorem hrow_new (w : World) (h : HdT) (hd : h.d.length = 32) (C : Array Value) (HC : Hid (C = (hcells h).toArray)) (t : TypeId) : HRow (w.alloc (.cells C t)) w.heap.size 0 h := by
  refine hrow_of hd ?_
  intro j v hj
  rw [Nat.zero_add, cell_of_row _ _ j _ t (0, 0) (heap_alloc_new w _), HC.out]
  simpa using hj
end Go.Proofs.Ytjpmmbmhkpgjcab
