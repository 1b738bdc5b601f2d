/- What the document's Text, Leaf and Knot answer. -/
import Derived.Test.YtkmndchbmbhlhaaDoorLeafs
import Derived.Test.YtkmndchbmbhlhaaDoorRefSum
namespace Go.Proofs.YtkmndchbmbhlhaaDoor
open Go.RowKit Sums
set_option linter.unusedVariables false
set_option linter.unusedSimpArgs false

set_option maxHeartbeats 1000000 in
theorem refText_any (l : List UInt8) (hl : l.length = 32) (w : World) (x : ByteArray) (HX : Hid (x = ⟨l.toArray⟩)) (A : List Value) (HAL : Hid (A = cellsOf l)) :
    Calls Tryd.prog 22 #[.agg A.toArray] w fun e w' => e = .returned (.string x) ∧ Below w.heap.size w w' := by
  have c0 : ∀ W, W.rangeAt w.heap.size 0 A → Sem.run Tryd.prog (convert 38 9 (.slice (some ⟨w.heap.size, 0, none⟩) 32 32)) W = .ok (.string x) W := fun W h => by
    rw [HX.out]; exact conv_dig W _ l hl (by rw [← HAL.out]; exact h)
  have s0 := fun W => slice_all W w.heap.size
  have c1 := c0 (w.alloc (.cells A.toArray 24)) (range_row (heap_alloc_new w _))
  clear c0
  go_enter Tryd.func22, Tryd.ntmps22
  go_wp2
  go_ret
  exact ⟨rfl, (Below.refl _ _).alloc (Nat.le_refl _) _⟩
end Go.Proofs.YtkmndchbmbhlhaaDoor
