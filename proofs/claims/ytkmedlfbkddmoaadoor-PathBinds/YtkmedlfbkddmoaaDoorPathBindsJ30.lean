/- Texts of our own that the row of PathBinds leans on, part 30. -/
import Derived.Test.YtkmedlfbkddmoaaDoorPathBindsJ25
import Derived.Test.YtkmedlfbkddmoaaDoorPathBindsJ29
import Derived.Deep.Slices

/- A slice of items that came in. -/
namespace Go.Proofs.YtkmedlfbkddmoaaDoor
open Go.RowKit Nums Go.ChangeShapes
set_option linter.unusedVariables false
set_option linter.unusedSimpArgs false
set_option maxRecDepth 100000
variable {H : Type} {enc : TypeId × Value → H} {W : World} {base : Nat} {sp : TypeId → Bool} {held : Bool} {fuel : Nat} {x : DataW H × List MemPlace}
theorem CmI.ok {z : ItT} (h : CmI z) : OkE z.e := ⟨h.e.h.h.d, h.e.h.g, h.e.m.d⟩
end Go.Proofs.YtkmedlfbkddmoaaDoor

/- A number that came in. -/
namespace Go.Proofs.YtkmedlfbkddmoaaDoor
open Go.RowKit Nums
set_option maxRecDepth 100000

end Go.Proofs.YtkmedlfbkddmoaaDoor
