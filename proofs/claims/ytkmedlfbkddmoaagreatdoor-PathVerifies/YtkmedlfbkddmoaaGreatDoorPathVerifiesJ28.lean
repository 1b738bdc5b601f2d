/- Texts of our own that the row of PathVerifies leans on, part 28. -/
import Derived.Test.YtkmedlfbkddmoaaGreatDoorPathVerifiesJ24
import Derived.Test.YtkmedlfbkddmoaaGreatDoorPathVerifiesJ27
import Derived.Deep.Slices
/- A slice of items that came in. -/
namespace Go.Proofs.YtkmedlfbkddmoaaGreatDoor
open Go.RowKit Nums Go.ChangeShapes
set_option linter.unusedVariables false
set_option linter.unusedSimpArgs false
set_option maxRecDepth 100000
variable {H : Type} {enc : TypeId × Value → H} {W : World} {base : Nat} {sp : TypeId → Bool} {held : Bool} {fuel : Nat} {x : DataW H × List MemPlace}
theorem CmI.ok {z : ItT} (h : CmI z) : OkE z.e := ⟨h.e.h.h.d, h.e.h.g, h.e.m.d⟩
end Go.Proofs.YtkmedlfbkddmoaaGreatDoor
/- A number that came in. -/
namespace Go.Proofs.YtkmedlfbkddmoaaGreatDoor
open Go.RowKit Nums
set_option maxRecDepth 100000
end Go.Proofs.YtkmedlfbkddmoaaGreatDoor
