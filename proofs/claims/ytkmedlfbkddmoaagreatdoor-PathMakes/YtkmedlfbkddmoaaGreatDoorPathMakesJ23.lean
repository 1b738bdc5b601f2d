/- Texts of our own that the row of PathMakes leans on, part 23. -/
import Derived.Test.YtkmedlfbkddmoaaGreatDoorProg
/- Numbers that an int holds. -/
namespace Go.Proofs.YtkmedlfbkddmoaaGreatDoor
set_option maxRecDepth 100000
def In64 (z : Int) : Prop := -9223372036854775808 ≤ z ∧ z ≤ 9223372036854775807
end Go.Proofs.YtkmedlfbkddmoaaGreatDoor
