/- Texts of our own that the row of PathCrosses leans on, part 21. -/
import Derived.Test.YtkmedlfbkddmoaaDoorProg
/- Numbers that an int holds. -/
namespace Go.Proofs.YtkmedlfbkddmoaaDoor
set_option maxRecDepth 100000
def In64 (z : Int) : Prop := -9223372036854775808 ≤ z ∧ z ≤ 9223372036854775807
end Go.Proofs.YtkmedlfbkddmoaaDoor
