/- Texts of our own that the row of PathCrosses leans on, part 33. -/
import Derived.Test.YtkmedlfbkddmoaaDoorPathCrossesJ24
import Derived.Test.YtkmedlfbkddmoaaDoorPathCrossesJ32
import Derived.ChangeArms
import Derived.DataReads
/- A slice of digests that came in can be read. -/
namespace Go.Proofs.YtkmedlfbkddmoaaDoor
open Go.RowKit Go.ChangeShapes Go.WideShapes
set_option maxRecDepth 100000
end Go.Proofs.YtkmedlfbkddmoaaDoor
