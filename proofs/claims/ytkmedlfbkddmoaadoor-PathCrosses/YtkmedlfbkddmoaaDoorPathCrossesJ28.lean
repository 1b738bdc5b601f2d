/- Texts of our own that the row of PathCrosses leans on, part 28. -/
import Derived.Test.YtkmedlfbkddmoaaDoorPathCrossesJ6
import Derived.Test.YtkmedlfbkddmoaaDoorPathCrossesJ17
import Derived.OpenShut
/- Bytes that came in. -/
namespace Go.Proofs.YtkmedlfbkddmoaaDoor
open Go.RowKit Nums
set_option linter.unusedVariables false
set_option maxRecDepth 100000
end Go.Proofs.YtkmedlfbkddmoaaDoor
