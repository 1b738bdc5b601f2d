/- Texts of our own that the row of PathMakes leans on, part 26. -/
import Derived.Test.YtkmedlfbkddmoaaGreatDoorPathMakesJ8
import Derived.Test.YtkmedlfbkddmoaaGreatDoorPathMakesJ19
import Derived.OpenShut
/- Bytes that came in. -/
namespace Go.Proofs.YtkmedlfbkddmoaaGreatDoor
open Go.RowKit Nums
set_option linter.unusedVariables false
set_option maxRecDepth 100000
end Go.Proofs.YtkmedlfbkddmoaaGreatDoor
