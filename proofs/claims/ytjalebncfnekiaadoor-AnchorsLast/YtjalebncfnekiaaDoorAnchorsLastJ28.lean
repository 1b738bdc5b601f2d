/- Texts of our own that the row of AnchorsLast leans on, part 28. -/
import Derived.Test.YtjalebncfnekiaaDoorAnchorsLastJ6
import Derived.Test.YtjalebncfnekiaaDoorAnchorsLastJ17
import Derived.OpenShut

/- Bytes that came in. -/
namespace Go.Proofs.YtjalebncfnekiaaDoor
open Go.RowKit Nums
set_option linter.unusedVariables false
set_option maxRecDepth 100000

end Go.Proofs.YtjalebncfnekiaaDoor
