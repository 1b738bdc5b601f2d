/- Texts of our own that the row of AnchorsGrows leans on, part 28. -/
import Derived.Test.YtjalebncfnekiaaDoorAnchorsGrowsJ6
import Derived.Test.YtjalebncfnekiaaDoorAnchorsGrowsJ17
import Derived.OpenShut
/- Bytes that came in. -/
namespace Go.Proofs.YtjalebncfnekiaaDoor
open Go.RowKit Nums
set_option linter.unusedVariables false
set_option maxRecDepth 100000
end Go.Proofs.YtjalebncfnekiaaDoor
