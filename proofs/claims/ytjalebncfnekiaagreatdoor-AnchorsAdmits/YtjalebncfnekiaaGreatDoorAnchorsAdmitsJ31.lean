/- Texts of our own that the row of AnchorsAdmits leans on, part 31. -/
import Derived.Test.YtjalebncfnekiaaGreatDoorAnchorsAdmitsJ6
import Derived.Test.YtjalebncfnekiaaGreatDoorAnchorsAdmitsJ17
import Derived.OpenShut
/- Bytes that came in. -/
namespace Go.Proofs.YtjalebncfnekiaaGreatDoor
open Go.RowKit Nums
set_option linter.unusedVariables false
set_option maxRecDepth 100000
end Go.Proofs.YtjalebncfnekiaaGreatDoor
