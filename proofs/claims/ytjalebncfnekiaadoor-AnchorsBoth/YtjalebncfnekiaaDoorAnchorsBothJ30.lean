/- Texts of our own that the row of AnchorsBoth leans on, part 30. -/
import Derived.Test.YtjalebncfnekiaaDoorAnchorsBothJ6
import Derived.Test.YtjalebncfnekiaaDoorAnchorsBothJ17
import Derived.OpenShut

/- Bytes that came in. -/
namespace Go.Proofs.YtjalebncfnekiaaDoor
open Go.RowKit Nums
set_option linter.unusedVariables false
set_option maxRecDepth 100000

end Go.Proofs.YtjalebncfnekiaaDoor
