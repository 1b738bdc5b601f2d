/- Texts of our own that the row of WalResets leans on, part 18. -/
import Derived.Test.YtdnnhmihigdnkaaDoorWalResetsJ4
import Derived.Test.YtdnnhmihigdnkaaDoorWalResetsJ8
import Derived.OpenShut

/- Bytes that came in. -/
namespace Go.Proofs.YtdnnhmihigdnkaaDoor
open Go.RowKit Nums
set_option linter.unusedVariables false
set_option maxRecDepth 100000

end Go.Proofs.YtdnnhmihigdnkaaDoor
