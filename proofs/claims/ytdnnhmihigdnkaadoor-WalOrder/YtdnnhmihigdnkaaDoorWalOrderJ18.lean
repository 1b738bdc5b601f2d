/- Texts of our own that the row of WalOrder leans on, part 18. -/
import Derived.Test.YtdnnhmihigdnkaaDoorWalOrderJ4
import Derived.Test.YtdnnhmihigdnkaaDoorWalOrderJ8
import Derived.OpenShut

/- Bytes that came in. -/
namespace Go.Proofs.YtdnnhmihigdnkaaDoor
open Go.RowKit Nums
set_option linter.unusedVariables false
set_option maxRecDepth 100000

end Go.Proofs.YtdnnhmihigdnkaaDoor
