/- Texts of our own that the row of WalTwo leans on, part 18. -/
import Derived.Test.YtdnnhmihigdnkaaDoorWalTwoJ4
import Derived.Test.YtdnnhmihigdnkaaDoorWalTwoJ8
import Derived.OpenShut

/- Bytes that came in. -/
namespace Go.Proofs.YtdnnhmihigdnkaaDoor
open Go.RowKit Nums
set_option linter.unusedVariables false
set_option maxRecDepth 100000

end Go.Proofs.YtdnnhmihigdnkaaDoor
