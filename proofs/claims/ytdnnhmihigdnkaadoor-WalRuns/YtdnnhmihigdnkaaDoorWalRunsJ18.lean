/- Texts of our own that the row of WalRuns leans on, part 18. -/
import Derived.Test.YtdnnhmihigdnkaaDoorWalRunsJ4
import Derived.Test.YtdnnhmihigdnkaaDoorWalRunsJ8
import Derived.OpenShut

/- Bytes that came in. -/
namespace Go.Proofs.YtdnnhmihigdnkaaDoor
open Go.RowKit Nums
set_option linter.unusedVariables false
set_option maxRecDepth 100000

end Go.Proofs.YtdnnhmihigdnkaaDoor
