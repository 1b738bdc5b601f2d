/- Texts of our own that the row of HistoryProofs leans on, part 28. -/
import Derived.Test.YtgclohgcehhfnaaDoorHistoryProofsJ6
import Derived.Test.YtgclohgcehhfnaaDoorHistoryProofsJ17
import Derived.OpenShut

/- Bytes that came in. -/
namespace Go.Proofs.YtgclohgcehhfnaaDoor
open Go.RowKit Nums
set_option linter.unusedVariables false
set_option maxRecDepth 100000

end Go.Proofs.YtgclohgcehhfnaaDoor
