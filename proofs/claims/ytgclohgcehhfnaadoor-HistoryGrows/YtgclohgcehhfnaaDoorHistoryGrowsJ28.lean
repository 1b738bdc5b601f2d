/- Texts of our own that the row of HistoryGrows leans on, part 28. -/
import Derived.Test.YtgclohgcehhfnaaDoorHistoryGrowsJ6
import Derived.Test.YtgclohgcehhfnaaDoorHistoryGrowsJ17
import Derived.OpenShut

/- Bytes that came in. -/
namespace Go.Proofs.YtgclohgcehhfnaaDoor
open Go.RowKit Nums
set_option linter.unusedVariables false
set_option maxRecDepth 100000

end Go.Proofs.YtgclohgcehhfnaaDoor
