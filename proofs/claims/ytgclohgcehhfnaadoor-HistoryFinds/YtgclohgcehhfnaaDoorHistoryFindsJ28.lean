/- Texts of our own that the row of HistoryFinds leans on, part 28. -/
import Derived.Test.YtgclohgcehhfnaaDoorHistoryFindsJ6
import Derived.Test.YtgclohgcehhfnaaDoorHistoryFindsJ17
import Derived.OpenShut

/- Bytes that came in. -/
namespace Go.Proofs.YtgclohgcehhfnaaDoor
open Go.RowKit Nums
set_option linter.unusedVariables false
set_option maxRecDepth 100000

end Go.Proofs.YtgclohgcehhfnaaDoor
