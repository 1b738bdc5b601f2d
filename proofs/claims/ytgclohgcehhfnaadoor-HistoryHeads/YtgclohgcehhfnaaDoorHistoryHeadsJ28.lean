/- Texts of our own that the row of HistoryHeads leans on, part 28. -/
import Derived.Test.YtgclohgcehhfnaaDoorHistoryHeadsJ6
import Derived.Test.YtgclohgcehhfnaaDoorHistoryHeadsJ17
import Derived.OpenShut

/- Bytes that came in. -/
namespace Go.Proofs.YtgclohgcehhfnaaDoor
open Go.RowKit Nums
set_option linter.unusedVariables false
set_option maxRecDepth 100000

end Go.Proofs.YtgclohgcehhfnaaDoor
