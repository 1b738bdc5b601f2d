/- Texts of our own that the row of HistoryFirst leans on, part 28. -/
import Derived.Test.YtgclohgcehhfnabDoorHistoryFirstJ6
import Derived.Test.YtgclohgcehhfnabDoorHistoryFirstJ17
import Derived.OpenShut

/- Bytes that came in. -/
namespace Go.Proofs.YtgclohgcehhfnabDoor
open Go.RowKit Nums
set_option linter.unusedVariables false
set_option maxRecDepth 100000

end Go.Proofs.YtgclohgcehhfnabDoor
