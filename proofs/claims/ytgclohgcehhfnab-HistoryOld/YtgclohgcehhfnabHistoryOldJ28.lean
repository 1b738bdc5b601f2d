/- Texts of our own that the row of HistoryOld leans on, part 28. -/
import Derived.Test.YtgclohgcehhfnabHistoryOldJ6
import Derived.Test.YtgclohgcehhfnabHistoryOldJ17
import Derived.OpenShut

/- Bytes that came in. -/
namespace Go.Proofs.Ytgclohgcehhfnab
open Go.RowKit Nums
set_option linter.unusedVariables false
set_option maxRecDepth 100000

end Go.Proofs.Ytgclohgcehhfnab
