/- Texts of our own that the row of HistoryMay leans on, part 28. -/
import Derived.Test.YtgclohgcehhfnaaHistoryMayJ6
import Derived.Test.YtgclohgcehhfnaaHistoryMayJ17
import Derived.OpenShut

/- Bytes that came in. -/
namespace Go.Proofs.Ytgclohgcehhfnaa
open Go.RowKit Nums
set_option linter.unusedVariables false
set_option maxRecDepth 100000

end Go.Proofs.Ytgclohgcehhfnaa
