/- Texts of our own that the row of KeepEpochs leans on, part 28. -/
import Derived.Test.YtjpmmbmhkpgjcabKeepEpochsJ7
import Derived.Test.YtjpmmbmhkpgjcabKeepEpochsJ17
import Derived.OpenShut

/- Bytes that came in. -/
namespace Go.Proofs.Ytjpmmbmhkpgjcab
open Go.RowKit Nums
set_option linter.unusedVariables false
set_option maxRecDepth 100000

end Go.Proofs.Ytjpmmbmhkpgjcab
