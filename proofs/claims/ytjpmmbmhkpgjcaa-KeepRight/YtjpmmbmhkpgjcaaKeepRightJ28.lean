/- Texts of our own that the row of KeepRight leans on, part 28. -/
import Derived.Test.YtjpmmbmhkpgjcaaKeepRightJ7
import Derived.Test.YtjpmmbmhkpgjcaaKeepRightJ17
import Derived.OpenShut
/- Bytes that came in. -/
namespace Go.Proofs.Ytjpmmbmhkpgjcaa
open Go.RowKit Nums
set_option linter.unusedVariables false
set_option maxRecDepth 100000
end Go.Proofs.Ytjpmmbmhkpgjcaa
