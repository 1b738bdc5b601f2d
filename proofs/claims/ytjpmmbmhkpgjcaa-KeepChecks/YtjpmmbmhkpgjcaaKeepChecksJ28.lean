/- Texts of our own that the row of KeepChecks leans on, part 28. -/
import Derived.Test.YtjpmmbmhkpgjcaaKeepChecksJ7
import Derived.Test.YtjpmmbmhkpgjcaaKeepChecksJ17
import Derived.OpenShut
/- Bytes that came in. -/
namespace Go.Proofs.Ytjpmmbmhkpgjcaa
open Go.RowKit Nums
set_option linter.unusedVariables false
set_option maxRecDepth 100000
end Go.Proofs.Ytjpmmbmhkpgjcaa
