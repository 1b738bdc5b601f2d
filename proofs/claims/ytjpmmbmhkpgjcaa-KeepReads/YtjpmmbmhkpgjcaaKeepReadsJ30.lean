/- Texts of our own that the row of KeepReads leans on, part 30. -/
import Derived.Test.YtjpmmbmhkpgjcaaKeepReadsJ7
import Derived.Test.YtjpmmbmhkpgjcaaKeepReadsJ17
import Derived.OpenShut

/- Bytes that came in. -/
namespace Go.Proofs.Ytjpmmbmhkpgjcaa
open Go.RowKit Nums
set_option linter.unusedVariables false
set_option maxRecDepth 100000

end Go.Proofs.Ytjpmmbmhkpgjcaa
