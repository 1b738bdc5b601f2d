/- Texts of our own that the row of KeepClaims leans on, part 28. -/
import Derived.Test.YtjpmmbmhkpgjcabKeepClaimsJ7
import Derived.Test.YtjpmmbmhkpgjcabKeepClaimsJ17
import Derived.OpenShut

/- Bytes that came in. -/
namespace Go.Proofs.Ytjpmmbmhkpgjcab
open Go.RowKit Nums
set_option linter.unusedVariables false
set_option maxRecDepth 100000

end Go.Proofs.Ytjpmmbmhkpgjcab
