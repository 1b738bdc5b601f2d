/- Texts of our own that the row of KeepClaims leans on, part 32. -/
import Derived.Test.YtjpmmbmhkpgjcabKeepClaimsJ21
import Derived.Test.YtjpmmbmhkpgjcabKeepClaimsJ31
import Derived.Maps.OwnSet
import Derived.DeepKeys4

/- The program's Enough: who has recorded, as a map of addresses. -/
namespace Go.Proofs.Ytjpmmbmhkpgjcab
open Go.RowKit Nums Sums Go.Maps
set_option linter.unusedVariables false
set_option linter.unusedSimpArgs false
set_option maxRecDepth 100000

end Go.Proofs.Ytjpmmbmhkpgjcab
