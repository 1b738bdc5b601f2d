/- Texts of our own that the row of KeepReads leans on, part 34. -/
import Derived.Test.YtjpmmbmhkpgjcaaKeepReadsJ21
import Derived.Test.YtjpmmbmhkpgjcaaKeepReadsJ33
import Derived.Maps.OwnSet
import Derived.DeepKeys4

/- The program's Enough: who has recorded, as a map of addresses. -/
namespace Go.Proofs.Ytjpmmbmhkpgjcaa
open Go.RowKit Nums Sums Go.Maps
set_option linter.unusedVariables false
set_option linter.unusedSimpArgs false
set_option maxRecDepth 100000

end Go.Proofs.Ytjpmmbmhkpgjcaa
