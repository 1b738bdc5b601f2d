/- Texts of our own that the row of KeepClaims leans on, part 23. -/
import Derived.Test.YtjpmmbmhkpgjcabKeepClaimsJ4
import Derived.Test.YtjpmmbmhkpgjcabProg
import Derived.WalkKit
import Derived.Lib.BitFns
import Derived.Lib.Walk

/- What tree.Split answers: the greatest power of 2 below a number. -/
namespace Go.Proofs.Ytjpmmbmhkpgjcab
open Go.RowKit
set_option maxRecDepth 100000
set_option linter.unusedVariables false
set_option linter.unusedSimpArgs false

end Go.Proofs.Ytjpmmbmhkpgjcab
