/- Texts of our own that the row of KeepClaims leans on, part 11. -/
import Derived.Test.YtjpmmbmhkpgjcabKeepClaimsJ1
import Derived.Test.YtjpmmbmhkpgjcabKeepClaimsJ4
import Derived.Test.YtjpmmbmhkpgjcabProg
import Derived.WalkSpells
import Derived.WalkLawsBesides
import Derived.OpenShut

/- What sha.turned answers: a word turned round to the right. -/
namespace Go.Proofs.Ytjpmmbmhkpgjcab
open Go.RowKit Sums
set_option maxRecDepth 100000
set_option linter.unusedVariables false

end Go.Proofs.Ytjpmmbmhkpgjcab
