/- Texts of our own that the row of ClaimsRise leans on, part 11. -/
import Derived.Test.YtieklabpdalahabClaimsRiseJ3
import Derived.Test.YtieklabpdalahabClaimsRiseJ7
import Derived.Test.YtieklabpdalahabProg
import Derived.WalkSpells
import Derived.WalkLawsBesides
import Derived.OpenShut

/- What sha.turned answers: a word turned round to the right. -/
namespace Go.Proofs.Ytieklabpdalahab
open Go.RowKit Sums
set_option maxRecDepth 100000
set_option linter.unusedVariables false

end Go.Proofs.Ytieklabpdalahab
