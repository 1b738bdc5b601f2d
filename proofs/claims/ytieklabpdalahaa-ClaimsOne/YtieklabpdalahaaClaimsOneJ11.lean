/- Texts of our own that the row of ClaimsOne leans on, part 11. -/
import Derived.Test.YtieklabpdalahaaClaimsOneJ3
import Derived.Test.YtieklabpdalahaaClaimsOneJ7
import Derived.Test.YtieklabpdalahaaProg
import Derived.WalkSpells
import Derived.WalkLawsBesides
import Derived.OpenShut

/- What sha.turned answers: a word turned round to the right. -/
namespace Go.Proofs.Ytieklabpdalahaa
open Go.RowKit Sums
set_option maxRecDepth 100000
set_option linter.unusedVariables false

end Go.Proofs.Ytieklabpdalahaa
