/- Texts of our own that the row of HistoryMay leans on, part 11. -/
import Derived.Test.YtgclohgcehhfnaaHistoryMayJ3
import Derived.Test.YtgclohgcehhfnaaHistoryMayJ7
import Derived.Test.YtgclohgcehhfnaaProg
import Derived.WalkSpells
import Derived.WalkLawsBesides
import Derived.OpenShut

/- What sha.turned answers: a word turned round to the right. -/
namespace Go.Proofs.Ytgclohgcehhfnaa
open Go.RowKit Sums
set_option maxRecDepth 100000
set_option linter.unusedVariables false

end Go.Proofs.Ytgclohgcehhfnaa
