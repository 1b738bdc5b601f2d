/- Texts of our own that the row of HistoryOld leans on, part 11. -/
import Derived.Test.YtgclohgcehhfnabHistoryOldJ3
import Derived.Test.YtgclohgcehhfnabHistoryOldJ7
import Derived.Test.YtgclohgcehhfnabProg
import Derived.WalkSpells
import Derived.WalkLawsBesides
import Derived.OpenShut

/- What sha.turned answers: a word turned round to the right. -/
namespace Go.Proofs.Ytgclohgcehhfnab
open Go.RowKit Sums
set_option maxRecDepth 100000
set_option linter.unusedVariables false

end Go.Proofs.Ytgclohgcehhfnab
