/- Texts of our own that the row of WalRuns leans on, part 10. -/
import Derived.Test.YtdnnhmihigdnkaaDoorWalRunsJ5
import Derived.Test.YtdnnhmihigdnkaaDoorWalRunsJ9
import Derived.Test.YtdnnhmihigdnkaaDoorProg
import Derived.WalkSpells
import Derived.WalkLawsBesides
import Derived.OpenShut

/- What sha.turned answers: a word turned round to the right. -/
namespace Go.Proofs.YtdnnhmihigdnkaaDoor
open Go.RowKit Sums
set_option maxRecDepth 100000
set_option linter.unusedVariables false

end Go.Proofs.YtdnnhmihigdnkaaDoor
