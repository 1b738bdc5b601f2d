/- Texts of our own that the row of WalRuns leans on, part 11. -/
import Derived.Test.YtdnnhmihigdnkaaDoorWalRunsJ10
import Derived.BigQuiet
import Derived.BigRegion

/- What sha.word answers, and what sha.putWord does: four bytes as a word, the highest first. -/
namespace Go.Proofs.YtdnnhmihigdnkaaDoor
open Go.RowKit Sums
set_option maxRecDepth 100000
set_option linter.unusedVariables false
set_option linter.unusedSimpArgs false

end Go.Proofs.YtdnnhmihigdnkaaDoor
