/- Texts of our own that the row of WalRuns leans on, part 3. -/
import Derived.Test.YtdnnhmihigdnkaaDoorWalRunsJ2
import Derived.WalkKit

/- Rows, fields and numbers as bytes, as plain functions: what is laid, what is read, and back. No program is spoken of. -/
namespace Go.Proofs.YtdnnhmihigdnkaaDoor
open Go.RowKit Nums
set_option maxRecDepth 100000
set_option linter.unusedVariables false

end Go.Proofs.YtdnnhmihigdnkaaDoor
