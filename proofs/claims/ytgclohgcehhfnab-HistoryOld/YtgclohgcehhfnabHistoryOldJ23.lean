/- Texts of our own that the row of HistoryOld leans on, part 23. -/
import Derived.Test.YtgclohgcehhfnabHistoryOldJ3
import Derived.Test.YtgclohgcehhfnabProg
import Derived.WalkKit
import Derived.Lib.BitFns
import Derived.Lib.Walk

/- What tree.Split answers: the greatest power of 2 below a number. -/
namespace Go.Proofs.Ytgclohgcehhfnab
open Go.RowKit
set_option maxRecDepth 100000
set_option linter.unusedVariables false
set_option linter.unusedSimpArgs false

end Go.Proofs.Ytgclohgcehhfnab
