/- Texts of our own that the row of HistoryMay leans on, part 23. -/
import Derived.Test.YtgclohgcehhfnaaHistoryMayJ3
import Derived.Test.YtgclohgcehhfnaaProg
import Derived.WalkKit
import Derived.Lib.BitFns
import Derived.Lib.Walk

/- What tree.Split answers: the greatest power of 2 below a number. -/
namespace Go.Proofs.Ytgclohgcehhfnaa
open Go.RowKit
set_option maxRecDepth 100000
set_option linter.unusedVariables false
set_option linter.unusedSimpArgs false

end Go.Proofs.Ytgclohgcehhfnaa
