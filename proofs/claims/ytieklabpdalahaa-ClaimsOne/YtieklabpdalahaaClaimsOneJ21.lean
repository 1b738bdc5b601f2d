/- Texts of our own that the row of ClaimsOne leans on, part 21. -/
import Derived.Test.YtieklabpdalahaaClaimsOneJ3
import Derived.Test.YtieklabpdalahaaProg
import Derived.WalkKit
import Derived.Lib.BitFns
import Derived.Lib.Walk

/- What tree.Split answers: the greatest power of 2 below a number. -/
namespace Go.Proofs.Ytieklabpdalahaa
open Go.RowKit
set_option maxRecDepth 100000
set_option linter.unusedVariables false
set_option linter.unusedSimpArgs false

end Go.Proofs.Ytieklabpdalahaa
