/- Texts of our own that the row of KeepReads leans on, part 23. -/
import Derived.Test.YtjpmmbmhkpgjcaaKeepReadsJ4
import Derived.Test.YtjpmmbmhkpgjcaaProg
import Derived.WalkKit
import Derived.Lib.BitFns
import Derived.Lib.Walk

/- What tree.Split answers: the greatest power of 2 below a number. -/
namespace Go.Proofs.Ytjpmmbmhkpgjcaa
open Go.RowKit
set_option maxRecDepth 100000
set_option linter.unusedVariables false
set_option linter.unusedSimpArgs false

end Go.Proofs.Ytjpmmbmhkpgjcaa
