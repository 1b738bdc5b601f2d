/- Texts of our own that the row of KeepReads leans on, part 11. -/
import Derived.Test.YtjpmmbmhkpgjcaaKeepReadsJ1
import Derived.Test.YtjpmmbmhkpgjcaaKeepReadsJ4
import Derived.Test.YtjpmmbmhkpgjcaaProg
import Derived.WalkSpells
import Derived.WalkLawsBesides
import Derived.OpenShut

/- What sha.turned answers: a word turned round to the right. -/
namespace Go.Proofs.Ytjpmmbmhkpgjcaa
open Go.RowKit Sums
set_option maxRecDepth 100000
set_option linter.unusedVariables false

end Go.Proofs.Ytjpmmbmhkpgjcaa
