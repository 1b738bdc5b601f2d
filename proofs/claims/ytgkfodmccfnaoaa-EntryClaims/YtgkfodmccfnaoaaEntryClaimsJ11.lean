/- Texts of our own that the row of EntryClaims leans on, part 11. -/
import Derived.Test.YtgkfodmccfnaoaaEntryClaimsJ3
import Derived.Test.YtgkfodmccfnaoaaEntryClaimsJ7
import Derived.Test.YtgkfodmccfnaoaaProg
import Derived.WalkSpells
import Derived.WalkLawsBesides
import Derived.OpenShut

/- What sha.turned answers: a word turned round to the right. -/
namespace Go.Proofs.Ytgkfodmccfnaoaa
open Go.RowKit Sums
set_option maxRecDepth 100000
set_option linter.unusedVariables false

end Go.Proofs.Ytgkfodmccfnaoaa
