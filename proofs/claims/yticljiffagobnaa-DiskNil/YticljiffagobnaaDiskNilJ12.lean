/- Texts of our own that the row of DiskNil leans on, part 12. -/
import Derived.Test.YticljiffagobnaaDiskNilJ5
import Derived.Test.YticljiffagobnaaDiskNilJ11
import Derived.Test.YticljiffagobnaaProg
import Derived.WalkSpells
import Derived.WalkLawsBesides
import Derived.OpenShut

/- What sha.turned answers: a word turned round to the right. -/
namespace Go.Proofs.Yticljiffagobnaa
open Go.RowKit Sums
set_option maxRecDepth 100000
set_option linter.unusedVariables false

end Go.Proofs.Yticljiffagobnaa
