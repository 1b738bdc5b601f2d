/- Texts of our own that the row of DiskApart leans on, part 12. -/
import Derived.Test.YticljiffagobnabDiskApartJ5
import Derived.Test.YticljiffagobnabDiskApartJ11
import Derived.Test.YticljiffagobnabProg
import Derived.WalkSpells
import Derived.WalkLawsBesides
import Derived.OpenShut

/- What sha.turned answers: a word turned round to the right. -/
namespace Go.Proofs.Yticljiffagobnab
open Go.RowKit Sums
set_option maxRecDepth 100000
set_option linter.unusedVariables false

end Go.Proofs.Yticljiffagobnab
