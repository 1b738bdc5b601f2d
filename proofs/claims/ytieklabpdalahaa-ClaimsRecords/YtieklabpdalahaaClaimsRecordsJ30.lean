/- Texts of our own that the row of ClaimsRecords leans on, part 30. -/
import Derived.Test.YtieklabpdalahaaClaimsRecordsJ6
import Derived.Test.YtieklabpdalahaaClaimsRecordsJ17
import Derived.OpenShut

/- Bytes that came in. -/
namespace Go.Proofs.Ytieklabpdalahaa
open Go.RowKit Nums
set_option linter.unusedVariables false
set_option maxRecDepth 100000

end Go.Proofs.Ytieklabpdalahaa
