/- Texts of our own that the row of ClaimsRecords leans on, part 2. -/
import Derived.Test.YtieklabpdalahaaClaimsRecordsJ1
import Derived.WalkKit

/- Rows, fields and numbers as bytes, as plain functions: what is laid, what is read, and back. No program is spoken of. -/
namespace Go.Proofs.Ytieklabpdalahaa
open Go.RowKit Nums
set_option maxRecDepth 100000
set_option linter.unusedVariables false

end Go.Proofs.Ytieklabpdalahaa
