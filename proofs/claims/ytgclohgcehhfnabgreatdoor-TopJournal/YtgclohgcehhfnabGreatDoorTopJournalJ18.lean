/- Texts of our own that the row of TopJournal leans on, part 18. -/
import Derived.Test.YtgclohgcehhfnabGreatDoorTopJournalJ4
import Derived.Test.YtgclohgcehhfnabGreatDoorTopJournalJ8
import Derived.OpenShut
/- Bytes that came in. -/
namespace Go.Proofs.YtgclohgcehhfnabGreatDoor
open Go.RowKit Nums
set_option linter.unusedVariables false
set_option maxRecDepth 100000
end Go.Proofs.YtgclohgcehhfnabGreatDoor
