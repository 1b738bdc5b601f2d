/- Texts of our own that the row of TopJournal leans on, part 46. -/
import Derived.Test.YtgclohgcehhfnabGreatDoorTopJournalJ29
import Derived.Test.YtgclohgcehhfnabGreatDoorTopJournalJ31
import Derived.Test.YtgclohgcehhfnabGreatDoorTopJournalJ33
/- What the calls of package history answer, at this commit of the code. -/
namespace Go.Proofs.YtgclohgcehhfnabGreatDoor
open Go.RowKit Sums Nums
set_option maxRecDepth 100000
set_option linter.unusedVariables false
theorem historyC : HistoryC where
  check := fun a len cap l w h => hCheck entryC a len cap l w h
  root := fun a len cap l n w h hn D HD hT => hRoot entryC a len cap l n w h hT D HD
  head := fun a len cap l n r e t w h hn hr he ht R HR hT => hHead entryC headC a len cap l n r e t w h hn hr he ht hT R HR
end Go.Proofs.YtgclohgcehhfnabGreatDoor
