/- Texts of our own that the row of PathMakes leans on, part 32. -/
import Derived.Test.YtkmedlfbkddmoaaGreatDoorPathMakesJ25
import Derived.Test.YtkmedlfbkddmoaaGreatDoorPathMakesJ27
/- What the calls of package history answer, at this commit of the code. -/
namespace Go.Proofs.YtkmedlfbkddmoaaGreatDoor
open Go.RowKit Sums Nums
set_option maxRecDepth 100000
set_option linter.unusedVariables false
theorem historyC : HistoryC where
  check := fun a len cap l w h => hCheck entryC a len cap l w h
  root := fun a len cap l n w h hn D HD hT => hRoot entryC a len cap l n w h hT D HD
  head := fun a len cap l n r e t w h hn hr he ht R HR hT => hHead entryC headC a len cap l n r e t w h hn hr he ht hT R HR
  incl := fun a len cap l n i w h hn hi hT => hIncl entryC a len cap l n i w h hT
end Go.Proofs.YtkmedlfbkddmoaaGreatDoor
