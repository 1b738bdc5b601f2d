/- Texts of our own that the row of KeepReads leans on, part 39. -/
import Derived.Test.YtjpmmbmhkpgjcaaKeepReadsJ27
import Derived.Test.YtjpmmbmhkpgjcaaKeepReadsJ31

/- What the calls of package history answer, at this commit of the code (those that the statement reaches). -/
namespace Go.Proofs.Ytjpmmbmhkpgjcaa
open Go.RowKit Sums Nums
set_option maxRecDepth 100000
set_option linter.unusedVariables false
theorem historyC : HistoryC where
  check := fun a len cap l w h => hCheck entryC a len cap l w h
  may := fun a len cap l x w h hx hle X HX => hMay entryC a len cap l x hx w h hle X HX
end Go.Proofs.Ytjpmmbmhkpgjcaa
