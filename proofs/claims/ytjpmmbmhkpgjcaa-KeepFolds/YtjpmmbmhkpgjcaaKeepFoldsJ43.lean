/- Texts of our own that the row of KeepFolds leans on, part 43. -/
import Derived.Test.YtjpmmbmhkpgjcaaKeepFoldsJ40
import Derived.Test.YtjpmmbmhkpgjcaaKeepFoldsJ41
import Derived.Test.YtjpmmbmhkpgjcaaKeepFoldsJ42
/- What the calls of package keep answer, at this commit of the code. -/
namespace Go.Proofs.Ytjpmmbmhkpgjcaa
open Go.RowKit Nums Sums
set_option maxRecDepth 100000
set_option linter.unusedVariables false
theorem keepC : KeepC where
  new := fun w => kcNew_any w
  check := fun v w h => kcCheck_any historyC v w h
  leader := fun v w h => kcLeader_any historyC v w h
  fold := fun v r w h hr hl => kcFold_any historyC entryC v r w h hr hl
end Go.Proofs.Ytjpmmbmhkpgjcaa
