/- Texts of our own that the row of KeepReads leans on, part 12. -/
import Derived.Test.YtjpmmbmhkpgjcaaKeepReadsJ11
import Derived.BigQuiet
import Derived.BigRegion

/- What sha.word answers, and what sha.putWord does: four bytes as a word, the highest first. -/
namespace Go.Proofs.Ytjpmmbmhkpgjcaa
open Go.RowKit Sums
set_option maxRecDepth 100000
set_option linter.unusedVariables false
set_option linter.unusedSimpArgs false

end Go.Proofs.Ytjpmmbmhkpgjcaa

/- What the document's turn answers: a word turned round to the right. -/
namespace Go.Proofs.Ytjpmmbmhkpgjcaa
open Go.RowKit Sums
set_option maxRecDepth 100000
set_option linter.unusedVariables false

end Go.Proofs.Ytjpmmbmhkpgjcaa
