/- Texts of our own that the row of ClaimsOne leans on, part 10. -/
import Derived.Test.YtieklabpdalahaaClaimsOneJ2
import Derived.Test.YtieklabpdalahaaClaimsOneJ5
import Derived.Test.YtieklabpdalahaaClaimsOneJ9

/- What pack.Number answers: the fewest bytes of a number, the highest first, or ErrArg. -/
namespace Go.Proofs.Ytieklabpdalahaa
open Go.RowKit Nums
set_option maxRecDepth 100000

end Go.Proofs.Ytieklabpdalahaa

/- What pack.Value answers: the number that bytes tell, or ErrPackForm. -/
namespace Go.Proofs.Ytieklabpdalahaa
open Go.RowKit Nums
set_option maxRecDepth 100000

end Go.Proofs.Ytieklabpdalahaa

/- What the document's own Number answers: the same as nOf, neOf tell. -/
namespace Go.Proofs.Ytieklabpdalahaa
open Go.RowKit Nums
set_option maxRecDepth 100000

end Go.Proofs.Ytieklabpdalahaa

/- What the document's own Value answers: the same as vOf, eOf tell. -/
namespace Go.Proofs.Ytieklabpdalahaa
open Go.RowKit Nums
set_option maxRecDepth 100000

end Go.Proofs.Ytieklabpdalahaa
