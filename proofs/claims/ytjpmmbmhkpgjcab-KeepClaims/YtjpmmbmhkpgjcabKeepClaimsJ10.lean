/- Texts of our own that the row of KeepClaims leans on, part 10. -/
import Derived.Test.YtjpmmbmhkpgjcabKeepClaimsJ3
import Derived.Test.YtjpmmbmhkpgjcabKeepClaimsJ6
import Derived.Test.YtjpmmbmhkpgjcabKeepClaimsJ9

/- What pack.Number answers: the fewest bytes of a number, the highest first, or ErrArg. -/
namespace Go.Proofs.Ytjpmmbmhkpgjcab
open Go.RowKit Nums
set_option maxRecDepth 100000

end Go.Proofs.Ytjpmmbmhkpgjcab

/- What pack.Value answers: the number that bytes tell, or ErrPackForm. -/
namespace Go.Proofs.Ytjpmmbmhkpgjcab
open Go.RowKit Nums
set_option maxRecDepth 100000

end Go.Proofs.Ytjpmmbmhkpgjcab

/- What the document's own Number answers: the same as nOf, neOf tell. -/
namespace Go.Proofs.Ytjpmmbmhkpgjcab
open Go.RowKit Nums
set_option maxRecDepth 100000

end Go.Proofs.Ytjpmmbmhkpgjcab

/- What the document's own Value answers: the same as vOf, eOf tell. -/
namespace Go.Proofs.Ytjpmmbmhkpgjcab
open Go.RowKit Nums
set_option maxRecDepth 100000

end Go.Proofs.Ytjpmmbmhkpgjcab
