/- Texts of our own that the row of KeepClaims leans on, part 6. -/
import Derived.Test.YtjpmmbmhkpgjcabProg
import Derived.Lib.Walk
import Derived.Lib.BitFns

/- math/bits.Len, as this program bears it, answers how many bits its argument has, for every uint64, and leaves the world as it was. -/
namespace Go.Proofs.Ytjpmmbmhkpgjcab
set_option maxRecDepth 100000

end Go.Proofs.Ytjpmmbmhkpgjcab
