/- Texts of our own that the row of ClaimsRise leans on, part 5. -/
import Derived.Test.YtieklabpdalahabProg
import Derived.Lib.Walk
import Derived.Lib.BitFns

/- math/bits.Len, as this program bears it, answers how many bits its argument has, for every uint64, and leaves the world as it was. -/
namespace Go.Proofs.Ytieklabpdalahab
set_option maxRecDepth 100000

end Go.Proofs.Ytieklabpdalahab
