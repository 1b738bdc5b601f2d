/- Texts of our own that the row of ClaimsOne leans on, part 5. -/
import Derived.Test.YtieklabpdalahaaProg
import Derived.Lib.Walk
import Derived.Lib.BitFns

/- math/bits.Len, as this program bears it, answers how many bits its argument has, for every uint64, and leaves the world as it was. -/
namespace Go.Proofs.Ytieklabpdalahaa
set_option maxRecDepth 100000

end Go.Proofs.Ytieklabpdalahaa
