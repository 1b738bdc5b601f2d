/- Texts of our own that the row of ClaimsRise leans on, part 8. -/
import Derived.Test.YtieklabpdalahabClaimsRiseJ6
import Derived.Test.YtieklabpdalahabClaimsRiseJ7
import Derived.Test.YtieklabpdalahabProg
import Derived.WalkSpells
import Derived.WalkLawsBesides
import Derived.Deep.RegionHeld3

/- What sha.Hex answers: two digits a byte. -/
namespace Go.Proofs.Ytieklabpdalahab
open Go.RowKit Digs
set_option maxRecDepth 100000

end Go.Proofs.Ytieklabpdalahab
