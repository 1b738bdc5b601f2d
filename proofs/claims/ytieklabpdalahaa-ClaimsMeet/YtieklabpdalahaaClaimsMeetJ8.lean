/- Texts of our own that the row of ClaimsMeet leans on, part 8. -/
import Derived.Test.YtieklabpdalahaaClaimsMeetJ6
import Derived.Test.YtieklabpdalahaaClaimsMeetJ7
import Derived.Test.YtieklabpdalahaaProg
import Derived.WalkSpells
import Derived.WalkLawsBesides
import Derived.Deep.RegionHeld3

/- What sha.Hex answers: two digits a byte. -/
namespace Go.Proofs.Ytieklabpdalahaa
open Go.RowKit Digs
set_option maxRecDepth 100000

end Go.Proofs.Ytieklabpdalahaa
