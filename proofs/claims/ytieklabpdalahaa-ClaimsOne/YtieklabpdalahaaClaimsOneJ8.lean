/- Texts of our own that the row of ClaimsOne leans on, part 8. -/
import Derived.Test.YtieklabpdalahaaClaimsOneJ6
import Derived.Test.YtieklabpdalahaaClaimsOneJ7
import Derived.Test.YtieklabpdalahaaProg
import Derived.WalkSpells
import Derived.WalkLawsBesides
import Derived.Deep.RegionHeld3

/- What sha.Hex answers: two digits a byte. -/
namespace Go.Proofs.Ytieklabpdalahaa
open Go.RowKit Digs
set_option maxRecDepth 100000
theorem size5 : (Try.prog.info? 5).map (·.size) = some 1 := by kernel_rfl
theorem size23 : (Try.prog.info? 24).map (·.size) = some 32 := by kernel_rfl
end Go.Proofs.Ytieklabpdalahaa
