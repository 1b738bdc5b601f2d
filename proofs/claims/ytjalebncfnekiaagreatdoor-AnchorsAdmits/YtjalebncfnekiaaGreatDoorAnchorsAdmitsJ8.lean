/- Texts of our own that the row of AnchorsAdmits leans on, part 8. -/
import Derived.Test.YtjalebncfnekiaaGreatDoorAnchorsAdmitsJ6
import Derived.Test.YtjalebncfnekiaaGreatDoorAnchorsAdmitsJ7
import Derived.Test.YtjalebncfnekiaaGreatDoorProg
import Derived.WalkSpells
import Derived.WalkLawsBesides
import Derived.Deep.RegionHeld3
/- What sha.Hex answers: two digits a byte. -/
namespace Go.Proofs.YtjalebncfnekiaaGreatDoor
open Go.RowKit Digs
set_option maxRecDepth 100000
theorem info5 : (Tryz.prog.info? 5).map (fun i => (i.zero, i.size, i.bytes)) = some (some (.int .u8 0), 1, 1) := by kernel_rfl
theorem size5 : (Tryz.prog.info? 5).map (·.size) = some 1 := by kernel_rfl
theorem size23 : (Tryz.prog.info? 25).map (·.size) = some 32 := by kernel_rfl
end Go.Proofs.YtjalebncfnekiaaGreatDoor
