/- Texts of our own that the row of KeepClaims leans on, part 8. -/
import Derived.Test.YtjpmmbmhkpgjcabKeepClaimsJ1
import Derived.Test.YtjpmmbmhkpgjcabKeepClaimsJ7
import Derived.Test.YtjpmmbmhkpgjcabProg
import Derived.WalkSpells
import Derived.WalkLawsBesides
import Derived.Deep.RegionHeld3

/- What sha.Hex answers: two digits a byte. -/
namespace Go.Proofs.Ytjpmmbmhkpgjcab
open Go.RowKit Digs
set_option maxRecDepth 100000
theorem size5 : (Try.prog.info? 5).map (·.size) = some 1 := by kernel_rfl
theorem size23 : (Try.prog.info? 27).map (·.size) = some 32 := by kernel_rfl
end Go.Proofs.Ytjpmmbmhkpgjcab
