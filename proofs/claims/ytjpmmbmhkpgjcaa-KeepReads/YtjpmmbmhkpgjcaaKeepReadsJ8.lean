/- Texts of our own that the row of KeepReads leans on, part 8. -/
import Derived.Test.YtjpmmbmhkpgjcaaKeepReadsJ1
import Derived.Test.YtjpmmbmhkpgjcaaKeepReadsJ7
import Derived.Test.YtjpmmbmhkpgjcaaProg
import Derived.WalkSpells
import Derived.WalkLawsBesides
import Derived.Deep.RegionHeld3

/- What sha.Hex answers: two digits a byte. -/
namespace Go.Proofs.Ytjpmmbmhkpgjcaa
open Go.RowKit Digs
set_option maxRecDepth 100000
theorem info5 : (Try.prog.info? 5).map (fun i => (i.zero, i.size, i.bytes)) = some (some (.int .u8 0), 1, 1) := by kernel_rfl
theorem size5 : (Try.prog.info? 5).map (·.size) = some 1 := by kernel_rfl
theorem size23 : (Try.prog.info? 30).map (·.size) = some 32 := by kernel_rfl
end Go.Proofs.Ytjpmmbmhkpgjcaa
