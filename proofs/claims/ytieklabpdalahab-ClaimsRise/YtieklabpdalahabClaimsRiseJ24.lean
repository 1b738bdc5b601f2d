/- Texts of our own that the row of ClaimsRise leans on, part 24. -/
import Derived.Test.YtieklabpdalahabProg

/- Numbers that an int holds. -/
namespace Go.Proofs.Ytieklabpdalahab
set_option maxRecDepth 100000
def In64 (z : Int) : Prop := -9223372036854775808 ≤ z ∧ z ≤ 9223372036854775807
end Go.Proofs.Ytieklabpdalahab
