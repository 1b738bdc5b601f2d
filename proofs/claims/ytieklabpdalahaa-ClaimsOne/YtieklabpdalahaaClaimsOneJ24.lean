/- Texts of our own that the row of ClaimsOne leans on, part 24. -/
import Derived.Test.YtieklabpdalahaaProg

/- Numbers that an int holds. -/
namespace Go.Proofs.Ytieklabpdalahaa
set_option maxRecDepth 100000
def In64 (z : Int) : Prop := -9223372036854775808 ≤ z ∧ z ≤ 9223372036854775807
end Go.Proofs.Ytieklabpdalahaa
