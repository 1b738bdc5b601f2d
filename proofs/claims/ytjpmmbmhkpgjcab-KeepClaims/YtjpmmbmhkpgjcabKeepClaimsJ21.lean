/- Texts of our own that the row of KeepClaims leans on, part 21. -/
import Derived.Test.YtjpmmbmhkpgjcabProg

/- Numbers that an int holds. -/
namespace Go.Proofs.Ytjpmmbmhkpgjcab
set_option maxRecDepth 100000
def In64 (z : Int) : Prop := -9223372036854775808 ≤ z ∧ z ≤ 9223372036854775807
end Go.Proofs.Ytjpmmbmhkpgjcab
