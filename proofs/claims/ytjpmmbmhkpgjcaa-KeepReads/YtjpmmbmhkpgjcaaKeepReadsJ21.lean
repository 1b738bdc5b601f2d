/- Texts of our own that the row of KeepReads leans on, part 21. -/
import Derived.Test.YtjpmmbmhkpgjcaaProg

/- Numbers that an int holds. -/
namespace Go.Proofs.Ytjpmmbmhkpgjcaa
set_option maxRecDepth 100000
def In64 (z : Int) : Prop := -9223372036854775808 ≤ z ∧ z ≤ 9223372036854775807
end Go.Proofs.Ytjpmmbmhkpgjcaa
