/- Texts of our own that the row of KeepReads leans on, part 7. -/
import Derived.Lib.Bytealg

/- Digits of base 16: what a digest's digits are, and which digest some digits are. No program is spoken of. -/
namespace Go.Proofs.Ytjpmmbmhkpgjcaa
set_option maxRecDepth 100000
namespace Digs
end Digs
end Go.Proofs.Ytjpmmbmhkpgjcaa
