/- Texts of our own that the row of WalRuns leans on, part 7. -/
import Derived.Test.YtdnnhmihigdnkaaDoorWalRunsJ2
import Derived.Test.YtdnnhmihigdnkaaDoorWalRunsJ3
import Derived.Test.YtdnnhmihigdnkaaDoorWalRunsJ6
import Derived.Test.YtdnnhmihigdnkaaDoorProg
import Derived.WalkKit
import Derived.WalkSpells
import Derived.WalkLawsBesides
import Derived.Lib.AppendStr

/- Bytes as cells of a row that the call itself owns. -/
namespace Go.Proofs.YtdnnhmihigdnkaaDoor
open Go.RowKit Nums
set_option maxRecDepth 100000

end Go.Proofs.YtdnnhmihigdnkaaDoor

/- What pack's fault and appendField do: the fault of a field; a field's bytes behind bytes that are owned. -/
namespace Go.Proofs.YtdnnhmihigdnkaaDoor
open Go.RowKit Nums
set_option maxRecDepth 100000
theorem cellsOf_str (s : ByteArray) : Lib.strCells s = cellsOf s.data.toList := rfl
theorem row_low {w : World} {B : Nat} {v : Value} {n : Nat} {xs : List Value} (h : w.ownsRow B 5 1 v n xs) : ∀ k, v.ownBlock = some k → B ≤ k := fun k hk => (h.lt k hk).1
end Go.Proofs.YtdnnhmihigdnkaaDoor
