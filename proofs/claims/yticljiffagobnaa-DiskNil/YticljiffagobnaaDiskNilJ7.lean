/- Texts of our own that the row of DiskNil leans on, part 7. -/
import Derived.Test.YticljiffagobnaaDiskNilJ2
import Derived.Test.YticljiffagobnaaDiskNilJ3
import Derived.Test.YticljiffagobnaaDiskNilJ6
import Derived.Test.YticljiffagobnaaProg
import Derived.WalkKit
import Derived.WalkSpells
import Derived.WalkLawsBesides
import Derived.Lib.AppendStr

/- Bytes as cells of a row that the call itself owns. -/
namespace Go.Proofs.Yticljiffagobnaa
open Go.RowKit Nums
set_option maxRecDepth 100000

end Go.Proofs.Yticljiffagobnaa

/- What pack's fault and appendField do: the fault of a field; a field's bytes behind bytes that are owned. -/
namespace Go.Proofs.Yticljiffagobnaa
open Go.RowKit Nums
set_option maxRecDepth 100000

end Go.Proofs.Yticljiffagobnaa
