/- Texts of our own that the row of ClaimsOne leans on, part 2. -/
import Derived.Test.YtieklabpdalahaaClaimsOneJ1
import Derived.WalkKit

/- Rows, fields and numbers as bytes, as plain functions: what is laid, what is read, and back. No program is spoken of. -/
namespace Go.Proofs.Ytieklabpdalahaa
open Go.RowKit Nums
set_option maxRecDepth 100000
set_option linter.unusedVariables false
def size3 (l : List UInt8) : Nat := 65536 * (l.getD 1 0).toNat + 256 * (l.getD 2 0).toNat + (l.getD 3 0).toNat
def gE (l : List UInt8) : Nat := if l.length < 4 then 10 else if (l.getD 0 0).toNat = 0 ∨ 65536 < size3 l then 11 else if l.length < 4 + size3 l then 10 else 0
def gT (l : List UInt8) : Nat := if gE l = 0 then (l.getD 0 0).toNat else 0
end Go.Proofs.Ytieklabpdalahaa
