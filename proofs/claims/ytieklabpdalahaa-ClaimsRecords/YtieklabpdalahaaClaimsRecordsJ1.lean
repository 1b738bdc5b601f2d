/- Texts of our own that the row of ClaimsRecords leans on, part 1. -/
import Derived.Lib.BitFns
import GoSem.Op.String

/- Plain arithmetic on numbers as bytes, the highest first: no program is named here. -/
namespace Go.Proofs.Ytieklabpdalahaa.Nums
set_option maxRecDepth 100000
/-- The last k bytes of N, the highest first. -/
def be : Nat → Nat → List UInt8
  | 0, _ => []
  | k + 1, N => UInt8.ofNat (N / 256 ^ k % 256) :: be k N
end Go.Proofs.Ytieklabpdalahaa.Nums
