/- Texts of our own that the row of KeepClaims leans on, part 2. -/
import Derived.Lib.BitFns
import GoSem.Op.String

/- Plain arithmetic on numbers as bytes, the highest first: no program is named here. -/
namespace Go.Proofs.Ytjpmmbmhkpgjcab.Nums
set_option maxRecDepth 100000
/-- The last k bytes of N, the highest first. -/
def be : Nat → Nat → List UInt8
  | 0, _ => []
  | k + 1, N => UInt8.ofNat (N / 256 ^ k % 256) :: be k N
/-- The number that bytes tell, the highest first. -/
def val (l : List UInt8) : Nat := l.foldl (fun a b => 256 * a + b.toNat) 0
/-- How many bytes N needs. -/
def nb (N : Nat) : Nat := (Lib.bitLen N + 7) / 8
/-- The bytes of the number N. -/
def num (N : Nat) : List UInt8 := be (nb N) N
end Go.Proofs.Ytjpmmbmhkpgjcab.Nums
