/- Texts of our own that the row of ClaimsRise leans on, part 4. -/
import Derived.Test.YtieklabpdalahabClaimsRiseJ2
import Derived.Test.YtieklabpdalahabClaimsRiseJ3

/- Heads as bytes, signed by a node, as the document defines them. No program is spoken of. -/
namespace Go.Proofs.Ytieklabpdalahab
open Nums Sums
set_option maxRecDepth 100000
set_option linter.unusedVariables false
/-! Heads. -/
structure HdT where
  r : Int
  e : Int
  s : Int
  d : List UInt8
  t : Int
/-! Signed heads. -/
structure SgT where
  h : HdT
  n : Int
  g : List UInt8
end Go.Proofs.Ytieklabpdalahab
