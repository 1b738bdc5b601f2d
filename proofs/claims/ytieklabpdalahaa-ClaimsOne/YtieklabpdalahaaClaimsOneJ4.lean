/- Texts of our own that the row of ClaimsOne leans on, part 4. -/
import Derived.Test.YtieklabpdalahaaClaimsOneJ2
import Derived.Test.YtieklabpdalahaaClaimsOneJ3

/- Heads as bytes, signed by a node, as the document defines them. No program is spoken of. -/
namespace Go.Proofs.Ytieklabpdalahaa
open Nums Sums
set_option maxRecDepth 100000
set_option linter.unusedVariables false
/-! Heads. -/
structure HdT where
  r : Int
  e : Int
  s : Int
  d : List UInt8
  t : Int
/-! Signed heads. -/
structure SgT where
  h : HdT
  n : Int
  g : List UInt8
end Go.Proofs.Ytieklabpdalahaa
