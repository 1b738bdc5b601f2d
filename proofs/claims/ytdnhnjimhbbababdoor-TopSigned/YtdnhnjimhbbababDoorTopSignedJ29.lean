/- Texts of our own that the row of TopSigned leans on, part 29. -/
import Derived.Test.YtdnhnjimhbbababDoorTopSignedJ13
import Derived.Test.YtdnhnjimhbbababDoorTopSignedJ23
import Derived.Test.YtdnhnjimhbbababDoorTopSignedJ24
import Derived.Test.YtdnhnjimhbbababDoorTopSignedJ26
import Derived.Test.YtdnhnjimhbbababDoorTopSignedJ27
import Derived.Test.YtdnhnjimhbbababDoorTopSignedJ28

/- TopSigned over the landed packages, and over the tables that its row lays. -/
namespace Go.Proofs.YtdnhnjimhbbababDoor
open Go.RowKit Sums
set_option maxRecDepth 100000
theorem topSigned_walk (a0 : Option Addr) (len0 cap0 : Nat) (z0 : List ByteArray) (z1 : List UInt8) (a2 a3 : Int) (w : World) (w0 : Texts w a0 len0 z0 ∧ (∀ s ∈ z0, s.size ≤ maxLen) ∧ len0 ≤ maxLen) (w1 : z1.length = 32) (_ : (Lit.int .i64 a2).wf = true) (_ : (Lit.int .i64 a3).wf = true) (_ : True) (hB : BTab 2 w) (hR : Table 0 w) :
    Calls Tryd.prog 3 #[.slice a0 len0 cap0, digV z1, .int .i64 a2, .int .i64 a3] w fun e w' => e = .returned (.bool true) ∧ Below w.heap.size w w' :=
  topSigned_of P7.headC frontC checkC a0 len0 cap0 z0 z1 a2 a3 w w0.1 w0.2.2 w1 ⟨hR, hB⟩
end Go.Proofs.YtdnhnjimhbbababDoor
