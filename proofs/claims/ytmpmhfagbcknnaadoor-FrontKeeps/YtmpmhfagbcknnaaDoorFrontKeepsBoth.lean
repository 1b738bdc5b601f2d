/- FrontKeeps over the landed package front, and over the tables that its row lays. -/
import Derived.Test.YtmpmhfagbcknnaaDoorFrontKeepsWalk
import Derived.Test.YtmpmhfagbcknnaaDoorFOf
import Derived.Test.YtmpmhfagbcknnaaDoorBTabs
namespace Go.Proofs.YtmpmhfagbcknnaaDoor
open Go.RowKit Sums

theorem frontKeeps_walk (a0 : Int) (a1 : Option Addr) (len1 cap1 : Nat) (z1 : List (List UInt8)) (z2 z3 : List UInt8) (w : World) (w0 : (Lit.int .i64 a0).wf = true) (w1 : LReads w a1 len1 cap1 z1) (w2 : z2.length = 32) (w3 : z3.length = 32) (_ : True) (hB : BTab 3 w) (hR : Table 1 w) :
    Calls Tryd.prog 7 #[.int .i64 a0, .slice a1 len1 cap1, digV z2, digV z3] w fun e w' => e = .returned (.bool true) ∧ Below w.heap.size w w' :=
  frontKeeps_of frontC a0 a1 len1 cap1 z1 z2 z3 w w0 w1 w2 w3 ⟨hR, hB⟩
end Go.Proofs.YtmpmhfagbcknnaaDoor
