/- FrontChecks over the landed package front, and over the tables that its row lays. -/
import Derived.Test.YtmpmhfagbcknnaaDoorFrontChecksWalk
import Derived.Test.YtmpmhfagbcknnaaDoorFOf
import Derived.Test.YtmpmhfagbcknnaaDoorBTabs
namespace Go.Proofs.YtmpmhfagbcknnaaDoor
open Go.RowKit Sums

theorem frontChecks_walk (a0 : Int) (a1 : Option Addr) (len1 cap1 : Nat) (z1 : List (List UInt8)) (w : World) (w0 : (Lit.int .i64 a0).wf = true) (w1 : LReads w a1 len1 cap1 z1) (hC : Table 0 w) (_ : True) (hB : BTab 3 w) (hR : Table 1 w) :
    Calls Tryd.prog 3 #[.int .i64 a0, .slice a1 len1 cap1] w fun e w' => e = .returned (.bool true) ∧ Below w.heap.size w w' :=
  frontChecks_of frontC a0 a1 len1 cap1 z1 w w0 w1 hC ⟨hR, hB⟩
end Go.Proofs.YtmpmhfagbcknnaaDoor
