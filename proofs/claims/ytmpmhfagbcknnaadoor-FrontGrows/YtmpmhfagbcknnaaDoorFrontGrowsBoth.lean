/- FrontGrows over the landed package front, and over the tables that its row lays. -/
import Derived.Test.YtmpmhfagbcknnaaDoorFrontGrowsWalk
import Derived.Test.YtmpmhfagbcknnaaDoorFOf
import Derived.Test.YtmpmhfagbcknnaaDoorBTabs
namespace Go.Proofs.YtmpmhfagbcknnaaDoor
open Go.RowKit Sums

theorem frontGrows_walk (a0 : Option Addr) (len0 cap0 : Nat) (z0 : List (List UInt8)) (w : World) (w0 : LReads w a0 len0 cap0 z0) (_ : True) (hB : BTab 3 w) (hR : Table 1 w) :
    Calls Tryd.prog 6 #[.slice a0 len0 cap0] w fun e w' => e = .returned (.bool true) ∧ Below w.heap.size w w' :=
  frontGrows_of frontC a0 len0 cap0 z0 w w0 ⟨hR, hB⟩
end Go.Proofs.YtmpmhfagbcknnaaDoor
