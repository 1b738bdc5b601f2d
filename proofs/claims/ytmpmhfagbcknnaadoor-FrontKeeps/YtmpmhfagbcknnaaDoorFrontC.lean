/- The fronts' calls: what they answer (their proofs are of one commit of the code). -/
import Derived.Test.YtmpmhfagbcknnaaDoorRefFrontAdd
import Derived.Test.YtmpmhfagbcknnaaDoorOnes
namespace Go.Proofs.YtmpmhfagbcknnaaDoor
open Go.RowKit Sums
set_option linter.unusedVariables false

/-- There is room: the cells of m digests are there, from block B on, and may be written. -/
def RoomO (B : Nat) (x : Option Addr) (m : Nat) (W : World) : Prop := m = 0 ∨ ∃ gp o, x = some ⟨gp, o, none⟩ ∧ B ≤ gp ∧ W.there gp o (32 * m)

/-- What the calls of package front answer. -/
structure FrontC : Prop where
  check_ok : ∀ (n : Int) (a : Option Addr) (len cap : Nat) (w : World) (h : isRight n len), Calls Tryd.prog 9 #[.agg #[.int .i64 n, .slice a len cap]] w fun e w' => e = .returned (.int .i64 0) ∧ Below w.heap.size w w'
  check_no : ∀ (n : Int) (a : Option Addr) (len cap : Nat) (w : World) (hl : len ≤ maxLen) (hn : -9223372036854775808 ≤ n ∧ n ≤ 9223372036854775807) (h : ¬ isRight n len), Calls Tryd.prog 9 #[.agg #[.int .i64 n, .slice a len cap]] w fun e w' => e = .returned (.int .i64 30) ∧ Below w.heap.size w w'
  frontRoot_ok : ∀ (n : Int) (a : Option Addr) (len cap : Nat) (ps : List (List UInt8)) (w : World) (h : isRight n len) (hR : LReads w a len cap ps) (hK : TabF w) (D : Array Value) (HD : Hid (D = (cellsOf (rootP ps)).toArray)), Calls Tryd.prog 10 #[.agg #[.int .i64 n, .slice a len cap]] w fun e w' => e = .returned (.tuple #[.agg D, .int .i64 0]) ∧ Below w.heap.size w w'
  frontRoot_no : ∀ (n : Int) (a : Option Addr) (len cap : Nat) (w : World) (hl : len ≤ maxLen) (hn : -9223372036854775808 ≤ n ∧ n ≤ 9223372036854775807) (h : ¬ isRight n len) (Z : Array Value) (HZ : Hid (Z = (cellsOf (List.replicate 32 0)).toArray)), Calls Tryd.prog 10 #[.agg #[.int .i64 n, .slice a len cap]] w fun e w' => e = .returned (.tuple #[.agg Z, .int .i64 30]) ∧ Below w.heap.size w w'
  add_ok : ∀ (n : Nat) (a : Option Addr) (len cap : Nat) (ps : List (List UInt8)) (d : List UInt8) (w : World) (h : isRight n len) (hn : n ≤ 99999) (hR : LReads w a len cap ps) (hd : d.length = 32) (hK : TabF w) (D : Array Value) (HD : Hid (D = (cellsOf d).toArray)), Calls Tryd.prog 15 #[.agg #[.int .i64 n, .slice a len cap], .agg D] w fun e w' => ∃ y cy, e = .returned (.tuple #[.agg #[.int .i64 ((n : Int) + 1), .slice y (addP n ps d).length cy], .int .i64 0]) ∧ LReads w' y (addP n ps d).length cy (addP n ps d) ∧ RoomO w.heap.size y (addP n ps d).length w' ∧ Below w.heap.size w w'
  add_no : ∀ (n : Int) (a : Option Addr) (len cap : Nat) (w : World) (hl : len ≤ maxLen) (hn : -9223372036854775808 ≤ n ∧ n ≤ 9223372036854775807) (h : ¬ isRight n len) (D : Array Value) (d : List UInt8) (hd : d.length = 32) (HD : Hid (D = (cellsOf d).toArray)), Calls Tryd.prog 15 #[.agg #[.int .i64 n, .slice a len cap], .agg D] w fun e w' => ∃ y cy, e = .returned (.tuple #[.agg #[.int .i64 0, .slice y 0 cy], .int .i64 30]) ∧ Below w.heap.size w w'
  add_full : ∀ (a : Option Addr) (len cap : Nat) (w : World) (h : isRight 100000 len) (D : Array Value) (d : List UInt8) (hd : d.length = 32) (HD : Hid (D = (cellsOf d).toArray)), Calls Tryd.prog 15 #[.agg #[.int .i64 100000, .slice a len cap], .agg D] w fun e w' => ∃ y cy, e = .returned (.tuple #[.agg #[.int .i64 0, .slice y 0 cy], .int .i64 2]) ∧ Below w.heap.size w w'
  of_ok : ∀ (a : Option Addr) (len cap : Nat) (l : List (List UInt8)) (w : World) (hR : LReads w a len cap l) (hl : len ≤ 100000) (hK : TabF w), Calls Tryd.prog 17 #[.slice a len cap] w fun e w' => ∃ y cy, e = .returned (.tuple #[.agg #[.int .i64 len, .slice y (peaks l).length cy], .int .i64 0]) ∧ LReads w' y (peaks l).length cy (peaks l) ∧ Below w.heap.size w w'
end Go.Proofs.YtmpmhfagbcknnaaDoor
