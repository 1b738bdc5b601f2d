/- Digests held against one another; sums of texts that lie somewhere. -/
import Derived.Test.YtkmndchbmbhlhaaDoorLeafs
import Derived.Stop.BytesEq
namespace Go.Proofs.YtkmndchbmbhlhaaDoor
open Go.RowKit Sums
set_option linter.unusedVariables false

theorem hidk {p : Prop} (h : p) : Hid p := h
theorem sizeOf5 (w : World) : (sizeOf 5).run Tryd.prog w = .ok 1 w := by
  cases hq : Tryd.prog.info? 5 with
  | none => have := size5; simp [hq] at this
  | some i => have := size5; simp [hq] at this; simp [sizeOf, typeInfo, hq, this]
theorem eqDig (xs ys : List UInt8) (hx : xs.length = 32) (hy : ys.length = 32) (w : World) : (binOp .eql 24 (.agg (cellsOf xs).toArray) (.agg (cellsOf ys).toArray)).run Tryd.prog w = .ok (.bool (xs == ys)) w :=
  run_eql_bytes w 24 5 32 Tryd.underlying24 Tryd.underlying5 sizeOf5 xs ys hx hy
theorem eqSelf (D : Array Value) (l : List UInt8) (hl : l.length = 32) (HD : Hid (D = (cellsOf l).toArray)) (w : World) : (binOp .eql 24 (.agg D) (.agg D)).run Tryd.prog w = .ok (.bool true) w := by
  rw [HD.out, eqDig l l hl hl]; simp

/-- Of, of texts that lie somewhere. -/
theorem of_lies (ss : List ByteArray) (ht : total ss ≤ 1000000) (hlen : ss.length ≤ 9223372036854775807) (D : Array Value) (HD : Hid (D = (cellsOf (sumD (joinL ss))).toArray)) (W : World) (a : Option Addr) (n cap : Nat)
    (hT : Texts W a n ss) (hK : Table 0 W) :
    Calls Tryd.prog 17 #[.slice a n cap] W fun e w' => e = .returned (.agg D) ∧ Below W.heap.size W w' := by
  have h := of_any _ n cap ss W hT ht (by rw [← hT.1]; exact hlen) hK
  rw [HD.out]
  exact h
end Go.Proofs.YtkmndchbmbhlhaaDoor
