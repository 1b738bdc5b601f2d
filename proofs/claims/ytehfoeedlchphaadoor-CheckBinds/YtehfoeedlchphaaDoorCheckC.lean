/- What the calls of package check answer, as the document says (their proofs are of one commit of the code). -/
import Derived.Test.YtehfoeedlchphaaDoorMakes
import Derived.Test.YtehfoeedlchphaaDoorOwned
namespace Go.Proofs.YtehfoeedlchphaaDoor
open Go.RowKit Sums
set_option linter.unusedVariables false

/-- P5.1. -/
def incE (root : List UInt8) (size index : Int) (leaf : List UInt8) (proof : List (List UInt8)) : Int :=
  if 1 ≤ size ∧ size ≤ 100000 ∧ 0 ≤ index ∧ index < size then
    (if (mkR proof.reverse size.toNat index.toNat leaf).2 = true then (if (mkR proof.reverse size.toNat index.toNat leaf).1 = root then 0 else 41) else 40)
  else 40
/-- P5.2. -/
def conE (m : Int) (old : List UInt8) (n : Int) (root : List UInt8) (proof : List (List UInt8)) : Int :=
  if 0 ≤ n ∧ n ≤ 100000 ∧ 0 ≤ m ∧ m ≤ n then
    (if m = 0 then (if proof = [] then (if old = sumD [] ∧ (n = 0 → root = old) then 0 else 41) else 40)
     else (if (bothR proof.reverse m.toNat n.toNat old true).2.2 = true then (if (bothR proof.reverse m.toNat n.toNat old true).1 = old ∧ (bothR proof.reverse m.toNat n.toNat old true).2.1 = root then 0 else 41) else 40))
  else 40
/-- P5.3. -/
def claE (root : List UInt8) (size index : Int) (a : List UInt8) (p : List (List UInt8)) (b : List UInt8) (q : List (List UInt8)) : Option (List UInt8 × List UInt8) :=
  if incE root size index a p = 0 ∧ incE root size index b q = 0 ∧ a ≠ b then clashR p.reverse q.reverse size.toNat index.toNat a b else none
def claV (o : Option (List UInt8 × List UInt8)) : Value := match o with
  | some (x, y) => .tuple #[.string ⟨x.toArray⟩, .string ⟨y.toArray⟩, .bool true]
  | none => .tuple #[.string ⟨#[]⟩, .string ⟨#[]⟩, .bool false]

theorem incE_vals (root : List UInt8) (size index : Int) (leaf : List UInt8) (proof : List (List UInt8)) : incE root size index leaf proof = 0 ∨ incE root size index leaf proof = 40 ∨ incE root size index leaf proof = 41 := by
  unfold incE; repeat' split
  all_goals simp
theorem conE_vals (m : Int) (old : List UInt8) (n : Int) (root : List UInt8) (proof : List (List UInt8)) : conE m old n root proof = 0 ∨ conE m old n root proof = 40 ∨ conE m old n root proof = 41 := by
  unfold conE; repeat' split
  all_goals simp
theorem incE_out (root : List UInt8) (size index : Int) (leaf : List UInt8) (proof : List (List UInt8)) (h : ¬ (1 ≤ size ∧ size ≤ 100000 ∧ 0 ≤ index ∧ index < size)) : incE root size index leaf proof = 40 := by unfold incE; rw [if_neg h]
theorem incE_in (root : List UInt8) (S I : Nat) (leaf : List UInt8) (proof : List (List UInt8)) (h1 : 1 ≤ S) (h2 : S ≤ 100000) (h3 : I < S) : incE root S I leaf proof = (if (mkR proof.reverse S I leaf).2 = true then (if (mkR proof.reverse S I leaf).1 = root then 0 else 41) else 40) := by
  unfold incE; rw [if_pos (by omega), Int.toNat_natCast, Int.toNat_natCast]
theorem incE_ok {root : List UInt8} {size index : Int} {leaf : List UInt8} {proof : List (List UInt8)} (h : incE root size index leaf proof = 0) : 1 ≤ size ∧ size ≤ 100000 ∧ 0 ≤ index ∧ index < size ∧ mkR proof.reverse size.toNat index.toNat leaf = (root, true) := by
  unfold incE at h
  split at h
  · rename_i hh
    split at h
    · rename_i h2
      split at h
      · rename_i h3
        exact ⟨hh.1, hh.2.1, hh.2.2.1, hh.2.2.2, Prod.ext h3 h2⟩
      · simp at h
    · simp at h
  · simp at h
/-- More than 17 digests are found by nobody. -/
theorem incE_long (root : List UInt8) (size index : Int) (leaf : List UInt8) (proof : List (List UInt8)) (h : 17 < proof.length) : incE root size index leaf proof = 40 := by
  by_cases hh : 1 ≤ size ∧ size ≤ 100000 ∧ 0 ≤ index ∧ index < size
  · unfold incE
    rw [if_pos hh, if_neg]
    intro e
    have := mkR_short 17 proof.reverse size.toNat index.toNat leaf (by omega) (by omega) e
    rw [List.length_reverse] at this
    omega
  · exact incE_out _ _ _ _ _ hh
theorem conE_out (m : Int) (old : List UInt8) (n : Int) (root : List UInt8) (proof : List (List UInt8)) (h : ¬ (0 ≤ n ∧ n ≤ 100000 ∧ 0 ≤ m ∧ m ≤ n)) : conE m old n root proof = 40 := by unfold conE; rw [if_neg h]
theorem conE_none (old : List UInt8) (n : Int) (root : List UInt8) (proof : List (List UInt8)) (h : 0 ≤ n ∧ n ≤ 100000) : conE 0 old n root proof = (if proof = [] then (if old = sumD [] ∧ (n = 0 → root = old) then 0 else 41) else 40) := by
  unfold conE; rw [if_pos (by omega), if_pos rfl]
theorem conE_in (M : Nat) (old : List UInt8) (N : Nat) (root : List UInt8) (proof : List (List UInt8)) (h1 : 1 ≤ M) (h2 : M ≤ N) (h3 : N ≤ 100000) : conE M old N root proof = (if (bothR proof.reverse M N old true).2.2 = true then (if (bothR proof.reverse M N old true).1 = old ∧ (bothR proof.reverse M N old true).2.1 = root then 0 else 41) else 40) := by
  unfold conE; rw [if_pos (by omega), if_neg (by omega), Int.toNat_natCast, Int.toNat_natCast]
theorem conE_long (m : Int) (old : List UInt8) (n : Int) (root : List UInt8) (proof : List (List UInt8)) (h : 18 < proof.length) : conE m old n root proof = 40 := by
  by_cases hh : 0 ≤ n ∧ n ≤ 100000 ∧ 0 ≤ m ∧ m ≤ n
  · unfold conE
    rw [if_pos hh]
    by_cases h0 : m = 0
    · rw [if_pos h0, if_neg (by intro e; rw [e] at h; simp at h)]
    · rw [if_neg h0, if_neg]
      intro e
      have := bothR_short 17 proof.reverse m.toNat n.toNat old true (by omega) (by omega) (by omega) (by omega) e
      rw [List.length_reverse] at this
      omega
  · exact conE_out _ _ _ _ _ hh

/-- The tables that check reads. -/
def TabC (w : World) : Prop := Table 0 w
theorem TabC.keep {w w' : World} (h : TabC w) (hb : Below w.heap.size w w') : TabC w' := Table.keep h hb
theorem TabC.sha {w : World} (h : TabC w) : Table 0 w := h

/-- What the calls of package check answer. -/
structure CheckC : Prop where
  included : ∀ (root : List UInt8) (size index : Int) (leaf : List UInt8) (proof : List (List UInt8)) (a : Option Addr) (len cap : Nat) (w : World) (R X : Array Value) (HR : Hid (R = (cellsOf root).toArray)) (HX : Hid (X = (cellsOf leaf).toArray)) (hr : root.length = 32) (hx : leaf.length = 32)
    (hs : -9223372036854775808 ≤ size ∧ size ≤ 9223372036854775807) (hi : -9223372036854775808 ≤ index ∧ index ≤ 9223372036854775807) (hR : LReads w a len cap proof) (hK : TabC w),
    Calls Tryd.prog 10 #[.agg R, .int .i64 size, .int .i64 index, .agg X, .slice a len cap] w fun e w' => e = .returned (.int .i64 (incE root size index leaf proof)) ∧ Below w.heap.size w w'
  consistent : ∀ (m : Int) (old : List UInt8) (n : Int) (root : List UInt8) (proof : List (List UInt8)) (a : Option Addr) (len cap : Nat) (w : World) (O R : Array Value) (HO : Hid (O = (cellsOf old).toArray)) (HR : Hid (R = (cellsOf root).toArray)) (ho : old.length = 32) (hr : root.length = 32)
    (hm : -9223372036854775808 ≤ m ∧ m ≤ 9223372036854775807) (hn : -9223372036854775808 ≤ n ∧ n ≤ 9223372036854775807) (hR : LReads w a len cap proof) (hK : TabC w),
    Calls Tryd.prog 14 #[.int .i64 m, .agg O, .int .i64 n, .agg R, .slice a len cap] w fun e w' => e = .returned (.int .i64 (conE m old n root proof)) ∧ Below w.heap.size w w'
  clash : ∀ (root : List UInt8) (size index : Int) (x : List UInt8) (p : List (List UInt8)) (y : List UInt8) (q : List (List UInt8)) (a b : Option Addr) (len1 cap1 len2 cap2 : Nat) (w : World) (R X Y : Array Value) (HR : Hid (R = (cellsOf root).toArray)) (HX : Hid (X = (cellsOf x).toArray)) (HY : Hid (Y = (cellsOf y).toArray)) (hr : root.length = 32) (hx : x.length = 32) (hy : y.length = 32)
    (hs : -9223372036854775808 ≤ size ∧ size ≤ 9223372036854775807) (hi : -9223372036854775808 ≤ index ∧ index ≤ 9223372036854775807) (hP : LReads w a len1 cap1 p) (hQ : LReads w b len2 cap2 q) (hK : TabC w),
    Calls Tryd.prog 16 #[.agg R, .int .i64 size, .int .i64 index, .agg X, .slice a len1 cap1, .agg Y, .slice b len2 cap2] w fun e w' => e = .returned (claV (claE root size index x p y q)) ∧ Below w.heap.size w w'
end Go.Proofs.YtehfoeedlchphaaDoor
