/- Texts of our own that the row of TopSigned leans on, part 13. -/
import Derived.Test.YtdnhnjimhbbababDoorTopSignedJ11
import Derived.Test.YtdnhnjimhbbababDoorTopSignedJ12
import Derived.OneCell
import Derived.Laws.MakeOwn
import Derived.Laws.CopyRow

/- The fronts' calls: what they answer (their proofs are of one commit of the code). -/
namespace Go.Proofs.YtdnhnjimhbbababDoor
open Go.RowKit Sums
set_option maxRecDepth 100000
set_option linter.unusedVariables false
/-- There is room: the cells of m digests are there, from block B on, and may be written. -/
def RoomO (B : Nat) (x : Option Addr) (m : Nat) (W : World) : Prop := m = 0 ∨ ∃ gp o, x = some ⟨gp, o, none⟩ ∧ B ≤ gp ∧ W.there gp o (32 * m)
/-- What the calls of package front answer. -/
structure FrontC : Prop where
  check_ok : ∀ (n : Int) (a : Option Addr) (len cap : Nat) (w : World) (h : isRight n len), Calls Tryd.prog 19 #[.agg #[.int .i64 n, .slice a len cap]] w fun e w' => e = .returned (.int .i64 0) ∧ Below w.heap.size w w'
  check_no : ∀ (n : Int) (a : Option Addr) (len cap : Nat) (w : World) (hl : len ≤ maxLen) (hn : -9223372036854775808 ≤ n ∧ n ≤ 9223372036854775807) (h : ¬ isRight n len), Calls Tryd.prog 19 #[.agg #[.int .i64 n, .slice a len cap]] w fun e w' => e = .returned (.int .i64 30) ∧ Below w.heap.size w w'
  frontRoot_ok : ∀ (n : Int) (a : Option Addr) (len cap : Nat) (ps : List (List UInt8)) (w : World) (h : isRight n len) (hR : LReads w a len cap ps) (hK : TabF w) (D : Array Value) (HD : Hid (D = (cellsOf (rootP ps)).toArray)), Calls Tryd.prog 7 #[.agg #[.int .i64 n, .slice a len cap]] w fun e w' => e = .returned (.tuple #[.agg D, .int .i64 0]) ∧ Below w.heap.size w w'
  frontRoot_no : ∀ (n : Int) (a : Option Addr) (len cap : Nat) (w : World) (hl : len ≤ maxLen) (hn : -9223372036854775808 ≤ n ∧ n ≤ 9223372036854775807) (h : ¬ isRight n len) (Z : Array Value) (HZ : Hid (Z = (cellsOf (List.replicate 32 0)).toArray)), Calls Tryd.prog 7 #[.agg #[.int .i64 n, .slice a len cap]] w fun e w' => e = .returned (.tuple #[.agg Z, .int .i64 30]) ∧ Below w.heap.size w w'
  add_ok : ∀ (n : Nat) (a : Option Addr) (len cap : Nat) (ps : List (List UInt8)) (d : List UInt8) (w : World) (h : isRight n len) (hn : n ≤ 99999) (hR : LReads w a len cap ps) (hd : d.length = 32) (hK : TabF w) (D : Array Value) (HD : Hid (D = (cellsOf d).toArray)), Calls Tryd.prog 6 #[.agg #[.int .i64 n, .slice a len cap], .agg D] w fun e w' => ∃ y cy, e = .returned (.tuple #[.agg #[.int .i64 ((n : Int) + 1), .slice y (addP n ps d).length cy], .int .i64 0]) ∧ LReads w' y (addP n ps d).length cy (addP n ps d) ∧ RoomO w.heap.size y (addP n ps d).length w' ∧ Below w.heap.size w w'
  add_no : ∀ (n : Int) (a : Option Addr) (len cap : Nat) (w : World) (hl : len ≤ maxLen) (hn : -9223372036854775808 ≤ n ∧ n ≤ 9223372036854775807) (h : ¬ isRight n len) (D : Array Value) (d : List UInt8) (hd : d.length = 32) (HD : Hid (D = (cellsOf d).toArray)), Calls Tryd.prog 6 #[.agg #[.int .i64 n, .slice a len cap], .agg D] w fun e w' => ∃ y cy, e = .returned (.tuple #[.agg #[.int .i64 0, .slice y 0 cy], .int .i64 30]) ∧ Below w.heap.size w w'
  add_full : ∀ (a : Option Addr) (len cap : Nat) (w : World) (h : isRight 100000 len) (D : Array Value) (d : List UInt8) (hd : d.length = 32) (HD : Hid (D = (cellsOf d).toArray)), Calls Tryd.prog 6 #[.agg #[.int .i64 100000, .slice a len cap], .agg D] w fun e w' => ∃ y cy, e = .returned (.tuple #[.agg #[.int .i64 0, .slice y 0 cy], .int .i64 2]) ∧ Below w.heap.size w w'
end Go.Proofs.YtdnhnjimhbbababDoor

/- What front.Check answers. -/
namespace Go.Proofs.YtdnhnjimhbbababDoor
open Go.RowKit Sums
set_option maxRecDepth 100000
set_option linter.unusedVariables false
set_option linter.unusedSimpArgs false
/-- A struct of two cells in its block. -/
def Two (W : World) (g : Nat) (x y : Value) : Prop := W.cell? ⟨g, 0, none⟩ = some x ∧ W.cell? ⟨g, 1, none⟩ = some y
theorem two_new (w : World) (x y : Value) (t : TypeId) : Two (w.alloc (.cells #[x, y] t)) w.heap.size x y :=
  ⟨by rw [cell_of_row _ _ 0 _ t (0, 0) (heap_alloc_new w _)]; rfl, by rw [cell_of_row _ _ 1 _ t (0, 0) (heap_alloc_new w _)]; rfl⟩
theorem Two.keep {W W' : World} {g : Nat} {x y : Value} (h : Two W g x y) (hb : Below W.heap.size W W') : Two W' g x y := by
  have hg : g < W.heap.size := World.block_lt_of_cell? _ _ h.1
  exact ⟨by rw [hb.cell hg]; exact h.1, by rw [hb.cell hg]; exact h.2⟩
set_option maxHeartbeats 1000000 in
theorem check_neg (n : Int) (a : Option Addr) (len cap : Nat) (w : World) (h : n < 0) :
    Calls Tryd.prog 19 #[.agg #[.int .i64 n, .slice a len cap]] w fun e w' => e = .returned (.int .i64 30) ∧ Below w.heap.size w w' := by
  have d0 : decide (n < 0) = true := by rw [decide_eq_true_eq]; exact h
  clear h
  go_enter Tryd.func19, Tryd.ntmps19
  go_wp2
  refine wp_region_held_drew (S := (fun W => Two W w.heap.size (.int .i64 n) (.slice a len cap))) (by kernel_rfl) (show Two (w.alloc (.cells #[.int .i64 n, .slice a len cap] 28)) w.heap.size (.int .i64 n) (.slice a len cap) from two_new w _ _ _) (fun hHeld => ?_)
  refine wpAnyH_take (i := 0) (oi := { dst := some 3, op := Op.fieldAddr 28 (Operand.tmp 1) 0, type := 0, pos := "front.go:47", after := #[], guard := none }) (v := .pointer (some ⟨w.heap.size, 0, none⟩)) rfl (by kernel_rfl) (by kernel_rfl) (by kernel_rfl) (fun _ _ _ h => h) (Or.inl ⟨by rfl, by intro w hSw; go_simp⟩) hHeld ?_
  try simp only [Act.put, List.setIfInBounds_toArray, List.set_cons_zero, List.set_cons_succ]
  refine wpAnyH_take (i := 1) (oi := { dst := some 4, op := Op.load 3 (Operand.tmp 3), type := 3, pos := "front.go:47", after := #[{ on := 0, ground := Ground.data }], guard := none }) (v := .int .i64 n) rfl (by kernel_rfl) (by kernel_rfl) (by kernel_rfl) (fun _ _ _ h => h) (Or.inl ⟨by rfl, by intro W hSw; have h1 := hSw.1; go_simp⟩) hHeld ?_
  try simp only [Act.put, List.setIfInBounds_toArray, List.set_cons_zero, List.set_cons_succ]
  refine wpAnyH_take (i := 2) (oi := { dst := some 5, op := Op.binOp BinOp.lss 3 (Operand.tmp 4) (Operand.const (Value.int IntKind.i64 0)) 3, type := 4, pos := "front.go:47", after := #[{ on := 1, ground := Ground.data }], guard := none }) (v := .bool true) rfl (by kernel_rfl) (by kernel_rfl) (by kernel_rfl) (fun _ _ _ h => h) (Or.inl ⟨by rfl, by intro w hSw; go_simp⟩) hHeld ?_
  try simp only [Act.put, List.setIfInBounds_toArray, List.set_cons_zero, List.set_cons_succ]
  refine wpAnyH_take (i := 3) (oi := { dst := some 6, op := Op.move (Operand.tmp 5), type := 4, pos := "front.go:47", after := #[{ on := 2, ground := Ground.data }], guard := none }) (v := .bool true) rfl (by kernel_rfl) (by kernel_rfl) (by kernel_rfl) (fun _ _ _ h => h) (Or.inl ⟨by rfl, by intro w hSw; go_simp⟩) hHeld ?_
  try simp only [Act.put, List.setIfInBounds_toArray, List.set_cons_zero, List.set_cons_succ]
  refine wpAnyH_take (i := 4) (oi := { dst := some 7, op := Op.fieldAddr 28 (Operand.tmp 1) 0, type := 0, pos := "front.go:47", after := #[{ on := 3, ground := Ground.guard }], guard := some (3, false) }) (v := undef) rfl (by kernel_rfl) (by kernel_rfl) (by kernel_rfl) (fun _ _ _ h => h) (Or.inr ⟨by rfl, rfl⟩) hHeld ?_
  try simp only [Act.put, List.setIfInBounds_toArray, List.set_cons_zero, List.set_cons_succ]
  refine wpAnyH_take (i := 5) (oi := { dst := some 8, op := Op.load 3 (Operand.tmp 7), type := 3, pos := "front.go:47", after := #[{ on := 4, ground := Ground.data }, { on := 3, ground := Ground.guard }], guard := some (3, false) }) (v := undef) rfl (by kernel_rfl) (by kernel_rfl) (by kernel_rfl) (fun _ _ _ h => h) (Or.inr ⟨by rfl, rfl⟩) hHeld ?_
  try simp only [Act.put, List.setIfInBounds_toArray, List.set_cons_zero, List.set_cons_succ]
  refine wpAnyH_take (i := 6) (oi := { dst := some 9, op := Op.binOp BinOp.gtr 3 (Operand.tmp 8) (Operand.const (Value.int IntKind.i64 100000)) 3, type := 4, pos := "front.go:47", after := #[{ on := 5, ground := Ground.data }, { on := 3, ground := Ground.guard }], guard := some (3, false) }) (v := undef) rfl (by kernel_rfl) (by kernel_rfl) (by kernel_rfl) (fun _ _ _ h => h) (Or.inr ⟨by rfl, rfl⟩) hHeld ?_
  try simp only [Act.put, List.setIfInBounds_toArray, List.set_cons_zero, List.set_cons_succ]
  refine wpAnyH_take (i := 7) (oi := { dst := some 10, op := Op.pick (Operand.tmp 6) (Operand.const (Value.bool true)) (Operand.tmp 9), type := 4, pos := "front.go:47", after := #[{ on := 3, ground := Ground.data }, { on := 6, ground := Ground.data }], guard := none }) (v := .bool true) rfl (by kernel_rfl) (by kernel_rfl) (by kernel_rfl) (fun _ _ _ h => h) (Or.inl ⟨by rfl, by intro w hSw; go_simp⟩) hHeld ?_
  try simp only [Act.put, List.setIfInBounds_toArray, List.set_cons_zero, List.set_cons_succ]
  refine wpAnyH_take (i := 8) (oi := { dst := some 11, op := Op.move (Operand.tmp 10), type := 4, pos := "front.go:47", after := #[{ on := 7, ground := Ground.data }, { on := 3, ground := Ground.chain }], guard := none }) (v := .bool true) rfl (by kernel_rfl) (by kernel_rfl) (by kernel_rfl) (fun _ _ _ h => h) (Or.inl ⟨by rfl, by intro w hSw; go_simp⟩) hHeld ?_
  try simp only [Act.put, List.setIfInBounds_toArray, List.set_cons_zero, List.set_cons_succ]
  refine wpAnyH_take (i := 9) (oi := { dst := some 12, op := Op.fieldAddr 28 (Operand.tmp 1) 1, type := 0, pos := "front.go:47", after := #[{ on := 8, ground := Ground.guard }], guard := some (8, false) }) (v := undef) rfl (by kernel_rfl) (by kernel_rfl) (by kernel_rfl) (fun _ _ _ h => h) (Or.inr ⟨by rfl, rfl⟩) hHeld ?_
  try simp only [Act.put, List.setIfInBounds_toArray, List.set_cons_zero, List.set_cons_succ]
  refine wpAnyH_take (i := 10) (oi := { dst := some 13, op := Op.load 26 (Operand.tmp 12), type := 26, pos := "front.go:47", after := #[{ on := 9, ground := Ground.data }, { on := 8, ground := Ground.guard }], guard := some (8, false) }) (v := undef) rfl (by kernel_rfl) (by kernel_rfl) (by kernel_rfl) (fun _ _ _ h => h) (Or.inr ⟨by rfl, rfl⟩) hHeld ?_
  try simp only [Act.put, List.setIfInBounds_toArray, List.set_cons_zero, List.set_cons_succ]
  refine wpAnyH_take (i := 11) (oi := { dst := some 14, op := Op.call { callee := Callee.builtin Builtin.len, args := #[Operand.tmp 13], argTypes := #[26] }, type := 3, pos := "front.go:47", after := #[{ on := 10, ground := Ground.data }, { on := 8, ground := Ground.guard }], guard := some (8, false) }) (v := undef) rfl (by kernel_rfl) (by kernel_rfl) (by kernel_rfl) (fun _ _ _ h => h) (Or.inr ⟨by rfl, rfl⟩) hHeld ?_
  try simp only [Act.put, List.setIfInBounds_toArray, List.set_cons_zero, List.set_cons_succ]
  refine wpAnyH_take (i := 12) (oi := { dst := some 15, op := Op.fieldAddr 28 (Operand.tmp 1) 0, type := 0, pos := "front.go:47", after := #[{ on := 8, ground := Ground.guard }], guard := some (8, false) }) (v := undef) rfl (by kernel_rfl) (by kernel_rfl) (by kernel_rfl) (fun _ _ _ h => h) (Or.inr ⟨by rfl, rfl⟩) hHeld ?_
  try simp only [Act.put, List.setIfInBounds_toArray, List.set_cons_zero, List.set_cons_succ]
  refine wpAnyH_take (i := 13) (oi := { dst := some 16, op := Op.load 3 (Operand.tmp 15), type := 3, pos := "front.go:47", after := #[{ on := 12, ground := Ground.data }, { on := 8, ground := Ground.guard }], guard := some (8, false) }) (v := undef) rfl (by kernel_rfl) (by kernel_rfl) (by kernel_rfl) (fun _ _ _ h => h) (Or.inr ⟨by rfl, rfl⟩) hHeld ?_
  try simp only [Act.put, List.setIfInBounds_toArray, List.set_cons_zero, List.set_cons_succ]
  refine wpAnyH_take (i := 14) (oi := { dst := some 17, op := Op.convert 3 103 (Operand.tmp 16), type := 103, pos := "front.go:47", after := #[{ on := 13, ground := Ground.data }, { on := 8, ground := Ground.guard }], guard := some (8, false) }) (v := undef) rfl (by kernel_rfl) (by kernel_rfl) (by kernel_rfl) (fun _ _ _ h => h) (Or.inr ⟨by rfl, rfl⟩) hHeld ?_
  try simp only [Act.put, List.setIfInBounds_toArray, List.set_cons_zero, List.set_cons_succ]
  refine wpAnyH_take (i := 15) (oi := { dst := some 18, op := Op.call { callee := Callee.value (Operand.func 53), args := #[Operand.tmp 17], argTypes := #[103] }, type := 3, pos := "front.go:47", after := #[{ on := 14, ground := Ground.data }, { on := 8, ground := Ground.chain }, { on := 8, ground := Ground.guard }], guard := some (8, false) }) (v := undef) rfl (by kernel_rfl) (by kernel_rfl) (by kernel_rfl) (fun _ _ _ h => h) (Or.inr ⟨by rfl, rfl⟩) hHeld ?_
  try simp only [Act.put, List.setIfInBounds_toArray, List.set_cons_zero, List.set_cons_succ]
  refine wpAnyH_take (i := 16) (oi := { dst := some 19, op := Op.binOp BinOp.neq 3 (Operand.tmp 14) (Operand.tmp 18) 3, type := 4, pos := "front.go:47", after := #[{ on := 11, ground := Ground.data }, { on := 15, ground := Ground.data }, { on := 8, ground := Ground.guard }], guard := some (8, false) }) (v := undef) rfl (by kernel_rfl) (by kernel_rfl) (by kernel_rfl) (fun _ _ _ h => h) (Or.inr ⟨by rfl, rfl⟩) hHeld ?_
  try simp only [Act.put, List.setIfInBounds_toArray, List.set_cons_zero, List.set_cons_succ]
  refine wpAnyH_take (i := 17) (oi := { dst := some 20, op := Op.pick (Operand.tmp 11) (Operand.const (Value.bool true)) (Operand.tmp 19), type := 4, pos := "front.go:47", after := #[{ on := 8, ground := Ground.data }, { on := 16, ground := Ground.data }], guard := none }) (v := .bool true) rfl (by kernel_rfl) (by kernel_rfl) (by kernel_rfl) (fun _ _ _ h => h) (Or.inl ⟨by rfl, by intro w hSw; go_simp⟩) hHeld ?_
  try simp only [Act.put, List.setIfInBounds_toArray, List.set_cons_zero, List.set_cons_succ]
  refine wpAnyH_done (by kernel_rfl) ?_ _
  go_wp2
  go_ret
  exact ⟨rfl, ((Below.refl _ _).alloc (Nat.le_refl _) _).drew⟩
set_option maxHeartbeats 1000000 in
theorem check_big (n : Int) (a : Option Addr) (len cap : Nat) (w : World) (h : 100000 < n) :
    Calls Tryd.prog 19 #[.agg #[.int .i64 n, .slice a len cap]] w fun e w' => e = .returned (.int .i64 30) ∧ Below w.heap.size w w' := by
  have d0 : decide (n < 0) = false := by rw [decide_eq_false_iff_not]; omega
  have d1 : decide (100000 < n) = true := by rw [decide_eq_true_eq]; exact h
  clear h
  go_enter Tryd.func19, Tryd.ntmps19
  go_wp2
  refine wp_region_held_drew (S := (fun W => Two W w.heap.size (.int .i64 n) (.slice a len cap))) (by kernel_rfl) (show Two (w.alloc (.cells #[.int .i64 n, .slice a len cap] 28)) w.heap.size (.int .i64 n) (.slice a len cap) from two_new w _ _ _) (fun hHeld => ?_)
  refine wpAnyH_take (i := 0) (oi := { dst := some 3, op := Op.fieldAddr 28 (Operand.tmp 1) 0, type := 0, pos := "front.go:47", after := #[], guard := none }) (v := .pointer (some ⟨w.heap.size, 0, none⟩)) rfl (by kernel_rfl) (by kernel_rfl) (by kernel_rfl) (fun _ _ _ h => h) (Or.inl ⟨by rfl, by intro w hSw; go_simp⟩) hHeld ?_
  try simp only [Act.put, List.setIfInBounds_toArray, List.set_cons_zero, List.set_cons_succ]
  refine wpAnyH_take (i := 1) (oi := { dst := some 4, op := Op.load 3 (Operand.tmp 3), type := 3, pos := "front.go:47", after := #[{ on := 0, ground := Ground.data }], guard := none }) (v := .int .i64 n) rfl (by kernel_rfl) (by kernel_rfl) (by kernel_rfl) (fun _ _ _ h => h) (Or.inl ⟨by rfl, by intro W hSw; have h1 := hSw.1; go_simp⟩) hHeld ?_
  try simp only [Act.put, List.setIfInBounds_toArray, List.set_cons_zero, List.set_cons_succ]
  refine wpAnyH_take (i := 2) (oi := { dst := some 5, op := Op.binOp BinOp.lss 3 (Operand.tmp 4) (Operand.const (Value.int IntKind.i64 0)) 3, type := 4, pos := "front.go:47", after := #[{ on := 1, ground := Ground.data }], guard := none }) (v := .bool false) rfl (by kernel_rfl) (by kernel_rfl) (by kernel_rfl) (fun _ _ _ h => h) (Or.inl ⟨by rfl, by intro w hSw; go_simp⟩) hHeld ?_
  try simp only [Act.put, List.setIfInBounds_toArray, List.set_cons_zero, List.set_cons_succ]
  refine wpAnyH_take (i := 3) (oi := { dst := some 6, op := Op.move (Operand.tmp 5), type := 4, pos := "front.go:47", after := #[{ on := 2, ground := Ground.data }], guard := none }) (v := .bool false) rfl (by kernel_rfl) (by kernel_rfl) (by kernel_rfl) (fun _ _ _ h => h) (Or.inl ⟨by rfl, by intro w hSw; go_simp⟩) hHeld ?_
  try simp only [Act.put, List.setIfInBounds_toArray, List.set_cons_zero, List.set_cons_succ]
  refine wpAnyH_take (i := 4) (oi := { dst := some 7, op := Op.fieldAddr 28 (Operand.tmp 1) 0, type := 0, pos := "front.go:47", after := #[{ on := 3, ground := Ground.guard }], guard := some (3, false) }) (v := .pointer (some ⟨w.heap.size, 0, none⟩)) rfl (by kernel_rfl) (by kernel_rfl) (by kernel_rfl) (fun _ _ _ h => h) (Or.inl ⟨by rfl, by intro w hSw; go_simp⟩) hHeld ?_
  try simp only [Act.put, List.setIfInBounds_toArray, List.set_cons_zero, List.set_cons_succ]
  refine wpAnyH_take (i := 5) (oi := { dst := some 8, op := Op.load 3 (Operand.tmp 7), type := 3, pos := "front.go:47", after := #[{ on := 4, ground := Ground.data }, { on := 3, ground := Ground.guard }], guard := some (3, false) }) (v := .int .i64 n) rfl (by kernel_rfl) (by kernel_rfl) (by kernel_rfl) (fun _ _ _ h => h) (Or.inl ⟨by rfl, by intro W hSw; have h1 := hSw.1; go_simp⟩) hHeld ?_
  try simp only [Act.put, List.setIfInBounds_toArray, List.set_cons_zero, List.set_cons_succ]
  refine wpAnyH_take (i := 6) (oi := { dst := some 9, op := Op.binOp BinOp.gtr 3 (Operand.tmp 8) (Operand.const (Value.int IntKind.i64 100000)) 3, type := 4, pos := "front.go:47", after := #[{ on := 5, ground := Ground.data }, { on := 3, ground := Ground.guard }], guard := some (3, false) }) (v := .bool true) rfl (by kernel_rfl) (by kernel_rfl) (by kernel_rfl) (fun _ _ _ h => h) (Or.inl ⟨by rfl, by intro w hSw; go_simp⟩) hHeld ?_
  try simp only [Act.put, List.setIfInBounds_toArray, List.set_cons_zero, List.set_cons_succ]
  refine wpAnyH_take (i := 7) (oi := { dst := some 10, op := Op.pick (Operand.tmp 6) (Operand.const (Value.bool true)) (Operand.tmp 9), type := 4, pos := "front.go:47", after := #[{ on := 3, ground := Ground.data }, { on := 6, ground := Ground.data }], guard := none }) (v := .bool true) rfl (by kernel_rfl) (by kernel_rfl) (by kernel_rfl) (fun _ _ _ h => h) (Or.inl ⟨by rfl, by intro w hSw; go_simp⟩) hHeld ?_
  try simp only [Act.put, List.setIfInBounds_toArray, List.set_cons_zero, List.set_cons_succ]
  refine wpAnyH_take (i := 8) (oi := { dst := some 11, op := Op.move (Operand.tmp 10), type := 4, pos := "front.go:47", after := #[{ on := 7, ground := Ground.data }, { on := 3, ground := Ground.chain }], guard := none }) (v := .bool true) rfl (by kernel_rfl) (by kernel_rfl) (by kernel_rfl) (fun _ _ _ h => h) (Or.inl ⟨by rfl, by intro w hSw; go_simp⟩) hHeld ?_
  try simp only [Act.put, List.setIfInBounds_toArray, List.set_cons_zero, List.set_cons_succ]
  refine wpAnyH_take (i := 9) (oi := { dst := some 12, op := Op.fieldAddr 28 (Operand.tmp 1) 1, type := 0, pos := "front.go:47", after := #[{ on := 8, ground := Ground.guard }], guard := some (8, false) }) (v := undef) rfl (by kernel_rfl) (by kernel_rfl) (by kernel_rfl) (fun _ _ _ h => h) (Or.inr ⟨by rfl, rfl⟩) hHeld ?_
  try simp only [Act.put, List.setIfInBounds_toArray, List.set_cons_zero, List.set_cons_succ]
  refine wpAnyH_take (i := 10) (oi := { dst := some 13, op := Op.load 26 (Operand.tmp 12), type := 26, pos := "front.go:47", after := #[{ on := 9, ground := Ground.data }, { on := 8, ground := Ground.guard }], guard := some (8, false) }) (v := undef) rfl (by kernel_rfl) (by kernel_rfl) (by kernel_rfl) (fun _ _ _ h => h) (Or.inr ⟨by rfl, rfl⟩) hHeld ?_
  try simp only [Act.put, List.setIfInBounds_toArray, List.set_cons_zero, List.set_cons_succ]
  refine wpAnyH_take (i := 11) (oi := { dst := some 14, op := Op.call { callee := Callee.builtin Builtin.len, args := #[Operand.tmp 13], argTypes := #[26] }, type := 3, pos := "front.go:47", after := #[{ on := 10, ground := Ground.data }, { on := 8, ground := Ground.guard }], guard := some (8, false) }) (v := undef) rfl (by kernel_rfl) (by kernel_rfl) (by kernel_rfl) (fun _ _ _ h => h) (Or.inr ⟨by rfl, rfl⟩) hHeld ?_
  try simp only [Act.put, List.setIfInBounds_toArray, List.set_cons_zero, List.set_cons_succ]
  refine wpAnyH_take (i := 12) (oi := { dst := some 15, op := Op.fieldAddr 28 (Operand.tmp 1) 0, type := 0, pos := "front.go:47", after := #[{ on := 8, ground := Ground.guard }], guard := some (8, false) }) (v := undef) rfl (by kernel_rfl) (by kernel_rfl) (by kernel_rfl) (fun _ _ _ h => h) (Or.inr ⟨by rfl, rfl⟩) hHeld ?_
  try simp only [Act.put, List.setIfInBounds_toArray, List.set_cons_zero, List.set_cons_succ]
  refine wpAnyH_take (i := 13) (oi := { dst := some 16, op := Op.load 3 (Operand.tmp 15), type := 3, pos := "front.go:47", after := #[{ on := 12, ground := Ground.data }, { on := 8, ground := Ground.guard }], guard := some (8, false) }) (v := undef) rfl (by kernel_rfl) (by kernel_rfl) (by kernel_rfl) (fun _ _ _ h => h) (Or.inr ⟨by rfl, rfl⟩) hHeld ?_
  try simp only [Act.put, List.setIfInBounds_toArray, List.set_cons_zero, List.set_cons_succ]
  refine wpAnyH_take (i := 14) (oi := { dst := some 17, op := Op.convert 3 103 (Operand.tmp 16), type := 103, pos := "front.go:47", after := #[{ on := 13, ground := Ground.data }, { on := 8, ground := Ground.guard }], guard := some (8, false) }) (v := undef) rfl (by kernel_rfl) (by kernel_rfl) (by kernel_rfl) (fun _ _ _ h => h) (Or.inr ⟨by rfl, rfl⟩) hHeld ?_
  try simp only [Act.put, List.setIfInBounds_toArray, List.set_cons_zero, List.set_cons_succ]
  refine wpAnyH_take (i := 15) (oi := { dst := some 18, op := Op.call { callee := Callee.value (Operand.func 53), args := #[Operand.tmp 17], argTypes := #[103] }, type := 3, pos := "front.go:47", after := #[{ on := 14, ground := Ground.data }, { on := 8, ground := Ground.chain }, { on := 8, ground := Ground.guard }], guard := some (8, false) }) (v := undef) rfl (by kernel_rfl) (by kernel_rfl) (by kernel_rfl) (fun _ _ _ h => h) (Or.inr ⟨by rfl, rfl⟩) hHeld ?_
  try simp only [Act.put, List.setIfInBounds_toArray, List.set_cons_zero, List.set_cons_succ]
  refine wpAnyH_take (i := 16) (oi := { dst := some 19, op := Op.binOp BinOp.neq 3 (Operand.tmp 14) (Operand.tmp 18) 3, type := 4, pos := "front.go:47", after := #[{ on := 11, ground := Ground.data }, { on := 15, ground := Ground.data }, { on := 8, ground := Ground.guard }], guard := some (8, false) }) (v := undef) rfl (by kernel_rfl) (by kernel_rfl) (by kernel_rfl) (fun _ _ _ h => h) (Or.inr ⟨by rfl, rfl⟩) hHeld ?_
  try simp only [Act.put, List.setIfInBounds_toArray, List.set_cons_zero, List.set_cons_succ]
  refine wpAnyH_take (i := 17) (oi := { dst := some 20, op := Op.pick (Operand.tmp 11) (Operand.const (Value.bool true)) (Operand.tmp 19), type := 4, pos := "front.go:47", after := #[{ on := 8, ground := Ground.data }, { on := 16, ground := Ground.data }], guard := none }) (v := .bool true) rfl (by kernel_rfl) (by kernel_rfl) (by kernel_rfl) (fun _ _ _ h => h) (Or.inl ⟨by rfl, by intro w hSw; go_simp⟩) hHeld ?_
  try simp only [Act.put, List.setIfInBounds_toArray, List.set_cons_zero, List.set_cons_succ]
  refine wpAnyH_done (by kernel_rfl) ?_ _
  go_wp2
  go_ret
  exact ⟨rfl, ((Below.refl _ _).alloc (Nat.le_refl _) _).drew⟩
set_option maxHeartbeats 1000000 in
theorem check_yes (N : Nat) (a : Option Addr) (len cap : Nat) (w : World) (h : N ≤ 100000) (hm : len = many N) :
    Calls Tryd.prog 19 #[.agg #[.int .i64 N, .slice a len cap]] w fun e w' => e = .returned (.int .i64 0) ∧ Below w.heap.size w w' := by
  obtain ⟨M, HM⟩ : ∃ M, Hid (M = many N) := ⟨_, (rfl : many N = _)⟩
  have MC : Hid (∀ W, Calls Tryd.prog 53 #[.int .u64 N] W fun e w' => e = .returned (.int .i64 M) ∧ W = w') := fun W => by
    rw [HM.out]
    exact ones_any N W h
  rw [← HM.out] at hm
  have d0 : decide ((N : Int) < 0) = false := by rw [decide_eq_false_iff_not]; omega
  have d1 : decide (100000 < (N : Int)) = false := by rw [decide_eq_false_iff_not]; omega
  have hM : M ≤ 100000 := by rw [HM.out]; have := many_le N; omega
  subst hm
  have e1 : (!((len : Int) == (len : Int))) = false := by simp
  go_enter Tryd.func19, Tryd.ntmps19
  go_wp2
  refine wp_region_held_drew (S := (fun W => Two W w.heap.size (.int .i64 N) (.slice a len cap))) (by kernel_rfl) (show Two (w.alloc (.cells #[.int .i64 N, .slice a len cap] 28)) w.heap.size (.int .i64 N) (.slice a len cap) from two_new w _ _ _) (fun hHeld => ?_)
  refine wpAnyH_take (i := 0) (oi := { dst := some 3, op := Op.fieldAddr 28 (Operand.tmp 1) 0, type := 0, pos := "front.go:47", after := #[], guard := none }) (v := .pointer (some ⟨w.heap.size, 0, none⟩)) rfl (by kernel_rfl) (by kernel_rfl) (by kernel_rfl) (fun _ _ _ h => h) (Or.inl ⟨by rfl, by intro w hSw; go_simp⟩) hHeld ?_
  try simp only [Act.put, List.setIfInBounds_toArray, List.set_cons_zero, List.set_cons_succ]
  refine wpAnyH_take (i := 1) (oi := { dst := some 4, op := Op.load 3 (Operand.tmp 3), type := 3, pos := "front.go:47", after := #[{ on := 0, ground := Ground.data }], guard := none }) (v := .int .i64 N) rfl (by kernel_rfl) (by kernel_rfl) (by kernel_rfl) (fun _ _ _ h => h) (Or.inl ⟨by rfl, by intro W hSw; have h1 := hSw.1; go_simp⟩) hHeld ?_
  try simp only [Act.put, List.setIfInBounds_toArray, List.set_cons_zero, List.set_cons_succ]
  refine wpAnyH_take (i := 2) (oi := { dst := some 5, op := Op.binOp BinOp.lss 3 (Operand.tmp 4) (Operand.const (Value.int IntKind.i64 0)) 3, type := 4, pos := "front.go:47", after := #[{ on := 1, ground := Ground.data }], guard := none }) (v := .bool false) rfl (by kernel_rfl) (by kernel_rfl) (by kernel_rfl) (fun _ _ _ h => h) (Or.inl ⟨by rfl, by intro w hSw; go_simp⟩) hHeld ?_
  try simp only [Act.put, List.setIfInBounds_toArray, List.set_cons_zero, List.set_cons_succ]
  refine wpAnyH_take (i := 3) (oi := { dst := some 6, op := Op.move (Operand.tmp 5), type := 4, pos := "front.go:47", after := #[{ on := 2, ground := Ground.data }], guard := none }) (v := .bool false) rfl (by kernel_rfl) (by kernel_rfl) (by kernel_rfl) (fun _ _ _ h => h) (Or.inl ⟨by rfl, by intro w hSw; go_simp⟩) hHeld ?_
  try simp only [Act.put, List.setIfInBounds_toArray, List.set_cons_zero, List.set_cons_succ]
  refine wpAnyH_take (i := 4) (oi := { dst := some 7, op := Op.fieldAddr 28 (Operand.tmp 1) 0, type := 0, pos := "front.go:47", after := #[{ on := 3, ground := Ground.guard }], guard := some (3, false) }) (v := .pointer (some ⟨w.heap.size, 0, none⟩)) rfl (by kernel_rfl) (by kernel_rfl) (by kernel_rfl) (fun _ _ _ h => h) (Or.inl ⟨by rfl, by intro w hSw; go_simp⟩) hHeld ?_
  try simp only [Act.put, List.setIfInBounds_toArray, List.set_cons_zero, List.set_cons_succ]
  refine wpAnyH_take (i := 5) (oi := { dst := some 8, op := Op.load 3 (Operand.tmp 7), type := 3, pos := "front.go:47", after := #[{ on := 4, ground := Ground.data }, { on := 3, ground := Ground.guard }], guard := some (3, false) }) (v := .int .i64 N) rfl (by kernel_rfl) (by kernel_rfl) (by kernel_rfl) (fun _ _ _ h => h) (Or.inl ⟨by rfl, by intro W hSw; have h1 := hSw.1; go_simp⟩) hHeld ?_
  try simp only [Act.put, List.setIfInBounds_toArray, List.set_cons_zero, List.set_cons_succ]
  refine wpAnyH_take (i := 6) (oi := { dst := some 9, op := Op.binOp BinOp.gtr 3 (Operand.tmp 8) (Operand.const (Value.int IntKind.i64 100000)) 3, type := 4, pos := "front.go:47", after := #[{ on := 5, ground := Ground.data }, { on := 3, ground := Ground.guard }], guard := some (3, false) }) (v := .bool false) rfl (by kernel_rfl) (by kernel_rfl) (by kernel_rfl) (fun _ _ _ h => h) (Or.inl ⟨by rfl, by intro w hSw; go_simp⟩) hHeld ?_
  try simp only [Act.put, List.setIfInBounds_toArray, List.set_cons_zero, List.set_cons_succ]
  refine wpAnyH_take (i := 7) (oi := { dst := some 10, op := Op.pick (Operand.tmp 6) (Operand.const (Value.bool true)) (Operand.tmp 9), type := 4, pos := "front.go:47", after := #[{ on := 3, ground := Ground.data }, { on := 6, ground := Ground.data }], guard := none }) (v := .bool false) rfl (by kernel_rfl) (by kernel_rfl) (by kernel_rfl) (fun _ _ _ h => h) (Or.inl ⟨by rfl, by intro w hSw; go_simp⟩) hHeld ?_
  try simp only [Act.put, List.setIfInBounds_toArray, List.set_cons_zero, List.set_cons_succ]
  refine wpAnyH_take (i := 8) (oi := { dst := some 11, op := Op.move (Operand.tmp 10), type := 4, pos := "front.go:47", after := #[{ on := 7, ground := Ground.data }, { on := 3, ground := Ground.chain }], guard := none }) (v := .bool false) rfl (by kernel_rfl) (by kernel_rfl) (by kernel_rfl) (fun _ _ _ h => h) (Or.inl ⟨by rfl, by intro w hSw; go_simp⟩) hHeld ?_
  try simp only [Act.put, List.setIfInBounds_toArray, List.set_cons_zero, List.set_cons_succ]
  refine wpAnyH_take (i := 9) (oi := { dst := some 12, op := Op.fieldAddr 28 (Operand.tmp 1) 1, type := 0, pos := "front.go:47", after := #[{ on := 8, ground := Ground.guard }], guard := some (8, false) }) (v := .pointer (some ⟨w.heap.size, 1, none⟩)) rfl (by kernel_rfl) (by kernel_rfl) (by kernel_rfl) (fun _ _ _ h => h) (Or.inl ⟨by rfl, by intro w hSw; go_simp⟩) hHeld ?_
  try simp only [Act.put, List.setIfInBounds_toArray, List.set_cons_zero, List.set_cons_succ]
  refine wpAnyH_take (i := 10) (oi := { dst := some 13, op := Op.load 26 (Operand.tmp 12), type := 26, pos := "front.go:47", after := #[{ on := 9, ground := Ground.data }, { on := 8, ground := Ground.guard }], guard := some (8, false) }) (v := .slice a len cap) rfl (by kernel_rfl) (by kernel_rfl) (by kernel_rfl) (fun _ _ _ h => h) (Or.inl ⟨by rfl, by intro W hSw; have h1 := hSw.2; go_simp⟩) hHeld ?_
  try simp only [Act.put, List.setIfInBounds_toArray, List.set_cons_zero, List.set_cons_succ]
  refine wpAnyH_take (i := 11) (oi := { dst := some 14, op := Op.call { callee := Callee.builtin Builtin.len, args := #[Operand.tmp 13], argTypes := #[26] }, type := 3, pos := "front.go:47", after := #[{ on := 10, ground := Ground.data }, { on := 8, ground := Ground.guard }], guard := some (8, false) }) (v := .int .i64 len) rfl (by kernel_rfl) (by kernel_rfl) (by kernel_rfl) (fun _ _ _ h => h) (Or.inl ⟨by rfl, by intro w hSw; go_simp⟩) hHeld ?_
  try simp only [Act.put, List.setIfInBounds_toArray, List.set_cons_zero, List.set_cons_succ]
  refine wpAnyH_take (i := 12) (oi := { dst := some 15, op := Op.fieldAddr 28 (Operand.tmp 1) 0, type := 0, pos := "front.go:47", after := #[{ on := 8, ground := Ground.guard }], guard := some (8, false) }) (v := .pointer (some ⟨w.heap.size, 0, none⟩)) rfl (by kernel_rfl) (by kernel_rfl) (by kernel_rfl) (fun _ _ _ h => h) (Or.inl ⟨by rfl, by intro w hSw; go_simp⟩) hHeld ?_
  try simp only [Act.put, List.setIfInBounds_toArray, List.set_cons_zero, List.set_cons_succ]
  refine wpAnyH_take (i := 13) (oi := { dst := some 16, op := Op.load 3 (Operand.tmp 15), type := 3, pos := "front.go:47", after := #[{ on := 12, ground := Ground.data }, { on := 8, ground := Ground.guard }], guard := some (8, false) }) (v := .int .i64 N) rfl (by kernel_rfl) (by kernel_rfl) (by kernel_rfl) (fun _ _ _ h => h) (Or.inl ⟨by rfl, by intro W hSw; have h1 := hSw.1; go_simp⟩) hHeld ?_
  try simp only [Act.put, List.setIfInBounds_toArray, List.set_cons_zero, List.set_cons_succ]
  refine wpAnyH_take (i := 14) (oi := { dst := some 17, op := Op.convert 3 103 (Operand.tmp 16), type := 103, pos := "front.go:47", after := #[{ on := 13, ground := Ground.data }, { on := 8, ground := Ground.guard }], guard := some (8, false) }) (v := .int .u64 N) rfl (by kernel_rfl) (by kernel_rfl) (by kernel_rfl) (fun _ _ _ h => h) (Or.inl ⟨by rfl, by intro W hSw; go_simp; rw [IntKind.wrap_u64]; omega⟩) hHeld ?_
  try simp only [Act.put, List.setIfInBounds_toArray, List.set_cons_zero, List.set_cons_succ]
  refine wpAnyH_ready (rs := [15]) (by kernel_rfl) (by simp) ?_
  refine AllReadyH.cons (o := { dst := some 18, op := Op.call { callee := Callee.value (Operand.func 53), args := #[Operand.tmp 17], argTypes := #[103] }, type := 3, pos := "front.go:47", after := #[{ on := 14, ground := Ground.data }, { on := 8, ground := Ground.chain }, { on := 8, ground := Ground.guard }], guard := some (8, false) }) rfl (fun K hK => ?_) AllReadyH.nil
  go_simp
  refine (MC.out _).mono ?_
  rintro e w15 ⟨rfl, rfl⟩
  go_wp2_with fail
  refine hK.out _ _ hHeld (fun hHeld => ?_)
  clear hK K
  try simp only [Act.put, List.setIfInBounds_toArray, List.set_cons_zero, List.set_cons_succ]
  refine wpAnyH_take (i := 16) (oi := { dst := some 19, op := Op.binOp BinOp.neq 3 (Operand.tmp 14) (Operand.tmp 18) 3, type := 4, pos := "front.go:47", after := #[{ on := 11, ground := Ground.data }, { on := 15, ground := Ground.data }, { on := 8, ground := Ground.guard }], guard := some (8, false) }) (v := .bool false) rfl (by kernel_rfl) (by kernel_rfl) (by kernel_rfl) (fun _ _ _ h => h) (Or.inl ⟨by rfl, by intro w hSw; go_simp⟩) hHeld ?_
  try simp only [Act.put, List.setIfInBounds_toArray, List.set_cons_zero, List.set_cons_succ]
  refine wpAnyH_take (i := 17) (oi := { dst := some 20, op := Op.pick (Operand.tmp 11) (Operand.const (Value.bool true)) (Operand.tmp 19), type := 4, pos := "front.go:47", after := #[{ on := 8, ground := Ground.data }, { on := 16, ground := Ground.data }], guard := none }) (v := .bool false) rfl (by kernel_rfl) (by kernel_rfl) (by kernel_rfl) (fun _ _ _ h => h) (Or.inl ⟨by rfl, by intro w hSw; go_simp⟩) hHeld ?_
  try simp only [Act.put, List.setIfInBounds_toArray, List.set_cons_zero, List.set_cons_succ]
  refine wpAnyH_done (by kernel_rfl) ?_ _
  go_wp2
  go_ret
  exact ⟨rfl, ((Below.refl _ _).alloc (Nat.le_refl _) _).drew⟩
set_option maxHeartbeats 1000000 in
theorem check_other (N : Nat) (a : Option Addr) (len cap : Nat) (w : World) (h : N ≤ 100000) (hl : len ≤ maxLen) (hm : len ≠ many N) :
    Calls Tryd.prog 19 #[.agg #[.int .i64 N, .slice a len cap]] w fun e w' => e = .returned (.int .i64 30) ∧ Below w.heap.size w w' := by
  obtain ⟨M, HM⟩ : ∃ M, Hid (M = many N) := ⟨_, (rfl : many N = _)⟩
  have MC : Hid (∀ W, Calls Tryd.prog 53 #[.int .u64 N] W fun e w' => e = .returned (.int .i64 M) ∧ W = w') := fun W => by
    rw [HM.out]
    exact ones_any N W h
  rw [← HM.out] at hm
  have d0 : decide ((N : Int) < 0) = false := by rw [decide_eq_false_iff_not]; omega
  have d1 : decide (100000 < (N : Int)) = false := by rw [decide_eq_false_iff_not]; omega
  have hM : M ≤ 100000 := by rw [HM.out]; have := many_le N; omega
  have hlx : len ≤ 9223372036854775807 := by unfold maxLen at hl; omega
  clear hl
  have e1 : (!((len : Int) == (M : Int))) = true := by
    rw [Bool.not_eq_true', beq_eq_false_iff_ne]; omega
  go_enter Tryd.func19, Tryd.ntmps19
  go_wp2
  refine wp_region_held_drew (S := (fun W => Two W w.heap.size (.int .i64 N) (.slice a len cap))) (by kernel_rfl) (show Two (w.alloc (.cells #[.int .i64 N, .slice a len cap] 28)) w.heap.size (.int .i64 N) (.slice a len cap) from two_new w _ _ _) (fun hHeld => ?_)
  refine wpAnyH_take (i := 0) (oi := { dst := some 3, op := Op.fieldAddr 28 (Operand.tmp 1) 0, type := 0, pos := "front.go:47", after := #[], guard := none }) (v := .pointer (some ⟨w.heap.size, 0, none⟩)) rfl (by kernel_rfl) (by kernel_rfl) (by kernel_rfl) (fun _ _ _ h => h) (Or.inl ⟨by rfl, by intro w hSw; go_simp⟩) hHeld ?_
  try simp only [Act.put, List.setIfInBounds_toArray, List.set_cons_zero, List.set_cons_succ]
  refine wpAnyH_take (i := 1) (oi := { dst := some 4, op := Op.load 3 (Operand.tmp 3), type := 3, pos := "front.go:47", after := #[{ on := 0, ground := Ground.data }], guard := none }) (v := .int .i64 N) rfl (by kernel_rfl) (by kernel_rfl) (by kernel_rfl) (fun _ _ _ h => h) (Or.inl ⟨by rfl, by intro W hSw; have h1 := hSw.1; go_simp⟩) hHeld ?_
  try simp only [Act.put, List.setIfInBounds_toArray, List.set_cons_zero, List.set_cons_succ]
  refine wpAnyH_take (i := 2) (oi := { dst := some 5, op := Op.binOp BinOp.lss 3 (Operand.tmp 4) (Operand.const (Value.int IntKind.i64 0)) 3, type := 4, pos := "front.go:47", after := #[{ on := 1, ground := Ground.data }], guard := none }) (v := .bool false) rfl (by kernel_rfl) (by kernel_rfl) (by kernel_rfl) (fun _ _ _ h => h) (Or.inl ⟨by rfl, by intro w hSw; go_simp⟩) hHeld ?_
  try simp only [Act.put, List.setIfInBounds_toArray, List.set_cons_zero, List.set_cons_succ]
  refine wpAnyH_take (i := 3) (oi := { dst := some 6, op := Op.move (Operand.tmp 5), type := 4, pos := "front.go:47", after := #[{ on := 2, ground := Ground.data }], guard := none }) (v := .bool false) rfl (by kernel_rfl) (by kernel_rfl) (by kernel_rfl) (fun _ _ _ h => h) (Or.inl ⟨by rfl, by intro w hSw; go_simp⟩) hHeld ?_
  try simp only [Act.put, List.setIfInBounds_toArray, List.set_cons_zero, List.set_cons_succ]
  refine wpAnyH_take (i := 4) (oi := { dst := some 7, op := Op.fieldAddr 28 (Operand.tmp 1) 0, type := 0, pos := "front.go:47", after := #[{ on := 3, ground := Ground.guard }], guard := some (3, false) }) (v := .pointer (some ⟨w.heap.size, 0, none⟩)) rfl (by kernel_rfl) (by kernel_rfl) (by kernel_rfl) (fun _ _ _ h => h) (Or.inl ⟨by rfl, by intro w hSw; go_simp⟩) hHeld ?_
  try simp only [Act.put, List.setIfInBounds_toArray, List.set_cons_zero, List.set_cons_succ]
  refine wpAnyH_take (i := 5) (oi := { dst := some 8, op := Op.load 3 (Operand.tmp 7), type := 3, pos := "front.go:47", after := #[{ on := 4, ground := Ground.data }, { on := 3, ground := Ground.guard }], guard := some (3, false) }) (v := .int .i64 N) rfl (by kernel_rfl) (by kernel_rfl) (by kernel_rfl) (fun _ _ _ h => h) (Or.inl ⟨by rfl, by intro W hSw; have h1 := hSw.1; go_simp⟩) hHeld ?_
  try simp only [Act.put, List.setIfInBounds_toArray, List.set_cons_zero, List.set_cons_succ]
  refine wpAnyH_take (i := 6) (oi := { dst := some 9, op := Op.binOp BinOp.gtr 3 (Operand.tmp 8) (Operand.const (Value.int IntKind.i64 100000)) 3, type := 4, pos := "front.go:47", after := #[{ on := 5, ground := Ground.data }, { on := 3, ground := Ground.guard }], guard := some (3, false) }) (v := .bool false) rfl (by kernel_rfl) (by kernel_rfl) (by kernel_rfl) (fun _ _ _ h => h) (Or.inl ⟨by rfl, by intro w hSw; go_simp⟩) hHeld ?_
  try simp only [Act.put, List.setIfInBounds_toArray, List.set_cons_zero, List.set_cons_succ]
  refine wpAnyH_take (i := 7) (oi := { dst := some 10, op := Op.pick (Operand.tmp 6) (Operand.const (Value.bool true)) (Operand.tmp 9), type := 4, pos := "front.go:47", after := #[{ on := 3, ground := Ground.data }, { on := 6, ground := Ground.data }], guard := none }) (v := .bool false) rfl (by kernel_rfl) (by kernel_rfl) (by kernel_rfl) (fun _ _ _ h => h) (Or.inl ⟨by rfl, by intro w hSw; go_simp⟩) hHeld ?_
  try simp only [Act.put, List.setIfInBounds_toArray, List.set_cons_zero, List.set_cons_succ]
  refine wpAnyH_take (i := 8) (oi := { dst := some 11, op := Op.move (Operand.tmp 10), type := 4, pos := "front.go:47", after := #[{ on := 7, ground := Ground.data }, { on := 3, ground := Ground.chain }], guard := none }) (v := .bool false) rfl (by kernel_rfl) (by kernel_rfl) (by kernel_rfl) (fun _ _ _ h => h) (Or.inl ⟨by rfl, by intro w hSw; go_simp⟩) hHeld ?_
  try simp only [Act.put, List.setIfInBounds_toArray, List.set_cons_zero, List.set_cons_succ]
  refine wpAnyH_take (i := 9) (oi := { dst := some 12, op := Op.fieldAddr 28 (Operand.tmp 1) 1, type := 0, pos := "front.go:47", after := #[{ on := 8, ground := Ground.guard }], guard := some (8, false) }) (v := .pointer (some ⟨w.heap.size, 1, none⟩)) rfl (by kernel_rfl) (by kernel_rfl) (by kernel_rfl) (fun _ _ _ h => h) (Or.inl ⟨by rfl, by intro w hSw; go_simp⟩) hHeld ?_
  try simp only [Act.put, List.setIfInBounds_toArray, List.set_cons_zero, List.set_cons_succ]
  refine wpAnyH_take (i := 10) (oi := { dst := some 13, op := Op.load 26 (Operand.tmp 12), type := 26, pos := "front.go:47", after := #[{ on := 9, ground := Ground.data }, { on := 8, ground := Ground.guard }], guard := some (8, false) }) (v := .slice a len cap) rfl (by kernel_rfl) (by kernel_rfl) (by kernel_rfl) (fun _ _ _ h => h) (Or.inl ⟨by rfl, by intro W hSw; have h1 := hSw.2; go_simp⟩) hHeld ?_
  try simp only [Act.put, List.setIfInBounds_toArray, List.set_cons_zero, List.set_cons_succ]
  refine wpAnyH_take (i := 11) (oi := { dst := some 14, op := Op.call { callee := Callee.builtin Builtin.len, args := #[Operand.tmp 13], argTypes := #[26] }, type := 3, pos := "front.go:47", after := #[{ on := 10, ground := Ground.data }, { on := 8, ground := Ground.guard }], guard := some (8, false) }) (v := .int .i64 len) rfl (by kernel_rfl) (by kernel_rfl) (by kernel_rfl) (fun _ _ _ h => h) (Or.inl ⟨by rfl, by intro w hSw; go_simp⟩) hHeld ?_
  try simp only [Act.put, List.setIfInBounds_toArray, List.set_cons_zero, List.set_cons_succ]
  refine wpAnyH_take (i := 12) (oi := { dst := some 15, op := Op.fieldAddr 28 (Operand.tmp 1) 0, type := 0, pos := "front.go:47", after := #[{ on := 8, ground := Ground.guard }], guard := some (8, false) }) (v := .pointer (some ⟨w.heap.size, 0, none⟩)) rfl (by kernel_rfl) (by kernel_rfl) (by kernel_rfl) (fun _ _ _ h => h) (Or.inl ⟨by rfl, by intro w hSw; go_simp⟩) hHeld ?_
  try simp only [Act.put, List.setIfInBounds_toArray, List.set_cons_zero, List.set_cons_succ]
  refine wpAnyH_take (i := 13) (oi := { dst := some 16, op := Op.load 3 (Operand.tmp 15), type := 3, pos := "front.go:47", after := #[{ on := 12, ground := Ground.data }, { on := 8, ground := Ground.guard }], guard := some (8, false) }) (v := .int .i64 N) rfl (by kernel_rfl) (by kernel_rfl) (by kernel_rfl) (fun _ _ _ h => h) (Or.inl ⟨by rfl, by intro W hSw; have h1 := hSw.1; go_simp⟩) hHeld ?_
  try simp only [Act.put, List.setIfInBounds_toArray, List.set_cons_zero, List.set_cons_succ]
  refine wpAnyH_take (i := 14) (oi := { dst := some 17, op := Op.convert 3 103 (Operand.tmp 16), type := 103, pos := "front.go:47", after := #[{ on := 13, ground := Ground.data }, { on := 8, ground := Ground.guard }], guard := some (8, false) }) (v := .int .u64 N) rfl (by kernel_rfl) (by kernel_rfl) (by kernel_rfl) (fun _ _ _ h => h) (Or.inl ⟨by rfl, by intro W hSw; go_simp; rw [IntKind.wrap_u64]; omega⟩) hHeld ?_
  try simp only [Act.put, List.setIfInBounds_toArray, List.set_cons_zero, List.set_cons_succ]
  refine wpAnyH_ready (rs := [15]) (by kernel_rfl) (by simp) ?_
  refine AllReadyH.cons (o := { dst := some 18, op := Op.call { callee := Callee.value (Operand.func 53), args := #[Operand.tmp 17], argTypes := #[103] }, type := 3, pos := "front.go:47", after := #[{ on := 14, ground := Ground.data }, { on := 8, ground := Ground.chain }, { on := 8, ground := Ground.guard }], guard := some (8, false) }) rfl (fun K hK => ?_) AllReadyH.nil
  go_simp
  refine (MC.out _).mono ?_
  rintro e w15 ⟨rfl, rfl⟩
  go_wp2_with fail
  refine hK.out _ _ hHeld (fun hHeld => ?_)
  clear hK K
  try simp only [Act.put, List.setIfInBounds_toArray, List.set_cons_zero, List.set_cons_succ]
  refine wpAnyH_take (i := 16) (oi := { dst := some 19, op := Op.binOp BinOp.neq 3 (Operand.tmp 14) (Operand.tmp 18) 3, type := 4, pos := "front.go:47", after := #[{ on := 11, ground := Ground.data }, { on := 15, ground := Ground.data }, { on := 8, ground := Ground.guard }], guard := some (8, false) }) (v := .bool true) rfl (by kernel_rfl) (by kernel_rfl) (by kernel_rfl) (fun _ _ _ h => h) (Or.inl ⟨by rfl, by intro W hSw; go_simp; omega⟩) hHeld ?_
  try simp only [Act.put, List.setIfInBounds_toArray, List.set_cons_zero, List.set_cons_succ]
  refine wpAnyH_take (i := 17) (oi := { dst := some 20, op := Op.pick (Operand.tmp 11) (Operand.const (Value.bool true)) (Operand.tmp 19), type := 4, pos := "front.go:47", after := #[{ on := 8, ground := Ground.data }, { on := 16, ground := Ground.data }], guard := none }) (v := .bool true) rfl (by kernel_rfl) (by kernel_rfl) (by kernel_rfl) (fun _ _ _ h => h) (Or.inl ⟨by rfl, by intro w hSw; go_simp⟩) hHeld ?_
  try simp only [Act.put, List.setIfInBounds_toArray, List.set_cons_zero, List.set_cons_succ]
  refine wpAnyH_done (by kernel_rfl) ?_ _
  go_wp2
  go_ret
  exact ⟨rfl, ((Below.refl _ _).alloc (Nat.le_refl _) _).drew⟩
theorem check_ok (n : Int) (a : Option Addr) (len cap : Nat) (w : World) (h : isRight n len) : Calls Tryd.prog 19 #[.agg #[.int .i64 n, .slice a len cap]] w fun e w' => e = .returned (.int .i64 0) ∧ Below w.heap.size w w' := by
  obtain ⟨h0, h1, h2⟩ := h
  obtain ⟨N, hN⟩ : ∃ N : Nat, n = N := ⟨n.toNat, by omega⟩
  subst hN
  rw [Int.toNat_natCast] at h2
  exact check_yes N a len cap w (by omega) h2
theorem check_no (n : Int) (a : Option Addr) (len cap : Nat) (w : World) (hl : len ≤ maxLen) (h : ¬ isRight n len) : Calls Tryd.prog 19 #[.agg #[.int .i64 n, .slice a len cap]] w fun e w' => e = .returned (.int .i64 30) ∧ Below w.heap.size w w' := by
  by_cases h0 : n < 0
  · exact check_neg n a len cap w h0
  by_cases h1 : 100000 < n
  · exact check_big n a len cap w h1
  obtain ⟨N, hN⟩ : ∃ N : Nat, n = N := ⟨n.toNat, by omega⟩
  subst hN
  refine check_other N a len cap w (by omega) hl fun e => h ⟨by omega, by omega, ?_⟩
  rw [Int.toNat_natCast]
  exact e
end Go.Proofs.YtdnhnjimhbbababDoor

/- What front.Root answers. -/
namespace Go.Proofs.YtdnhnjimhbbababDoor
open Go.RowKit Sums
set_option maxRecDepth 100000
set_option linter.unusedVariables false
set_option linter.unusedSimpArgs false
theorem Two.other {W : World} {g g' : Nat} {x y : Value} {cs : Array Value} (h : Two W g x y) (hne : g ≠ g') : Two (W.setRow g' cs) g x y :=
  ⟨by rw [cell_setRow_other W g' cs _ hne]; exact h.1, by rw [cell_setRow_other W g' cs _ hne]; exact h.2⟩
theorem builtD : Tryd.prog.built 30 [] = some (cellsOf (List.replicate 32 0)).toArray := by kernel_rfl
set_option maxHeartbeats 2000000 in
theorem froot_no (n : Int) (a : Option Addr) (len cap : Nat) (w : World) (hl : len ≤ maxLen) (h : ¬ isRight n len) (Z : Array Value) (HZ : Hid (Z = (cellsOf (List.replicate 32 0)).toArray)) :
    Calls Tryd.prog 7 #[.agg #[.int .i64 n, .slice a len cap]] w fun e w' => e = .returned (.tuple #[.agg Z, .int .i64 30]) ∧ Below w.heap.size w w' := by
  obtain ⟨Z0, HZ0, HA, HS, H1, H32⟩ := noughts27
  obtain rfl : Z = Z0 := HZ.out.trans HZ0.out.symm
  have HB : Hid (Tryd.prog.built 30 [] = some Z) := by show _ = _; rw [HZ.out]; exact builtD
  have CK : Hid (∀ W, Calls Tryd.prog 19 #[.agg #[.int .i64 n, .slice a len cap]] W fun e w' => e = .returned (.int .i64 30) ∧ Below W.heap.size W w') := fun W => check_no n a len cap W hl h
  clear h hl HZ HZ0
  go_enter Tryd.func7, Tryd.ntmps7
  go_wp2_with (first
    | (refine wpList_alloc_row rfl 30 rfl Z HA.out ?_; try simp only [Act.put, List.setIfInBounds_toArray, List.set_cons_zero, List.set_cons_succ])
    | fail)
  refine (CK.out _).mono ?_
  rintro e w1 ⟨rfl, hb1⟩
  have HG : Hid (w1.heap[w.heap.size + 1]? = some (.cells Z 30 (0, 0))) := (hb1.block _ (by simp)).trans (by have := heap_alloc_new (w.alloc (.cells #[.int .i64 n, .slice a len cap] 28)) (.cells Z 30); simpa using this)
  have HBW : Hid (Below w.heap.size w w1) := (((Below.refl _ _).alloc (Nat.le_refl _) _).alloc (by simp) _).trans (hb1.mono (by simp; omega))
  clear hb1 CK
  go_wp2_with (first
    | (refine wpList_build_none rfl 30 rfl Z HB.out ?_; try simp only [Act.put, List.setIfInBounds_toArray, List.set_cons_zero, List.set_cons_succ])
    | (refine wpList_store_row rfl 30 (.tmp 2) (.tmp 12) rfl (w.heap.size + 1) Z rfl rfl 30 Z HG.out HS.out rfl H1.out ?_; try simp only [Act.put, List.setIfInBounds_toArray, List.set_cons_zero, List.set_cons_succ])
    | fail)
  refine bodyPost_ret (v := .tuple #[.agg Z, .int .i64 30]) ?_ rfl ⟨rfl, below_setRow HBW.out (by omega) _⟩
  exact results_row_tmp (p := 2) (q := 3) (ty := 30) rfl _ _ (w.heap.size + 1) 30 Z (0, 0) _ rfl (setRow_heap _ _ _ _ 30 _ HG.out) Tryd.underlying30 rfl HS.out
set_option maxHeartbeats 4000000 in
theorem froot_ok (n : Int) (a : Option Addr) (len cap : Nat) (ps : List (List UInt8)) (w : World) (h : isRight n len) (hR : LReads w a len cap ps) (hK : TabF w) (D : Array Value) (HD : Hid (D = (cellsOf (rootP ps)).toArray)) :
    Calls Tryd.prog 7 #[.agg #[.int .i64 n, .slice a len cap]] w fun e w' => e = .returned (.tuple #[.agg D, .int .i64 0]) ∧ Below w.heap.size w w' := by
  obtain ⟨Z, HZ, HA, HS, H1, H32⟩ := noughts27
  have h32 : (rootP ps).length = 32 := rootP_digs sumD_length ps hR.2.1
  have HSD : Hid ((Tryd.prog.info? 30).map (·.size) = some D.size) := by show _ = _; rw [size23, HD.out]; simp [cellsOf_length, h32]
  have H1D : Hid (D.all (·.oneCell') = true) := by show _ = _; rw [HD.out]; exact cellsOf_all _
  have HZD : Hid (Z.size = D.size) := by show _ = _; rw [H32.out, HD.out]; simp [cellsOf_length, h32]
  have hlen := hR.1
  have hmx : len ≤ 9223372036854775807 := by have := hR.2.2.2.1; unfold maxLen at this; omega
  have CK : Hid (∀ W, Calls Tryd.prog 19 #[.agg #[.int .i64 n, .slice a len cap]] W fun e w' => e = .returned (.int .i64 0) ∧ Below W.heap.size W w') := fun W => check_ok n a len cap W h
  clear h
  by_cases h0 : len = 0
  · have KE : Hid (∀ W, Below w.heap.size w W → Calls Tryd.prog 17 #[] W fun e w' => e = .returned (.agg D) ∧ Below W.heap.size W w') := fun W hb => empty_any W (hK.keep hb).1 D (by
      show _ = _
      rw [HD.out, show ps = [] from List.eq_nil_of_length_eq_zero (by omega)]
      rfl)
    subst h0
    clear hK hR HD
    go_enter Tryd.func7, Tryd.ntmps7
    go_wp2_with (first
      | (refine wpList_alloc_row rfl 30 rfl Z HA.out ?_; try simp only [Act.put, List.setIfInBounds_toArray, List.set_cons_zero, List.set_cons_succ])
      | fail)
    refine (CK.out _).mono ?_
    rintro e w1 ⟨rfl, hb1⟩
    have HG : Hid (w1.heap[w.heap.size + 1]? = some (.cells Z 30 (0, 0))) := (hb1.block _ (by simp)).trans (by have := heap_alloc_new (w.alloc (.cells #[.int .i64 n, .slice a 0 cap] 28)) (.cells Z 30); simpa using this)
    have HT : Hid (Two w1 w.heap.size (.int .i64 n) (.slice a 0 cap)) := ((two_new w _ _ 28).keep ((Below.refl _ _).alloc (Nat.le_refl _) _)).keep hb1
    have HBW : Hid (Below w.heap.size w w1) := (((Below.refl _ _).alloc (Nat.le_refl _) _).alloc (by simp) _).trans (hb1.mono (by simp; omega))
    clear hb1 CK
    have hc1 := HT.out.2
    go_wp2_with fail
    refine (KE.out _ HBW.out).mono ?_
    rintro e w2 ⟨rfl, hb2⟩
    have HG2 : Hid (w2.heap[w.heap.size + 1]? = some (.cells Z 30 (0, 0))) := (hb2.block _ (heap_lt HG.out)).trans HG.out
    have HB2 : Hid (Below w.heap.size w w2) := HBW.out.trans (hb2.mono HBW.out.size)
    clear hb2 KE hc1
    go_wp2_with (first
      | (refine wpList_store_row rfl 30 (.tmp 2) (.tmp 18) rfl (w.heap.size + 1) D rfl rfl 30 Z HG2.out HSD.out HZD.out H1D.out ?_; try simp only [Act.put, List.setIfInBounds_toArray, List.set_cons_zero, List.set_cons_succ])
      | fail)
    refine bodyPost_ret (v := .tuple #[.agg D, .int .i64 0]) ?_ rfl ⟨rfl, below_setRow HB2.out (by omega) _⟩
    exact results_row_tmp (p := 2) (q := 3) (ty := 30) rfl _ _ (w.heap.size + 1) 30 D (0, 0) _ rfl (setRow_heap _ _ _ _ 30 _ HG2.out) Tryd.underlying30 rfl HSD.out
  · obtain ⟨g, o, rfl, hg⟩ := hR.at (by omega)
    obtain ⟨m, rfl⟩ : ∃ m, len = m + 1 := ⟨len - 1, by omega⟩
    have HR : Hid (LReads w (some ⟨g, o, none⟩) (m + 1) cap ps) := hR
    have HT : Hid (∀ W, Below w.heap.size w W → TabF W) := fun W hb => hK.keep hb
    have row : ∀ t, t ≤ m → ∃ B : Array Value, Hid (B = (cellsOf (rootP (ps.drop t))).toArray) ∧ Hid ((Tryd.prog.info? 30).map (·.size) = some B.size) ∧ Hid (B.all (·.oneCell') = true) ∧ Hid (B.size = 32) := fun t _ => dig_row' _ (rootP_digs sumD_length _ (hR.2.1.drop t))
    obtain ⟨B0, HB0, HSB0, H1B0, H32B0⟩ := row m (Nat.le_refl _)
    obtain ⟨L0, hL0⟩ : ∃ L0 : List Value, B0 = L0.toArray := ⟨B0.toList, by simp⟩
    have EL0 : Hid (L0 = cellsOf (ps[m]'(by omega))) := by
      have := HB0.out
      rw [rootP_last ps m (by omega), hL0] at this
      exact List.toArray_inj this
    have hm32 : (ps[m]'(by omega)).length = 32 := hR.2.1 _ (List.getElem_mem _)
    have z0 : Hid ((Tryd.prog.info? 30).map (·.size) = some L0.length) := by show _ = _; rw [size23, EL0.out, cellsOf_length, hm32]
    have HRG : Hid (∀ W, Below w.heap.size w W → W.rangeAt g (o + 32 * m) L0) := fun W hb => by
      rw [EL0.out]
      exact range_keep hb (hR.range m (by omega))
    have HZB0 : Hid (Z.size = L0.toArray.size) := by show _ = _; rw [← hL0, H32.out, H32B0.out]
    rw [hL0] at HSB0 H1B0 HB0
    have ix := fun W => index_list W g o (m + 1) cap m .i64 (by omega)
    have e1 := wrap_int ((m : Int) + 1 - 1) (by omega) (by omega)
    have e2 := wrap_int ((m : Int) - 1) (by omega) (by omega)
    have c7 : ((m : Int) + 1 == 0) = false := by rw [beq_eq_false_iff_ne]; omega
    clear hK hR hL0 H32B0 hm32 EL0
    go_enter Tryd.func7, Tryd.ntmps7
    go_wp2_with (first
      | (refine wpList_alloc_row rfl 30 rfl Z HA.out ?_; try simp only [Act.put, List.setIfInBounds_toArray, List.set_cons_zero, List.set_cons_succ])
      | fail)
    refine (CK.out _).mono ?_
    rintro e w1 ⟨rfl, hb1⟩
    have HG : Hid (w1.heap[w.heap.size + 1]? = some (.cells Z 30 (0, 0))) := (hb1.block _ (by simp)).trans (by have := heap_alloc_new (w.alloc (.cells #[.int .i64 n, .slice (some ⟨g, o, none⟩) (m + 1) cap] 28)) (.cells Z 30); simpa using this)
    have HTw : Hid (Two w1 w.heap.size (.int .i64 n) (.slice (some ⟨g, o, none⟩) (m + 1) cap)) := ((two_new w _ _ 28).keep ((Below.refl _ _).alloc (Nat.le_refl _) _)).keep hb1
    have HBW : Hid (Below w.heap.size w w1) := (((Below.refl _ _).alloc (Nat.le_refl _) _).alloc (by simp) _).trans (hb1.mono (by simp; omega))
    clear hb1 CK
    have hc1 := HTw.out.2
    have hr1 := hidk (HRG.out w1 HBW.out)
    go_wp2_with (first
      | (refine wpList_load_mid rfl 30 (.tmp 26) rfl g (o + 32 * m) rfl L0 _ hr1.out Tryd.underlying30 rfl z0.out ?_; try simp only [Act.put, List.setIfInBounds_toArray, List.set_cons_zero, List.set_cons_succ])
      | (refine wpList_new_row rfl rfl 30 rfl (.tmp 6) (.tmp 27) rfl Z L0.toArray HA.out (fun _ => rfl) (fun _ => rfl) HSB0.out HZB0.out H1B0.out ?_; intro gd w2 F1; try simp only [Act.put, List.setIfInBounds_toArray, List.set_cons_zero, List.set_cons_succ])
      | fail)
    have HG1 : Hid (w2.heap[gd]? = some (.cells (cellsOf (rootP (ps.drop m))).toArray 30 (0, 0)) ∧ w2.heap[w.heap.size + 1]? = some (.cells Z 30 (0, 0)) ∧ Two w2 w.heap.size (.int .i64 n) (.slice (some ⟨g, o, none⟩) (m + 1) cap) ∧ Below w.heap.size w w2) :=
      ⟨by rw [← HB0.out]; exact F1.out.2.1, (F1.out.2.2.block _ (heap_lt HG.out)).trans HG.out, HTw.out.keep F1.out.2.2, HBW.out.trans (F1.out.2.2.mono HBW.out.size)⟩
    have HGD : Hid (w.heap.size + 1 < gd) := by show _ < _; rw [F1.out.1]; exact heap_lt HG.out
    clear F1 HRG z0 HB0 hr1 hc1 HG HTw HBW
    go_loopw [7] (fun v wr => ∃ t : Nat, t ≤ m ∧ v = .int .i64 ((t : Int) - 1) ∧ Hid (wr.heap[gd]? = some (.cells (cellsOf (rootP (ps.drop t))).toArray 30 (0, 0)) ∧ wr.heap[w.heap.size + 1]? = some (.cells Z 30 (0, 0)) ∧ Two wr w.heap.size (.int .i64 n) (.slice (some ⟨g, o, none⟩) (m + 1) cap) ∧ Below w.heap.size w wr)) (fun v _ => (intOf v + 1).toNat)
    case atStart => exact ⟨m, Nat.le_refl _, by go_num, HG1⟩
    case round =>
      clear HG1
      obtain ⟨t, ht, rfl, HW⟩ := hrel
      cases t with
      | zero =>
        have HDs : Hid (wr.heap[gd]? = some (.cells D 30 (0, 0))) := by show _ = _; rw [HD.out]; exact HW.out.1
        go_wp2_with (first
          | (refine wpList_load_row rfl 30 (.tmp 6) rfl gd rfl 30 D (0, 0) _ HDs.out Tryd.underlying30 rfl HSD.out ?_; try simp only [Act.put, List.setIfInBounds_toArray, List.set_cons_zero, List.set_cons_succ])
          | (refine wpList_store_row rfl 30 (.tmp 2) (.tmp 41) rfl (w.heap.size + 1) D rfl rfl 30 Z HW.out.2.1 HSD.out HZD.out H1D.out ?_; try simp only [Act.put, List.setIfInBounds_toArray, List.set_cons_zero, List.set_cons_succ])
          | fail)
        refine bodyPost_ret (v := .tuple #[.agg D, .int .i64 0]) ?_ rfl ⟨rfl, below_setRow HW.out.2.2.2 (by omega) _⟩
        exact results_row_tmp (p := 2) (q := 3) (ty := 30) rfl _ _ (w.heap.size + 1) 30 D (0, 0) _ rfl (setRow_heap _ _ _ _ 30 _ HW.out.2.1) Tryd.underlying30 rfl HSD.out
      | succ t =>
        have htl : t < ps.length := by omega
        obtain ⟨P, HP⟩ : ∃ P, Hid (P = cellsOf ps[t]) := ⟨_, (rfl : cellsOf ps[t] = _)⟩
        have hp32 : ps[t].length = 32 := HR.out.2.1 _ (List.getElem_mem htl)
        have zP : (Tryd.prog.info? 30).map (·.size) = some P.length := by rw [size23, HP.out, cellsOf_length, hp32]
        obtain ⟨B, HB, HSB, H1B, H32B⟩ := row (t + 1) ht
        obtain ⟨C, HC, HSC, H1C, H32C⟩ := row t (by omega)
        have HBC : Hid (B.size = C.size) := by show _ = _; rw [H32B.out, H32C.out]
        have HGB : Hid (wr.heap[gd]? = some (.cells B 30 (0, 0))) := by show _ = _; rw [HB.out]; exact HW.out.1
        have hS : Two wr w.heap.size (.int .i64 n) (.slice (some ⟨g, o, none⟩) (m + 1) cap) ∧ wr.rangeAt g (o + 32 * t) P := ⟨HW.out.2.2.1, by rw [HP.out]; exact (HR.out.keep HW.out.2.2.2).range t htl⟩
        have KN : Hid (∀ W, Below w.heap.size w W → Calls Tryd.prog 22 #[.agg P.toArray, .agg B] W fun e w' => e = .returned (.agg C) ∧ Below W.heap.size W w') := fun W hb => by
          rw [HP.out, HB.out]
          exact knot_any _ _ hp32 (rootP_digs sumD_length _ (HR.out.2.1.drop (t + 1))) W (HT.out W hb).1 C (by show _ = _; rw [HC.out, rootP_drop ps t (by omega)]; rfl)
        have hgl : g ≠ gd := by have := HGD.out; omega
        have hwl : w.heap.size ≠ gd := by have := HGD.out; omega
        have ix2 := fun W => index_list W g o (m + 1) cap t .i64 (by omega)
        have e4 := wrap_int ((t : Int) - 1) (by omega) (by omega)
        rw [show (((t + 1 : Nat) : Int) - 1) = (t : Int) by omega]
        clear HP HB
        go_wp2
        refine wp_region_held_drew (S := (fun W => Two W w.heap.size (.int .i64 n) (.slice (some ⟨g, o, none⟩) (m + 1) cap) ∧ W.rangeAt g (o + 32 * t) P)) (by kernel_rfl) hS (fun hHeld => ?_)
        refine wpAnyH_take (i := 0) (oi := { dst := some 34, op := Op.fieldAddr 28 (Operand.tmp 1) 1, type := 0, pos := "front.go:77", after := #[], guard := none }) (v := .pointer (some ⟨w.heap.size, 1, none⟩)) rfl (by kernel_rfl) (by kernel_rfl) (by kernel_rfl) (fun _ _ _ h => h) (Or.inl ⟨by rfl, by intro w hSw; go_simp⟩) hHeld ?_
        try simp only [Act.put, List.setIfInBounds_toArray, List.set_cons_zero, List.set_cons_succ]
        refine wpAnyH_take (i := 1) (oi := { dst := some 35, op := Op.load 26 (Operand.tmp 34), type := 26, pos := "front.go:77", after := #[{ on := 0, ground := Ground.data }], guard := none }) (v := .slice (some ⟨g, o, none⟩) (m + 1) cap) rfl (by kernel_rfl) (by kernel_rfl) (by kernel_rfl) (fun _ _ _ h => h) (Or.inl ⟨by rfl, by intro W hSw; have h1 := hSw.1.2; go_simp⟩) hHeld ?_
        try simp only [Act.put, List.setIfInBounds_toArray, List.set_cons_zero, List.set_cons_succ]
        refine wpAnyH_take (i := 2) (oi := { dst := some 36, op := Op.move (Operand.tmp 7), type := 3, pos := "front.go:77", after := #[], guard := none }) (v := .int .i64 t) rfl (by kernel_rfl) (by kernel_rfl) (by kernel_rfl) (fun _ _ _ h => h) (Or.inl ⟨by rfl, by intro w hSw; go_simp⟩) hHeld ?_
        try simp only [Act.put, List.setIfInBounds_toArray, List.set_cons_zero, List.set_cons_succ]
        refine wpAnyH_take (i := 3) (oi := { dst := some 37, op := Op.indexAddr 26 (Operand.tmp 35) (Operand.tmp 36), type := 0, pos := "front.go:77", after := #[{ on := 1, ground := Ground.data }, { on := 2, ground := Ground.data }], guard := none }) (v := .pointer (some ⟨g, o + 32 * t, none⟩)) rfl (by kernel_rfl) (by kernel_rfl) (by kernel_rfl) (fun _ _ _ h => h) (Or.inl ⟨by rfl, by intro W hSw; have := ix2 W; go_simp⟩) hHeld ?_
        try simp only [Act.put, List.setIfInBounds_toArray, List.set_cons_zero, List.set_cons_succ]
        refine wpAnyH_take (i := 4) (oi := { dst := some 38, op := Op.load 30 (Operand.tmp 37), type := 30, pos := "front.go:77", after := #[{ on := 3, ground := Ground.data }], guard := none }) (v := .agg P.toArray) rfl (by kernel_rfl) (by kernel_rfl) (by kernel_rfl) (fun _ _ _ h => h) (yieldsIf_load_mid (by rfl) 30 (.tmp 37) rfl _ _ rfl P _ (fun _ h => h.2) Tryd.underlying30 rfl zP) hHeld ?_
        try simp only [Act.put, List.setIfInBounds_toArray, List.set_cons_zero, List.set_cons_succ]
        refine wpAnyH_ready (rs := [5]) (by kernel_rfl) (by simp) ?_
        refine AllReadyH.cons (o := { dst := some 39, op := Op.load 30 (Operand.tmp 6), type := 30, pos := "front.go:77", after := #[], guard := none }) rfl (fun K hK => ?_) AllReadyH.nil
        refine step_load_row (by rfl) 30 (.tmp 6) rfl gd rfl 30 B (0, 0) _ HGB.out Tryd.underlying30 rfl HSB.out ?_
        refine hK.out _ _ hHeld (fun hHeld => ?_)
        clear hK K
        try simp only [Act.put, List.setIfInBounds_toArray, List.set_cons_zero, List.set_cons_succ]
        refine wpAnyH_ready (rs := [6]) (by kernel_rfl) (by simp) ?_
        refine AllReadyH.cons (o := { dst := some 40, op := Op.call { callee := Callee.value (Operand.func 22), args := #[Operand.tmp 38, Operand.tmp 39], argTypes := #[30, 30] }, type := 30, pos := "front.go:77", after := #[{ on := 4, ground := Ground.data }, { on := 5, ground := Ground.data }], guard := none }) rfl (fun K hK => ?_) AllReadyH.nil
        go_simp
        refine (KN.out _ HW.out.2.2.2.drew).mono ?_
        rintro e w5 ⟨rfl, hb5⟩
        have HG5 : Hid (w5.heap[gd]? = some (.cells B 30 (0, 0))) := (hb5.block _ (heap_lt HGB.out)).trans HGB.out
        go_wp2_with fail
        refine hK.out _ _ ⟨hHeld.1.keep hb5, range_keep hb5 hHeld.2⟩ (fun hHeld => ?_)
        clear hK K
        try simp only [Act.put, List.setIfInBounds_toArray, List.set_cons_zero, List.set_cons_succ]
        refine wpAnyH_ready (rs := [7]) (by kernel_rfl) (by simp) ?_
        refine AllReadyH.cons (o := { dst := none, op := Op.store 30 (Operand.tmp 6) (Operand.tmp 40), type := 0, pos := "front.go:77", after := #[{ on := 6, ground := Ground.data }, { on := 6, ground := Ground.chain }, { on := 0, ground := Ground.phase }, { on := 1, ground := Ground.phase }, { on := 2, ground := Ground.phase }, { on := 3, ground := Ground.phase }, { on := 4, ground := Ground.phase }, { on := 5, ground := Ground.phase }, { on := 6, ground := Ground.phase }], guard := none }) rfl (fun K hK => ?_) AllReadyH.nil
        refine step_store_row (by rfl) 30 (.tmp 6) (.tmp 40) rfl gd C rfl rfl 30 B HG5.out HSC.out HBC.out H1C.out ?_
        refine hK.out _ _ ⟨hHeld.1.other hwl, range_other hHeld.2 hgl⟩ (fun hHeld => ?_)
        clear hK K
        try simp only [Act.put, List.setIfInBounds_toArray, List.set_cons_zero, List.set_cons_succ]
        refine wpAnyH_done (by kernel_rfl) ?_ _
        go_wp2
        go_roundw
        case rel =>
          refine ⟨t, by omega, by go_num, ?_, ?_, ?_, ?_⟩
          · rw [← HC.out]; exact setRow_heap _ _ _ _ 30 _ HG5.out
          · rw [setRow_other _ _ _ _ (by have := HGD.out; omega), hb5.block _ (heap_lt HW.out.2.1)]; exact HW.out.2.1
          · exact hHeld.1
          · exact below_setRow (HW.out.2.2.2.drew.trans (hb5.mono HW.out.2.2.2.size)) (by have := HGD.out; omega) _
        case measure => simp [intOf]
end Go.Proofs.YtdnhnjimhbbababDoor

/- A front to which leaves come: its variable, and how two peaks give way to their knot. -/
namespace Go.Proofs.YtdnhnjimhbbababDoor
open Go.RowKit Sums
set_option maxRecDepth 100000
set_option linter.unusedVariables false
set_option linter.unusedSimpArgs false
/-- What the variable holds: a size, and peaks of the call's own. -/
structure Grow (B gp : Nat) (x v : Value) (l : List (List UInt8)) (w : World) : Prop where
  var : w.heap[gp]? = some (.cells #[x, v] 58 (0, 0))
  own : w.ownsRow B 30 32 v l.length (cellsOf l.flatten)
theorem Grow.keep {B gp : Nat} {x v : Value} {l : List (List UInt8)} {w w' : World} (h : Grow B gp x v l w) (hb : Below w.heap.size w w') : Grow B gp x v l w' :=
  ⟨(hb.block _ (heap_lt h.var)).trans h.var, own_below h.own hb⟩
theorem Grow.drew {B gp : Nat} {x v : Value} {l : List (List UInt8)} {w : World} (h : Grow B gp x v l w) : Grow B gp x v l w.drew := ⟨h.var, h.own⟩
theorem Grow.two {B gp : Nat} {x v : Value} {l : List (List UInt8)} {w : World} (h : Grow B gp x v l w) : Two w gp x v :=
  ⟨by rw [cell_of_row _ _ 0 _ 58 (0, 0) h.var]; rfl, by rw [cell_of_row _ _ 1 _ 58 (0, 0) h.var]; rfl⟩
theorem Grow.free {B gp : Nat} {x v : Value} {l : List (List UInt8)} {w : World} (h : Grow B gp x v l w) (j : Nat) : w.frozen? ⟨gp, j, none⟩ = false := frozen_of_row w gp j _ 58 h.var
theorem Grow.size {B gp : Nat} {x v : Value} {l : List (List UInt8)} {w : World} (h : Grow B gp x v l w) (x' : Value) : Grow B gp x' v l (w.setCell ⟨gp, 0, none⟩ x') :=
  ⟨by rw [heap_setCell_same w gp 0 _ 58 x' h.var]; rfl, ownsRow_setCell_other h.own (own_other h.own h.var (by decide)).symm x'⟩
theorem grow_put {B gp : Nat} {x v v' : Value} {l : List (List UInt8)} {w : World} (h1 : w.heap[gp]? = some (.cells #[x, v] 58 (0, 0))) (h2 : w.ownsRow B 30 32 v' l.length (cellsOf l.flatten)) : Grow B gp x v' l (w.setCell ⟨gp, 1, none⟩ v') :=
  ⟨by rw [heap_setCell_same w gp 1 _ 58 v' h1]; rfl, ownsRow_setCell_other h2 (own_other h2 h1 (by decide)).symm v'⟩
/-- One digest put behind a list that grows: the literal's block is made, the append runs. -/
theorem Grow.append {B gp : Nat} {x v : Value} {l : List (List UInt8)} {w : World} (h : Grow B gp x v l w) (hB : B ≤ w.heap.size) (hlen : l.length + 1 ≤ 1000000) (d : List UInt8) (hd : d.length = 32) (D : Array Value) (HD : Hid (D = (cellsOf d).toArray)) :
    ∃ v' w', (Builtin.append_ #[26, 26] 26 #[v, .slice (some ⟨w.heap.size, 0, none⟩) 1 1]).run Tryd.prog (w.alloc (.cells D 30)) = .ok v' w' ∧
      w'.heap[gp]? = some (.cells #[x, v] 58 (0, 0)) ∧ w'.ownsRow B 30 32 v' (l ++ [d]).length (cellsOf (l ++ [d]).flatten) ∧ Below B w w' := by
  have hb0 : Below w.heap.size w (w.alloc (.cells D 30)) := (Below.refl _ _).alloc (Nat.le_refl _) _
  have h' := h.keep hb0
  obtain ⟨v', w', hr, ho, hg⟩ := run_append_digs (w.alloc (.cells D 30)) B v l [d] h'.own ⟨w.heap.size, 0, none⟩ 1 1 rfl (.one hd) (by
    intro j u hj
    rw [add_plain, Nat.zero_add, cell_of_row _ _ j _ 30 (0, 0) (heap_alloc_new w _), HD.out]
    simpa using hj) (Nat.le_trans hB (by simp)) hlen
  refine ⟨v', w', hr, ?_, by rw [List.length_append]; exact ho, ?_⟩
  · exact (hg.block _ (heap_lt h'.var) (own_other h'.own h'.var (by decide))).trans h'.var
  · exact (hb0.mono hB).grown hg (Nat.le_trans hB (by simp)) (fun k hk => (h'.own.lt k hk).1)
/-! A digest written into the midst of a list. -/
theorem cells_set (g : Nat) (t : TypeId) : ∀ (vs : List Value) (o : Nat) (w : World) (cur : Array Value), w.heap[g]? = some (.cells cur t (0, 0)) → o + vs.length ≤ cur.size →
    ∃ cur', (w.setCells g o vs).heap[g]? = some (.cells cur' t (0, 0)) ∧ cur'.toList = cur.toList.take o ++ vs ++ cur.toList.drop (o + vs.length)
  | [], o, w, cur, h, _ => ⟨cur, h, by simp⟩
  | v :: r, o, w, cur, h, hs => by
    simp only [List.length_cons] at hs
    obtain ⟨cur', h1, h2⟩ := cells_set g t r (o + 1) (w.setCell ⟨g, o, none⟩ v) (cur.setIfInBounds o v) (heap_setCell_same w g o cur t v h) (by simp; omega)
    refine ⟨cur', h1, ?_⟩
    have ho : o < cur.toList.length := by simp; omega
    rw [h2, Array.toList_setIfInBounds, List.take_set, List.drop_set_of_lt (by omega)]
    rw [List.take_add_one, List.getElem?_eq_getElem ho]
    simp only [Option.toList_some, List.length_cons]
    rw [List.set_append_right _ _ (by simp; omega)]
    have e : o - (cur.toList.take o).length = 0 := by simp; omega
    rw [e, List.set_cons_zero, show o + 1 + r.length = o + (r.length + 1) by omega]
    simp
theorem flat_set {l : List (List UInt8)} (h : Digs32 l) (i : Nat) (hi : i < l.length) (c : List UInt8) : (l.set i c).flatten = l.flatten.take (32 * i) ++ c ++ l.flatten.drop (32 * i + 32) := by
  rw [← flat_take h, show 32 * i + 32 = 32 * (i + 1) by omega, ← flat_drop h, List.set_eq_take_append_cons_drop, if_pos hi]
  simp
theorem own_put {w : World} {B g n cap : Nat} {l : List (List UInt8)} (h : w.ownsRow B 30 32 (.slice (some ⟨g, 0, none⟩) n cap) l.length (cellsOf l.flatten)) (hd : Digs32 l) (i : Nat) (hi : i < l.length) (c : List UInt8) (hc32 : c.length = 32) :
    (w.setCells g (32 * i) (cellsOf c)).ownsRow B 30 32 (.slice (some ⟨g, 0, none⟩) n cap) (l.set i c).length (cellsOf (l.set i c).flatten) := by
  have hds : Digs32 (l.set i c) := fun x hx => by
    rcases List.mem_or_eq_of_mem_set hx with h | rfl
    · exact hd x h
    · exact hc32
  rcases h.2 with ⟨hv, _⟩ | ⟨g', cp, cur, hv, hb, hg, hc, hm, hs, ht⟩
  · cases hv
  · cases hv
    have hl : (cellsOf c).length = 32 := by rw [cellsOf_length, hc32]
    obtain ⟨cur', h1, h2⟩ := cells_set g 30 (cellsOf c) (32 * i) w cur hg (by rw [hl, hs]; omega)
    rw [hl] at h2
    have hcl : cur.toList.length = cap * 32 := by rw [Array.length_toList]; exact hs
    refine ⟨by rw [cellsOf_length, flat_length hds]; omega, .inr ⟨g, cap, cur', by rw [List.length_set], hb, h1, by rw [List.length_set]; exact hc, hm, ?_, ?_⟩⟩
    · rw [← Array.length_toList, h2]
      simp only [List.length_append, List.length_take, List.length_drop, hl]
      omega
    · rw [h2, List.length_set, flat_set hd i hi c]
      have e : cellsOf (l.flatten.take (32 * i) ++ c ++ l.flatten.drop (32 * i + 32)) = (cellsOf l.flatten).take (32 * i) ++ cellsOf c ++ (cellsOf l.flatten).drop (32 * i + 32) := by
        rw [cellsOf_append, cellsOf_append]; unfold cellsOf; rw [List.map_take, List.map_drop]
      rw [e, ← ht, List.take_append, List.take_append, List.take_take, List.take_take, List.take_of_length_le (l := cellsOf c)]
      · congr 1
        · congr 2
          omega
        · rw [List.drop_take, List.length_append, List.length_take, hl]
          congr 1
          omega
      · rw [List.length_take, hl]; omega
theorem step_load_mid {P : Program} {ops : Array Oper} {op : Oper} {a : Act} {w : World} {K : Act → World → Prop} {Q : Exit → Act → World → Prop} {E : Prop} (hw : Region.wanted op (yielded ops a.tmps) = true) (ty : TypeId) (x : Operand) (ho : op.op = .load ty x)
    (b o : Nat) (hx : a.eval x = .pointer (some ⟨b, o, none⟩)) (cs : List Value) (d : TypeDesc) (hc : w.rangeAt b o cs) (hu : P.underlying ty = some d) (hd : d.isRow = true) (hi : (P.info? ty).map (·.size) = some cs.length)
    (h : K (a.put op.dst (.agg cs.toArray)) w) : if Region.wanted op (yielded ops a.tmps) = true then Oper.wp P op a w K Q else E := by
  rw [if_pos hw]
  exact wp_load_mid ty x ho b o hx cs d hc hu hd hi h
theorem step_store_mid {P : Program} {ops : Array Oper} {op : Oper} {a : Act} {w : World} {K : Act → World → Prop} {Q : Exit → Act → World → Prop} {E : Prop} (hw : Region.wanted op (yielded ops a.tmps) = true) (ty : TypeId) (x y : Operand) (ho : op.op = .store ty x y)
    (b o : Nat) (cells : Array Value) (hx : a.eval x = .pointer (some ⟨b, o, none⟩)) (hy : a.eval y = .agg cells) (ht : w.there b o cells.size) (hi : (P.info? ty).map (·.size) = some cells.size) (h1 : cells.all (·.oneCell') = true)
    (h : K (a.put op.dst undef) (w.setCells b o cells.toList)) : if Region.wanted op (yielded ops a.tmps) = true then Oper.wp P op a w K Q else E := by
  rw [if_pos hw]
  exact wp_store_mid ty x y ho b o cells hx hy ht hi h1 h
theorem own_there {w : World} {B g n cap : Nat} {l : List (List UInt8)} (h : w.ownsRow B 30 32 (.slice (some ⟨g, 0, none⟩) n cap) l.length (cellsOf l.flatten)) (i : Nat) (hi : i < l.length) : w.there g (32 * i) 32 := by
  rcases h.2 with ⟨hv, _⟩ | ⟨g', cp, cur, hv, hb, hg, hc, hm, hs, ht⟩
  · cases hv
  · cases hv
    intro j hj
    have hjc : 32 * i + j < cur.size := by rw [hs]; omega
    refine ⟨?_, ?_⟩
    · rw [cell_of_row w g _ cur 30 (0, 0) hg, Array.getElem?_eq_getElem hjc]
      rfl
    · simp [World.frozen?, hg]
theorem below_cells4 {B b : Nat} {a : World} (hb : B ≤ b) : ∀ (vs : List Value) (o : Nat) (w : World), Below B a w → Below B a (w.setCells b o vs)
  | [], _, _, h => h
  | v :: r, o, w, h => by
    rw [World.setCells]
    exact below_cells4 hb r (o + 1) _ (h.setCell (by simpa using hb) _)
theorem cells_other {g k : Nat} (hne : k ≠ g) : ∀ (vs : List Value) (o : Nat) (w : World), (w.setCells g o vs).heap[k]? = w.heap[k]?
  | [], _, _ => rfl
  | v :: r, o, w => by
    rw [World.setCells, cells_other hne r (o + 1) _, heap_setCell_other w ⟨g, o, none⟩ k v hne]
end Go.Proofs.YtdnhnjimhbbababDoor

/- How the last two peaks of a front give way to their knot. -/
namespace Go.Proofs.YtdnhnjimhbbababDoor
open Go.RowKit Sums
set_option maxRecDepth 100000
set_option linter.unusedVariables false
set_option linter.unusedSimpArgs false
set_option maxHeartbeats 4000000 in
theorem join_any (B gp : Nat) (x v : Value) (r : List (List UInt8)) (p q : List UInt8) (w : World) (hG : Grow B gp x v (r ++ [p, q]) w) (hd : Digs32 (r ++ [p, q])) (hlen : r.length ≤ 100000) (hB : B ≤ gp) (hK : Table 0 w) :
    Calls Tryd.prog 55 #[.pointer (some ⟨gp, 0, none⟩)] w fun e w' => e = .returned (.tuple #[]) ∧ (∃ v', Grow B gp x v' (r ++ [knotD p q]) w') ∧ Below B w w' := by
  obtain ⟨s, HSr⟩ : ∃ s, Hid (s = r.length) := ⟨_, (rfl : r.length = _)⟩
  have hll : (r ++ [p, q]).length = s + 2 := by rw [HSr.out]; simp
  obtain ⟨g, cap, hv⟩ := own_form hG.own (by omega)
  rw [hll] at hv
  subst hv
  have hs1 : s ≤ 100000 := by rw [HSr.out]; exact hlen
  obtain ⟨y, cy, hvy, hy, hyB⟩ := LReads.own hG.own hd
  rw [hll] at hvy hy
  cases hvy
  have hgB : B ≤ g := hyB g 0 rfl
  have hgp : gp ≠ g := fun e => own_other hG.own hG.var (by decide) (by rw [e]; rfl)
  have e0 : (r ++ [p, q])[s]'(by omega) = p := by simp [HSr.out]
  have e1 : (r ++ [p, q])[s + 1]'(by omega) = q := by simp [HSr.out]
  have hp32 : p.length = 32 := hd p (by simp)
  have hq32 : q.length = 32 := hd q (by simp)
  obtain ⟨LP, HLP⟩ : ∃ L, Hid (L = cellsOf p) := ⟨_, (rfl : cellsOf p = _)⟩
  obtain ⟨LQ, HLQ⟩ : ∃ L, Hid (L = cellsOf q) := ⟨_, (rfl : cellsOf q = _)⟩
  have zP : (Tryd.prog.info? 30).map (·.size) = some LP.length := by rw [size23, HLP.out, cellsOf_length, hp32]
  have zQ : (Tryd.prog.info? 30).map (·.size) = some LQ.length := by rw [size23, HLQ.out, cellsOf_length, hq32]
  have HRP : Hid (w.rangeAt g (32 * s) LP) := by
    have := hy.range s (by omega)
    rw [e0, Nat.zero_add] at this
    rw [HLP.out]; exact this
  have hRQ : w.rangeAt g (32 * (s + 1)) LQ := by
    have := hy.range (s + 1) (by omega)
    rw [e1, Nat.zero_add] at this
    rw [HLQ.out]; exact this
  obtain ⟨KD, HKD, HSK, H1K, H32K⟩ := dig_row' (knotD p q) (sumD_length _)
  have KN : Hid (∀ W, Below w.heap.size w W → Calls Tryd.prog 22 #[.agg LP.toArray, .agg LQ.toArray] W fun e w' => e = .returned (.agg KD) ∧ Below W.heap.size W w') := fun W hb => by
    rw [HLP.out, HLQ.out]
    exact knot_any p q hp32 hq32 W (hK.keep hb) KD (by show _ = _; rw [HKD.out]; rfl)
  have HG := hidk hG
  have FN : Hid (∀ W, Below w.heap.size w W → W.there g (32 * s) KD.size ∧ (W.setCells g (32 * s) KD.toList).heap[gp]? = some (.cells #[x, .slice (some ⟨g, 0, none⟩) (s + 2) cap] 58 (0, 0)) ∧
      Grow B gp x (.slice (some ⟨g, 0, none⟩) (s + 1) cap) (r ++ [knotD p q]) ((W.setCells g (32 * s) KD.toList).setCell ⟨gp, 1, none⟩ (.slice (some ⟨g, 0, none⟩) (s + 1) cap)) ∧ Below B w ((W.setCells g (32 * s) KD.toList).setCell ⟨gp, 1, none⟩ (.slice (some ⟨g, 0, none⟩) (s + 1) cap))) := fun W hb => by
    have h := HG.out.keep hb
    have hth := own_there h.own s (by omega)
    have hput := own_put h.own hd s (by omega) (knotD p q) (sumD_length _)
    have hset : (r ++ [p, q]).set s (knotD p q) = r ++ [knotD p q, q] := by
      rw [List.set_append_right _ _ (by rw [← HSr.out]; exact Nat.le_refl _), ← HSr.out, Nat.sub_self]
      rfl
    rw [hset] at hput
    have hds : Digs32 (r ++ [knotD p q, q]) := fun z hz => by
      rcases List.mem_append.1 hz with hz | hz
      · exact hd z (List.mem_append_left _ hz)
      · simp only [List.mem_cons, List.not_mem_nil, or_false] at hz
        rcases hz with rfl | rfl
        · exact sumD_length _
        · exact hq32
    have hcut := own_cut hput hds (s + 1) (by simp [HSr.out])
    have htk : (r ++ [knotD p q, q]).take (s + 1) = r ++ [knotD p q] := by
      rw [show r ++ [knotD p q, q] = (r ++ [knotD p q]) ++ [q] by simp]
      exact List.take_left' (by simp [HSr.out])
    rw [htk] at hcut
    have hke : KD.toList = cellsOf (knotD p q) := by rw [HKD.out]
    have hvar : (W.setCells g (32 * s) KD.toList).heap[gp]? = some (.cells #[x, .slice (some ⟨g, 0, none⟩) (s + 2) cap] 58 (0, 0)) := (cells_other hgp _ _ _).trans h.var
    refine ⟨by rw [H32K.out]; exact hth, hvar, ?_, ?_⟩
    · rw [hke] at hvar ⊢
      exact grow_put hvar hcut
    · exact (below_cells4 hgB _ _ _ ((hb.mono (Nat.le_of_lt (Nat.lt_of_le_of_lt hB (heap_lt HG.out.var)))))).setCell (by simpa using hB) _
  have hc1 : w.cell? ⟨gp, 1, none⟩ = some (.slice (some ⟨g, 0, none⟩) (s + 2) cap) := hG.two.2
  have hcap : s + 2 ≤ cap := hy.2.2.1
  have ix1 := fun W => index_list W g 0 (s + 2) cap s .i64 (by omega)
  simp only [Nat.zero_add] at ix1
  have ix2 : ∀ W, (Instr.indexAt 26 (.slice (some ⟨g, 0, none⟩) (s + 2) cap) (.int .i64 ((s : Int) + 1))).run Tryd.prog W = .ok (.pointer (some ⟨g, 32 * (s + 1), none⟩)) W := fun W => by
    have := index_list W g 0 (s + 2) cap (s + 1) .i64 (by omega)
    rw [Nat.zero_add, show ((s + 1 : Nat) : Int) = (s : Int) + 1 by omega] at this
    exact this
  have slc : ∀ W, (Instr.sliceAt 26 (.slice (some ⟨g, 0, none⟩) (s + 2) cap) none (some (.int .i64 ((s : Int) + 1))) none).run Tryd.prog W = .ok (.slice (some ⟨g, 0, none⟩) (s + 1) cap) W := fun W => by
    have := slice_left W g 0 (s + 2) cap (s + 1) (by omega)
    rw [show ((s + 1 : Nat) : Int) = (s : Int) + 1 by omega] at this
    exact this
  have w1 : IntKind.i64.wrap ((s : Int) + 2 - 1) = (s : Int) + 1 := by rw [wrap_int _ (by omega) (by omega)]; omega
  clear hG hd hlen hK hy hyB e0 e1 HLP HLQ HKD hll HSr
  go_enter Tryd.func55, Tryd.ntmps55
  go_wp2
  refine wp_region_held_drew (S := (fun W => W.cell? ⟨gp, 1, none⟩ = some (.slice (some ⟨g, 0, none⟩) (s + 2) cap) ∧ W.rangeAt g (32 * (s + 1)) LQ)) (by kernel_rfl) (show _ ∧ _ from ⟨hc1, hRQ⟩) (fun hHeld => ?_)
  refine wpAnyH_take (i := 0) (oi := { dst := some 10, op := Op.move (Operand.tmp 0), type := 104, pos := "front.go:41", after := #[], guard := none }) (v := .pointer (some ⟨gp, 0, none⟩)) rfl (by kernel_rfl) (by kernel_rfl) (by kernel_rfl) (fun _ _ _ h => h) (Or.inl ⟨by rfl, by intro w hSw; go_simp⟩) hHeld ?_
  try simp only [Act.put, List.setIfInBounds_toArray, List.set_cons_zero, List.set_cons_succ]
  refine wpAnyH_take (i := 1) (oi := { dst := some 11, op := Op.nilCheck (Operand.tmp 10), type := 0, pos := "front.go:41", after := #[{ on := 0, ground := Ground.data }], guard := none }) (v := .pointer (some ⟨gp, 0, none⟩)) rfl (by kernel_rfl) (by kernel_rfl) (by kernel_rfl) (fun _ _ _ h => h) (Or.inl ⟨by rfl, by intro w hSw; go_simp⟩) hHeld ?_
  try simp only [Act.put, List.setIfInBounds_toArray, List.set_cons_zero, List.set_cons_succ]
  refine wpAnyH_take (i := 2) (oi := { dst := some 12, op := Op.fieldAddr 58 (Operand.tmp 11) 0, type := 0, pos := "front.go:41", after := #[{ on := 1, ground := Ground.data }], guard := none }) (v := .pointer (some ⟨gp, 0, none⟩)) rfl (by kernel_rfl) (by kernel_rfl) (by kernel_rfl) (fun _ _ _ h => h) (Or.inl ⟨by rfl, by intro w hSw; go_simp⟩) hHeld ?_
  try simp only [Act.put, List.setIfInBounds_toArray, List.set_cons_zero, List.set_cons_succ]
  refine wpAnyH_take (i := 3) (oi := { dst := some 13, op := Op.fieldAddr 28 (Operand.tmp 12) 1, type := 0, pos := "front.go:41", after := #[{ on := 2, ground := Ground.data }], guard := none }) (v := .pointer (some ⟨gp, 1, none⟩)) rfl (by kernel_rfl) (by kernel_rfl) (by kernel_rfl) (fun _ _ _ h => h) (Or.inl ⟨by rfl, by intro w hSw; go_simp⟩) hHeld ?_
  try simp only [Act.put, List.setIfInBounds_toArray, List.set_cons_zero, List.set_cons_succ]
  refine wpAnyH_take (i := 4) (oi := { dst := some 14, op := Op.load 26 (Operand.tmp 13), type := 26, pos := "front.go:41", after := #[{ on := 3, ground := Ground.data }], guard := none }) (v := .slice (some ⟨g, 0, none⟩) (s + 2) cap) rfl (by kernel_rfl) (by kernel_rfl) (by kernel_rfl) (fun _ _ _ h => h) (Or.inl ⟨by rfl, by intro W hSw; have h1 := hSw.1; go_simp⟩) hHeld ?_
  try simp only [Act.put, List.setIfInBounds_toArray, List.set_cons_zero, List.set_cons_succ]
  refine wpAnyH_take (i := 5) (oi := { dst := some 15, op := Op.move (Operand.tmp 2), type := 3, pos := "front.go:41", after := #[], guard := none }) (v := .int .i64 ((s : Int) + 1)) rfl (by kernel_rfl) (by kernel_rfl) (by kernel_rfl) (fun _ _ _ h => h) (Or.inl ⟨by rfl, by intro w hSw; go_simp⟩) hHeld ?_
  try simp only [Act.put, List.setIfInBounds_toArray, List.set_cons_zero, List.set_cons_succ]
  refine wpAnyH_take (i := 6) (oi := { dst := some 16, op := Op.binOp BinOp.sub 3 (Operand.tmp 15) (Operand.const (Value.int IntKind.i64 1)) 3, type := 3, pos := "front.go:41", after := #[{ on := 5, ground := Ground.data }], guard := none }) (v := .int .i64 s) rfl (by kernel_rfl) (by kernel_rfl) (by kernel_rfl) (fun _ _ _ h => h) (Or.inl ⟨by rfl, by intro W hSw; go_simp; exact wrap_int _ (by omega) (by omega)⟩) hHeld ?_
  try simp only [Act.put, List.setIfInBounds_toArray, List.set_cons_zero, List.set_cons_succ]
  refine wpAnyH_take (i := 7) (oi := { dst := some 17, op := Op.move (Operand.tmp 0), type := 104, pos := "front.go:41", after := #[], guard := none }) (v := .pointer (some ⟨gp, 0, none⟩)) rfl (by kernel_rfl) (by kernel_rfl) (by kernel_rfl) (fun _ _ _ h => h) (Or.inl ⟨by rfl, by intro w hSw; go_simp⟩) hHeld ?_
  try simp only [Act.put, List.setIfInBounds_toArray, List.set_cons_zero, List.set_cons_succ]
  refine wpAnyH_take (i := 8) (oi := { dst := some 18, op := Op.nilCheck (Operand.tmp 17), type := 0, pos := "front.go:41", after := #[{ on := 7, ground := Ground.data }], guard := none }) (v := .pointer (some ⟨gp, 0, none⟩)) rfl (by kernel_rfl) (by kernel_rfl) (by kernel_rfl) (fun _ _ _ h => h) (Or.inl ⟨by rfl, by intro w hSw; go_simp⟩) hHeld ?_
  try simp only [Act.put, List.setIfInBounds_toArray, List.set_cons_zero, List.set_cons_succ]
  refine wpAnyH_take (i := 9) (oi := { dst := some 19, op := Op.fieldAddr 58 (Operand.tmp 18) 0, type := 0, pos := "front.go:41", after := #[{ on := 8, ground := Ground.data }], guard := none }) (v := .pointer (some ⟨gp, 0, none⟩)) rfl (by kernel_rfl) (by kernel_rfl) (by kernel_rfl) (fun _ _ _ h => h) (Or.inl ⟨by rfl, by intro w hSw; go_simp⟩) hHeld ?_
  try simp only [Act.put, List.setIfInBounds_toArray, List.set_cons_zero, List.set_cons_succ]
  refine wpAnyH_take (i := 10) (oi := { dst := some 20, op := Op.fieldAddr 28 (Operand.tmp 19) 1, type := 0, pos := "front.go:41", after := #[{ on := 9, ground := Ground.data }], guard := none }) (v := .pointer (some ⟨gp, 1, none⟩)) rfl (by kernel_rfl) (by kernel_rfl) (by kernel_rfl) (fun _ _ _ h => h) (Or.inl ⟨by rfl, by intro w hSw; go_simp⟩) hHeld ?_
  try simp only [Act.put, List.setIfInBounds_toArray, List.set_cons_zero, List.set_cons_succ]
  refine wpAnyH_take (i := 11) (oi := { dst := some 21, op := Op.load 26 (Operand.tmp 20), type := 26, pos := "front.go:41", after := #[{ on := 10, ground := Ground.data }], guard := none }) (v := .slice (some ⟨g, 0, none⟩) (s + 2) cap) rfl (by kernel_rfl) (by kernel_rfl) (by kernel_rfl) (fun _ _ _ h => h) (Or.inl ⟨by rfl, by intro W hSw; have h1 := hSw.1; go_simp⟩) hHeld ?_
  try simp only [Act.put, List.setIfInBounds_toArray, List.set_cons_zero, List.set_cons_succ]
  refine wpAnyH_take (i := 12) (oi := { dst := some 22, op := Op.move (Operand.tmp 2), type := 3, pos := "front.go:41", after := #[], guard := none }) (v := .int .i64 ((s : Int) + 1)) rfl (by kernel_rfl) (by kernel_rfl) (by kernel_rfl) (fun _ _ _ h => h) (Or.inl ⟨by rfl, by intro w hSw; go_simp⟩) hHeld ?_
  try simp only [Act.put, List.setIfInBounds_toArray, List.set_cons_zero, List.set_cons_succ]
  refine wpAnyH_take (i := 13) (oi := { dst := some 23, op := Op.binOp BinOp.sub 3 (Operand.tmp 22) (Operand.const (Value.int IntKind.i64 1)) 3, type := 3, pos := "front.go:41", after := #[{ on := 12, ground := Ground.data }], guard := none }) (v := .int .i64 s) rfl (by kernel_rfl) (by kernel_rfl) (by kernel_rfl) (fun _ _ _ h => h) (Or.inl ⟨by rfl, by intro W hSw; go_simp; exact wrap_int _ (by omega) (by omega)⟩) hHeld ?_
  try simp only [Act.put, List.setIfInBounds_toArray, List.set_cons_zero, List.set_cons_succ]
  refine wpAnyH_take (i := 14) (oi := { dst := some 24, op := Op.indexAddr 26 (Operand.tmp 21) (Operand.tmp 23), type := 0, pos := "front.go:41", after := #[{ on := 11, ground := Ground.data }, { on := 13, ground := Ground.data }], guard := none }) (v := .pointer (some ⟨g, 32 * s, none⟩)) rfl (by kernel_rfl) (by kernel_rfl) (by kernel_rfl) (fun _ _ _ h => h) (Or.inl ⟨by rfl, by intro W hSw; have := ix1 W; go_simp⟩) hHeld ?_
  try simp only [Act.put, List.setIfInBounds_toArray, List.set_cons_zero, List.set_cons_succ]
  refine wpAnyH_take (i := 16) (oi := { dst := some 26, op := Op.move (Operand.tmp 0), type := 104, pos := "front.go:41", after := #[], guard := none }) (v := .pointer (some ⟨gp, 0, none⟩)) rfl (by kernel_rfl) (by kernel_rfl) (by kernel_rfl) (fun _ _ _ h => h) (Or.inl ⟨by rfl, by intro w hSw; go_simp⟩) hHeld ?_
  try simp only [Act.put, List.setIfInBounds_toArray, List.set_cons_zero, List.set_cons_succ]
  refine wpAnyH_take (i := 17) (oi := { dst := some 27, op := Op.nilCheck (Operand.tmp 26), type := 0, pos := "front.go:41", after := #[{ on := 16, ground := Ground.data }], guard := none }) (v := .pointer (some ⟨gp, 0, none⟩)) rfl (by kernel_rfl) (by kernel_rfl) (by kernel_rfl) (fun _ _ _ h => h) (Or.inl ⟨by rfl, by intro w hSw; go_simp⟩) hHeld ?_
  try simp only [Act.put, List.setIfInBounds_toArray, List.set_cons_zero, List.set_cons_succ]
  refine wpAnyH_take (i := 18) (oi := { dst := some 28, op := Op.fieldAddr 58 (Operand.tmp 27) 0, type := 0, pos := "front.go:41", after := #[{ on := 17, ground := Ground.data }], guard := none }) (v := .pointer (some ⟨gp, 0, none⟩)) rfl (by kernel_rfl) (by kernel_rfl) (by kernel_rfl) (fun _ _ _ h => h) (Or.inl ⟨by rfl, by intro w hSw; go_simp⟩) hHeld ?_
  try simp only [Act.put, List.setIfInBounds_toArray, List.set_cons_zero, List.set_cons_succ]
  refine wpAnyH_take (i := 19) (oi := { dst := some 29, op := Op.fieldAddr 28 (Operand.tmp 28) 1, type := 0, pos := "front.go:41", after := #[{ on := 18, ground := Ground.data }], guard := none }) (v := .pointer (some ⟨gp, 1, none⟩)) rfl (by kernel_rfl) (by kernel_rfl) (by kernel_rfl) (fun _ _ _ h => h) (Or.inl ⟨by rfl, by intro w hSw; go_simp⟩) hHeld ?_
  try simp only [Act.put, List.setIfInBounds_toArray, List.set_cons_zero, List.set_cons_succ]
  refine wpAnyH_take (i := 20) (oi := { dst := some 30, op := Op.load 26 (Operand.tmp 29), type := 26, pos := "front.go:41", after := #[{ on := 19, ground := Ground.data }], guard := none }) (v := .slice (some ⟨g, 0, none⟩) (s + 2) cap) rfl (by kernel_rfl) (by kernel_rfl) (by kernel_rfl) (fun _ _ _ h => h) (Or.inl ⟨by rfl, by intro W hSw; have h1 := hSw.1; go_simp⟩) hHeld ?_
  try simp only [Act.put, List.setIfInBounds_toArray, List.set_cons_zero, List.set_cons_succ]
  refine wpAnyH_take (i := 21) (oi := { dst := some 31, op := Op.move (Operand.tmp 2), type := 3, pos := "front.go:41", after := #[], guard := none }) (v := .int .i64 ((s : Int) + 1)) rfl (by kernel_rfl) (by kernel_rfl) (by kernel_rfl) (fun _ _ _ h => h) (Or.inl ⟨by rfl, by intro w hSw; go_simp⟩) hHeld ?_
  try simp only [Act.put, List.setIfInBounds_toArray, List.set_cons_zero, List.set_cons_succ]
  refine wpAnyH_take (i := 22) (oi := { dst := some 32, op := Op.indexAddr 26 (Operand.tmp 30) (Operand.tmp 31), type := 0, pos := "front.go:41", after := #[{ on := 20, ground := Ground.data }, { on := 21, ground := Ground.data }], guard := none }) (v := .pointer (some ⟨g, 32 * (s + 1), none⟩)) rfl (by kernel_rfl) (by kernel_rfl) (by kernel_rfl) (fun _ _ _ h => h) (Or.inl ⟨by rfl, by intro W hSw; have := ix2 W; go_simp⟩) hHeld ?_
  try simp only [Act.put, List.setIfInBounds_toArray, List.set_cons_zero, List.set_cons_succ]
  refine wpAnyH_take (i := 23) (oi := { dst := some 33, op := Op.load 30 (Operand.tmp 32), type := 30, pos := "front.go:41", after := #[{ on := 22, ground := Ground.data }], guard := none }) (v := .agg LQ.toArray) rfl (by kernel_rfl) (by kernel_rfl) (by kernel_rfl) (fun _ _ _ h => h) (yieldsIf_load_mid (by rfl) 30 (.tmp 32) rfl _ _ rfl LQ _ (fun _ h => h.2) Tryd.underlying30 rfl zQ) hHeld ?_
  try simp only [Act.put, List.setIfInBounds_toArray, List.set_cons_zero, List.set_cons_succ]
  refine wpAnyH_ready (rs := [15]) (by kernel_rfl) (by simp) ?_
  refine AllReadyH.cons (o := { dst := some 25, op := Op.load 30 (Operand.tmp 24), type := 30, pos := "front.go:41", after := #[{ on := 14, ground := Ground.data }], guard := none }) rfl (fun K hK => ?_) AllReadyH.nil
  refine step_load_mid (by rfl) 30 (.tmp 24) rfl g (32 * s) rfl LP _ HRP.out Tryd.underlying30 rfl zP ?_
  refine hK.out _ _ hHeld (fun hHeld => ?_)
  clear hK K
  try simp only [Act.put, List.setIfInBounds_toArray, List.set_cons_zero, List.set_cons_succ]
  refine wpAnyH_ready (rs := [24]) (by kernel_rfl) (by simp) ?_
  refine AllReadyH.cons (o := { dst := some 34, op := Op.call { callee := Callee.value (Operand.func 22), args := #[Operand.tmp 25, Operand.tmp 33], argTypes := #[30, 30] }, type := 30, pos := "front.go:41", after := #[{ on := 15, ground := Ground.data }, { on := 23, ground := Ground.data }], guard := none }) rfl (fun K hK => ?_) AllReadyH.nil
  go_simp
  refine (KN.out _ (Below.refl _ _).drew).mono ?_
  rintro e w24 ⟨rfl, hb24⟩
  obtain ⟨f1, f2, f3, f4⟩ := FN.out w24 ((Below.refl _ _).drew.trans hb24)
  replace f1 := hidk f1
  replace f2 := hidk f2
  replace f3 := hidk f3
  replace f4 := hidk f4
  go_wp2_with fail
  refine hK.out _ _ ⟨by rw [hb24.cell (World.block_lt_of_cell? _ _ hHeld.1)]; exact hHeld.1, range_keep hb24 hHeld.2⟩ (fun hHeld => ?_)
  clear hK K
  try simp only [Act.put, List.setIfInBounds_toArray, List.set_cons_zero, List.set_cons_succ]
  refine wpAnyH_take (i := 25) (oi := { dst := some 35, op := Op.indexAddr 26 (Operand.tmp 14) (Operand.tmp 16), type := 0, pos := "front.go:41", after := #[{ on := 4, ground := Ground.data }, { on := 6, ground := Ground.data }, { on := 0, ground := Ground.phase }, { on := 1, ground := Ground.phase }, { on := 2, ground := Ground.phase }, { on := 3, ground := Ground.phase }, { on := 4, ground := Ground.phase }, { on := 5, ground := Ground.phase }, { on := 6, ground := Ground.phase }, { on := 7, ground := Ground.phase }, { on := 8, ground := Ground.phase }, { on := 9, ground := Ground.phase }, { on := 10, ground := Ground.phase }, { on := 11, ground := Ground.phase }, { on := 12, ground := Ground.phase }, { on := 13, ground := Ground.phase }, { on := 14, ground := Ground.phase }, { on := 15, ground := Ground.phase }, { on := 16, ground := Ground.phase }, { on := 17, ground := Ground.phase }, { on := 18, ground := Ground.phase }, { on := 19, ground := Ground.phase }, { on := 20, ground := Ground.phase }, { on := 21, ground := Ground.phase }, { on := 22, ground := Ground.phase }, { on := 23, ground := Ground.phase }, { on := 24, ground := Ground.phase }], guard := none }) (v := .pointer (some ⟨g, 32 * s, none⟩)) rfl (by kernel_rfl) (by kernel_rfl) (by kernel_rfl) (fun _ _ _ h => h) (Or.inl ⟨by rfl, by intro W hSw; have := ix1 W; go_simp⟩) hHeld ?_
  try simp only [Act.put, List.setIfInBounds_toArray, List.set_cons_zero, List.set_cons_succ]
  refine wpAnyH_ready (rs := [26]) (by kernel_rfl) (by simp) ?_
  refine AllReadyH.cons (o := { dst := none, op := Op.store 30 (Operand.tmp 35) (Operand.tmp 34), type := 0, pos := "front.go:41", after := #[{ on := 25, ground := Ground.data }, { on := 24, ground := Ground.data }, { on := 24, ground := Ground.chain }, { on := 0, ground := Ground.phase }, { on := 1, ground := Ground.phase }, { on := 2, ground := Ground.phase }, { on := 3, ground := Ground.phase }, { on := 4, ground := Ground.phase }, { on := 5, ground := Ground.phase }, { on := 6, ground := Ground.phase }, { on := 7, ground := Ground.phase }, { on := 8, ground := Ground.phase }, { on := 9, ground := Ground.phase }, { on := 10, ground := Ground.phase }, { on := 11, ground := Ground.phase }, { on := 12, ground := Ground.phase }, { on := 13, ground := Ground.phase }, { on := 14, ground := Ground.phase }, { on := 15, ground := Ground.phase }, { on := 16, ground := Ground.phase }, { on := 17, ground := Ground.phase }, { on := 18, ground := Ground.phase }, { on := 19, ground := Ground.phase }, { on := 20, ground := Ground.phase }, { on := 21, ground := Ground.phase }, { on := 22, ground := Ground.phase }, { on := 23, ground := Ground.phase }, { on := 24, ground := Ground.phase }], guard := none }) rfl (fun K hK => ?_) AllReadyH.nil
  refine step_store_mid (by rfl) 30 (.tmp 35) (.tmp 34) rfl g (32 * s) KD rfl rfl f1.out HSK.out H1K.out ?_
  refine hK.out _ _ ⟨by rw [cell_of_row _ _ 1 _ 58 (0, 0) f2.out]; rfl, World.rangeAt_setCells_apart hHeld.2 _ _ _ (.inr (.inr (by rw [Array.length_toList, H32K.out]; omega)))⟩ (fun hHeld => ?_)
  clear hK K
  try simp only [Act.put, List.setIfInBounds_toArray, List.set_cons_zero, List.set_cons_succ]
  refine wpAnyH_done (by kernel_rfl) ?_ _
  have hc2 := hHeld.1
  have hf2 := frozen_of_row _ gp 1 _ 58 f2.out
  clear hHeld hc1 hRQ FN KN
  go_wp2
  first | go_end0 | (refine bodyPost_ret (results_none rfl _ _ _) rfl ?_)
  exact ⟨rfl, ⟨_, f3.out⟩, f4.out⟩
end Go.Proofs.YtdnhnjimhbbababDoor

/- A leaf comes to a front. -/
namespace Go.Proofs.YtdnhnjimhbbababDoor
open Go.RowKit Sums
set_option maxRecDepth 100000
set_option linter.unusedVariables false
set_option linter.unusedSimpArgs false
theorem tz_many (n : Nat) : tz (n + 1) ≤ many n := by
  induction n using Nat.strongRecOn with
  | _ n ih =>
    by_cases h : n % 2 = 0
    · rw [tz_odd (n + 1) (by omega)]; exact Nat.zero_le _
    · rw [tz_even (n + 1) (by omega) (by omega), show (n + 1) / 2 = n / 2 + 1 by omega, many_step n]
      have := ih (n / 2) (by omega)
      omega
theorem grow_append {B gp : Nat} {x v : Value} {l : List (List UInt8)} {w : World} (h : Grow B gp x v l w) (hB : B ≤ w.heap.size) (hlen : l.length + 1 ≤ 1000000) (d : List UInt8) (hd : d.length = 32) (D : Array Value) (HD : Hid (D = (cellsOf d).toArray)) :
    ∃ gn cn w', (Builtin.append_ #[26, 26] 26 #[v, .slice (some ⟨w.heap.size, 0, none⟩) 1 1]).run Tryd.prog (w.alloc (.cells D 30)) = .ok (.slice (some ⟨gn, 0, none⟩) (l.length + 1) cn) w' ∧
      w'.heap[gp]? = some (.cells #[x, v] 58 (0, 0)) ∧ w'.ownsRow B 30 32 (.slice (some ⟨gn, 0, none⟩) (l.length + 1) cn) (l ++ [d]).length (cellsOf (l ++ [d]).flatten) ∧ Below B w w' := by
  obtain ⟨v', w', h1, h2, h3, h4⟩ := h.append hB hlen d hd D HD
  obtain ⟨gn, cn, hv⟩ := own_form h3 (by simp)
  have e : (l ++ [d]).length = l.length + 1 := by simp
  rw [e] at hv
  subst hv
  exact ⟨gn, cn, w', h1, h2, h3, h4⟩
set_option maxHeartbeats 4000000 in
theorem take_any (B gp n : Nat) (v : Value) (l : List (List UInt8)) (d : List UInt8) (w : World) (hG : Grow B gp (.int .i64 n) v l w) (hd : Digs32 l) (hl : l.length = many n) (hn : n ≤ 99999) (hd32 : d.length = 32) (hB : B ≤ gp) (hK : TabF w) (hT : 0 < B ∧ 2 < B) (D : Array Value) (HD : Hid (D = (cellsOf d).toArray)) :
    Calls Tryd.prog 21 #[.pointer (some ⟨gp, 0, none⟩), .agg D] w fun e w' => e = .returned (.tuple #[]) ∧ (∃ v', Grow B gp (.int .i64 ((n : Int) + 1)) v' (addP n l d) w') ∧ Below B w w' := by
  have hBw : B ≤ w.heap.size := Nat.le_of_lt (Nat.lt_of_le_of_lt hB (heap_lt hG.var))
  have hll : l.length ≤ 99999 := by rw [hl]; have := many_le n; omega
  obtain ⟨T, HT⟩ : ∃ T, Hid (T = tz (n + 1)) := ⟨_, (rfl : tz (n + 1) = _)⟩
  have hTl : T ≤ l.length := by rw [HT.out, hl]; exact tz_many n
  have TZ : Hid (∀ W, Below B w W → Calls Tryd.prog 54 #[.int .u64 ((n : Int) + 1)] W fun e w' => e = .returned (.int .i64 T) ∧ W = w') := fun W hb => by
    rw [HT.out]
    exact tz_any (n + 1) (by omega) (by omega) W (hK.2.low hb hT.2)
  have JN : Hid (∀ (v : Value) (r : List (List UInt8)) (p q : List UInt8) (W : World), Grow B gp (.int .i64 ((n : Int) + 1)) v (r ++ [p, q]) W → Digs32 (r ++ [p, q]) → r.length ≤ 100000 → Below B w W →
      Calls Tryd.prog 55 #[.pointer (some ⟨gp, 0, none⟩)] W fun e w' => e = .returned (.tuple #[]) ∧ (∃ v', Grow B gp (.int .i64 ((n : Int) + 1)) v' (r ++ [knotD p q]) w') ∧ Below B W w') := fun v r p q W h1 h2 h3 h4 =>
    join_any B gp _ v r p q W h1 h2 h3 hB (table_low hK.1 h4 hT.1)
  have HSD : Hid ((Tryd.prog.info? 30).map (·.size) = some D.size) := by show _ = _; rw [size23, HD.out]; simp [cellsOf_length, hd32]
  have HX : Hid (Digs32 l ∧ (carry T l.reverse d).reverse = addP n l d) := ⟨hd, by rw [HT.out]; rfl⟩
  have hb0 : Below w.heap.size w (w.alloc (.cells D 30)) := (Below.refl _ _).alloc (Nat.le_refl _) _
  have hG0 := hG.keep hb0
  have HA : Hid (Grow B gp (.int .i64 ((n : Int) + 1)) v l ((w.alloc (.cells D 30)).setCell ⟨gp, 0, none⟩ (.int .i64 ((n : Int) + 1))) ∧ ((w.alloc (.cells D 30)).setCell ⟨gp, 0, none⟩ (.int .i64 ((n : Int) + 1))).heap[w.heap.size]? = some (.cells D 30 (0, 0)) ∧ Below B w ((w.alloc (.cells D 30)).setCell ⟨gp, 0, none⟩ (.int .i64 ((n : Int) + 1)))) :=
    ⟨hG0.size _, (heap_setCell_other _ _ _ _ (by have := heap_lt hG.var; show w.heap.size ≠ gp; omega)).trans (heap_alloc_new w _), (hb0.mono hBw).setCell (by simpa using hB) _⟩
  have hc0 := hG0.two.1
  have hf0 := hG0.free 0
  have w1 := wrap_int ((n : Int) + 1) (by omega) (by omega)
  have w2 : IntKind.u64.wrap ((n : Int) + 1) = (n : Int) + 1 := by rw [IntKind.wrap_u64]; omega
  clear hG hd hl hK hT HT hG0 hb0
  go_enter Tryd.func21, Tryd.ntmps21
  go_wp2
  clear hc0 hf0
  generalize (w.alloc (.cells D 30)).setCell ⟨gp, 0, none⟩ (.int .i64 ((n : Int) + 1)) = wa at HA ⊢
  generalize w.heap.size = gl at HA ⊢
  have HG := hidk HA.out.1.drew
  have hB0 : Below B w wa.drew := HA.out.2.2.drew
  have HL : Hid (wa.drew.heap[gl]? = some (.cells D 30 (0, 0))) := HA.out.2.1
  have hBa : B ≤ wa.drew.heap.size := Nat.le_of_lt (Nat.lt_of_le_of_lt hB (heap_lt HG.out.var))
  clear HA
  refine wp_region_held_drew (S := (fun _ => True)) (by kernel_rfl) trivial (fun hHeld => ?_)
  refine wpAnyH_take (i := 0) (oi := { dst := some 13, op := Op.move (Operand.tmp 0), type := 104, pos := "front.go:32", after := #[], guard := none }) (v := .pointer (some ⟨gp, 0, none⟩)) rfl (by kernel_rfl) (by kernel_rfl) (by kernel_rfl) (fun _ _ _ h => h) (Or.inl ⟨by rfl, by intro W hSw; go_simp⟩) hHeld ?_
  try simp only [Act.put, List.setIfInBounds_toArray, List.set_cons_zero, List.set_cons_succ]
  refine wpAnyH_take (i := 1) (oi := { dst := some 14, op := Op.move (Operand.tmp 0), type := 104, pos := "front.go:32", after := #[], guard := none }) (v := .pointer (some ⟨gp, 0, none⟩)) rfl (by kernel_rfl) (by kernel_rfl) (by kernel_rfl) (fun _ _ _ h => h) (Or.inl ⟨by rfl, by intro W hSw; go_simp⟩) hHeld ?_
  try simp only [Act.put, List.setIfInBounds_toArray, List.set_cons_zero, List.set_cons_succ]
  refine wpAnyH_take (i := 2) (oi := { dst := some 15, op := Op.nilCheck (Operand.tmp 14), type := 0, pos := "front.go:32", after := #[{ on := 1, ground := Ground.data }], guard := none }) (v := .pointer (some ⟨gp, 0, none⟩)) rfl (by kernel_rfl) (by kernel_rfl) (by kernel_rfl) (fun _ _ _ h => h) (Or.inl ⟨by rfl, by intro W hSw; go_simp⟩) hHeld ?_
  try simp only [Act.put, List.setIfInBounds_toArray, List.set_cons_zero, List.set_cons_succ]
  refine wpAnyH_take (i := 3) (oi := { dst := some 16, op := Op.fieldAddr 58 (Operand.tmp 15) 0, type := 0, pos := "front.go:32", after := #[{ on := 2, ground := Ground.data }], guard := none }) (v := .pointer (some ⟨gp, 0, none⟩)) rfl (by kernel_rfl) (by kernel_rfl) (by kernel_rfl) (fun _ _ _ h => h) (Or.inl ⟨by rfl, by intro W hSw; go_simp⟩) hHeld ?_
  try simp only [Act.put, List.setIfInBounds_toArray, List.set_cons_zero, List.set_cons_succ]
  refine wpAnyH_take (i := 4) (oi := { dst := some 17, op := Op.fieldAddr 28 (Operand.tmp 16) 1, type := 0, pos := "front.go:32", after := #[{ on := 3, ground := Ground.data }], guard := none }) (v := .pointer (some ⟨gp, 1, none⟩)) rfl (by kernel_rfl) (by kernel_rfl) (by kernel_rfl) (fun _ _ _ h => h) (Or.inl ⟨by rfl, by intro W hSw; go_simp⟩) hHeld ?_
  try simp only [Act.put, List.setIfInBounds_toArray, List.set_cons_zero, List.set_cons_succ]
  refine wpAnyH_ready (rs := [5, 6]) (by kernel_rfl) (by simp) ?_
  refine (AllReadyH.cons (o := { dst := some 18, op := Op.load 26 (Operand.tmp 17), type := 26, pos := "front.go:32", after := #[{ on := 4, ground := Ground.data }], guard := none }) rfl (fun K hK => ?_) (AllReadyH.cons (o := { dst := some 19, op := Op.load 30 (Operand.tmp 3), type := 30, pos := "front.go:32", after := #[], guard := none }) rfl (fun K hK => ?_) AllReadyH.nil))
  · have hc := HG.out.two.2
    try (have hc3 : (wa.alloc (.cells D 30)).cell? ⟨gp, 1, none⟩ = some v := hc)
    go_simp
    clear hc
    refine hK.out _ _ trivial (fun hHeld => ?_)
    clear hK K
    try simp only [Act.put, List.setIfInBounds_toArray, List.set_cons_zero, List.set_cons_succ]
    refine wpAnyH_ready (rs := [6]) (by kernel_rfl) (by simp) ?_
    refine (AllReadyH.cons (o := { dst := some 19, op := Op.load 30 (Operand.tmp 3), type := 30, pos := "front.go:32", after := #[], guard := none }) rfl (fun K hK => ?_) AllReadyH.nil)
    refine step_load_row (by rfl) 30 (.tmp 3) rfl gl rfl 30 D (0, 0) _ HL.out Tryd.underlying30 rfl HSD.out ?_
    refine hK.out _ _ trivial (fun hHeld => ?_)
    clear hK K
    try simp only [Act.put, List.setIfInBounds_toArray, List.set_cons_zero, List.set_cons_succ]
    refine wpAnyH_ready (rs := [7]) (by kernel_rfl) (by simp) ?_
    refine (AllReadyH.cons (o := { dst := some 20, op := Op.buildSlice 26 1 #[(0, Operand.tmp 19)], type := 26, pos := "front.go:32", after := #[{ on := 6, ground := Ground.data }], guard := none }) rfl (fun K hK => ?_) AllReadyH.nil)
    refine step_build_run (by rfl) 26 1 _ rfl #[(0, .agg D)] rfl _ _ (build_one _ _ hd32 D HD) ?_
    obtain ⟨gn, cn, w8, hrun, q1, q2, q3⟩ := grow_append HG.out hBa (by omega) _ hd32 D HD
    replace HG := hidk (HG.out.keep ((Below.refl _ _).alloc (Nat.le_refl _) (.cells D 30)))
    refine hK.out _ _ trivial (fun hHeld => ?_)
    clear hK K
    try simp only [Act.put, List.setIfInBounds_toArray, List.set_cons_zero, List.set_cons_succ]
    refine wpAnyH_ready (rs := [8]) (by kernel_rfl) (by simp) ?_
    refine (AllReadyH.cons (o := { dst := some 21, op := Op.call { callee := Callee.builtin Builtin.append, args := #[Operand.tmp 18, Operand.tmp 20], argTypes := #[26, 26] }, type := 26, pos := "front.go:32", after := #[{ on := 5, ground := Ground.data }, { on := 7, ground := Ground.data }], guard := none }) rfl (fun K hK => ?_) AllReadyH.nil)
    refine step_append_run rfl (.tmp 18) (.tmp 20) 26 26 rfl v _ _ w8 rfl rfl hrun ?_
    refine hK.out _ _ trivial (fun hHeld => ?_)
    clear hK K
    try simp only [Act.put, List.setIfInBounds_toArray, List.set_cons_zero, List.set_cons_succ]
    refine wpAnyH_take (i := 9) (oi := { dst := some 22, op := Op.nilCheck (Operand.tmp 13), type := 0, pos := "front.go:32", after := #[{ on := 0, ground := Ground.data }, { on := 0, ground := Ground.phase }, { on := 1, ground := Ground.phase }, { on := 2, ground := Ground.phase }, { on := 3, ground := Ground.phase }, { on := 4, ground := Ground.phase }, { on := 5, ground := Ground.phase }, { on := 6, ground := Ground.phase }, { on := 7, ground := Ground.phase }, { on := 8, ground := Ground.phase }], guard := none }) (v := .pointer (some ⟨gp, 0, none⟩)) rfl (by kernel_rfl) (by kernel_rfl) (by kernel_rfl) (fun _ _ _ h => h) (Or.inl ⟨by rfl, by intro W hSw; go_simp⟩) hHeld ?_
    try simp only [Act.put, List.setIfInBounds_toArray, List.set_cons_zero, List.set_cons_succ]
    refine wpAnyH_take (i := 10) (oi := { dst := some 23, op := Op.fieldAddr 58 (Operand.tmp 22) 0, type := 0, pos := "front.go:32", after := #[{ on := 9, ground := Ground.data }, { on := 0, ground := Ground.phase }, { on := 1, ground := Ground.phase }, { on := 2, ground := Ground.phase }, { on := 3, ground := Ground.phase }, { on := 4, ground := Ground.phase }, { on := 5, ground := Ground.phase }, { on := 6, ground := Ground.phase }, { on := 7, ground := Ground.phase }, { on := 8, ground := Ground.phase }], guard := none }) (v := .pointer (some ⟨gp, 0, none⟩)) rfl (by kernel_rfl) (by kernel_rfl) (by kernel_rfl) (fun _ _ _ h => h) (Or.inl ⟨by rfl, by intro W hSw; go_simp⟩) hHeld ?_
    try simp only [Act.put, List.setIfInBounds_toArray, List.set_cons_zero, List.set_cons_succ]
    refine wpAnyH_take (i := 11) (oi := { dst := some 24, op := Op.fieldAddr 28 (Operand.tmp 23) 1, type := 0, pos := "front.go:32", after := #[{ on := 10, ground := Ground.data }, { on := 0, ground := Ground.phase }, { on := 1, ground := Ground.phase }, { on := 2, ground := Ground.phase }, { on := 3, ground := Ground.phase }, { on := 4, ground := Ground.phase }, { on := 5, ground := Ground.phase }, { on := 6, ground := Ground.phase }, { on := 7, ground := Ground.phase }, { on := 8, ground := Ground.phase }], guard := none }) (v := .pointer (some ⟨gp, 1, none⟩)) rfl (by kernel_rfl) (by kernel_rfl) (by kernel_rfl) (fun _ _ _ h => h) (Or.inl ⟨by rfl, by intro W hSw; go_simp⟩) hHeld ?_
    try simp only [Act.put, List.setIfInBounds_toArray, List.set_cons_zero, List.set_cons_succ]
    refine wpAnyH_ready (rs := [12]) (by kernel_rfl) (by simp) ?_
    refine (AllReadyH.cons (o := { dst := none, op := Op.store 26 (Operand.tmp 24) (Operand.tmp 21), type := 0, pos := "front.go:32", after := #[{ on := 11, ground := Ground.data }, { on := 8, ground := Ground.data }, { on := 8, ground := Ground.chain }, { on := 0, ground := Ground.phase }, { on := 1, ground := Ground.phase }, { on := 2, ground := Ground.phase }, { on := 3, ground := Ground.phase }, { on := 4, ground := Ground.phase }, { on := 5, ground := Ground.phase }, { on := 6, ground := Ground.phase }, { on := 7, ground := Ground.phase }, { on := 8, ground := Ground.phase }], guard := none }) rfl (fun K hK => ?_) AllReadyH.nil)
    have hc : w8.cell? ⟨gp, 1, none⟩ = some v := (by rw [cell_of_row _ _ 1 _ 58 (0, 0) q1]; rfl)
    have hfz := frozen_of_row _ gp 1 _ 58 q1
    go_simp
    clear hc hfz
    refine hK.out _ _ trivial (fun hHeld => ?_)
    clear hK K
    try simp only [Act.put, List.setIfInBounds_toArray, List.set_cons_zero, List.set_cons_succ]
    refine wpAnyH_done (by kernel_rfl) ?_ _
    have HW : Hid (Grow B gp (.int .i64 ((n : Int) + 1)) (.slice (some ⟨gn, 0, none⟩) (l.length + 1) cn) (l ++ [d]) (w8.setCell ⟨gp, 1, none⟩ (.slice (some ⟨gn, 0, none⟩) (l.length + 1) cn)) ∧ Below B w (w8.setCell ⟨gp, 1, none⟩ (.slice (some ⟨gn, 0, none⟩) (l.length + 1) cn))) := ⟨grow_put q1 q2, (hB0.trans q3).setCell (by simpa using hB) _⟩
    clear hHeld q1 q2 q3 hrun HG HL hB0 hBa
    generalize w8.setCell ⟨gp, 1, none⟩ (.slice (some ⟨gn, 0, none⟩) (l.length + 1) cn) = wb at HW ⊢
    have hc0 := HW.out.1.two.1
    go_wp2_with fail
    refine (TZ.out _ HW.out.2).mono ?_
    rintro e w9 ⟨rfl, rfl⟩
    clear hc0 TZ
    go_wp2
    go_loopw [32] (fun u wr => ∃ i : Nat, i ≤ T ∧ u = .int .i64 i ∧ Hid (∃ v r e, Grow B gp (.int .i64 ((n : Int) + 1)) v (r.reverse ++ [e]) wr ∧ T - i ≤ r.length ∧ r.length ≤ 100000 ∧ Digs32 r ∧ e.length = 32 ∧ (carry (T - i) r e).reverse = addP n l d ∧ Below B w wr)) (fun u _ => T - (intOf u).toNat)
    case atStart => exact ⟨0, by omega, rfl, (.slice (some ⟨gn, 0, none⟩) (l.length + 1) cn), l.reverse, d, by rw [List.reverse_reverse]; exact HW.out.1, by rw [List.length_reverse]; omega, by rw [List.length_reverse]; omega, HX.out.1.reverse, hd32, HX.out.2, HW.out.2⟩
    case round =>
      clear HW
      obtain ⟨i, hi, rfl, HI⟩ := hrel
      by_cases hlt : i < T
      · have hdi : decide ((i : Int) < (T : Int)) = true := by rw [decide_eq_true_eq]; omega
        have hwi := wrap_int ((i : Int) + 1) (by omega) (by omega)
        obtain ⟨v1, r, e, k1, k2, k3, k4, k5, k6, k7⟩ := HI.out
        obtain ⟨p, r, rfl⟩ : ∃ p r', r = p :: r' := by
          cases r with
          | nil => simp at k2; omega
          | cons p r => exact ⟨p, r, rfl⟩
        have el : (p :: r).reverse ++ [e] = r.reverse ++ [p, e] := by simp
        rw [el] at k1
        have kd : Digs32 (r.reverse ++ [p, e]) := by rw [← el]; exact k4.reverse.append (.one k5)
        have J := hidk (JN.out v1 r.reverse p e wr k1 kd (by rw [List.length_reverse]; simp at k3; omega) k7)
        have N : Hid (∀ w', (∃ v', Grow B gp (.int .i64 ((n : Int) + 1)) v' (r.reverse ++ [knotD p e]) w') → Below B wr w' → ∃ v r e, Grow B gp (.int .i64 ((n : Int) + 1)) v (r.reverse ++ [e]) w' ∧ T - (i + 1) ≤ r.length ∧ r.length ≤ 100000 ∧ Digs32 r ∧ e.length = 32 ∧ (carry (T - (i + 1)) r e).reverse = addP n l d ∧ Below B w w') := fun w' ⟨v', h1⟩ h2 =>
          ⟨v', r, knotD p e, h1, by simp at k2; omega, by simp at k3; omega, (fun z hz => k4 z (List.mem_cons_of_mem _ hz)), sumD_length _, by rw [← k6, show T - i = T - (i + 1) + 1 by omega]; rfl, k7.trans h2⟩
        clear HI k1 k2 k3 k4 k5 k6 k7 el kd JN
        go_wp2_with fail
        refine J.out.mono ?_
        rintro e w10 ⟨rfl, h1, h2⟩
        have HN := hidk (N.out w10 h1 h2)
        clear N J h1 h2
        go_wp2
        go_roundw
        case rel => exact ⟨i + 1, by omega, by go_num, HN⟩
        case measure => simp [intOf]; omega
      · obtain rfl : T = i := by omega
        have HN : Hid ((∃ v', Grow B gp (.int .i64 ((n : Int) + 1)) v' (addP n l d) wr) ∧ Below B w wr) := by
          obtain ⟨v1, r, e, k1, k2, k3, k4, k5, k6, k7⟩ := HI.out
          rw [Nat.sub_self] at k6
          rw [← k6]
          exact ⟨⟨v1, by simpa [carry] using k1⟩, k7⟩
        clear HI JN
        go_wp2
        first | go_end0 | (refine bodyPost_ret (results_none rfl _ _ _) rfl ?_)
        exact ⟨rfl, HN.out⟩
  · refine step_load_row (by rfl) 30 (.tmp 3) rfl gl rfl 30 D (0, 0) _ HL.out Tryd.underlying30 rfl HSD.out ?_
    refine hK.out _ _ trivial (fun hHeld => ?_)
    clear hK K
    try simp only [Act.put, List.setIfInBounds_toArray, List.set_cons_zero, List.set_cons_succ]
    refine wpAnyH_ready (rs := [5, 7]) (by kernel_rfl) (by simp) ?_
    refine (AllReadyH.cons (o := { dst := some 18, op := Op.load 26 (Operand.tmp 17), type := 26, pos := "front.go:32", after := #[{ on := 4, ground := Ground.data }], guard := none }) rfl (fun K hK => ?_) (AllReadyH.cons (o := { dst := some 20, op := Op.buildSlice 26 1 #[(0, Operand.tmp 19)], type := 26, pos := "front.go:32", after := #[{ on := 6, ground := Ground.data }], guard := none }) rfl (fun K hK => ?_) AllReadyH.nil))
    · have hc := HG.out.two.2
      try (have hc3 : (wa.alloc (.cells D 30)).cell? ⟨gp, 1, none⟩ = some v := hc)
      go_simp
      clear hc
      refine hK.out _ _ trivial (fun hHeld => ?_)
      clear hK K
      try simp only [Act.put, List.setIfInBounds_toArray, List.set_cons_zero, List.set_cons_succ]
      refine wpAnyH_ready (rs := [7]) (by kernel_rfl) (by simp) ?_
      refine (AllReadyH.cons (o := { dst := some 20, op := Op.buildSlice 26 1 #[(0, Operand.tmp 19)], type := 26, pos := "front.go:32", after := #[{ on := 6, ground := Ground.data }], guard := none }) rfl (fun K hK => ?_) AllReadyH.nil)
      refine step_build_run (by rfl) 26 1 _ rfl #[(0, .agg D)] rfl _ _ (build_one _ _ hd32 D HD) ?_
      obtain ⟨gn, cn, w8, hrun, q1, q2, q3⟩ := grow_append HG.out hBa (by omega) _ hd32 D HD
      replace HG := hidk (HG.out.keep ((Below.refl _ _).alloc (Nat.le_refl _) (.cells D 30)))
      refine hK.out _ _ trivial (fun hHeld => ?_)
      clear hK K
      try simp only [Act.put, List.setIfInBounds_toArray, List.set_cons_zero, List.set_cons_succ]
      refine wpAnyH_ready (rs := [8]) (by kernel_rfl) (by simp) ?_
      refine (AllReadyH.cons (o := { dst := some 21, op := Op.call { callee := Callee.builtin Builtin.append, args := #[Operand.tmp 18, Operand.tmp 20], argTypes := #[26, 26] }, type := 26, pos := "front.go:32", after := #[{ on := 5, ground := Ground.data }, { on := 7, ground := Ground.data }], guard := none }) rfl (fun K hK => ?_) AllReadyH.nil)
      refine step_append_run rfl (.tmp 18) (.tmp 20) 26 26 rfl v _ _ w8 rfl rfl hrun ?_
      refine hK.out _ _ trivial (fun hHeld => ?_)
      clear hK K
      try simp only [Act.put, List.setIfInBounds_toArray, List.set_cons_zero, List.set_cons_succ]
      refine wpAnyH_take (i := 9) (oi := { dst := some 22, op := Op.nilCheck (Operand.tmp 13), type := 0, pos := "front.go:32", after := #[{ on := 0, ground := Ground.data }, { on := 0, ground := Ground.phase }, { on := 1, ground := Ground.phase }, { on := 2, ground := Ground.phase }, { on := 3, ground := Ground.phase }, { on := 4, ground := Ground.phase }, { on := 5, ground := Ground.phase }, { on := 6, ground := Ground.phase }, { on := 7, ground := Ground.phase }, { on := 8, ground := Ground.phase }], guard := none }) (v := .pointer (some ⟨gp, 0, none⟩)) rfl (by kernel_rfl) (by kernel_rfl) (by kernel_rfl) (fun _ _ _ h => h) (Or.inl ⟨by rfl, by intro W hSw; go_simp⟩) hHeld ?_
      try simp only [Act.put, List.setIfInBounds_toArray, List.set_cons_zero, List.set_cons_succ]
      refine wpAnyH_take (i := 10) (oi := { dst := some 23, op := Op.fieldAddr 58 (Operand.tmp 22) 0, type := 0, pos := "front.go:32", after := #[{ on := 9, ground := Ground.data }, { on := 0, ground := Ground.phase }, { on := 1, ground := Ground.phase }, { on := 2, ground := Ground.phase }, { on := 3, ground := Ground.phase }, { on := 4, ground := Ground.phase }, { on := 5, ground := Ground.phase }, { on := 6, ground := Ground.phase }, { on := 7, ground := Ground.phase }, { on := 8, ground := Ground.phase }], guard := none }) (v := .pointer (some ⟨gp, 0, none⟩)) rfl (by kernel_rfl) (by kernel_rfl) (by kernel_rfl) (fun _ _ _ h => h) (Or.inl ⟨by rfl, by intro W hSw; go_simp⟩) hHeld ?_
      try simp only [Act.put, List.setIfInBounds_toArray, List.set_cons_zero, List.set_cons_succ]
      refine wpAnyH_take (i := 11) (oi := { dst := some 24, op := Op.fieldAddr 28 (Operand.tmp 23) 1, type := 0, pos := "front.go:32", after := #[{ on := 10, ground := Ground.data }, { on := 0, ground := Ground.phase }, { on := 1, ground := Ground.phase }, { on := 2, ground := Ground.phase }, { on := 3, ground := Ground.phase }, { on := 4, ground := Ground.phase }, { on := 5, ground := Ground.phase }, { on := 6, ground := Ground.phase }, { on := 7, ground := Ground.phase }, { on := 8, ground := Ground.phase }], guard := none }) (v := .pointer (some ⟨gp, 1, none⟩)) rfl (by kernel_rfl) (by kernel_rfl) (by kernel_rfl) (fun _ _ _ h => h) (Or.inl ⟨by rfl, by intro W hSw; go_simp⟩) hHeld ?_
      try simp only [Act.put, List.setIfInBounds_toArray, List.set_cons_zero, List.set_cons_succ]
      refine wpAnyH_ready (rs := [12]) (by kernel_rfl) (by simp) ?_
      refine (AllReadyH.cons (o := { dst := none, op := Op.store 26 (Operand.tmp 24) (Operand.tmp 21), type := 0, pos := "front.go:32", after := #[{ on := 11, ground := Ground.data }, { on := 8, ground := Ground.data }, { on := 8, ground := Ground.chain }, { on := 0, ground := Ground.phase }, { on := 1, ground := Ground.phase }, { on := 2, ground := Ground.phase }, { on := 3, ground := Ground.phase }, { on := 4, ground := Ground.phase }, { on := 5, ground := Ground.phase }, { on := 6, ground := Ground.phase }, { on := 7, ground := Ground.phase }, { on := 8, ground := Ground.phase }], guard := none }) rfl (fun K hK => ?_) AllReadyH.nil)
      have hc : w8.cell? ⟨gp, 1, none⟩ = some v := (by rw [cell_of_row _ _ 1 _ 58 (0, 0) q1]; rfl)
      have hfz := frozen_of_row _ gp 1 _ 58 q1
      go_simp
      clear hc hfz
      refine hK.out _ _ trivial (fun hHeld => ?_)
      clear hK K
      try simp only [Act.put, List.setIfInBounds_toArray, List.set_cons_zero, List.set_cons_succ]
      refine wpAnyH_done (by kernel_rfl) ?_ _
      have HW : Hid (Grow B gp (.int .i64 ((n : Int) + 1)) (.slice (some ⟨gn, 0, none⟩) (l.length + 1) cn) (l ++ [d]) (w8.setCell ⟨gp, 1, none⟩ (.slice (some ⟨gn, 0, none⟩) (l.length + 1) cn)) ∧ Below B w (w8.setCell ⟨gp, 1, none⟩ (.slice (some ⟨gn, 0, none⟩) (l.length + 1) cn))) := ⟨grow_put q1 q2, (hB0.trans q3).setCell (by simpa using hB) _⟩
      clear hHeld q1 q2 q3 hrun HG HL hB0 hBa
      generalize w8.setCell ⟨gp, 1, none⟩ (.slice (some ⟨gn, 0, none⟩) (l.length + 1) cn) = wb at HW ⊢
      have hc0 := HW.out.1.two.1
      go_wp2_with fail
      refine (TZ.out _ HW.out.2).mono ?_
      rintro e w9 ⟨rfl, rfl⟩
      clear hc0 TZ
      go_wp2
      go_loopw [32] (fun u wr => ∃ i : Nat, i ≤ T ∧ u = .int .i64 i ∧ Hid (∃ v r e, Grow B gp (.int .i64 ((n : Int) + 1)) v (r.reverse ++ [e]) wr ∧ T - i ≤ r.length ∧ r.length ≤ 100000 ∧ Digs32 r ∧ e.length = 32 ∧ (carry (T - i) r e).reverse = addP n l d ∧ Below B w wr)) (fun u _ => T - (intOf u).toNat)
      case atStart => exact ⟨0, by omega, rfl, (.slice (some ⟨gn, 0, none⟩) (l.length + 1) cn), l.reverse, d, by rw [List.reverse_reverse]; exact HW.out.1, by rw [List.length_reverse]; omega, by rw [List.length_reverse]; omega, HX.out.1.reverse, hd32, HX.out.2, HW.out.2⟩
      case round =>
        clear HW
        obtain ⟨i, hi, rfl, HI⟩ := hrel
        by_cases hlt : i < T
        · have hdi : decide ((i : Int) < (T : Int)) = true := by rw [decide_eq_true_eq]; omega
          have hwi := wrap_int ((i : Int) + 1) (by omega) (by omega)
          obtain ⟨v1, r, e, k1, k2, k3, k4, k5, k6, k7⟩ := HI.out
          obtain ⟨p, r, rfl⟩ : ∃ p r', r = p :: r' := by
            cases r with
            | nil => simp at k2; omega
            | cons p r => exact ⟨p, r, rfl⟩
          have el : (p :: r).reverse ++ [e] = r.reverse ++ [p, e] := by simp
          rw [el] at k1
          have kd : Digs32 (r.reverse ++ [p, e]) := by rw [← el]; exact k4.reverse.append (.one k5)
          have J := hidk (JN.out v1 r.reverse p e wr k1 kd (by rw [List.length_reverse]; simp at k3; omega) k7)
          have N : Hid (∀ w', (∃ v', Grow B gp (.int .i64 ((n : Int) + 1)) v' (r.reverse ++ [knotD p e]) w') → Below B wr w' → ∃ v r e, Grow B gp (.int .i64 ((n : Int) + 1)) v (r.reverse ++ [e]) w' ∧ T - (i + 1) ≤ r.length ∧ r.length ≤ 100000 ∧ Digs32 r ∧ e.length = 32 ∧ (carry (T - (i + 1)) r e).reverse = addP n l d ∧ Below B w w') := fun w' ⟨v', h1⟩ h2 =>
            ⟨v', r, knotD p e, h1, by simp at k2; omega, by simp at k3; omega, (fun z hz => k4 z (List.mem_cons_of_mem _ hz)), sumD_length _, by rw [← k6, show T - i = T - (i + 1) + 1 by omega]; rfl, k7.trans h2⟩
          clear HI k1 k2 k3 k4 k5 k6 k7 el kd JN
          go_wp2_with fail
          refine J.out.mono ?_
          rintro e w10 ⟨rfl, h1, h2⟩
          have HN := hidk (N.out w10 h1 h2)
          clear N J h1 h2
          go_wp2
          go_roundw
          case rel => exact ⟨i + 1, by omega, by go_num, HN⟩
          case measure => simp [intOf]; omega
        · obtain rfl : T = i := by omega
          have HN : Hid ((∃ v', Grow B gp (.int .i64 ((n : Int) + 1)) v' (addP n l d) wr) ∧ Below B w wr) := by
            obtain ⟨v1, r, e, k1, k2, k3, k4, k5, k6, k7⟩ := HI.out
            rw [Nat.sub_self] at k6
            rw [← k6]
            exact ⟨⟨v1, by simpa [carry] using k1⟩, k7⟩
          clear HI JN
          go_wp2
          first | go_end0 | (refine bodyPost_ret (results_none rfl _ _ _) rfl ?_)
          exact ⟨rfl, HN.out⟩
    · refine step_build_run (by rfl) 26 1 _ rfl #[(0, .agg D)] rfl _ _ (build_one _ _ hd32 D HD) ?_
      obtain ⟨gn, cn, w8, hrun, q1, q2, q3⟩ := grow_append HG.out hBa (by omega) _ hd32 D HD
      replace HG := hidk (HG.out.keep ((Below.refl _ _).alloc (Nat.le_refl _) (.cells D 30)))
      refine hK.out _ _ trivial (fun hHeld => ?_)
      clear hK K
      try simp only [Act.put, List.setIfInBounds_toArray, List.set_cons_zero, List.set_cons_succ]
      refine wpAnyH_ready (rs := [5]) (by kernel_rfl) (by simp) ?_
      refine (AllReadyH.cons (o := { dst := some 18, op := Op.load 26 (Operand.tmp 17), type := 26, pos := "front.go:32", after := #[{ on := 4, ground := Ground.data }], guard := none }) rfl (fun K hK => ?_) AllReadyH.nil)
      have hc := HG.out.two.2
      try (have hc3 : (wa.alloc (.cells D 30)).cell? ⟨gp, 1, none⟩ = some v := hc)
      go_simp
      clear hc
      refine hK.out _ _ trivial (fun hHeld => ?_)
      clear hK K
      try simp only [Act.put, List.setIfInBounds_toArray, List.set_cons_zero, List.set_cons_succ]
      refine wpAnyH_ready (rs := [8]) (by kernel_rfl) (by simp) ?_
      refine (AllReadyH.cons (o := { dst := some 21, op := Op.call { callee := Callee.builtin Builtin.append, args := #[Operand.tmp 18, Operand.tmp 20], argTypes := #[26, 26] }, type := 26, pos := "front.go:32", after := #[{ on := 5, ground := Ground.data }, { on := 7, ground := Ground.data }], guard := none }) rfl (fun K hK => ?_) AllReadyH.nil)
      refine step_append_run rfl (.tmp 18) (.tmp 20) 26 26 rfl v _ _ w8 rfl rfl hrun ?_
      refine hK.out _ _ trivial (fun hHeld => ?_)
      clear hK K
      try simp only [Act.put, List.setIfInBounds_toArray, List.set_cons_zero, List.set_cons_succ]
      refine wpAnyH_take (i := 9) (oi := { dst := some 22, op := Op.nilCheck (Operand.tmp 13), type := 0, pos := "front.go:32", after := #[{ on := 0, ground := Ground.data }, { on := 0, ground := Ground.phase }, { on := 1, ground := Ground.phase }, { on := 2, ground := Ground.phase }, { on := 3, ground := Ground.phase }, { on := 4, ground := Ground.phase }, { on := 5, ground := Ground.phase }, { on := 6, ground := Ground.phase }, { on := 7, ground := Ground.phase }, { on := 8, ground := Ground.phase }], guard := none }) (v := .pointer (some ⟨gp, 0, none⟩)) rfl (by kernel_rfl) (by kernel_rfl) (by kernel_rfl) (fun _ _ _ h => h) (Or.inl ⟨by rfl, by intro W hSw; go_simp⟩) hHeld ?_
      try simp only [Act.put, List.setIfInBounds_toArray, List.set_cons_zero, List.set_cons_succ]
      refine wpAnyH_take (i := 10) (oi := { dst := some 23, op := Op.fieldAddr 58 (Operand.tmp 22) 0, type := 0, pos := "front.go:32", after := #[{ on := 9, ground := Ground.data }, { on := 0, ground := Ground.phase }, { on := 1, ground := Ground.phase }, { on := 2, ground := Ground.phase }, { on := 3, ground := Ground.phase }, { on := 4, ground := Ground.phase }, { on := 5, ground := Ground.phase }, { on := 6, ground := Ground.phase }, { on := 7, ground := Ground.phase }, { on := 8, ground := Ground.phase }], guard := none }) (v := .pointer (some ⟨gp, 0, none⟩)) rfl (by kernel_rfl) (by kernel_rfl) (by kernel_rfl) (fun _ _ _ h => h) (Or.inl ⟨by rfl, by intro W hSw; go_simp⟩) hHeld ?_
      try simp only [Act.put, List.setIfInBounds_toArray, List.set_cons_zero, List.set_cons_succ]
      refine wpAnyH_take (i := 11) (oi := { dst := some 24, op := Op.fieldAddr 28 (Operand.tmp 23) 1, type := 0, pos := "front.go:32", after := #[{ on := 10, ground := Ground.data }, { on := 0, ground := Ground.phase }, { on := 1, ground := Ground.phase }, { on := 2, ground := Ground.phase }, { on := 3, ground := Ground.phase }, { on := 4, ground := Ground.phase }, { on := 5, ground := Ground.phase }, { on := 6, ground := Ground.phase }, { on := 7, ground := Ground.phase }, { on := 8, ground := Ground.phase }], guard := none }) (v := .pointer (some ⟨gp, 1, none⟩)) rfl (by kernel_rfl) (by kernel_rfl) (by kernel_rfl) (fun _ _ _ h => h) (Or.inl ⟨by rfl, by intro W hSw; go_simp⟩) hHeld ?_
      try simp only [Act.put, List.setIfInBounds_toArray, List.set_cons_zero, List.set_cons_succ]
      refine wpAnyH_ready (rs := [12]) (by kernel_rfl) (by simp) ?_
      refine (AllReadyH.cons (o := { dst := none, op := Op.store 26 (Operand.tmp 24) (Operand.tmp 21), type := 0, pos := "front.go:32", after := #[{ on := 11, ground := Ground.data }, { on := 8, ground := Ground.data }, { on := 8, ground := Ground.chain }, { on := 0, ground := Ground.phase }, { on := 1, ground := Ground.phase }, { on := 2, ground := Ground.phase }, { on := 3, ground := Ground.phase }, { on := 4, ground := Ground.phase }, { on := 5, ground := Ground.phase }, { on := 6, ground := Ground.phase }, { on := 7, ground := Ground.phase }, { on := 8, ground := Ground.phase }], guard := none }) rfl (fun K hK => ?_) AllReadyH.nil)
      have hc : w8.cell? ⟨gp, 1, none⟩ = some v := (by rw [cell_of_row _ _ 1 _ 58 (0, 0) q1]; rfl)
      have hfz := frozen_of_row _ gp 1 _ 58 q1
      go_simp
      clear hc hfz
      refine hK.out _ _ trivial (fun hHeld => ?_)
      clear hK K
      try simp only [Act.put, List.setIfInBounds_toArray, List.set_cons_zero, List.set_cons_succ]
      refine wpAnyH_done (by kernel_rfl) ?_ _
      have HW : Hid (Grow B gp (.int .i64 ((n : Int) + 1)) (.slice (some ⟨gn, 0, none⟩) (l.length + 1) cn) (l ++ [d]) (w8.setCell ⟨gp, 1, none⟩ (.slice (some ⟨gn, 0, none⟩) (l.length + 1) cn)) ∧ Below B w (w8.setCell ⟨gp, 1, none⟩ (.slice (some ⟨gn, 0, none⟩) (l.length + 1) cn))) := ⟨grow_put q1 q2, (hB0.trans q3).setCell (by simpa using hB) _⟩
      clear hHeld q1 q2 q3 hrun HG HL hB0 hBa
      generalize w8.setCell ⟨gp, 1, none⟩ (.slice (some ⟨gn, 0, none⟩) (l.length + 1) cn) = wb at HW ⊢
      have hc0 := HW.out.1.two.1
      go_wp2_with fail
      refine (TZ.out _ HW.out.2).mono ?_
      rintro e w9 ⟨rfl, rfl⟩
      clear hc0 TZ
      go_wp2
      go_loopw [32] (fun u wr => ∃ i : Nat, i ≤ T ∧ u = .int .i64 i ∧ Hid (∃ v r e, Grow B gp (.int .i64 ((n : Int) + 1)) v (r.reverse ++ [e]) wr ∧ T - i ≤ r.length ∧ r.length ≤ 100000 ∧ Digs32 r ∧ e.length = 32 ∧ (carry (T - i) r e).reverse = addP n l d ∧ Below B w wr)) (fun u _ => T - (intOf u).toNat)
      case atStart => exact ⟨0, by omega, rfl, (.slice (some ⟨gn, 0, none⟩) (l.length + 1) cn), l.reverse, d, by rw [List.reverse_reverse]; exact HW.out.1, by rw [List.length_reverse]; omega, by rw [List.length_reverse]; omega, HX.out.1.reverse, hd32, HX.out.2, HW.out.2⟩
      case round =>
        clear HW
        obtain ⟨i, hi, rfl, HI⟩ := hrel
        by_cases hlt : i < T
        · have hdi : decide ((i : Int) < (T : Int)) = true := by rw [decide_eq_true_eq]; omega
          have hwi := wrap_int ((i : Int) + 1) (by omega) (by omega)
          obtain ⟨v1, r, e, k1, k2, k3, k4, k5, k6, k7⟩ := HI.out
          obtain ⟨p, r, rfl⟩ : ∃ p r', r = p :: r' := by
            cases r with
            | nil => simp at k2; omega
            | cons p r => exact ⟨p, r, rfl⟩
          have el : (p :: r).reverse ++ [e] = r.reverse ++ [p, e] := by simp
          rw [el] at k1
          have kd : Digs32 (r.reverse ++ [p, e]) := by rw [← el]; exact k4.reverse.append (.one k5)
          have J := hidk (JN.out v1 r.reverse p e wr k1 kd (by rw [List.length_reverse]; simp at k3; omega) k7)
          have N : Hid (∀ w', (∃ v', Grow B gp (.int .i64 ((n : Int) + 1)) v' (r.reverse ++ [knotD p e]) w') → Below B wr w' → ∃ v r e, Grow B gp (.int .i64 ((n : Int) + 1)) v (r.reverse ++ [e]) w' ∧ T - (i + 1) ≤ r.length ∧ r.length ≤ 100000 ∧ Digs32 r ∧ e.length = 32 ∧ (carry (T - (i + 1)) r e).reverse = addP n l d ∧ Below B w w') := fun w' ⟨v', h1⟩ h2 =>
            ⟨v', r, knotD p e, h1, by simp at k2; omega, by simp at k3; omega, (fun z hz => k4 z (List.mem_cons_of_mem _ hz)), sumD_length _, by rw [← k6, show T - i = T - (i + 1) + 1 by omega]; rfl, k7.trans h2⟩
          clear HI k1 k2 k3 k4 k5 k6 k7 el kd JN
          go_wp2_with fail
          refine J.out.mono ?_
          rintro e w10 ⟨rfl, h1, h2⟩
          have HN := hidk (N.out w10 h1 h2)
          clear N J h1 h2
          go_wp2
          go_roundw
          case rel => exact ⟨i + 1, by omega, by go_num, HN⟩
          case measure => simp [intOf]; omega
        · obtain rfl : T = i := by omega
          have HN : Hid ((∃ v', Grow B gp (.int .i64 ((n : Int) + 1)) v' (addP n l d) wr) ∧ Below B w wr) := by
            obtain ⟨v1, r, e, k1, k2, k3, k4, k5, k6, k7⟩ := HI.out
            rw [Nat.sub_self] at k6
            rw [← k6]
            exact ⟨⟨v1, by simpa [carry] using k1⟩, k7⟩
          clear HI JN
          go_wp2
          first | go_end0 | (refine bodyPost_ret (results_none rfl _ _ _) rfl ?_)
          exact ⟨rfl, HN.out⟩
end Go.Proofs.YtdnhnjimhbbababDoor

/- A front's peaks are laid into memory of one's own. -/
namespace Go.Proofs.YtdnhnjimhbbababDoor
open Go.RowKit Sums
set_option maxRecDepth 100000
set_option linter.unusedVariables false
set_option linter.unusedSimpArgs false
theorem wpList_make_run {P : Program} {ops : Array Oper} {rest : List Oper} {o : Oper} {a : Act} {w : World} {Q : Exit → Act → World → Prop} (hg : o.guard = none) (l c : Operand) (t : TypeId) (hop : o.op = Op.makeSlice t l c)
    (vl vc v' : Value) (w' : World) (hl : a.eval l = vl) (hc : a.eval c = vc) (hrun : (Instr.makeSlice t vl vc).run P w = .ok v' w') (h : wpList P ops Q rest (a.put o.dst v') w') : wpList P ops Q (o :: rest) a w := by
  refine wpList_plain hg fun K hK => ?_
  unfold Oper.wp
  simp [execOp, hop, hl, hc, hrun, Result.andThen]
  exact hK _ _ h
theorem wpList_copy_run {P : Program} {ops : Array Oper} {rest : List Oper} {o : Oper} {a : Act} {w : World} {Q : Exit → Act → World → Prop} (hg : o.guard = none) (s x : Operand) (t u : TypeId) (hop : o.op = Op.call { callee := Callee.builtin Builtin.copy, args := #[s, x], argTypes := #[t, u] })
    (vs vx v' : Value) (w' : World) (hs : a.eval s = vs) (hx : a.eval x = vx) (hrun : (Builtin.copy_ #[t, u] o.type #[vs, vx]).run P w = .ok v' w') (h : wpList P ops Q rest (a.put o.dst v') w') : wpList P ops Q (o :: rest) a w := by
  refine wpList_plain hg fun K hK => ?_
  unfold Oper.wp
  simp [execOp, hop, resolve, invoke, builtin, hs, hx, hrun, Result.andThen]
  exact hK _ _ h
theorem run_copy_digs (w : World) (ty : TypeId) (g n dCap sCap : Nat) (a : Addr) (cur : Array Value) (cs : List Value) (hg : w.heap[g]? = some (.cells cur 30 (0, 0))) (hn : cs.length = n * 32)
    (hsrc : ∀ j v, cs[j]? = some v → w.cell? (a.add j) = some v) (hfit : cs.length ≤ cur.size) (h1 : ∀ v ∈ cs, v.oneCell' = true) :
    (Builtin.copy_ #[26, 26] ty #[.slice (some ⟨g, 0, none⟩) n dCap, .slice (some a) n sCap]).run Tryd.prog w = .ok (goInt n) (w.setRow g (cs ++ cur.toList.drop cs.length).toArray) := by
  have hl := run_loadCells_list (P := Tryd.prog) w a cs hsrc
  have hst := run_storeCells_at Tryd.prog g 0 30 cs 0 cur w hg (by simpa using hfit) h1
  simp only [Nat.zero_add, List.take_zero, List.nil_append] at hst
  rw [hn] at hl
  simp [Builtin.copy_, run_underlying Tryd.underlying26, Builtin.lenOf, Builtin.firstCells, sizeOfD, hl, hst]
theorem run_copy_empty (w : World) (ty : TypeId) (g dCap sCap : Nat) (a : Option Addr) :
    (Builtin.copy_ #[26, 26] ty #[.slice (some ⟨g, 0, none⟩) 0 dCap, .slice a 0 sCap]).run Tryd.prog w = .ok (goInt 0) w := by
  have hl : ∀ (x : Addr), (loadCells x 0).run Tryd.prog w = .ok #[] w := fun x => by simpa using run_loadCells_list (P := Tryd.prog) w x [] (by simp)
  cases a <;> simp [Builtin.copy_, run_underlying Tryd.underlying26, Builtin.lenOf, Builtin.firstCells, sizeOfD, storeCells, hl]
/-- Room for one more is made, and the peaks are laid there. -/
theorem run_laid (W : World) (B : Nat) (a : Option Addr) (len cap : Nat) (ps : List (List UInt8)) (hR : LReads W a len cap ps) (hl : len ≤ 100000) (hB : B ≤ W.heap.size) (ty : TypeId) :
    ∃ w1 w2, (Instr.makeSlice 26 (.int .i64 len) (.int .i64 ((len : Int) + 1))).run Tryd.prog W = .ok (.slice (some ⟨W.heap.size, 0, none⟩) len (len + 1)) w1 ∧ Below W.heap.size W w1 ∧
      (Builtin.copy_ #[26, 26] ty #[.slice (some ⟨W.heap.size, 0, none⟩) len (len + 1), .slice a len cap]).run Tryd.prog w1 = .ok (goInt len) w2 ∧
      w2.ownsRow B 30 32 (.slice (some ⟨W.heap.size, 0, none⟩) len (len + 1)) ps.length (cellsOf ps.flatten) ∧ Below W.heap.size W w2 := by
  obtain ⟨i0, hi, hz0, hz1, hz2⟩ := info_parts infoD
  have hlen := hR.1
  have hfl := flat_length hR.2.1
  have hr := run_makeSlice (P := Tryd.prog) W 26 30 i0 _ Tryd.underlying26 hi hz0 .i64 .i64 len ((len : Int) + 1) (by omega) (by omega) (by rw [hz1]; omega) (by rw [hz2]; omega) (by omega)
  rw [Int.toNat_natCast, show ((len : Int) + 1).toNat = len + 1 by omega, hz1] at hr
  obtain ⟨cur, hcur⟩ : ∃ cur, cur = madeCells (Value.agg (cellsOf (List.replicate 32 0)).toArray).cells ((len + 1) * 32) := ⟨_, rfl⟩
  have hcs : cur.size = (len + 1) * 32 := by rw [hcur]; exact size_madeCells _ _
  rw [← hcur] at hr
  have hb : Below W.heap.size W (W.alloc (.cells cur 30)) := (Below.refl _ _).alloc (Nat.le_refl _) _
  have hgn := heap_alloc_new W (.cells cur 30)
  by_cases h0 : len = 0
  · have hps : ps = [] := List.eq_nil_of_length_eq_zero (by omega)
    subst hps h0
    refine ⟨_, _, hr, hb, run_copy_empty _ ty _ _ _ _, ⟨by simp [cellsOf], .inr ⟨_, 1, cur, rfl, hB, hgn, by simp, by unfold maxLen; omega, hcs, by simp [cellsOf]⟩⟩, hb⟩
  · obtain ⟨g, o, rfl, hg⟩ := hR.at (by omega)
    have hsrc : ∀ j v, (cellsOf ps.flatten)[j]? = some v → (W.alloc (.cells cur 30)).cell? ((⟨g, o, none⟩ : Addr).add j) = some v := by
      intro j u hj
      rw [add_plain]
      obtain ⟨h1, h2, h3, h4, h5⟩ := hR.keep hb
      rcases h5 with h5 | ⟨g', o', e, hly⟩
      · omega
      · cases e
        have hjl : j < ps.flatten.length := by
          have := (List.getElem?_eq_some_iff.1 hj).1
          rwa [cellsOf_length] at this
        rw [hly j hjl]
        rw [cellsOf_at _ j hjl] at hj
        exact hj
    have hc := run_copy_digs (W.alloc (.cells cur 30)) ty W.heap.size len (len + 1) cap ⟨g, o, none⟩ cur (cellsOf ps.flatten) hgn (by rw [cellsOf_length]; omega) hsrc (by rw [cellsOf_length]; omega) (cellsOf_one _)
    refine ⟨_, _, hr, hb, hc, ⟨by rw [cellsOf_length]; omega, .inr ⟨_, len + 1, _, by rw [hlen], hB, setRow_heap _ _ _ _ 30 _ hgn, by omega, by unfold maxLen; omega, ?_, ?_⟩⟩, below_setRow hb (Nat.le_refl _) _⟩
    · simp only [List.size_toArray, List.length_append, List.length_drop, Array.length_toList, cellsOf_length, hcs]
      omega
    · simp only [List.toList_toArray]
      rw [List.take_left' (by rw [cellsOf_length]; omega)]
theorem sizeG : (Tryd.prog.info? 58).map (·.size) = some 2 := by kernel_rfl
theorem sizeF : (Tryd.prog.info? 28).map (·.size) = some 2 := by kernel_rfl
set_option maxHeartbeats 2000000 in
theorem grown_any (n : Int) (a : Option Addr) (len cap : Nat) (ps : List (List UInt8)) (w : World) (hR : LReads w a len cap ps) (hl : len ≤ 100000) :
    Calls Tryd.prog 20 #[.agg #[.int .i64 n, .slice a len cap]] w fun e w' => ∃ g, e = .returned (.agg #[.int .i64 n, .slice (some ⟨g, 0, none⟩) len (len + 1)]) ∧ w'.ownsRow w.heap.size 30 32 (.slice (some ⟨g, 0, none⟩) len (len + 1)) ps.length (cellsOf ps.flatten) ∧ Below w.heap.size w w' := by
  obtain ⟨W, hW⟩ : ∃ W, W = ((w.alloc (.cells #[.int .i64 n, .slice a len cap] 28)).alloc (.cells #[.int .i64 0, .slice none 0 0] 58)) := ⟨_, rfl⟩
  have hb0 : Below w.heap.size w W := by rw [hW]; exact (((Below.refl _ _).alloc (Nat.le_refl _) _).alloc (by simp) _)
  have hT : Two W w.heap.size (.int .i64 n) (.slice a len cap) := by rw [hW]; exact (two_new w _ _ 28).keep ((Below.refl _ _).alloc (Nat.le_refl _) _)
  have hV : W.heap[w.heap.size + 1]? = some (.cells #[.int .i64 0, .slice none 0 0] 58 (0, 0)) := by
    rw [hW]
    have := heap_alloc_new (w.alloc (.cells #[.int .i64 n, .slice a len cap] 28)) (.cells #[.int .i64 0, .slice none 0 0] 58)
    simpa using this
  have hs : W.heap.size = w.heap.size + 2 := by rw [hW]; simp
  obtain ⟨w1, w2, hmk, hb1, hcp, hown, hb2⟩ := run_laid W w.heap.size a len cap ps (hR.keep hb0) hl (by omega) 3
  have HMK := hidk hmk
  have HCP := hidk hcp
  have hcA : w1.cell? ⟨w.heap.size, 1, none⟩ = some (.slice a len cap) := (hT.keep hb1).2
  have hcB : w2.cell? ⟨w.heap.size, 0, none⟩ = some (.int .i64 n) := (hT.keep hb2).1
  have HV : Hid (w2.heap[w.heap.size + 1]? = some (.cells #[.int .i64 0, .slice none 0 0] 58 (0, 0))) := (hb2.block _ (heap_lt hV)).trans hV
  have HB : Hid (Below w.heap.size w (w2.setRow (w.heap.size + 1) #[.int .i64 n, .slice (some ⟨W.heap.size, 0, none⟩) len (len + 1)])) := below_setRow (hb0.trans (hb2.mono (by omega))) (by omega) _
  have HO : Hid ((w2.setRow (w.heap.size + 1) #[.int .i64 n, .slice (some ⟨W.heap.size, 0, none⟩) len (len + 1)]).ownsRow w.heap.size 30 32 (.slice (some ⟨W.heap.size, 0, none⟩) len (len + 1)) ps.length (cellsOf ps.flatten)) := by
    rcases hown.2 with ⟨e, _⟩ | ⟨g, cp, cur, e, h1, h2, h3⟩
    · cases e
    · cases e
      exact ⟨hown.1, .inr ⟨_, _, cur, rfl, h1, by rw [setRow_other _ _ _ _ (by omega)]; exact h2, h3⟩⟩
  obtain ⟨R, HRR⟩ : ∃ R : Array Value, Hid (R = #[.int .i64 n, .slice (some ⟨W.heap.size, 0, none⟩) len (len + 1)]) := ⟨_, (rfl : _ = _)⟩
  have HS : Hid ((Tryd.prog.info? 58).map (·.size) = some R.size) := by show _ = _; rw [HRR.out, sizeG]; rfl
  have H2 : Hid ((#[.int .i64 0, .slice none 0 0] : Array Value).size = R.size) := by show _ = _; rw [HRR.out]; rfl
  have H1 : Hid (R.all (·.oneCell') = true) := by show _ = _; rw [HRR.out]; simp [Value.oneCell']
  rw [← HRR.out] at HB HO
  have w0 := wrap_int ((len : Int) + 1) (by omega) (by omega)
  generalize W.heap.size = gw at *
  have HRE : Hid (Value.agg #[.int .i64 n, .slice (some ⟨gw, 0, none⟩) len (len + 1)] = .agg R) := by show _ = _; rw [HRR.out]
  clear hR hT hV hs hmk hb1 hcp hown hb2 hb0
  subst hW
  go_enter Tryd.func20, Tryd.ntmps20
  go_wp2_with (first
    | (refine wpList_make_run rfl (.tmp 6) (.tmp 10) 26 rfl _ _ _ w1 rfl rfl HMK.out ?_; try simp only [Act.put, List.setIfInBounds_toArray, List.set_cons_zero, List.set_cons_succ])
    | (refine wpList_copy_run rfl (.tmp 12) (.tmp 14) 26 26 rfl _ _ _ w2 rfl rfl HCP.out ?_; try simp only [Act.put, List.setIfInBounds_toArray, List.set_cons_zero, List.set_cons_succ])
    | (refine wpList_store_row rfl 58 (.tmp 2) (.tmp 20) rfl (w.heap.size + 1) R rfl HRE.out 58 #[.int .i64 0, .slice none 0 0] HV.out HS.out H2.out H1.out ?_; try simp only [Act.put, List.setIfInBounds_toArray, List.set_cons_zero, List.set_cons_succ])
    | fail)
  refine bodyPost_ret (v := .agg R) ?_ rfl ⟨gw, by rw [HRR.out], HO.out, HB.out⟩
  exact results_cell_row (p := 2) (ty := 58) rfl _ _ (w.heap.size + 1) 58 R (0, 0) _ rfl (setRow_heap _ _ _ _ 58 _ HV.out) Tryd.underlying58 rfl HS.out
end Go.Proofs.YtdnhnjimhbbababDoor

/- What front.Add answers. -/
namespace Go.Proofs.YtdnhnjimhbbababDoor
open Go.RowKit Sums
set_option maxRecDepth 100000
set_option linter.unusedVariables false
set_option linter.unusedSimpArgs false
/-- A struct of two cells, as a row. -/
theorem front_row (n : Int) (a : Option Addr) (len cap : Nat) : ∃ R : Array Value, Hid (#[.int .i64 n, .slice a len cap] = R) ∧ Hid ((Tryd.prog.info? 28).map (·.size) = some R.size) ∧ Hid ((Tryd.prog.info? 58).map (·.size) = some R.size) ∧ Hid (R.all (·.oneCell') = true) ∧ Hid (2 = R.size) :=
  ⟨_, (rfl : _ = _), sizeF, sizeG, (by simp [Value.oneCell'] : _ = _), (rfl : _ = _)⟩
theorem own_low {w : World} {B B' : Nat} {e : TypeId} {k : Nat} {v : Value} {n : Nat} {xs : List Value} (h : w.ownsRow B e k v n xs) (hB : B' ≤ B) : w.ownsRow B' e k v n xs := by
  refine ⟨h.1, ?_⟩
  rcases h.2 with h2 | ⟨g, cap, cur, h1, h2, h3⟩
  · exact .inl h2
  · exact .inr ⟨g, cap, cur, h1, by omega, h3⟩
theorem own_setRow {w : World} {B : Nat} {v : Value} {l : List (List UInt8)} (h : w.ownsRow B 30 32 v l.length (cellsOf l.flatten)) {b : Nat} {c c' : Array Value} {t : TypeId} (hb : w.heap[b]? = some (.cells c t (0, 0))) (ht : t ≠ 30) : (w.setRow b c').ownsRow B 30 32 v l.length (cellsOf l.flatten) := by
  refine ⟨h.1, ?_⟩
  rcases h.2 with h2 | ⟨g, cap, cur, h1, h2, h3, h4⟩
  · exact .inl h2
  · refine .inr ⟨g, cap, cur, h1, h2, ?_, h4⟩
    rw [setRow_other _ _ _ _ (fun e => ?_)]
    · exact h3
    · subst e
      rw [h3] at hb
      cases hb
      exact ht rfl
theorem RoomO.own {w : World} {B : Nat} {x : Option Addr} {cx m : Nat} {xs : List Value} (h : w.ownsRow B 30 32 (.slice x m cx) m xs) : RoomO B x m w := by
  rcases h.2 with ⟨_, h0⟩ | ⟨g, cap, cur, hv, hb, hg, hc, hm, hs, ht⟩
  · exact .inl h0
  · cases hv
    refine .inr ⟨g, 0, rfl, hb, fun j hj => ?_⟩
    rw [Nat.zero_add]
    have hjc : j < cur.size := by rw [hs]; omega
    refine ⟨?_, ?_⟩
    · rw [cell_of_row w g j cur 30 (0, 0) hg, Array.getElem?_eq_getElem hjc]
      rfl
    · simp [World.frozen?, hg]
/-- The call's world: what came in, and what goes out. -/
def Begun (w W : World) (n : Int) (a : Option Addr) (len cap : Nat) (D : Array Value) : Prop :=
  Below w.heap.size w W ∧ Two W w.heap.size (.int .i64 n) (.slice a len cap) ∧ W.heap[w.heap.size + 1]? = some (.cells D 30 (0, 0)) ∧ W.heap[w.heap.size + 2]? = some (.cells #[.int .i64 0, .slice none 0 0] 28 (0, 0))
theorem begun (w : World) (n : Int) (a : Option Addr) (len cap : Nat) (D : Array Value) : Begun w (((w.alloc (.cells #[.int .i64 n, .slice a len cap] 28)).alloc (.cells D 30)).alloc (.cells #[.int .i64 0, .slice none 0 0] 28)) n a len cap D := by
  have b1 : Below w.heap.size w (w.alloc (.cells #[.int .i64 n, .slice a len cap] 28)) := (Below.refl _ _).alloc (Nat.le_refl _) _
  refine ⟨(b1.alloc (by simp) _).alloc (by simp; omega) _, ((two_new w _ _ 28).keep ((Below.refl _ _).alloc (Nat.le_refl _) _)).keep ((Below.refl _ _).alloc (Nat.le_refl _) _), ?_, ?_⟩
  · refine heap_keep ?_
    have := heap_alloc_new (w.alloc (.cells #[.int .i64 n, .slice a len cap] 28)) (.cells D 30)
    simpa using this
  · have := heap_alloc_new ((w.alloc (.cells #[.int .i64 n, .slice a len cap] 28)).alloc (.cells D 30)) (.cells #[.int .i64 0, .slice none 0 0] 28)
    simpa using this
theorem Begun.keep {w W W' : World} {n : Int} {a : Option Addr} {len cap : Nat} {D : Array Value} (h : Begun w W n a len cap D) (hb : Below W.heap.size W W') : Begun w W' n a len cap D :=
  ⟨h.1.trans (hb.mono h.1.size), h.2.1.keep hb, (hb.block _ (heap_lt h.2.2.1)).trans h.2.2.1, (hb.block _ (heap_lt h.2.2.2)).trans h.2.2.2⟩
set_option maxHeartbeats 2000000 in
theorem fadd_no (n : Int) (a : Option Addr) (len cap : Nat) (w : World) (hl : len ≤ maxLen) (h : ¬ isRight n len) (D : Array Value) :
    Calls Tryd.prog 6 #[.agg #[.int .i64 n, .slice a len cap], .agg D] w fun e w' => ∃ y cy, e = .returned (.tuple #[.agg #[.int .i64 0, .slice y 0 cy], .int .i64 30]) ∧ Below w.heap.size w w' := by
  have CK : Hid (∀ W, Calls Tryd.prog 19 #[.agg #[.int .i64 n, .slice a len cap]] W fun e w' => e = .returned (.int .i64 30) ∧ Below W.heap.size W w') := fun W => check_no n a len cap W hl h
  obtain ⟨R, HR, HS, _, H1, H2⟩ := front_row 0 none 0 0
  have HE : Hid (Value.agg #[.int .i64 0, .slice none 0 0] = .agg R) := by show _ = _; rw [HR.out]
  clear h hl
  go_enter Tryd.func6, Tryd.ntmps6
  go_wp2_with fail
  refine (CK.out _).mono ?_
  rintro e w1 ⟨rfl, hb1⟩
  have HB := hidk ((begun w n a len cap D).keep hb1)
  clear hb1 CK
  go_wp2_with (first
    | (refine wpList_store_row rfl 28 (.tmp 4) (.tmp 12) rfl (w.heap.size + 2) R rfl HE.out 28 #[.int .i64 0, .slice none 0 0] HB.out.2.2.2 HS.out H2.out H1.out ?_; try simp only [Act.put, List.setIfInBounds_toArray, List.set_cons_zero, List.set_cons_succ])
    | fail)
  refine bodyPost_ret (v := .tuple #[.agg R, .int .i64 30]) ?_ rfl ⟨none, 0, by rw [HE.out], below_setRow HB.out.1 (by omega) _⟩
  exact results_row_tmp (p := 4) (q := 5) (ty := 28) rfl _ _ (w.heap.size + 2) 28 R (0, 0) _ rfl (setRow_heap _ _ _ _ 28 _ HB.out.2.2.2) Tryd.underlying28 rfl HS.out
set_option maxHeartbeats 2000000 in
theorem fadd_full (a : Option Addr) (len cap : Nat) (w : World) (h : isRight 100000 len) (D : Array Value) :
    Calls Tryd.prog 6 #[.agg #[.int .i64 100000, .slice a len cap], .agg D] w fun e w' => ∃ y cy, e = .returned (.tuple #[.agg #[.int .i64 0, .slice y 0 cy], .int .i64 2]) ∧ Below w.heap.size w w' := by
  have CK : Hid (∀ W, Calls Tryd.prog 19 #[.agg #[.int .i64 100000, .slice a len cap]] W fun e w' => e = .returned (.int .i64 0) ∧ Below W.heap.size W w') := fun W => check_ok 100000 a len cap W h
  obtain ⟨R, HR, HS, _, H1, H2⟩ := front_row 0 none 0 0
  have HE : Hid (Value.agg #[.int .i64 0, .slice none 0 0] = .agg R) := by show _ = _; rw [HR.out]
  clear h
  go_enter Tryd.func6, Tryd.ntmps6
  go_wp2_with fail
  refine (CK.out _).mono ?_
  rintro e w1 ⟨rfl, hb1⟩
  have HB := hidk ((begun w 100000 a len cap D).keep hb1)
  have hc0 := HB.out.2.1.1
  clear hb1 CK
  go_wp2_with (first
    | (refine wpList_store_row rfl 28 (.tmp 4) (.tmp 17) rfl (w.heap.size + 2) R rfl HE.out 28 #[.int .i64 0, .slice none 0 0] HB.out.2.2.2 HS.out H2.out H1.out ?_; try simp only [Act.put, List.setIfInBounds_toArray, List.set_cons_zero, List.set_cons_succ])
    | fail)
  refine bodyPost_ret (v := .tuple #[.agg R, .int .i64 2]) ?_ rfl ⟨none, 0, by rw [HE.out], below_setRow HB.out.1 (by omega) _⟩
  exact results_row_tmp (p := 4) (q := 5) (ty := 28) rfl _ _ (w.heap.size + 2) 28 R (0, 0) _ rfl (setRow_heap _ _ _ _ 28 _ HB.out.2.2.2) Tryd.underlying28 rfl HS.out
set_option maxHeartbeats 4000000 in
theorem fadd_ok (n : Nat) (a : Option Addr) (len cap : Nat) (ps : List (List UInt8)) (d : List UInt8) (w : World) (h : isRight n len) (hn : n ≤ 99999) (hR : LReads w a len cap ps) (hd : d.length = 32) (hK : TabF w) (D : Array Value) (HD : Hid (D = (cellsOf d).toArray)) :
    Calls Tryd.prog 6 #[.agg #[.int .i64 n, .slice a len cap], .agg D] w fun e w' => ∃ y cy, e = .returned (.tuple #[.agg #[.int .i64 ((n : Int) + 1), .slice y (addP n ps d).length cy], .int .i64 0]) ∧ LReads w' y (addP n ps d).length cy (addP n ps d) ∧ RoomO w.heap.size y (addP n ps d).length w' ∧ Below w.heap.size w w' := by
  have CK : Hid (∀ W, Calls Tryd.prog 19 #[.agg #[.int .i64 n, .slice a len cap]] W fun e w' => e = .returned (.int .i64 0) ∧ Below W.heap.size W w') := fun W => check_ok n a len cap W h
  have hm : len = many n := by have := h.2.2; rwa [Int.toNat_natCast] at this
  have hml : len ≤ 99999 := by rw [hm]; have := many_le n; omega
  have hlen := hR.1
  have GR : Hid (∀ W, Below w.heap.size w W → Calls Tryd.prog 20 #[.agg #[.int .i64 n, .slice a len cap]] W fun e w' => ∃ g, e = .returned (.agg #[.int .i64 n, .slice (some ⟨g, 0, none⟩) len (len + 1)]) ∧ w'.ownsRow W.heap.size 30 32 (.slice (some ⟨g, 0, none⟩) len (len + 1)) ps.length (cellsOf ps.flatten) ∧ Below W.heap.size W w') := fun W hb =>
    grown_any n a len cap ps W (hR.keep hb) (by omega)
  have hds : Digs32 (addP n ps d) := addP_digs sumD_length n ps d hR.2.1 hd
  have TK : Hid (∀ (B gp : Nat) (v : Value) (W : World), w.heap.size ≤ B → B ≤ gp → Grow B gp (.int .i64 n) v ps W → Below w.heap.size w W → Calls Tryd.prog 21 #[.pointer (some ⟨gp, 0, none⟩), .agg D] W fun e w' => e = .returned (.tuple #[]) ∧ (∃ y cy, Grow B gp (.int .i64 ((n : Int) + 1)) (.slice y (addP n ps d).length cy) (addP n ps d) w') ∧ Below B W w') := fun B gp v W h1 h2 h3 h4 => by
    refine (take_any B gp n v ps d W h3 hR.2.1 (by omega) hn hd h2 (hK.keep h4) ⟨Nat.lt_of_lt_of_le hK.at.1 h1, Nat.lt_of_lt_of_le hK.at.2 h1⟩ D HD).mono ?_
    rintro e w' ⟨rfl, ⟨v', hg⟩, hb⟩
    obtain ⟨y, cy, rfl, _⟩ := LReads.own hg.own hds
    exact ⟨rfl, ⟨y, cy, hg⟩, hb⟩
  have HSD : Hid ((Tryd.prog.info? 30).map (·.size) = some D.size) := by show _ = _; rw [size23, HD.out]; simp [cellsOf_length, hd]
  have c1 : ((n : Int) == 100000) = false := by rw [beq_eq_false_iff_ne]; omega
  have HDS := hidk hds
  clear h hm hR hK HD hds
  go_enter Tryd.func6, Tryd.ntmps6
  go_wp2_with fail
  refine (CK.out _).mono ?_
  rintro e w1 ⟨rfl, hb1⟩
  have HB := hidk ((begun w n a len cap D).keep hb1)
  have hc0 := HB.out.2.1.1
  have hc1 := HB.out.2.1.2
  clear hb1 CK
  go_wp2_with fail
  refine (GR.out _ HB.out.1).mono ?_
  rintro e w2 ⟨g, rfl, hown, hb2⟩
  have hal : Below w2.heap.size w2 (w2.alloc (.cells #[.int .i64 n, .slice (some ⟨g, 0, none⟩) len (len + 1)] 58)) := (Below.refl _ _).alloc (Nat.le_refl _) _
  have HSZ : Hid (w.heap.size + 2 < w1.heap.size ∧ w1.heap.size ≤ w2.heap.size) := ⟨heap_lt HB.out.2.2.2, hb2.size⟩
  have HG : Hid (Grow w1.heap.size w2.heap.size (.int .i64 n) (.slice (some ⟨g, 0, none⟩) len (len + 1)) ps (w2.alloc (.cells #[.int .i64 n, .slice (some ⟨g, 0, none⟩) len (len + 1)] 58))) := ⟨heap_alloc_new w2 _, own_below hown hal⟩
  have HB3 := hidk ((HB.out.keep hb2).keep hal)
  have HGD : Hid (w1.heap.size ≤ w2.heap.size) := HSZ.out.2
  clear hown hb2 GR hc0 hc1 HB hal
  go_wp2_with (first
    | (refine wpList_load_row rfl 30 (.tmp 3) rfl (w.heap.size + 1) rfl 30 D (0, 0) _ HB3.out.2.2.1 Tryd.underlying30 rfl HSD.out ?_; try simp only [Act.put, List.setIfInBounds_toArray, List.set_cons_zero, List.set_cons_succ])
    | fail)
  generalize w2.alloc (.cells #[.int .i64 n, .slice (some ⟨g, 0, none⟩) len (len + 1)] 58) = w3 at HG HB3 ⊢
  generalize hgd : w2.heap.size = gd at HG HGD ⊢
  clear hgd
  refine (TK.out w1.heap.size gd _ w3 (by have := HSZ.out; omega) HGD.out HG.out HB3.out.1).mono ?_
  rintro e w4 ⟨rfl, ⟨y, cy, hg4⟩, hb4⟩
  obtain ⟨R, HR, HSF, _, H1, H2⟩ := front_row ((n : Int) + 1) y (addP n ps d).length cy
  have HE : Hid (Value.agg #[.int .i64 ((n : Int) + 1), .slice y (addP n ps d).length cy] = .agg R) := by show _ = _; rw [HR.out]
  have HV : Hid (w4.heap[gd]? = some (.cells R 58 (0, 0))) := by show _ = _; rw [← HR.out]; exact hg4.var
  have HZ : Hid (w4.heap[w.heap.size + 2]? = some (.cells #[.int .i64 0, .slice none 0 0] 28 (0, 0))) := (hb4.block _ HSZ.out.1).trans HB3.out.2.2.2
  have hb5 : Below w.heap.size w w4 := HB3.out.1.trans (hb4.mono (by have := HSZ.out; omega))
  have ho5 : (w4.setRow (w.heap.size + 2) R).ownsRow w.heap.size 30 32 (.slice y (addP n ps d).length cy) (addP n ps d).length (cellsOf (addP n ps d).flatten) := own_setRow (own_low hg4.own (by have := HSZ.out; omega)) HZ.out (by decide)
  have HF : Hid (LReads (w4.setRow (w.heap.size + 2) R) y (addP n ps d).length cy (addP n ps d) ∧ RoomO w.heap.size y (addP n ps d).length (w4.setRow (w.heap.size + 2) R) ∧ Below w.heap.size w (w4.setRow (w.heap.size + 2) R)) := by
    refine ⟨?_, RoomO.own ho5, below_setRow hb5 (by omega) _⟩
    obtain ⟨y', cy', e, hy, _⟩ := LReads.own ho5 HDS.out
    cases e
    exact hy
  clear hg4 hb4 hb5 ho5 HB3 HG TK HR
  go_wp2_with (first
    | (refine wpList_load_row rfl 28 (.tmp 22) rfl gd rfl 58 R (0, 0) _ HV.out Tryd.underlying28 rfl HSF.out ?_; try simp only [Act.put, List.setIfInBounds_toArray, List.set_cons_zero, List.set_cons_succ])
    | (refine wpList_store_row rfl 28 (.tmp 4) (.tmp 23) rfl (w.heap.size + 2) R rfl rfl 28 #[.int .i64 0, .slice none 0 0] HZ.out HSF.out H2.out H1.out ?_; try simp only [Act.put, List.setIfInBounds_toArray, List.set_cons_zero, List.set_cons_succ])
    | fail)
  refine bodyPost_ret (v := .tuple #[.agg R, .int .i64 0]) ?_ rfl ⟨y, cy, by rw [HE.out], HF.out⟩
  exact results_row_tmp (p := 4) (q := 5) (ty := 28) rfl _ _ (w.heap.size + 2) 28 R (0, 0) _ rfl (setRow_heap _ _ _ _ 28 _ HZ.out) Tryd.underlying28 rfl HSF.out
end Go.Proofs.YtdnhnjimhbbababDoor

/- What front.Of answers; what all calls of package front answer. -/
namespace Go.Proofs.YtdnhnjimhbbababDoor
open Go.RowKit Sums
set_option maxRecDepth 100000
set_option linter.unusedVariables false
set_option linter.unusedSimpArgs false
/-- What the landed package front answers. -/
theorem frontC : FrontC where
  check_ok n a len cap w h := check_ok n a len cap w h
  check_no n a len cap w hl _ h := check_no n a len cap w hl h
  frontRoot_ok n a len cap ps w h hR hK D HD := froot_ok n a len cap ps w h hR hK D HD
  frontRoot_no n a len cap w hl _ h Z HZ := froot_no n a len cap w hl h Z HZ
  add_ok n a len cap ps d w h hn hR hd hK D HD := fadd_ok n a len cap ps d w h hn hR hd hK D HD
  add_no n a len cap w hl _ h D d _ _ := fadd_no n a len cap w hl h D
  add_full a len cap w h D d _ _ := fadd_full a len cap w h D
end Go.Proofs.YtdnhnjimhbbababDoor
