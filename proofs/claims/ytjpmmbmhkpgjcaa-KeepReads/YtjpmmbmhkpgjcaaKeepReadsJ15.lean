/- Texts of our own that the row of KeepReads leans on, part 15. -/
import Derived.Test.YtjpmmbmhkpgjcaaKeepReadsJ4
import Derived.Test.YtjpmmbmhkpgjcaaKeepReadsJ8
import Derived.Test.YtjpmmbmhkpgjcaaKeepReadsJ13
import Derived.Test.YtjpmmbmhkpgjcaaKeepReadsJ14
import Derived.BigQuiet
import Derived.Stop.BytesEq
import Derived.Deep.MidRow
import Derived.OneCell
import Derived.Laws.BitsAllLaws
import Derived.OwnWalk

/- What sha.Of answers: the sum of the parts' bytes, one part behind the other. -/
namespace Go.Proofs.Ytjpmmbmhkpgjcaa
open Go.RowKit Sums
set_option maxRecDepth 100000
set_option linter.unusedVariables false
set_option linter.unusedSimpArgs false
theorem zero27 : (Try.prog.info? 30).map (fun i => (i.zero, i.size)) = some (some (.agg (cellsOf (List.replicate 32 0)).toArray), 32) := by kernel_rfl
theorem noughts27 : ∃ Z : Array Value, Hid (Z = (cellsOf (List.replicate 32 0)).toArray) ∧ Hid ((Try.prog.info? 30).map (fun i => (i.zero, i.size)) = some (some (.agg Z), Z.size)) ∧
    Hid ((Try.prog.info? 30).map (·.size) = some Z.size) ∧ Hid (Z.all (·.oneCell') = true) ∧ Hid (Z.size = 32) :=
  ⟨(cellsOf (List.replicate 32 0)).toArray, (rfl : _ = _), zero27, size23, cellsOf_all _, (rfl : _ = _)⟩
theorem dig_row' (l : List UInt8) (hl : l.length = 32) : ∃ D : Array Value, Hid (D = (cellsOf l).toArray) ∧ Hid ((Try.prog.info? 30).map (·.size) = some D.size) ∧ Hid (D.all (·.oneCell') = true) ∧ Hid (D.size = 32) := by
  refine ⟨(cellsOf l).toArray, (rfl : _ = _), ?_, cellsOf_all l, ?_⟩
  · show _ = _
    rw [size23]; simp [cellsOf_length, hl]
  · show _ = _
    simp [cellsOf_length, hl]
theorem step_store_row {P : Program} {ops : Array Oper} {o : Oper} {a : Act} {w : World} {K : Act → World → Prop} {Q : Exit → Act → World → Prop} {E : Prop} (hw : Region.wanted o (yielded ops a.tmps) = true) (ty : TypeId) (x y : Operand) (ho : o.op = .store ty x y)
    (g : Nat) (cells : Array Value) (hx : a.eval x = .pointer (some ⟨g, 0, none⟩)) (hy : a.eval y = .agg cells)
    (t : TypeId) (old : Array Value) (hg : w.heap[g]? = some (.cells old t (0, 0))) (hi : (P.info? ty).map (·.size) = some cells.size)
    (hold : old.size = cells.size) (h1 : cells.all (·.oneCell') = true)
    (h : K (a.put o.dst undef) (w.setRow g cells)) : if Region.wanted o (yielded ops a.tmps) = true then Oper.wp P o a w K Q else E := by
  rw [if_pos hw]
  exact wp_store_row ty x y ho g cells hx hy t old hg hi hold h1 h
/-- The first i words' bytes, and noughts behind them. -/
def part (l : List Int) (i : Nat) : List UInt8 := (l.take i).flatMap bytes4 ++ List.replicate (32 - 4 * i) 0
end Go.Proofs.Ytjpmmbmhkpgjcaa

/- What sha.Empty, sha.Leaf and sha.Knot answer. -/
namespace Go.Proofs.Ytjpmmbmhkpgjcaa
open Go.RowKit Sums
set_option maxRecDepth 100000
set_option linter.unusedVariables false
set_option linter.unusedSimpArgs false
theorem range_keep {W W' : World} {g o : Nat} {l : List Value} (hb : Below W.heap.size W W') (h : W.rangeAt g o l) : W'.rangeAt g o l := fun j v hj => by
  have hc := h j v hj
  rw [hb.cell (World.block_lt_of_cell? _ _ hc)]
  exact hc
theorem range_row {W : World} {g : Nat} {l : List Value} {t : TypeId} {fr : Nat × Nat} (h : W.heap[g]? = some (.cells l.toArray t fr)) : W.rangeAt g 0 l := fun j v hj => by
  rw [Nat.zero_add, cell_of_row W g j _ t fr h]
  simpa using hj
end Go.Proofs.Ytjpmmbmhkpgjcaa

/- Digests held against one another; sums of texts that lie somewhere. -/
namespace Go.Proofs.Ytjpmmbmhkpgjcaa
open Go.RowKit Sums
set_option maxRecDepth 100000
set_option linter.unusedVariables false
theorem hidk {p : Prop} (h : p) : Hid p := h
theorem sizeOf5 (w : World) : (sizeOf 5).run Try.prog w = .ok 1 w := by
  cases hq : Try.prog.info? 5 with
  | none => have := size5; simp [hq] at this
  | some i => have := size5; simp [hq] at this; simp [sizeOf, typeInfo, hq, this]
end Go.Proofs.Ytjpmmbmhkpgjcaa

/- Laws of memory: variables that are arrays, made, read and written; digests and keys held against one another. -/
namespace Go.Proofs.Ytjpmmbmhkpgjcaa
open Go.RowKit Sums
set_option maxRecDepth 100000
set_option linter.unusedVariables false
set_option linter.unusedSimpArgs false
/-- An array read by its row, where the order is drawn. -/
theorem yieldsIf_row {P : Program} {ops : Array Oper} {S : World → Prop} {o : Oper} {a : Act} (hw : Region.wanted o (yielded ops a.tmps) = true) (ty : TypeId) (x : Operand) (ho : o.op = .load ty x) (g : Nat) (hx : a.eval x = .pointer (some ⟨g, 0, none⟩)) (t : TypeId) (cs : Array Value) (fr : Nat × Nat) (d : TypeDesc) (hg : ∀ w, S w → w.heap[g]? = some (.cells cs t fr))
    (hu : P.underlying ty = some d) (hd : d.isRow = true) (hi : (P.info? ty).map (·.size) = some cs.size) : YieldsIf P ops S o (.agg cs) a := by
  have := yieldsIf_load_mid (P := P) (ops := ops) (S := S) hw ty x ho g 0 hx cs.toList d (fun w h => range_row (t := t) (fr := fr) (by simpa using hg w h)) hu hd (by simpa using hi)
  simpa using this
/-- What a write of a whole row leaves. -/
structure Wrote (g : Nat) (D : Array Value) (t : TypeId) (w w' : World) : Prop where
  row : w'.heap[g]? = some (.cells D t (0, 0))
  other : ∀ k, k ≠ g → w'.heap[k]? = w.heap[k]?
  below : ∀ (B : Nat) (a : World), Below B a w → B ≤ g → Below B a w'
theorem wrote_row {w : World} {g : Nat} {Z D : Array Value} {t : TypeId} (h : w.heap[g]? = some (.cells Z t (0, 0))) : Wrote g D t w (w.setRow g D) :=
  ⟨setRow_heap _ _ _ _ t _ h, fun k hk => setRow_other _ _ _ _ hk, fun B a hb hg => below_setRow hb hg _⟩
/-- What a new variable leaves. -/
structure Made (g : Nat) (Z : Array Value) (t : TypeId) (w w' : World) : Prop where
  new : g = w.heap.size
  row : w'.heap[g]? = some (.cells Z t (0, 0))
  below : Below w.heap.size w w'
theorem step_set_var {P : Program} {ops : Array Oper} {o : Oper} {a : Act} {w : World} {K : Act → World → Prop} {Q : Exit → Act → World → Prop} {E : Prop} (hw : Region.wanted o (yielded ops a.tmps) = true) (t : TypeId) (x y : Operand) (ho : o.op = .store t x y)
    (g : Nat) (D : Array Value) (hx : a.eval x = .pointer (some ⟨g, 0, none⟩)) (hy : a.eval y = .agg D) (t' : TypeId) (Z : Array Value) (hg : w.heap[g]? = some (.cells Z t' (0, 0))) (hi : (P.info? t).map (·.size) = some D.size) (hold : Z.size = D.size) (h1 : D.all (·.oneCell') = true)
    (h : ∀ w', Hid (Wrote g D t' w w') → K (a.put o.dst undef) w') : if Region.wanted o (yielded ops a.tmps) = true then Oper.wp P o a w K Q else E :=
  step_store_row hw t x y ho g D hx hy t' Z hg hi hold h1 (h _ (wrote_row hg))
theorem alloc_size (w : World) (o : Obj) : (w.alloc o).heap.size = w.heap.size + 1 := by simp
theorem text_ne {s t : ByteArray} (h : s ≠ t) : (s.toList == t.toList) = false := by
  rw [beq_eq_false_iff_ne]
  intro e
  rw [ByteArray.toList_eq, ByteArray.toList_eq] at e
  apply h
  apply ByteArray.ext
  exact Array.toList_inj.1 e
/-- A variable that is an array, made; the world behind it is a letter. -/
theorem wpList_new_var {P : Program} {ops : Array Oper} {rest : List Oper} {o : Oper} {a : Act} {w : World} {Q : Exit → Act → World → Prop} (hg : o.guard = none) (t : TypeId) (ho : o.op = .alloc t)
    (cs : Array Value) (hz : (P.info? t).map (fun i => (i.zero, i.size)) = some (some (.agg cs), cs.size)) (h : ∀ g w', Hid (Made g cs t w w') → wpList P ops Q rest (a.put o.dst (.pointer (some ⟨g, 0, none⟩))) w') : wpList P ops Q (o :: rest) a w :=
  wpList_alloc_row hg t ho cs hz (h w.heap.size _ ⟨rfl, heap_alloc_new w _, (Below.refl _ _).alloc (Nat.le_refl _) _⟩)
theorem wpList_set_var {P : Program} {ops : Array Oper} {rest : List Oper} {o : Oper} {a : Act} {w : World} {Q : Exit → Act → World → Prop} (hgd : o.guard = none) (t : TypeId) (x y : Operand) (ho : o.op = .store t x y)
    (g : Nat) (D : Array Value) (hx : a.eval x = .pointer (some ⟨g, 0, none⟩)) (hy : a.eval y = .agg D) (t' : TypeId) (Z : Array Value) (hg : w.heap[g]? = some (.cells Z t' (0, 0))) (hi : (P.info? t).map (·.size) = some D.size) (hold : Z.size = D.size) (h1 : D.all (·.oneCell') = true)
    (h : ∀ w', Hid (Wrote g D t' w w') → wpList P ops Q rest (a.put o.dst undef) w') : wpList P ops Q (o :: rest) a w :=
  wpList_store_row hgd t x y ho g D hx hy t' Z hg hi hold h1 (h _ (wrote_row hg))
/-- An array read out of the midst of a row. -/
theorem yieldsIf_mid {P : Program} {ops : Array Oper} {S : World → Prop} {op : Oper} {a : Act} (hw : Region.wanted op (yielded ops a.tmps) = true) (ty : TypeId) (x : Operand) (ho : op.op = .load ty x)
    (b o : Nat) (hx : a.eval x = .pointer (some ⟨b, o, none⟩)) (D : Array Value) (d : TypeDesc) (hS : ∀ w, S w → w.rangeAt b o D.toList)
    (hu : P.underlying ty = some d) (hd : d.isRow = true) (hi : (P.info? ty).map (·.size) = some D.size) : YieldsIf P ops S op (.agg D) a := by
  have := yieldsIf_load_mid (P := P) (ops := ops) (S := S) hw ty x ho b o hx D.toList d hS hu hd (by simpa using hi)
  simpa using this
theorem wpList_mid {P : Program} {ops : Array Oper} {rest : List Oper} {op : Oper} {a : Act} {w : World} {Q : Exit → Act → World → Prop} (hgd : op.guard = none) (ty : TypeId) (x : Operand) (ho : op.op = .load ty x)
    (b o : Nat) (hx : a.eval x = .pointer (some ⟨b, o, none⟩)) (D : Array Value) (d : TypeDesc) (hc : w.rangeAt b o D.toList)
    (hu : P.underlying ty = some d) (hd : d.isRow = true) (hi : (P.info? ty).map (·.size) = some D.size)
    (h : wpList P ops Q rest (a.put op.dst (.agg D)) w) : wpList P ops Q (op :: rest) a w :=
  wpList_load_mid hgd ty x ho b o hx D.toList d hc hu hd (by simpa using hi) (by simpa using h)
theorem slice_at (w : World) (g o : Nat) : (Instr.sliceAt 30 (.pointer (some ⟨g, o, none⟩)) none none none).run Try.prog w = .ok (.slice (some ⟨g, o, none⟩) 32 32) w := by
  simp [Instr.sliceAt, Instr.slice, Instr.sliceBounds, run_underlying Try.underlying30, Instr.sureAddr]
  rw [add_plain]
  simp
theorem conv_at (W : World) (g o : Nat) (l : List UInt8) (hl : l.length = 32) (h : W.rangeAt g o (cellsOf l)) : Sem.run Try.prog (convert 61 9 (.slice (some ⟨g, o, none⟩) 32 32)) W = .ok (.string ⟨l.toArray⟩) W := by
  have := run_convert_bytes_back (P := Try.prog) W 61 9 5 ⟨g, o, none⟩ 32 l Try.underlying61 Try.underlying5 Try.underlying9 (fun j hj => by
    rw [add_plain]
    exact h j _ (cellsOf_at l j hj))
  rw [hl] at this
  exact this
theorem xor8 (x y : UInt8) : bits .xor .u8 (x.toNat : Int) (y.toNat : Int) = ((x ^^^ y).toNat : Int) := by
  rw [u8_xor_nat _ _ x.toNat_lt y.toNat_lt, UInt8.toNat_xor]
end Go.Proofs.Ytjpmmbmhkpgjcaa

/- Rows of bytes: made, and written byte by byte; the new world is a letter. -/
namespace Go.Proofs.Ytjpmmbmhkpgjcaa
open Go.RowKit Sums
set_option maxRecDepth 100000
set_option linter.unusedVariables false
set_option linter.unusedSimpArgs false
theorem wrote_cell {w : World} {g i : Nat} {cs : Array Value} {t : TypeId} (v : Value) (h : w.heap[g]? = some (.cells cs t (0, 0))) : Wrote g (cs.setIfInBounds i v) t w (w.setCell ⟨g, i, none⟩ v) :=
  ⟨Go.heap_setCell_same w g i cs t v h, fun k hk => Below.heap_setCell _ _ _ _ hk, fun B a hb hg => hb.setCell hg _⟩
end Go.Proofs.Ytjpmmbmhkpgjcaa

/- What the document's Sum answers: the sum of a text. -/
namespace Go.Proofs.Ytjpmmbmhkpgjcaa
open Go.RowKit Sums
set_option maxRecDepth 100000
set_option linter.unusedVariables false
set_option linter.unusedSimpArgs false

end Go.Proofs.Ytjpmmbmhkpgjcaa

/- What the document's Text, Leaf and Knot answer. -/
namespace Go.Proofs.Ytjpmmbmhkpgjcaa
open Go.RowKit Sums
set_option maxRecDepth 100000
set_option linter.unusedVariables false
set_option linter.unusedSimpArgs false

end Go.Proofs.Ytjpmmbmhkpgjcaa

/- What the document's Mac, Key and Holds answer. -/
namespace Go.Proofs.Ytjpmmbmhkpgjcaa
open Go.RowKit Sums
set_option linter.unusedVariables false
set_option linter.unusedSimpArgs false
set_option maxRecDepth 100000

end Go.Proofs.Ytjpmmbmhkpgjcaa

/- What the calls of package tag answer, as the document says (their proofs are of one commit of the code); the statements' own example over them. -/
namespace Go.Proofs.Ytjpmmbmhkpgjcaa
open Go.RowKit Sums
set_option maxRecDepth 100000
set_option linter.unusedVariables false
set_option linter.unusedSimpArgs false

end Go.Proofs.Ytjpmmbmhkpgjcaa

/- What tag's inner block answers: a key's bytes and 32 noughts, each turned. -/
namespace Go.Proofs.Ytjpmmbmhkpgjcaa
open Go.RowKit Sums
set_option maxRecDepth 100000
set_option linter.unusedVariables false
set_option linter.unusedSimpArgs false
theorem conv_any {W : World} {g : Nat} {l : List UInt8} {n : Nat} {t : TypeId} (h : W.heap[g]? = some (.cells (cellsOf l).toArray t (0, 0))) (hn : l.length = n) : (convert 61 9 (.slice (some ⟨g, 0, none⟩) n n)).run Try.prog W = .ok (.string ⟨l.toArray⟩) W := by
  have := run_convert_bytes_back (P := Try.prog) W 61 9 5 ⟨g, 0, none⟩ n l Try.underlying61 Try.underlying5 Try.underlying9 (fun j hj => by
    rw [add_plain, Nat.zero_add, cell_of_row W g j _ t (0, 0) h]
    simp [cellsOf_at l j hj])
  rw [hn] at this
  exact this
end Go.Proofs.Ytjpmmbmhkpgjcaa

/- What tag.Mac answers. -/
namespace Go.Proofs.Ytjpmmbmhkpgjcaa
open Go.RowKit Sums
set_option maxRecDepth 100000
set_option linter.unusedVariables false
set_option linter.unusedSimpArgs false

end Go.Proofs.Ytjpmmbmhkpgjcaa

/- What tag.Key answers. -/
namespace Go.Proofs.Ytjpmmbmhkpgjcaa
open Go.RowKit Sums
set_option maxRecDepth 100000
set_option linter.unusedVariables false
set_option linter.unusedSimpArgs false

end Go.Proofs.Ytjpmmbmhkpgjcaa

/- What tag.Same answers. -/
namespace Go.Proofs.Ytjpmmbmhkpgjcaa
open Go.RowKit Sums
set_option maxRecDepth 100000
set_option linter.unusedVariables false
set_option linter.unusedSimpArgs false

end Go.Proofs.Ytjpmmbmhkpgjcaa

/- What tag.Holds answers; what the calls of package tag answer, all together. -/
namespace Go.Proofs.Ytjpmmbmhkpgjcaa
open Go.RowKit Sums
set_option maxRecDepth 100000
set_option linter.unusedVariables false
set_option linter.unusedSimpArgs false

end Go.Proofs.Ytjpmmbmhkpgjcaa
