/- Rows of bytes: made, and written byte by byte; the new world is a letter. -/
import Derived.Test.YtkmndchbmbhlhaaDoorLaws6
import Derived.OwnWalk
namespace Go.Proofs.YtkmndchbmbhlhaaDoor
open Go.RowKit Sums
set_option linter.unusedVariables false
set_option linter.unusedSimpArgs false

theorem wpList_make_row {ops : Array Oper} {rest : List Oper} {o : Oper} {a : Act} {w : World} {Q : Exit → Act → World → Prop} (hg : o.guard = none) (l c : Operand) (hop : o.op = Op.makeSlice 38 l c) (n : Nat) (hl : a.eval l = .int .i64 (n : Int)) (hc : a.eval c = .int .i64 (n : Int)) (hn : n ≤ 1000000)
    (h : ∀ g w', Hid (Made g (cellsOf (List.replicate n 0)).toArray 5 w w') → wpList Tryd.prog ops Q rest (a.put o.dst (.slice (some ⟨g, 0, none⟩) n n)) w') : wpList Tryd.prog ops Q (o :: rest) a w := by
  obtain ⟨i0, hi, hz0, hz1, hz2⟩ := info_parts info5'
  refine wpList_make_full w hg l c 38 hop w.heap.size 5 i0 (.int .u8 0) 1 Tryd.underlying38 hi hz0 hz1 .i64 .i64 _ _ n hl hc rfl rfl (by rw [hz2]; omega) (by unfold maxLen; omega) (Nat.le_refl _) ?_
  intro w' hown hgr
  refine h w.heap.size w' ⟨rfl, ?_, (Below.refl _ _).grown hgr (Nat.le_refl _) (by intro k hk; cases hk)⟩
  have e : (madeCells (Value.int .u8 0).cells (n * 1)).toList = cellsOf (List.replicate n 0) := by rw [Nat.mul_one]; exact cells_made n
  rw [e] at hown
  exact own_row hown
theorem wrote_cell {w : World} {g i : Nat} {cs : Array Value} {t : TypeId} (v : Value) (h : w.heap[g]? = some (.cells cs t (0, 0))) : Wrote g (cs.setIfInBounds i v) t w (w.setCell ⟨g, i, none⟩ v) :=
  ⟨Go.heap_setCell_same w g i cs t v h, fun k hk => Below.heap_setCell _ _ _ _ hk, fun B a hb hg => hb.setCell hg _⟩
theorem wpList_put8 {P : Program} {ops : Array Oper} {rest : List Oper} {o : Oper} {a : Act} {w : World} {Q : Exit → Act → World → Prop} (hgd : o.guard = none) (t : TypeId) (x y : Operand) (ho : o.op = .store t x y) (hs : ∀ w, (sizeOf t).run P w = .ok 1 w)
    (g i : Nat) (n : Int) (hx : a.eval x = .pointer (some ⟨g, i, none⟩)) (hy : a.eval y = .int .u8 n) (cs : Array Value) (t' : TypeId) (hg : w.heap[g]? = some (.cells cs t' (0, 0))) (hi : i < cs.size)
    (h : ∀ w', Hid (Wrote g (cs.setIfInBounds i (.int .u8 n)) t' w w') → wpList P ops Q rest (a.put o.dst undef) w') : wpList P ops Q (o :: rest) a w := by
  refine wpList_plain hgd fun K hK => ?_
  have hc : w.cell? ⟨g, i, none⟩ = some cs[i] := by rw [cell_of_row w g i cs t' (0, 0) hg, Array.getElem?_eq_getElem hi]
  have hf : w.frozen? ⟨g, i, none⟩ = false := frozen_of_row w g i cs t' hg
  have hrun : (Instr.storeAt t (.pointer (some ⟨g, i, none⟩)) (.int .u8 n)).run P w = .ok () (w.setCell ⟨g, i, none⟩ (.int .u8 n)) := by
    simp [go_sem, hc, hf, hs]
  unfold Oper.wp execOp
  simp only [ho, hx, hy, hrun, Sem.run_bind, Result.andThen_ok]
  exact hK _ _ (h _ (wrote_cell _ hg))
theorem conv_row {W : World} {g : Nat} {l : List UInt8} {n : Nat} (h : W.heap[g]? = some (.cells (cellsOf l).toArray 5 (0, 0))) (hn : l.length = n) : (convert 38 9 (.slice (some ⟨g, 0, none⟩) n n)).run Tryd.prog W = .ok (.string ⟨l.toArray⟩) W := by
  have := run_convert_bytes_back (P := Tryd.prog) W 38 9 5 ⟨g, 0, none⟩ n l Tryd.underlying38 Tryd.underlying5 Tryd.underlying9 (fun j hj => by
    rw [add_plain, Nat.zero_add, cell_of_row W g j _ 5 (0, 0) h]
    simp [cellsOf_at l j hj])
  rw [hn] at this
  exact this
/-- The next byte of a row that is filled. -/
theorem filled_put (B : List UInt8) (k : Nat) (hB : B.length = 64) (hk : k < 64) (x : UInt8) (hx : B[k]? = some x) : (filled (B.take k) 64).set k x = filled (B.take (k + 1)) 64 := by
  unfold filled
  have h1 : (B.take k).length = k := by rw [List.length_take]; omega
  have h2 : (B.take (k + 1)).length = k + 1 := by rw [List.length_take]; omega
  rw [h1, h2, List.set_append_right _ _ (by omega), h1, Nat.sub_self, List.take_add_one, hx, show 64 - k = (64 - (k + 1)) + 1 by omega, List.replicate_succ, List.set_cons_zero]
  simp
theorem cells_put (l : List UInt8) (k : Nat) (x : UInt8) : ((cellsOf l).toArray.setIfInBounds k (.int .u8 (x.toNat : Int))) = (cellsOf (l.set k x)).toArray := by
  unfold cellsOf
  rw [List.setIfInBounds_toArray, List.map_set]
end Go.Proofs.YtkmndchbmbhlhaaDoor
