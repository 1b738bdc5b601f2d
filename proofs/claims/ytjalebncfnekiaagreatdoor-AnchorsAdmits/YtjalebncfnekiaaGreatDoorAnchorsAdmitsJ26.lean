/- Texts of our own that the row of AnchorsAdmits leans on, part 26. -/
import Derived.Test.YtjalebncfnekiaaGreatDoorAnchorsAdmitsJ0
import Derived.Test.YtjalebncfnekiaaGreatDoorAnchorsAdmitsJ3
import Derived.Test.YtjalebncfnekiaaGreatDoorAnchorsAdmitsJ15
import Derived.Test.YtjalebncfnekiaaGreatDoorAnchorsAdmitsJ24
import Derived.Great.BuildSlice
import Derived.OneCell
import Derived.Defers
import Derived.Recover
/- Literals of lists of digests. -/
namespace Go.Proofs.YtjalebncfnekiaaGreatDoor
open Go.RowKit Sums
set_option maxRecDepth 100000
set_option linter.unusedVariables false
set_option linter.unusedSimpArgs false
theorem fold_setD (D : List Value) : ∀ (k off : Nat) (cs : Array Value) (pre old rest : List Value), cs.toList = pre ++ old ++ rest → pre.length = off + k → old.length = D.length →
    ((D.zipIdx k).foldl (fun cs (c, j) => cs.setIfInBounds (off + j) c) cs).toList = pre ++ D ++ rest := by
  induction D with
  | nil =>
    intro k off cs pre old rest h hp ho
    have : old = [] := List.eq_nil_of_length_eq_zero ho
    subst this
    simpa using h
  | cons d D ih =>
    intro k off cs pre old rest h hp ho
    match old, ho with
    | x :: old, ho =>
      rw [List.zipIdx_cons, List.foldl_cons]
      have := ih (k + 1) off (cs.setIfInBounds (off + k) d) (pre ++ [d]) old rest (by
        rw [Array.toList_setIfInBounds, h, ← hp]
        simp) (by simp; omega) (by simpa using ho)
      rw [this]
      simp
theorem wp_build_run {P : Program} {o : Oper} {a : Act} {w : World} {K : Act → World → Prop} {Q : Exit → Act → World → Prop} (t : TypeId) (n : Nat) (parts : Array (Nat × Operand)) (ho : o.op = .buildSlice t n parts) (vals : Array (Nat × Value)) (hv : (parts.toList.map fun p => (p.1, a.eval p.2)) = vals.toList)
    (s : Value) (w' : World) (hrun : (Instr.buildSlice t n vals).run P w = .ok s w') (h : K (a.put o.dst s) w') : o.wp P a w K Q := by
  have hv' : (parts.map fun (i, x) => (i, a.eval x)) = vals := by
    apply Array.ext'
    rw [Array.toList_map, ← hv]
  subst hv'
  unfold Oper.wp execOp
  simp only [ho, Sem.run_bind, hrun, Result.andThen_ok]
  exact h
theorem step_build_run {P : Program} {ops : Array Oper} {o : Oper} {a : Act} {w : World} {K : Act → World → Prop} {Q : Exit → Act → World → Prop} {E : Prop} (hw : Region.wanted o (yielded ops a.tmps) = true) (t : TypeId) (n : Nat) (parts : Array (Nat × Operand)) (ho : o.op = .buildSlice t n parts) (vals : Array (Nat × Value)) (hv : (parts.toList.map fun p => (p.1, a.eval p.2)) = vals.toList)
    (s : Value) (w' : World) (hrun : (Instr.buildSlice t n vals).run P w = .ok s w') (h : K (a.put o.dst s) w') : if Region.wanted o (yielded ops a.tmps) = true then Oper.wp P o a w K Q else E := by
  rw [if_pos hw]
  exact wp_build_run t n parts ho vals hv s w' hrun h
theorem wpList_build_run {P : Program} {ops : Array Oper} {rest : List Oper} {o : Oper} {a : Act} {w : World} {Q : Exit → Act → World → Prop} (hg : o.guard = none) (t : TypeId) (n : Nat) (parts : Array (Nat × Operand)) (ho : o.op = .buildSlice t n parts) (vals : Array (Nat × Value)) (hv : (parts.toList.map fun p => (p.1, a.eval p.2)) = vals.toList)
    (s : Value) (w' : World) (hrun : (Instr.buildSlice t n vals).run P w = .ok s w') (h : wpList P ops Q rest (a.put o.dst s) w') : wpList P ops Q (o :: rest) a w :=
  wpList_plain hg fun _ hK => wp_build_run t n parts ho vals hv s w' hrun (hK _ _ h)
theorem wpList_new_row {P : Program} {ops : Array Oper} {rest : List Oper} {o1 o2 : Oper} {a : Act} {w : World} {Q : Exit → Act → World → Prop} (hg1 : o1.guard = none) (hg2 : o2.guard = none) (t : TypeId) (ho1 : o1.op = .alloc t) (x y : Operand) (ho2 : o2.op = .store t x y)
    (Z D : Array Value) (hz : (P.info? t).map (fun i => (i.zero, i.size)) = some (some (.agg Z), Z.size)) (hx : ∀ v, (a.put o1.dst v).eval x = v) (hy : ∀ v, (a.put o1.dst v).eval y = .agg D)
    (hi : (P.info? t).map (·.size) = some D.size) (hold : Z.size = D.size) (h1 : D.all (·.oneCell') = true)
    (h : ∀ g w', Hid (g = w.heap.size ∧ w'.heap[g]? = some (.cells D t (0, 0)) ∧ Below w.heap.size w w') → wpList P ops Q rest ((a.put o1.dst (.pointer (some ⟨g, 0, none⟩))).put o2.dst undef) w') : wpList P ops Q (o1 :: o2 :: rest) a w := by
  refine wpList_alloc_row hg1 t ho1 Z hz ?_
  refine wpList_store_row hg2 t x y ho2 w.heap.size D (hx _) (hy _) t Z (heap_alloc_new w _) hi hold h1 ?_
  exact h w.heap.size _ ⟨rfl, new_var w Z D t, below_var (Below.refl _ _) (Nat.le_refl _) _ _⟩
theorem LReads.new (W : World) (ds : List (List UInt8)) (n : Nat) (hn : ds.length = n) (hd : Digs32 ds) (h1 : n ≤ 100) (L : Array Value) (HL : Hid (L = (cellsOf ds.flatten).toArray)) : LReads (W.alloc (.cells L 25)) (some ⟨W.heap.size, 0, none⟩) n n ds := by
  refine ⟨hn, hd, Nat.le_refl _, by unfold maxLen; omega, .inr ⟨_, _, rfl, fun i hi => ?_⟩⟩
  rw [Nat.zero_add, cell_of_row _ _ i _ 25 (0, 0) (heap_alloc_new W _), HL.out]
  simp [cellsOf_at _ i hi]
end Go.Proofs.YtjalebncfnekiaaGreatDoor
/- Laws of memory: variables that are arrays, made, read and written where the order is drawn; digests and texts held against one another. -/
namespace Go.Proofs.YtjalebncfnekiaaGreatDoor.P5
open Go.RowKit Sums
set_option maxRecDepth 100000
set_option linter.unusedVariables false
set_option linter.unusedSimpArgs false
theorem step_alloc_row {P : Program} {ops : Array Oper} {o : Oper} {a : Act} {w : World} {K : Act → World → Prop} {Q : Exit → Act → World → Prop} {E : Prop} (hw : Region.wanted o (yielded ops a.tmps) = true) (t : TypeId) (ho : o.op = .alloc t)
    (cs : Array Value) (hz : (P.info? t).map (fun i => (i.zero, i.size)) = some (some (.agg cs), cs.size)) (h : K (a.put o.dst (.pointer (some ⟨w.heap.size, 0, none⟩))) (w.alloc (.cells cs t))) : if Region.wanted o (yielded ops a.tmps) = true then Oper.wp P o a w K Q else E := by
  rw [if_pos hw]
  unfold Oper.wp execOp
  cases hq : P.info? t with
  | none => simp [hq] at hz
  | some i =>
    simp [hq] at hz
    simp [ho, Instr.alloc, newVar, zeroValue, typeInfo, hq, hz.1, go_sem]
    exact h
def Came (w W : World) (X Z : Array Value) : Prop := Below w.heap.size w W ∧ W.heap[w.heap.size]? = some (.cells X 25 (0, 0)) ∧ W.heap[w.heap.size + 1]? = some (.cells Z 25 (0, 0))
theorem came (w : World) (X Z : Array Value) : Came w ((w.alloc (.cells X 25)).alloc (.cells Z 25)) X Z := by
  refine ⟨(((Below.refl _ _).alloc (Nat.le_refl _) _).alloc (by simp) _), heap_keep (heap_alloc_new w _), ?_⟩
  have := heap_alloc_new (w.alloc (.cells X 25)) (.cells Z 25)
  simpa using this
theorem Came.keep {w W W' : World} {X Z : Array Value} (h : Came w W X Z) (hb : Below W.heap.size W W') : Came w W' X Z :=
  ⟨h.1.trans (hb.mono h.1.size), (hb.block _ (heap_lt h.2.1)).trans h.2.1, (hb.block _ (heap_lt h.2.2)).trans h.2.2⟩
theorem yieldsIf_row {P : Program} {ops : Array Oper} {S : World → Prop} {o : Oper} {a : Act} (hw : Region.wanted o (yielded ops a.tmps) = true) (ty : TypeId) (x : Operand) (ho : o.op = .load ty x) (g : Nat) (hx : a.eval x = .pointer (some ⟨g, 0, none⟩)) (t : TypeId) (cs : Array Value) (fr : Nat × Nat) (d : TypeDesc) (hg : ∀ w, S w → w.heap[g]? = some (.cells cs t fr))
    (hu : P.underlying ty = some d) (hd : d.isRow = true) (hi : (P.info? ty).map (·.size) = some cs.size) : YieldsIf P ops S o (.agg cs) a := by
  have := yieldsIf_load_mid (P := P) (ops := ops) (S := S) hw ty x ho g 0 hx cs.toList d (fun w h => range_row (t := t) (fr := fr) (by simpa using hg w h)) hu hd (by simpa using hi)
  simpa using this
structure Wrote (g : Nat) (D : Array Value) (t : TypeId) (w w' : World) : Prop where
  row : w'.heap[g]? = some (.cells D t (0, 0))
  other : ∀ k, k ≠ g → w'.heap[k]? = w.heap[k]?
  below : ∀ (B : Nat) (a : World), Below B a w → B ≤ g → Below B a w'
theorem wrote_row {w : World} {g : Nat} {Z D : Array Value} {t : TypeId} (h : w.heap[g]? = some (.cells Z t (0, 0))) : Wrote g D t w (w.setRow g D) :=
  ⟨setRow_heap _ _ _ _ t _ h, fun k hk => setRow_other _ _ _ _ hk, fun B a hb hg => below_setRow hb hg _⟩
structure Made (g : Nat) (Z : Array Value) (t : TypeId) (w w' : World) : Prop where
  new : g = w.heap.size
  row : w'.heap[g]? = some (.cells Z t (0, 0))
  below : Below w.heap.size w w'
theorem step_new_var {P : Program} {ops : Array Oper} {o : Oper} {a : Act} {w : World} {K : Act → World → Prop} {Q : Exit → Act → World → Prop} {E : Prop} (hw : Region.wanted o (yielded ops a.tmps) = true) (t : TypeId) (ho : o.op = .alloc t)
    (cs : Array Value) (hz : (P.info? t).map (fun i => (i.zero, i.size)) = some (some (.agg cs), cs.size)) (h : ∀ g w', Hid (Made g cs t w w') → K (a.put o.dst (.pointer (some ⟨g, 0, none⟩))) w') : if Region.wanted o (yielded ops a.tmps) = true then Oper.wp P o a w K Q else E :=
  step_alloc_row hw t ho cs hz (h w.heap.size _ ⟨rfl, heap_alloc_new w _, (Below.refl _ _).alloc (Nat.le_refl _) _⟩)
theorem step_set_var {P : Program} {ops : Array Oper} {o : Oper} {a : Act} {w : World} {K : Act → World → Prop} {Q : Exit → Act → World → Prop} {E : Prop} (hw : Region.wanted o (yielded ops a.tmps) = true) (t : TypeId) (x y : Operand) (ho : o.op = .store t x y)
    (g : Nat) (D : Array Value) (hx : a.eval x = .pointer (some ⟨g, 0, none⟩)) (hy : a.eval y = .agg D) (t' : TypeId) (Z : Array Value) (hg : w.heap[g]? = some (.cells Z t' (0, 0))) (hi : (P.info? t).map (·.size) = some D.size) (hold : Z.size = D.size) (h1 : D.all (·.oneCell') = true)
    (h : ∀ w', Hid (Wrote g D t' w w') → K (a.put o.dst undef) w') : if Region.wanted o (yielded ops a.tmps) = true then Oper.wp P o a w K Q else E :=
  step_store_row hw t x y ho g D hx hy t' Z hg hi hold h1 (h _ (wrote_row hg))
theorem results_row_row_tmp {P : Program} {fn : Func} {p1 p2 q : Tmp} {ty : TypeId} (h : fn.results = #[.cell p1 ty, .cell p2 ty, .tmp q]) (tmps : Array Value) (w : World) (g1 g2 : Nat) (t1 t2 : TypeId) (c1 c2 : Array Value) (f1 f2 : Nat × Nat) (d : TypeDesc)
    (hp1 : tmps.getD p1 undef = .pointer (some ⟨g1, 0, none⟩)) (hp2 : tmps.getD p2 undef = .pointer (some ⟨g2, 0, none⟩)) (h1 : w.heap[g1]? = some (.cells c1 t1 f1)) (h2 : w.heap[g2]? = some (.cells c2 t2 f2))
    (hu : P.underlying ty = some d) (hd : (match d with | .struct _ | .array _ _ => true | _ => false) = true) (hi1 : (P.info? ty).map (·.size) = some c1.size) (hi2 : (P.info? ty).map (·.size) = some c2.size) :
    (results fn tmps).run P w = .ok (.tuple #[.agg c1, .agg c2, tmps.getD q undef]) w := by
  have hp1' : tmps[p1]?.getD undef = .pointer (some ⟨g1, 0, none⟩) := by simpa using hp1
  have hp2' : tmps[p2]?.getD undef = .pointer (some ⟨g2, 0, none⟩) := by simpa using hp2
  simp [results, h, hp1', hp2', asAddr, run_loadVar_row w g1 t1 ty c1 f1 d h1 hu hd hi1, run_loadVar_row w g2 t2 ty c2 f2 d h2 hu hd hi2]
theorem wpList_new_two {P : Program} {ops : Array Oper} {rest : List Oper} {o1 o2 o3 o4 : Oper} {a : Act} {w : World} {Q : Exit → Act → World → Prop} (hg1 : o1.guard = none) (hg2 : o2.guard = none) (hg3 : o3.guard = none) (hg4 : o4.guard = none) (t : TypeId) (ho1 : o1.op = .alloc t) (ho2 : o2.op = .alloc t) (x1 y1 : Operand) (ho3 : o3.op = .store t x1 y1) (x2 y2 : Operand) (ho4 : o4.op = .store t x2 y2)
    (Z A B : Array Value) (hz : (P.info? t).map (fun i => (i.zero, i.size)) = some (some (.agg Z), Z.size)) (hx1 : ∀ u v, ((a.put o1.dst u).put o2.dst v).eval x1 = u) (hy1 : ∀ u v, ((a.put o1.dst u).put o2.dst v).eval y1 = .agg A)
    (hx2 : ∀ u v, (((a.put o1.dst u).put o2.dst v).put o3.dst undef).eval x2 = v) (hy2 : ∀ u v, (((a.put o1.dst u).put o2.dst v).put o3.dst undef).eval y2 = .agg B)
    (hiA : (P.info? t).map (·.size) = some A.size) (hA : Z.size = A.size) (h1A : A.all (·.oneCell') = true) (hiB : (P.info? t).map (·.size) = some B.size) (hB : Z.size = B.size) (h1B : B.all (·.oneCell') = true)
    (h : ∀ g1 g2 w', Hid (g1 ≠ g2 ∧ w'.heap[g1]? = some (.cells A t (0, 0)) ∧ w'.heap[g2]? = some (.cells B t (0, 0)) ∧ Below w.heap.size w w') → wpList P ops Q rest ((((a.put o1.dst (.pointer (some ⟨g1, 0, none⟩))).put o2.dst (.pointer (some ⟨g2, 0, none⟩))).put o3.dst undef).put o4.dst undef) w') : wpList P ops Q (o1 :: o2 :: o3 :: o4 :: rest) a w := by
  refine wpList_alloc_row hg1 t ho1 Z hz ?_
  refine wpList_alloc_row hg2 t ho2 Z hz ?_
  have hne : w.heap.size ≠ (w.alloc (.cells Z t)).heap.size := by simp
  have hr1 : ((w.alloc (.cells Z t)).alloc (.cells Z t)).heap[w.heap.size]? = some (.cells Z t (0, 0)) := heap_keep (heap_alloc_new w _)
  have hr2 : ((w.alloc (.cells Z t)).alloc (.cells Z t)).heap[(w.alloc (.cells Z t)).heap.size]? = some (.cells Z t (0, 0)) := heap_alloc_new _ _
  refine wpList_store_row hg3 t x1 y1 ho3 w.heap.size A (hx1 _ _) (hy1 _ _) t Z hr1 hiA hA h1A ?_
  refine wpList_store_row hg4 t x2 y2 ho4 (w.alloc (.cells Z t)).heap.size B (hx2 _ _) (hy2 _ _) t Z ((setRow_other _ _ _ _ (Ne.symm hne)).trans hr2) hiB hB h1B ?_
  refine h w.heap.size _ _ ⟨hne, ?_, ?_, ?_⟩
  · exact (setRow_other _ _ _ _ hne).trans (setRow_heap _ _ _ _ t _ hr1)
  · exact setRow_heap _ _ _ _ t _ ((setRow_other _ _ _ _ (Ne.symm hne)).trans hr2)
  · exact below_setRow (below_setRow (((Below.refl _ _).alloc (Nat.le_refl _) _).alloc (by simp) _) (Nat.le_refl _) _) (by simp) _
theorem alloc_size (w : World) (o : Obj) : (w.alloc o).heap.size = w.heap.size + 1 := by simp
theorem beqL (xs ys : List UInt8) : (xs == ys) = decide (xs = ys) := by by_cases h : xs = ys <;> simp [h]
theorem eqDigV (xs ys : List UInt8) (hx : xs.length = 32) (hy : ys.length = 32) (X Y : Array Value) (HX : Hid (X = (cellsOf xs).toArray)) (HY : Hid (Y = (cellsOf ys).toArray)) (b : Bool) (hb : decide (xs = ys) = b) (w : World) : (binOp .eql 25 (.agg X) (.agg Y)).run Tryz.prog w = .ok (.bool b) w := by
  rw [HX.out, HY.out, eqDig xs ys hx hy, ← hb, beqL]
theorem neqDigV (xs ys : List UInt8) (hx : xs.length = 32) (hy : ys.length = 32) (X Y : Array Value) (HX : Hid (X = (cellsOf xs).toArray)) (HY : Hid (Y = (cellsOf ys).toArray)) (b : Bool) (hb : (!decide (xs = ys)) = b) (w : World) : (binOp .neq 25 (.agg X) (.agg Y)).run Tryz.prog w = .ok (.bool b) w := by
  have h : (Op.equalIn (9998 + 2) 25 (.agg (cellsOf xs).toArray) (.agg (cellsOf ys).toArray)).run Tryz.prog w = .ok (xs == ys) w := run_equalIn_bytes (P := Tryz.prog) w 9998 25 5 32 Tryz.underlying25 Tryz.underlying5 sizeOf5 xs ys hx hy
  rw [run_neq_struct, HX.out, HY.out]
  simp only [Nat.reduceAdd] at h
  rw [h, ← hb, beqL]
  rfl
def CameR (w W : World) (R X Y : Array Value) : Prop := Below w.heap.size w W ∧ W.heap[w.heap.size]? = some (.cells R 25 (0, 0)) ∧ W.heap[w.heap.size + 1]? = some (.cells X 25 (0, 0)) ∧ W.heap[w.heap.size + 2]? = some (.cells Y 25 (0, 0))
theorem CameR.keep {w W W' : World} {R X Y : Array Value} (h : CameR w W R X Y) (hb : Below W.heap.size W W') : CameR w W' R X Y :=
  ⟨h.1.trans (hb.mono h.1.size), (hb.block _ (heap_lt h.2.1)).trans h.2.1, (hb.block _ (heap_lt h.2.2.1)).trans h.2.2.1, (hb.block _ (heap_lt h.2.2.2)).trans h.2.2.2⟩
end Go.Proofs.YtjalebncfnekiaaGreatDoor.P5
/- What the document's Makes answers. -/
namespace Go.Proofs.YtjalebncfnekiaaGreatDoor.P5
open Go.RowKit Sums
set_option maxRecDepth 100000
set_option linter.unusedVariables false
set_option linter.unusedSimpArgs false
end Go.Proofs.YtjalebncfnekiaaGreatDoor.P5
/- What the document's Included answers. -/
namespace Go.Proofs.YtjalebncfnekiaaGreatDoor.P5
open Go.RowKit Sums
set_option maxRecDepth 100000
set_option linter.unusedVariables false
set_option linter.unusedSimpArgs false
end Go.Proofs.YtjalebncfnekiaaGreatDoor.P5
/- What tree.Inclusion answers: the proof of a place. -/
namespace Go.Proofs.YtjalebncfnekiaaGreatDoor
open Go.RowKit Sums
set_option maxRecDepth 100000
set_option linter.unusedVariables false
set_option linter.unusedSimpArgs false
attribute [local go_sem] store_func
end Go.Proofs.YtjalebncfnekiaaGreatDoor
/- What tree.Consistency answers: the proof of a beginning. -/
namespace Go.Proofs.YtjalebncfnekiaaGreatDoor
open Go.RowKit Sums
set_option maxRecDepth 100000
set_option linter.unusedVariables false
set_option linter.unusedSimpArgs false
attribute [local go_sem] store_func
end Go.Proofs.YtjalebncfnekiaaGreatDoor
/- What check's own small functions answer: a proof that must have so many digests, a proof parted from its last one; knots, and their sums and texts. -/
namespace Go.Proofs.YtjalebncfnekiaaGreatDoor.P5
open Go.RowKit Sums
set_option maxRecDepth 100000
set_option linter.unusedVariables false
set_option linter.unusedSimpArgs false
theorem wpList_new_var {P : Program} {ops : Array Oper} {rest : List Oper} {o : Oper} {a : Act} {w : World} {Q : Exit → Act → World → Prop} (hg : o.guard = none) (t : TypeId) (ho : o.op = .alloc t)
    (cs : Array Value) (hz : (P.info? t).map (fun i => (i.zero, i.size)) = some (some (.agg cs), cs.size)) (h : ∀ g w', Hid (Made g cs t w w') → wpList P ops Q rest (a.put o.dst (.pointer (some ⟨g, 0, none⟩))) w') : wpList P ops Q (o :: rest) a w :=
  wpList_alloc_row hg t ho cs hz (h w.heap.size _ ⟨rfl, heap_alloc_new w _, (Below.refl _ _).alloc (Nat.le_refl _) _⟩)
theorem wpList_set_var {P : Program} {ops : Array Oper} {rest : List Oper} {o : Oper} {a : Act} {w : World} {Q : Exit → Act → World → Prop} (hgd : o.guard = none) (t : TypeId) (x y : Operand) (ho : o.op = .store t x y)
    (g : Nat) (D : Array Value) (hx : a.eval x = .pointer (some ⟨g, 0, none⟩)) (hy : a.eval y = .agg D) (t' : TypeId) (Z : Array Value) (hg : w.heap[g]? = some (.cells Z t' (0, 0))) (hi : (P.info? t).map (·.size) = some D.size) (hold : Z.size = D.size) (h1 : D.all (·.oneCell') = true)
    (h : ∀ w', Hid (Wrote g D t' w w') → wpList P ops Q rest (a.put o.dst undef) w') : wpList P ops Q (o :: rest) a w :=
  wpList_store_row hgd t x y ho g D hx hy t' Z hg hi hold h1 (h _ (wrote_row hg))
theorem results_tmp_row {P : Program} {fn : Func} {p q : Tmp} {ty : TypeId} (h : fn.results = #[.tmp q, .cell p ty]) (tmps : Array Value) (w : World) (g : Nat) (t : TypeId) (cs : Array Value) (fr : Nat × Nat) (d : TypeDesc)
    (hp : tmps.getD p undef = .pointer (some ⟨g, 0, none⟩)) (hg : w.heap[g]? = some (.cells cs t fr))
    (hu : P.underlying ty = some d) (hd : (match d with | .struct _ | .array _ _ => true | _ => false) = true) (hi : (P.info? ty).map (·.size) = some cs.size) :
    (results fn tmps).run P w = .ok (.tuple #[tmps.getD q undef, .agg cs]) w := by
  have hp' : tmps[p]?.getD undef = .pointer (some ⟨g, 0, none⟩) := by simpa using hp
  simp [results, h, hp', asAddr, run_loadVar_row w g t ty cs fr d hg hu hd hi]
theorem yieldsIf_mid {P : Program} {ops : Array Oper} {S : World → Prop} {op : Oper} {a : Act} (hw : Region.wanted op (yielded ops a.tmps) = true) (ty : TypeId) (x : Operand) (ho : op.op = .load ty x)
    (b o : Nat) (hx : a.eval x = .pointer (some ⟨b, o, none⟩)) (D : Array Value) (d : TypeDesc) (hS : ∀ w, S w → w.rangeAt b o D.toList)
    (hu : P.underlying ty = some d) (hd : d.isRow = true) (hi : (P.info? ty).map (·.size) = some D.size) : YieldsIf P ops S op (.agg D) a := by
  have := yieldsIf_load_mid (P := P) (ops := ops) (S := S) hw ty x ho b o hx D.toList d hS hu hd (by simpa using hi)
  simpa using this
theorem wpList_mid {P : Program} {ops : Array Oper} {rest : List Oper} {op : Oper} {a : Act} {w : World} {Q : Exit → Act → World → Prop} (hgd : op.guard = none) (ty : TypeId) (x : Operand) (ho : op.op = .load ty x)
    (b o : Nat) (hx : a.eval x = .pointer (some ⟨b, o, none⟩)) (D : Array Value) (d : TypeDesc) (hc : w.rangeAt b o D.toList)
    (hu : P.underlying ty = some d) (hd : d.isRow = true) (hi : (P.info? ty).map (·.size) = some D.size)
    (h : wpList P ops Q rest (a.put op.dst (.agg D)) w) : wpList P ops Q (op :: rest) a w :=
  wpList_load_mid hgd ty x ho b o hx D.toList d hc hu hd (by simpa using hi) (by simpa using h)
theorem yieldsIf_build {P : Program} {ops : Array Oper} {S : World → Prop} {o : Oper} {a : Act} (hw : Region.wanted o (yielded ops a.tmps) = true) (t : TypeId) (parts : Array (Nat × Operand)) (ho : o.op = .build t parts) (vals : Array (Nat × Value)) (hv : (parts.toList.map fun p => (p.1, a.eval p.2)) = vals.toList)
    (v : Value) (hrun : ∀ W, (Instr.build t vals).run P W = .ok v W) : YieldsIf P ops S o v a :=
  .inl ⟨hw, fun w _ => by
    have hv' : (parts.map fun (i, x) => (i, a.eval x)) = vals := by
      apply Array.ext'
      rw [Array.toList_map, ← hv]
    subst hv'
    unfold execOp
    simp only [ho, Sem.run_bind, hrun, Result.andThen_ok]
    rfl⟩
theorem infoK : (Tryz.prog.info? 96).map (fun i => (i.zero, i.size, i.bytes)) = some (some (.agg (cellsOf (List.replicate 64 0)).toArray), 64, 64) := by kernel_rfl
theorem sizeK : (Tryz.prog.info? 96).map (·.size) = some 64 := by
  obtain ⟨i, hi, _, hs, _⟩ := info_parts infoK
  rw [hi, Option.map_some, hs]
theorem knot_row (l : List UInt8) (hl : l.length = 64) : ∃ D : Array Value, Hid (D = (cellsOf l).toArray) ∧ Hid ((Tryz.prog.info? 96).map (·.size) = some D.size) ∧ Hid (D.all (·.oneCell') = true) ∧ Hid (D.size = 64) := by
  refine ⟨(cellsOf l).toArray, (rfl : _ = _), ?_, cellsOf_all l, ?_⟩
  · show _ = _
    rw [sizeK]; simp [cellsOf_length, hl]
  · show _ = _
    simp [cellsOf_length, hl]
theorem fill_put (place : Nat → Option (Nat × Nat)) (i off n : Nat) (D cs : Array Value) (pre old post : List Value) (more : List (Nat × Value)) (hp : place i = some (off, n)) (hn : D.size = n) (hcs : cs.toList = pre ++ old ++ post) (hpre : pre.length = off) (hold : old.length = n) :
    Instr.fill place cs ((i, .agg D) :: more) = Instr.fill place (pre ++ D.toList ++ post).toArray more := by
  have hsz : (Value.agg D).cells.size = n := hn
  have hcz : cs.size = off + n + post.length := by rw [← Array.length_toList, hcs]; simp only [List.length_append, hpre, hold]
  conv => lhs; unfold Instr.fill
  simp only [hp, hsz]
  rw [if_neg (by simp; omega)]
  congr 1
  apply Array.ext'
  have := fold_setD D.toList 0 off cs pre old post hcs (by omega) (by rw [hold, Array.length_toList, hn])
  rw [← this, ← Array.foldl_toList]
  congr 2
  simp [Value.cells]
theorem builtK (A B K : Array Value) (hA : A.size = 32) (hB : B.size = 32) (hK : K.toList = A.toList ++ B.toList) : Tryz.prog.built 96 [(0, .agg A), (1, .agg B)] = some K := by
  obtain ⟨i, hi, hz, hs, _⟩ := info_parts infoK
  obtain ⟨j, hj, _, hjs, _⟩ := info_parts infoD
  obtain ⟨Z, hZ⟩ : ∃ Z, Z = List.replicate 32 (0 : UInt8) := ⟨_, rfl⟩
  have hZ32 : (cellsOf Z).length = 32 := by rw [cellsOf_length, hZ]; rfl
  have e : (cellsOf (List.replicate 64 0)).toArray = (cellsOf Z ++ cellsOf Z).toArray := by rw [hZ, ← cellsOf_append]; rfl
  rw [e] at hz
  unfold Program.built
  simp only [hi, Tryz.underlying96, hz, List.mapM_cons, List.mapM_nil, hj, hjs, Option.map_some, Option.bind_eq_bind, Option.bind_some, Option.pure_def]
  show Instr.fill _ (cellsOf Z ++ cellsOf Z).toArray _ = some K
  refine (fill_put _ 0 0 32 A _ [] (cellsOf Z) (cellsOf Z) _ rfl hA rfl rfl hZ32).trans ?_
  refine (fill_put _ 1 32 32 B _ A.toList (cellsOf Z) [] _ rfl hB (by simp) (by simpa using hA) hZ32).trans ?_
  simp only [Instr.fill, List.append_nil, Option.some.injEq]
  exact Array.ext' hK.symm
theorem build_knot (w : World) (A B K : Array Value) (hA : A.size = 32) (hB : B.size = 32) (hK : K.toList = A.toList ++ B.toList) : (Instr.build 96 #[(0, .agg A), (1, .agg B)]).run Tryz.prog w = .ok (.agg K) w := run_build w 96 _ K (builtK A B K hA hB hK)
theorem range_knot {W : World} {g : Nat} {l r : List UInt8} {t : TypeId} {fr : Nat × Nat} (hl : l.length = 32) (h : W.heap[g]? = some (.cells (cellsOf (l ++ r)).toArray t fr)) : W.rangeAt g 0 (cellsOf l) ∧ W.rangeAt g 32 (cellsOf r) := by
  refine ⟨fun j v hj => ?_, fun j v hj => ?_⟩
  · have hlt := (List.getElem?_eq_some_iff.1 hj).1
    rw [Nat.zero_add, cell_of_row W g j _ t fr h]
    simp only [List.getElem?_toArray, cellsOf_append]
    rw [List.getElem?_append_left hlt, hj]
  · rw [cell_of_row W g _ _ t fr h]
    simp only [List.getElem?_toArray, cellsOf_append]
    rw [List.getElem?_append_right (by rw [cellsOf_length]; omega), cellsOf_length, hl, Nat.add_sub_cancel_left, hj]
theorem must_ok (n : Nat) (a : Option Addr) (len cap : Nat) (w : World) (h : len = n) (hl : len ≤ maxLen) :
    Calls Tryz.prog 56 #[.int .i64 n, .slice a len cap] w fun e w' => e = .returned (.tuple #[]) ∧ w' = w := by
  subst h
  have hlx : len ≤ 9223372036854775807 := by unfold maxLen at hl; omega
  clear hl
  go_enter Tryz.func56, Tryz.ntmps56
  go_wp2
  go_end0
  exact ⟨rfl, rfl⟩
theorem must_no (n : Nat) (a : Option Addr) (len cap : Nat) (w : World) (h : len ≠ n) (hl : len ≤ maxLen) :
    Calls Tryz.prog 56 #[.int .i64 n, .slice a len cap] w fun e w' => (∃ u p, e = .panicked [{ v := .iface u p, recovered := false }]) ∧ w' = w := by
  have hlx : len ≤ 9223372036854775807 := by unfold maxLen at hl; omega
  have hne : ((len : Int) != (n : Int)) = true := by rw [bne_iff_ne]; omega
  clear hl h
  go_enter Tryz.func56, Tryz.ntmps56
  go_wp2
  exact ⟨rfl, ⟨_, _, rfl⟩, rfl⟩
set_option maxHeartbeats 1000000 in
theorem cut_no (a : Option Addr) (cap : Nat) (w : World) :
    Calls Tryz.prog 58 #[.slice a 0 cap] w fun e w' => (∃ u p, e = .panicked [{ v := .iface u p, recovered := false }]) ∧ Below w.heap.size w w' := by
  obtain ⟨Z, HZ, HA, HS, H1, H32⟩ := noughts27
  go_enter Tryz.func58, Tryz.ntmps58
  go_wp2_with (first
    | (refine wpList_alloc_row rfl 25 rfl Z HA.out ?_)
    | fail)
  exact ⟨rfl, ⟨_, _, rfl⟩, (Below.refl _ _).alloc (Nat.le_refl _) _⟩
set_option maxHeartbeats 1000000 in
theorem cut_ok (g o m cap : Nat) (l : List (List UInt8)) (d : List UInt8) (w : World) (hR : LReads w (some ⟨g, o, none⟩) (m + 1) cap (l ++ [d])) (D : Array Value) (HD : Hid (D = (cellsOf d).toArray)) :
    Calls Tryz.prog 58 #[.slice (some ⟨g, o, none⟩) (m + 1) cap] w fun e w' => e = .returned (.tuple #[.slice (some ⟨g, o, none⟩) m cap, .agg D]) ∧ Below w.heap.size w w' := by
  obtain ⟨Z, HZ, HA, HS, H1, H32⟩ := noughts27
  have hd : d.length = 32 := hR.2.1 d (by simp)
  have HSD : Hid ((Tryz.prog.info? 25).map (·.size) = some D.size) := by show _ = _; rw [size23, HD.out]; simp [cellsOf_length, hd]
  have H1D : Hid (D.all (·.oneCell') = true) := by show _ = _; rw [HD.out]; exact cellsOf_all _
  have HZD : Hid (Z.size = D.size) := by show _ = _; rw [H32.out, HD.out]; simp [cellsOf_length, hd]
  have hlm : l.length = m := by have := hR.1; simpa using this
  have hcap : m + 1 ≤ cap := hR.2.2.1
  have hlx : m + 1 ≤ 9223372036854775807 := by have := hR.2.2.2.1; unfold maxLen at this; omega
  have e0 : (l ++ [d])[m]'(by simp; omega) = d := by simp [← hlm]
  have HRG : Hid (w.rangeAt g (o + 32 * m) D.toList) := by
    have := hR.range m (by simp; omega)
    rw [e0] at this
    rw [HD.out]; exact this
  have hgl : g < w.heap.size := by
    obtain ⟨g', o', e, h⟩ := hR.at (by omega)
    cases e
    exact h
  have HW0 : Hid (Below w.heap.size w (w.alloc (.cells Z 25)).drew ∧ (w.alloc (.cells Z 25)).drew.heap[w.heap.size]? = some (.cells Z 25 (0, 0))) := ⟨((Below.refl _ _).alloc (Nat.le_refl _) _).drew, heap_alloc_new w _⟩
  have slc : ∀ W, (Instr.sliceAt 30 (.slice (some ⟨g, o, none⟩) (m + 1) cap) none (some (.int .i64 (m : Int))) none).run Tryz.prog W = .ok (.slice (some ⟨g, o, none⟩) m cap) W := fun W => slice_left W g o (m + 1) cap m (by omega)
  have idx : ∀ W, (Instr.indexAt 30 (.slice (some ⟨g, o, none⟩) (m + 1) cap) (.int .i64 (m : Int))).run Tryz.prog W = .ok (.pointer (some ⟨g, o + 32 * m, none⟩)) W := fun W => index_list W g o (m + 1) cap m .i64 (by omega)
  have wr := wrap_int ((m : Int)) (by omega) (by omega)
  have c0 : (((m : Int) + 1) == 0) = false := by rw [beq_eq_false_iff_ne]; omega
  have c1 : (m : Int) + 1 - 1 = (m : Int) := by omega
  clear hR HD
  go_enter Tryz.func58, Tryz.ntmps58
  go_wp2_with (first
    | (refine wpList_alloc_row rfl 25 rfl Z HA.out ?_)
    | fail)
  refine wp_region_held_drew (S := (fun W => W.rangeAt g (o + 32 * m) D.toList)) (by kernel_rfl) (range_keep HW0.out.1 HRG.out) (fun hHeld => ?_)
  refine zX 0 (.slice (some ⟨g, o, none⟩) (m + 1) cap) rfl hHeld ?_
  try simp only [Act.put, pS1, pS2, pS3]
  refine zX 1 (.int .i64 (m : Int)) rfl hHeld ?_
  try simp only [Act.put, pS1, pS2, pS3]
  refine zW 2 (.slice (some ⟨g, o, none⟩) m cap) rfl (Or.inl ⟨by rfl, by intro W hSw; have := slc W; go_simp⟩) hHeld ?_
  try simp only [Act.put, pS1, pS2, pS3]
  refine zX 3 (.slice (some ⟨g, o, none⟩) (m + 1) cap) rfl hHeld ?_
  try simp only [Act.put, pS1, pS2, pS3]
  refine zX 4 (.int .i64 (m : Int)) rfl hHeld ?_
  try simp only [Act.put, pS1, pS2, pS3]
  refine zW 5 (.pointer (some ⟨g, o + 32 * m, none⟩)) rfl (Or.inl ⟨by rfl, by intro W hSw; have := idx W; go_simp⟩) hHeld ?_
  try simp only [Act.put, pS1, pS2, pS3]
  refine zW 6 (.agg D) rfl (yieldsIf_mid (by rfl) 25 (.tmp 17) rfl g (o + 32 * m) rfl D _ (fun _ h => h) Tryz.underlying25 rfl HSD.out) hHeld ?_
  try simp only [Act.put, pS1, pS2, pS3]
  refine zX 7 (.slice (some ⟨g, o, none⟩) m cap) rfl hHeld ?_
  try simp only [Act.put, pS1, pS2, pS3]
  refine wpAnyH_ready (rs := [8]) (by kernel_rfl) (by simp) ?_
  refine (AllReadyH.cons (o := { dst := none, op := .store 25 (.tmp 3) (.tmp 18), type := 0, pos := "check.go:149", after := #[zD 6, zC 7, zP 0, zP 1, zP 2, zP 3, zP 4, zP 5, zP 6, zP 7], guard := none }) rfl (fun K hK => ?_) AllReadyH.nil)
  refine step_store_row (by rfl) 25 (.tmp 3) (.tmp 18) rfl w.heap.size D rfl rfl 25 Z HW0.out.2 HSD.out HZD.out H1D.out ?_
  refine hK.out _ _ (range_other hHeld (by omega)) (fun hHeld => ?_)
  clear hK K
  try simp only [Act.put, pS1, pS2, pS3]
  refine wpAnyH_done (by kernel_rfl) ?_ _
  go_wp2
  refine bodyPost_ret (v := .tuple #[.slice (some ⟨g, o, none⟩) m cap, .agg D]) ?_ rfl ⟨rfl, below_setRow HW0.out.1 (Nat.le_refl _) _⟩
  exact results_tmp_row (p := 3) (q := 2) (ty := 25) rfl _ _ w.heap.size 25 D (0, 0) _ rfl (setRow_heap _ _ _ _ 25 _ HW0.out.2) Tryz.underlying25 rfl HSD.out
set_option maxHeartbeats 1000000 in
theorem sum_any (l r : List UInt8) (hl : l.length = 32) (hr : r.length = 32) (w : World) (hK : Table 1 w) (KK : Array Value) (HKK : Hid (KK = (cellsOf (l ++ r)).toArray)) (D : Array Value) (HD : Hid (D = (cellsOf (knotD l r)).toArray)) :
    Calls Tryz.prog 59 #[.agg KK] w fun e w' => e = .returned (.agg D) ∧ Below w.heap.size w w' := by
  obtain ⟨Z, HZ, HA, HS, H1, H32⟩ := noughts27
  obtain ⟨L, HL, HSL, H1L, H32L⟩ := dig_row' l hl
  obtain ⟨R, HR, HSR, H1R, H32R⟩ := dig_row' r hr
  have HSD : Hid ((Tryz.prog.info? 25).map (·.size) = some D.size) := by show _ = _; rw [size23, HD.out]; simp [cellsOf_length, knotD, sumD_length]
  have H1D : Hid (D.all (·.oneCell') = true) := by show _ = _; rw [HD.out]; exact cellsOf_all _
  have HZD : Hid (Z.size = D.size) := by show _ = _; rw [H32.out, HD.out]; simp [cellsOf_length, knotD, sumD_length]
  have HW0 : Hid (((w.alloc (.cells KK 96)).alloc (.cells Z 25)).rangeAt w.heap.size 0 L.toList ∧ ((w.alloc (.cells KK 96)).alloc (.cells Z 25)).rangeAt w.heap.size 32 R.toList ∧ Below w.heap.size w ((w.alloc (.cells KK 96)).alloc (.cells Z 25)) ∧ ((w.alloc (.cells KK 96)).alloc (.cells Z 25)).heap[w.heap.size + 1]? = some (.cells Z 25 (0, 0))) := by
    have h : ((w.alloc (.cells KK 96)).alloc (.cells Z 25)).heap[w.heap.size]? = some (.cells KK 96 (0, 0)) := heap_keep (heap_alloc_new w _)
    rw [HKK.out] at h
    have h2 := range_knot hl h
    rw [HL.out, HR.out]
    exact ⟨by rw [HKK.out]; exact h2.1, by rw [HKK.out]; exact h2.2, ((Below.refl _ _).alloc (Nat.le_refl _) _).alloc (by simp) _, by have := heap_alloc_new (w.alloc (.cells KK 96)) (.cells Z 25); simpa using this⟩
  have KN : Hid (∀ W, Below w.heap.size w W → Calls Tryz.prog 79 #[.agg L, .agg R] W fun e w' => e = .returned (.agg D) ∧ Below W.heap.size W w') := fun W hb => by
    rw [HL.out, HR.out]
    exact knot_any l r hl hr W (hK.keep hb) D HD
  clear hK HKK HD
  go_enter Tryz.func59, Tryz.ntmps59
  go_wp2_with (first
    | (refine wpList_alloc_row rfl 25 rfl Z HA.out ?_)
    | (refine wpList_mid rfl 25 (.tmp 3) rfl w.heap.size 0 rfl L _ HW0.out.1 Tryz.underlying25 rfl HSL.out ?_)
    | (refine wpList_mid rfl 25 (.tmp 5) rfl w.heap.size 32 rfl R _ HW0.out.2.1 Tryz.underlying25 rfl HSR.out ?_)
    | fail)
  refine (KN.out _ HW0.out.2.2.1).mono ?_
  rintro e w1 ⟨rfl, hb1⟩
  have HG : Hid (w1.heap[w.heap.size + 1]? = some (.cells Z 25 (0, 0))) := (hb1.block _ (heap_lt HW0.out.2.2.2)).trans HW0.out.2.2.2
  have hB : Below w.heap.size w w1 := HW0.out.2.2.1.trans (hb1.mono HW0.out.2.2.1.size)
  clear hb1 HW0
  go_wp2_with (first
    | (refine wpList_store_row rfl 25 (.tmp 2) (.tmp 7) rfl (w.heap.size + 1) D rfl rfl 25 Z HG.out HSD.out HZD.out H1D.out ?_)
    | fail)
  refine bodyPost_ret (v := .agg D) ?_ rfl ⟨rfl, below_setRow hB (by simp) _⟩
  exact results_cell_row (p := 2) (ty := 25) rfl _ _ (w.heap.size + 1) 25 D (0, 0) _ rfl (setRow_heap _ _ _ _ 25 _ HG.out) Tryz.underlying25 rfl HSD.out
theorem slice_at (w : World) (g o : Nat) : (Instr.sliceAt 25 (.pointer (some ⟨g, o, none⟩)) none none none).run Tryz.prog w = .ok (.slice (some ⟨g, o, none⟩) 32 32) w := by
  simp [Instr.sliceAt, Instr.slice, Instr.sliceBounds, run_underlying Tryz.underlying25, Instr.sureAddr]
  rw [add_plain]
  simp
theorem conv_at (W : World) (g o : Nat) (l : List UInt8) (hl : l.length = 32) (h : W.rangeAt g o (cellsOf l)) : Sem.run Tryz.prog (convert 77 9 (.slice (some ⟨g, o, none⟩) 32 32)) W = .ok (.string ⟨l.toArray⟩) W := by
  have := run_convert_bytes_back (P := Tryz.prog) W 77 9 5 ⟨g, o, none⟩ 32 l Tryz.underlying77 Tryz.underlying5 Tryz.underlying9 (fun j hj => by
    rw [add_plain]
    exact h j _ (cellsOf_at l j hj))
  rw [hl] at this
  exact this
end Go.Proofs.YtjalebncfnekiaaGreatDoor.P5
/- Knots in memory: a list of them that grows in a variable, beside the variables of the calls that make it grow. -/
namespace Go.Proofs.YtjalebncfnekiaaGreatDoor.P5
open Go.RowKit Sums
set_option maxRecDepth 100000
set_option linter.unusedVariables false
set_option linter.unusedSimpArgs false
structure Grew (gk : Nat) (v v' : Value) (w w' : World) : Prop where
  os : w'.os = w.os
  tape : w'.tape = w.tape
  output : w'.output = w.output
  size : w.heap.size ≤ w'.heap.size
  block : ∀ k, k < w.heap.size → k ≠ gk → some k ≠ v.ownBlock → w'.heap[k]? = w.heap[k]?
  mine : v'.ownBlock = v.ownBlock ∨ ∃ k, v'.ownBlock = some k ∧ w.heap.size ≤ k
theorem Grew.of {gk : Nat} {v : Value} {w w' : World} (h : Below w.heap.size w w') : Grew gk v v w w' := ⟨h.os, h.tape, h.output, h.size, fun k hk _ _ => h.block k hk, .inl rfl⟩
theorem Grew.trans {gk : Nat} {v v1 v2 : Value} {w w1 w2 : World} (h : Grew gk v v1 w w1) (k : Grew gk v1 v2 w1 w2) : Grew gk v v2 w w2 := by
  refine ⟨k.os.trans h.os, k.tape.trans h.tape, k.output.trans h.output, Nat.le_trans h.size k.size, fun j hj h1 h2 => ?_, ?_⟩
  · refine (k.block j (Nat.lt_of_lt_of_le hj h.size) h1 ?_).trans (h.block j hj h1 h2)
    rcases h.mine with e | ⟨q, e, hq⟩
    · rw [e]; exact h2
    · rw [e]; intro e'; cases e'; omega
  · rcases k.mine with e | ⟨q, e, hq⟩
    · rw [e]; exact h.mine
    · exact .inr ⟨q, e, Nat.le_trans h.size hq⟩
theorem Grew.below {gk B : Nat} {v v' : Value} {w w' : World} (h : Grew gk v v' w w') (hB : B ≤ w.heap.size) (hg : B ≤ gk) (hv : ∀ k, v.ownBlock = some k → B ≤ k) : Below B w w' :=
  ⟨h.os, h.tape, h.output, h.size, fun k hk => h.block k (by omega) (by omega) (fun e => by have := hv k e.symm; omega)⟩
theorem Grew.new {gk y : Nat} {v v' : Value} {w w' : World} (h : Grew gk v v' w w') (hy : y < w.heap.size) (hv : some y ≠ v.ownBlock) : some y ≠ v'.ownBlock := by
  rcases h.mine with e | ⟨q, e, hq⟩
  · rw [e]; exact hv
  · rw [e]; intro e'; cases e'; omega
theorem Grew.wrote {gk g : Nat} {v v' : Value} {w w1 w2 : World} {D : Array Value} {t : TypeId} (h : Grew gk v v' w w1) (hw : Wrote g D t w1 w2) (hg : w.heap.size ≤ g) : Grew gk v v' w w2 := by
  have hb := hw.below w.heap.size w1 (Below.refl _ _) hg
  exact ⟨hb.os.trans h.os, hb.tape.trans h.tape, hb.output.trans h.output, Nat.le_trans h.size hb.size, fun k hk h1 h2 => (hb.block k hk).trans (h.block k hk h1 h2), h.mine⟩
end Go.Proofs.YtjalebncfnekiaaGreatDoor.P5
/- What check.leafMakes answers: what a leaf and a proof make, and the knots on the way; or it gives up. -/
namespace Go.Proofs.YtjalebncfnekiaaGreatDoor.P5
open Go.RowKit Sums
set_option maxRecDepth 100000
set_option linter.unusedVariables false
set_option linter.unusedSimpArgs false
attribute [local go_sem] store_func
end Go.Proofs.YtjalebncfnekiaaGreatDoor.P5
/- What check.leafMakes answers: what a leaf and a proof make, and the knots on the way; or it gives up. -/
namespace Go.Proofs.YtjalebncfnekiaaGreatDoor.P5
open Go.RowKit Sums
set_option maxRecDepth 100000
set_option linter.unusedVariables false
set_option linter.unusedSimpArgs false
attribute [local go_sem] store_func
end Go.Proofs.YtjalebncfnekiaaGreatDoor.P5
/- What check.held answers: what is asked, or that it gave up. -/
namespace Go.Proofs.YtjalebncfnekiaaGreatDoor.P5
open Go.RowKit Sums
set_option maxRecDepth 100000
set_option linter.unusedVariables false
set_option linter.unusedSimpArgs false
theorem catch_panicking (p : Addr) (x : Int) (u : TypeId) (pv : Value) (older : List PanicEntry) (w : World) (hc : w.cell? p = some (.int .i64 x)) (hz : w.frozen? p = false) :
    CallsD Tryz.prog 54 #[.pointer (some p)] (.panicking ({ v := .iface u pv, recovered := false } :: older)) w fun e u' w' =>
      e = .returned (.tuple #[]) ∧ u' = .panicking ({ v := .iface u pv, recovered := true } :: older) ∧ w' = w.setCell p (.int .i64 40) := by
  refine callsD_of_wpS Tryz.func54 rfl fun c₀ cs hu => ?_
  apply wpS_seq
  apply wpS_region
  simp [wpOpsS, go_sem, recoverD, hu, Tryz.ntmps54, Exit.thenS]
  refine wpS_cond (t := true) (by simp [Act.eval, Array.replicate]) ?_
  simp only [if_true]
  apply wpS_region
  simp [wpOpsS, go_sem, hc, hz, bodyPostS, results, Tryz.results54]
theorem catch_idle (p : Addr) (w : World) :
    CallsD Tryz.prog 54 #[.pointer (some p)] .returning w fun e u' w' => e = .returned (.tuple #[]) ∧ u' = .returning ∧ w' = w := by
  refine callsD_of_wpS Tryz.func54 rfl fun c₀ cs hu => ?_
  apply wpS_seq
  apply wpS_region
  simp [wpOpsS, go_sem, recoverD, hu, Tryz.ntmps54, Exit.thenS]
  refine wpS_cond (t := false) (by simp [Act.eval, Array.replicate]) ?_
  simp only [Bool.false_eq_true, if_false]
  refine wpS_of_wp (wp_skip ?_)
  cases c₀
  simp_all [bodyPostS, results, Tryz.results54]
theorem cell_new_one (w w' : World) (x : Value) (t : TypeId) (hb : Below (w.alloc (.cells #[x] t)).heap.size (w.alloc (.cells #[x] t)) w') : w'.heap[w.heap.size]? = some (.cells #[x] t (0, 0)) :=
  (hb.block _ (by simp)).trans (heap_alloc_new w _)
set_option maxHeartbeats 1000000 in
theorem held_no (n : Nat) (caps : Array Value) (w : World) (hn : ∀ W, (callFunc n caps).run Tryz.prog W = .ok (.enter n caps) W) (hc : Hid (∀ W, Below w.heap.size w W → Calls Tryz.prog n caps W fun e w' => (∃ u p, e = .panicked [{ v := .iface u p, recovered := false }]) ∧ Below W.heap.size W w')) :
    Calls Tryz.prog 33 #[.func (.func n) #[] caps] w fun e w' => e = .returned (.int .i64 40) ∧ Below w.heap.size w w' := by
  have hmf : ∀ (fn : Fn) (first cap : Array Value) (w : World), (Instr.makeFunc fn first cap).run Tryz.prog w = .ok (.func fn first cap) w := fun _ _ _ _ => rfl
  have HB : Hid (Below w.heap.size w (w.alloc (.cells #[.int .i64 0] 34))) := (Below.refl _ _).alloc (Nat.le_refl _) _
  go_enter_defers Tryz.func33, Tryz.ntmps33
  go_wp2_with fail
  refine (hc.out _ HB.out).mono ?_
  rintro e w2 ⟨⟨u, p, rfl⟩, hb2⟩
  have h2 := cell_new_one w w2 _ _ hb2
  refine leaves_cons (f := 54) (args := #[.pointer (some ⟨w.heap.size, 0, none⟩)]) (by simp) (by simp [go_sem]) ?_
  refine (catch_panicking ⟨w.heap.size, 0, none⟩ 0 u _ [] _ (cell_of_one h2) (free_of_one h2)).mono ?_
  rintro e u' w3 ⟨rfl, rfl, rfl⟩
  have h3 := one_setCell (u := .int .i64 40) h2
  have hc3 := cell_of_one h3
  have hB3 : Below w.heap.size w (w2.setCell ⟨w.heap.size, 0, none⟩ (.int .i64 40)) := (HB.out.trans (hb2.mono HB.out.size)).setCell (Nat.le_refl _) _
  simp [Leaves, settle, results, Tryz.results33, go_sem, hc3, hB3]
set_option maxHeartbeats 1000000 in
theorem held_ok (n : Nat) (caps : Array Value) (w : World) (b : Bool) (hn : ∀ W, (callFunc n caps).run Tryz.prog W = .ok (.enter n caps) W) (hc : Hid (∀ W, Below w.heap.size w W → Calls Tryz.prog n caps W fun e w' => e = .returned (.bool b) ∧ Below W.heap.size W w')) :
    Calls Tryz.prog 33 #[.func (.func n) #[] caps] w fun e w' => e = .returned (.int .i64 (if b then 0 else 41)) ∧ Below w.heap.size w w' := by
  have hmf : ∀ (fn : Fn) (first cap : Array Value) (w : World), (Instr.makeFunc fn first cap).run Tryz.prog w = .ok (.func fn first cap) w := fun _ _ _ _ => rfl
  have HB : Hid (Below w.heap.size w (w.alloc (.cells #[.int .i64 0] 34))) := (Below.refl _ _).alloc (Nat.le_refl _) _
  have hnot : ∀ (x : Bool) (w : World), (Op.unary .not (.bool x)).run Tryz.prog w = .ok (.bool (!x)) w := fun _ _ => rfl
  cases b
  · go_enter_defers Tryz.func33, Tryz.ntmps33
    go_wp2_with fail
    refine (hc.out _ HB.out).mono ?_
    rintro e w2 ⟨rfl, hb2⟩
    have h2 := cell_new_one w w2 _ _ hb2
    have hc2 := cell_of_one h2
    have hf2 := free_of_one h2
    have HB2 := hidk (HB.out.trans (hb2.mono HB.out.size))
    clear hb2
    go_wp2
    refine leaves_cons (f := 54) (args := #[.pointer (some ⟨w.heap.size, 0, none⟩)]) (by simp) (by simp [go_sem]) ?_
    refine (catch_idle ⟨w.heap.size, 0, none⟩ _).mono ?_
    rintro e u' w3 ⟨rfl, rfl, rfl⟩
    have h3 := one_setCell (u := .int .i64 41) h2
    have hc3 := cell_of_one h3
    have hB3 : Below w.heap.size w (w2.setCell ⟨w.heap.size, 0, none⟩ (.int .i64 41)) := HB2.out.setCell (Nat.le_refl _) _
    simp [Leaves, settle, results, Tryz.results33, go_sem, hc3, hB3]
  · go_enter_defers Tryz.func33, Tryz.ntmps33
    go_wp2_with fail
    refine (hc.out _ HB.out).mono ?_
    rintro e w2 ⟨rfl, hb2⟩
    have h2 := cell_new_one w w2 _ _ hb2
    have hc2 := cell_of_one h2
    have hf2 := free_of_one h2
    have HB2 := hidk (HB.out.trans (hb2.mono HB.out.size))
    clear hb2
    go_wp2
    refine leaves_cons (f := 54) (args := #[.pointer (some ⟨w.heap.size, 0, none⟩)]) (by simp) (by simp [go_sem]) ?_
    refine (catch_idle ⟨w.heap.size, 0, none⟩ _).mono ?_
    rintro e u' w3 ⟨rfl, rfl, rfl⟩
    have h3 := one_setCell (u := .int .i64 0) h2
    have hc3 := cell_of_one h3
    have hB3 : Below w.heap.size w (w2.setCell ⟨w.heap.size, 0, none⟩ (.int .i64 0)) := HB2.out.setCell (Nat.le_refl _) _
    simp [Leaves, settle, results, Tryz.results33, go_sem, hc3, hB3]
end Go.Proofs.YtjalebncfnekiaaGreatDoor.P5
/- What check.Included answers. -/
namespace Go.Proofs.YtjalebncfnekiaaGreatDoor.P5
open Go.RowKit Sums
set_option maxRecDepth 100000
set_option linter.unusedVariables false
set_option linter.unusedSimpArgs false
structure Five (gr gs gi gl gp : Nat) (R : Array Value) (s i : Int) (X : Array Value) (a : Option Addr) (len cap : Nat) (W : World) : Prop where
  root : W.heap[gr]? = some (.cells R 25 (0, 0))
  size : W.heap[gs]? = some (.cells #[.int .i64 s] 3 (0, 0))
  index : W.heap[gi]? = some (.cells #[.int .i64 i] 3 (0, 0))
  leaf : W.heap[gl]? = some (.cells X 25 (0, 0))
  proof : W.heap[gp]? = some (.cells #[.slice a len cap] 30 (0, 0))
theorem Five.keep {gr gs gi gl gp : Nat} {R : Array Value} {s i : Int} {X : Array Value} {a : Option Addr} {len cap : Nat} {W W' : World} (h : Five gr gs gi gl gp R s i X a len cap W) (hb : Below W.heap.size W W') : Five gr gs gi gl gp R s i X a len cap W' :=
  ⟨(hb.block _ (heap_lt h.root)).trans h.root, (hb.block _ (heap_lt h.size)).trans h.size, (hb.block _ (heap_lt h.index)).trans h.index, (hb.block _ (heap_lt h.leaf)).trans h.leaf, (hb.block _ (heap_lt h.proof)).trans h.proof⟩
end Go.Proofs.YtjalebncfnekiaaGreatDoor.P5
/- What check.growthMakes answers: what a proof of consistency makes; or it gives up. -/
namespace Go.Proofs.YtjalebncfnekiaaGreatDoor.P5
open Go.RowKit Sums
set_option maxRecDepth 100000
set_option linter.unusedVariables false
set_option linter.unusedSimpArgs false
attribute [local go_sem] store_func
theorem results_row_row {P : Program} {fn : Func} {p1 p2 : Tmp} {ty : TypeId} (h : fn.results = #[.cell p1 ty, .cell p2 ty]) (tmps : Array Value) (w : World) (g1 g2 : Nat) (t1 t2 : TypeId) (c1 c2 : Array Value) (f1 f2 : Nat × Nat) (d : TypeDesc)
    (hp1 : tmps.getD p1 undef = .pointer (some ⟨g1, 0, none⟩)) (hp2 : tmps.getD p2 undef = .pointer (some ⟨g2, 0, none⟩)) (h1 : w.heap[g1]? = some (.cells c1 t1 f1)) (h2 : w.heap[g2]? = some (.cells c2 t2 f2))
    (hu : P.underlying ty = some d) (hd : (match d with | .struct _ | .array _ _ => true | _ => false) = true) (hi1 : (P.info? ty).map (·.size) = some c1.size) (hi2 : (P.info? ty).map (·.size) = some c2.size) :
    (results fn tmps).run P w = .ok (.tuple #[.agg c1, .agg c2]) w := by
  have hp1' : tmps[p1]?.getD undef = .pointer (some ⟨g1, 0, none⟩) := by simpa using hp1
  have hp2' : tmps[p2]?.getD undef = .pointer (some ⟨g2, 0, none⟩) := by simpa using hp2
  simp [results, h, hp1', hp2', asAddr, run_loadVar_row w g1 t1 ty c1 f1 d h1 hu hd hi1, run_loadVar_row w g2 t2 ty c2 f2 d h2 hu hd hi2]
set_option maxHeartbeats 4000000 in
theorem growm_no (r : List (List UInt8)) : ∀ (M N : Nat) (x : List UInt8) (k : Bool) (a : Option Addr) (len cap gl gf : Nat) (w : World) (hM1 : 1 ≤ M) (hMN : M ≤ N) (hN : N ≤ 100000) (hR : LReads w a len cap r.reverse)
    (hF : w.heap[gf]? = some (.cells #[.func (.func 55) #[] #[.pointer (some ⟨gl, 0, none⟩), .pointer (some ⟨gf, 0, none⟩)]] 90 (0, 0))) (hm : (bothR r M N x k).2.2 = false),
    Calls Tryz.prog 55 #[.int .i64 M, .int .i64 N, .bool k, .slice a len cap, .pointer (some ⟨gl, 0, none⟩), .pointer (some ⟨gf, 0, none⟩)] w fun e w' => (∃ u p, e = .panicked [{ v := .iface u p, recovered := false }]) ∧ Below w.heap.size w w' := by
  induction r with
  | nil =>
    intro M N x k a len cap gl gf w hM1 hMN hN hR hF hm
    obtain ⟨Z, HZ, HA, HS, H1, H32⟩ := noughts27
    have hl : len = 0 := by have := hR.1; simpa using this.symm
    subst hl
    have hml : 0 ≤ maxLen := Nat.zero_le _
    by_cases hmn : M = N
    · subst hmn
      obtain rfl : k = false := by simpa [bothR] using hm
      have cq : ((M : Int) == (M : Int)) = true := by simp
      have MU : Hid (∀ W, Calls Tryz.prog 56 #[.int .i64 1, .slice a 0 cap] W fun e w' => (∃ u p, e = .panicked [{ v := .iface u p, recovered := false }]) ∧ w' = W) := fun W => must_no 1 a 0 cap W (by omega) hml
      clear hm hF hR
      go_enter Tryz.func55, Tryz.ntmps55
      go_wp2_with (first
        | (show aD 10 _ _ _ _ _ _ _ _ _ _ _; refine wpList_new_var rfl 25 rfl Z HA.out ?_; intro g10 wa HM10; try simp only [Act.put, pS1, pS2, pS3])
        | (show aD 11 _ _ _ _ _ _ _ _ _ _ _; refine wpList_new_var rfl 25 rfl Z HA.out ?_; intro g11 wb HM11; try simp only [Act.put, pS1, pS2, pS3])
        | fail)
      have HBB := hidk (HM10.out.below.trans (HM11.out.below.mono HM10.out.below.size))
      refine (MU.out _).mono ?_
      rintro e wc ⟨⟨u, q, rfl⟩, rfl⟩
      exact ⟨rfl, ⟨_, _, rfl⟩, HBB.out⟩
    · have cq : ((M : Int) == (N : Int)) = false := by rw [beq_eq_false_iff_ne]; omega
      obtain ⟨s, hs⟩ : ∃ s, s = split N := ⟨_, rfl⟩
      have hsl := split_lt N (by omega)
      have hsp := split_pos N (by omega)
      rw [← hs] at hsl hsp
      have SP : Hid (∀ W, Calls Tryz.prog 57 #[.int .i64 (N : Int)] W fun e w' => e = .returned (.int .i64 (s : Nat)) ∧ W = w') := fun W => by
        have := split_any (N : Int) W (by omega)
        rw [Int.toNat_natCast, ← hs] at this
        exact this
      clear hm hF hR hs
      go_enter Tryz.func55, Tryz.ntmps55
      go_wp2_with (first
        | (show aD 10 _ _ _ _ _ _ _ _ _ _ _; refine wpList_new_var rfl 25 rfl Z HA.out ?_; intro g10 wa HM10; try simp only [Act.put, pS1, pS2, pS3])
        | (show aD 11 _ _ _ _ _ _ _ _ _ _ _; refine wpList_new_var rfl 25 rfl Z HA.out ?_; intro g11 wb HM11; try simp only [Act.put, pS1, pS2, pS3])
        | fail)
      have HBB := hidk (HM10.out.below.trans (HM11.out.below.mono HM10.out.below.size))
      refine (SP.out _).mono ?_
      rintro e wc ⟨rfl, rfl⟩
      go_wp2_with fail
      refine (cut_no _ _ _).mono ?_
      rintro e w3 ⟨⟨u, q, rfl⟩, hb3⟩
      exact ⟨rfl, ⟨_, _, rfl⟩, HBB.out.trans (hb3.mono HBB.out.size)⟩
  | cons d r ih =>
    intro M N x k a len cap gl gf w hM1 hMN hN hR hF hm
    obtain ⟨Z, HZ, HA, HS, H1, H32⟩ := noughts27
    have hlen : r.length + 1 = len := by have := hR.1; simpa using this
    obtain ⟨m, hmm⟩ : ∃ m, m = r.length := ⟨_, rfl⟩
    obtain rfl : len = m + 1 := by omega
    have hml := hR.2.2.2.1
    by_cases hmn : M = N
    · subst hmn
      have cq : ((M : Int) == (M : Int)) = true := by simp
      cases k
      · have h0 : m ≠ 0 := by
          rw [bothR_all] at hm
          intro e
          have : r = [] := List.eq_nil_of_length_eq_zero (by omega)
          subst this
          simp at hm
        have MU : Hid (∀ W, Calls Tryz.prog 56 #[.int .i64 1, .slice a (m + 1) cap] W fun e w' => (∃ u p, e = .panicked [{ v := .iface u p, recovered := false }]) ∧ w' = W) := fun W => must_no 1 a (m + 1) cap W (by omega) hml
        clear hm hF hR ih
        go_enter Tryz.func55, Tryz.ntmps55
        go_wp2_with (first
          | (show aD 10 _ _ _ _ _ _ _ _ _ _ _; refine wpList_new_var rfl 25 rfl Z HA.out ?_; intro g10 wa HM10; try simp only [Act.put, pS1, pS2, pS3])
          | (show aD 11 _ _ _ _ _ _ _ _ _ _ _; refine wpList_new_var rfl 25 rfl Z HA.out ?_; intro g11 wb HM11; try simp only [Act.put, pS1, pS2, pS3])
          | fail)
        have HBB := hidk (HM10.out.below.trans (HM11.out.below.mono HM10.out.below.size))
        refine (MU.out _).mono ?_
        rintro e wc ⟨⟨u, q, rfl⟩, rfl⟩
        exact ⟨rfl, ⟨_, _, rfl⟩, HBB.out⟩
      · have MU : Hid (∀ W, Calls Tryz.prog 56 #[.int .i64 0, .slice a (m + 1) cap] W fun e w' => (∃ u p, e = .panicked [{ v := .iface u p, recovered := false }]) ∧ w' = W) := fun W => must_no 0 a (m + 1) cap W (by omega) hml
        clear hm hF hR ih
        go_enter Tryz.func55, Tryz.ntmps55
        go_wp2_with (first
          | (show aD 10 _ _ _ _ _ _ _ _ _ _ _; refine wpList_new_var rfl 25 rfl Z HA.out ?_; intro g10 wa HM10; try simp only [Act.put, pS1, pS2, pS3])
          | (show aD 11 _ _ _ _ _ _ _ _ _ _ _; refine wpList_new_var rfl 25 rfl Z HA.out ?_; intro g11 wb HM11; try simp only [Act.put, pS1, pS2, pS3])
          | fail)
        have HBB := hidk (HM10.out.below.trans (HM11.out.below.mono HM10.out.below.size))
        refine (MU.out _).mono ?_
        rintro e wc ⟨⟨u, q, rfl⟩, rfl⟩
        exact ⟨rfl, ⟨_, _, rfl⟩, HBB.out⟩
    · have cq : ((M : Int) == (N : Int)) = false := by rw [beq_eq_false_iff_ne]; omega
      obtain ⟨s, hs⟩ : ∃ s, s = split N := ⟨_, rfl⟩
      have hsl := split_lt N (by omega)
      have hsp := split_pos N (by omega)
      rw [← hs] at hsl hsp
      have SP : Hid (∀ W, Calls Tryz.prog 57 #[.int .i64 (N : Int)] W fun e w' => e = .returned (.int .i64 (s : Nat)) ∧ W = w') := fun W => by
        have := split_any (N : Int) W (by omega)
        rw [Int.toNat_natCast, ← hs] at this
        exact this
      obtain ⟨g, o, rfl, hgl⟩ := hR.at (by omega)
      have hRr : (d :: r).reverse = r.reverse ++ [d] := by simp
      have hd : d.length = 32 := hR.2.1 d (by simp)
      obtain ⟨D, HD, HSD, H1D, H32D⟩ := dig_row' d hd
      have HZD : Hid (Z.size = D.size) := by show _ = _; rw [H32.out, H32D.out]
      rw [hRr] at hR
      have CU : Hid (∀ W, Below w.heap.size w W → Calls Tryz.prog 58 #[.slice (some ⟨g, o, none⟩) (m + 1) cap] W fun e w' => e = .returned (.tuple #[.slice (some ⟨g, o, none⟩) m cap, .agg D]) ∧ Below W.heap.size W w') := fun W hb =>
        cut_ok g o m cap r.reverse d W (hR.keep hb) D HD
      have RR : ∀ W, Below w.heap.size w W → LReads W (some ⟨g, o, none⟩) m cap r.reverse := fun W hb => by
        have := (hR.keep hb).take m (by omega)
        rwa [List.take_left' (by simp [hmm])] at this
      have FN : Hid (∀ W, Below w.heap.size w W → W.cell? ⟨gf, 0, none⟩ = some (.func (.func 55) #[] #[.pointer (some ⟨gl, 0, none⟩), .pointer (some ⟨gf, 0, none⟩)])) := fun W hb => cell_of_one ((hb.block _ (heap_lt hF)).trans hF)
      have FH : ∀ W, Below w.heap.size w W → W.heap[gf]? = some (.cells #[.func (.func 55) #[] #[.pointer (some ⟨gl, 0, none⟩), .pointer (some ⟨gf, 0, none⟩)]] 90 (0, 0)) := fun W hb => (hb.block _ (heap_lt hF)).trans hF
      by_cases hle : M ≤ s
      · -- the left part
        cases k
        · skip
          have hm1 : (bothR r M s x false).2.2 = false := by rw [bothR_left d r M N x false hmn (by rw [← hs]; exact hle), ← hs] at hm; exact hm
          have IH : Hid (∀ W, Below w.heap.size w W → Calls Tryz.prog 55 #[.int .i64 (M : Int), .int .i64 (s : Int), .bool false, .slice (some ⟨g, o, none⟩) m cap, .pointer (some ⟨gl, 0, none⟩), .pointer (some ⟨gf, 0, none⟩)] W fun e w' => (∃ u p, e = .panicked [{ v := .iface u p, recovered := false }]) ∧ Below W.heap.size W w') := fun W hb => ih M s x false (some ⟨g, o, none⟩) m cap gl gf W hM1 hle (by omega) (RR W hb) (FH W hb) hm1
          have dl : (decide ((M : Int) ≤ (s : Int))) = true := by rw [decide_eq_true_eq]; omega
          have dl' : (decide (M ≤ s)) = true := by rw [decide_eq_true_eq]; omega
          clear hm hm1 hF hR ih FH RR hs hmm hRr
          go_enter Tryz.func55, Tryz.ntmps55
          go_wp2_with (first
            | (show aD 10 _ _ _ _ _ _ _ _ _ _ _; refine wpList_new_var rfl 25 rfl Z HA.out ?_; intro g10 wa HM10; try simp only [Act.put, pS1, pS2, pS3])
            | (show aD 11 _ _ _ _ _ _ _ _ _ _ _; refine wpList_new_var rfl 25 rfl Z HA.out ?_; intro g11 wb HM11; try simp only [Act.put, pS1, pS2, pS3])
            | fail)
          have HBB := hidk (HM10.out.below.trans (HM11.out.below.mono HM10.out.below.size))
          refine (SP.out _).mono ?_
          rintro e wc ⟨rfl, rfl⟩
          go_wp2_with fail
          refine (CU.out _ HBB.out).mono ?_
          rintro e wd ⟨rfl, hb3⟩
          have HB3 := hidk (HBB.out.trans (hb3.mono HBB.out.size))
          clear hb3 SP CU HBB
          go_wp2_with (first
            | (show aD 14 _ _ _ _ _ _ _ _ _ _ _; refine wpList_new_var rfl 25 rfl Z HA.out ?_; intro g14 we HM14; try simp only [Act.put, pS1, pS2, pS3])
            | (refine wpList_set_var rfl 25 (.tmp 14) (.tmp 46) rfl g14 D rfl rfl 25 Z HM14.out.row HSD.out HZD.out H1D.out ?_; intro wf HW14; have hcf := FN.out _ (HW14.out.below w.heap.size w (HB3.out.trans (HM14.out.below.mono HB3.out.size)) (by rw [HM14.out.new]; exact HB3.out.size)); try simp only [Act.put, pS1, pS2, pS3])
            | fail)
          have hg14 : w.heap.size ≤ g14 := by rw [HM14.out.new]; exact HB3.out.size
          have HB5 := hidk (HW14.out.below w.heap.size w (HB3.out.trans (HM14.out.below.mono HB3.out.size)) hg14)
          refine (IH.out _ HB5.out).mono ?_
          rintro e wg ⟨⟨u, q, rfl⟩, hb7⟩
          exact ⟨rfl, ⟨_, _, rfl⟩, HB5.out.trans (hb7.mono HB5.out.size)⟩
        · skip
          have hm1 : (bothR r M s x true).2.2 = false := by rw [bothR_left d r M N x true hmn (by rw [← hs]; exact hle), ← hs] at hm; exact hm
          have IH : Hid (∀ W, Below w.heap.size w W → Calls Tryz.prog 55 #[.int .i64 (M : Int), .int .i64 (s : Int), .bool true, .slice (some ⟨g, o, none⟩) m cap, .pointer (some ⟨gl, 0, none⟩), .pointer (some ⟨gf, 0, none⟩)] W fun e w' => (∃ u p, e = .panicked [{ v := .iface u p, recovered := false }]) ∧ Below W.heap.size W w') := fun W hb => ih M s x true (some ⟨g, o, none⟩) m cap gl gf W hM1 hle (by omega) (RR W hb) (FH W hb) hm1
          have dl : (decide ((M : Int) ≤ (s : Int))) = true := by rw [decide_eq_true_eq]; omega
          have dl' : (decide (M ≤ s)) = true := by rw [decide_eq_true_eq]; omega
          clear hm hm1 hF hR ih FH RR hs hmm hRr
          go_enter Tryz.func55, Tryz.ntmps55
          go_wp2_with (first
            | (show aD 10 _ _ _ _ _ _ _ _ _ _ _; refine wpList_new_var rfl 25 rfl Z HA.out ?_; intro g10 wa HM10; try simp only [Act.put, pS1, pS2, pS3])
            | (show aD 11 _ _ _ _ _ _ _ _ _ _ _; refine wpList_new_var rfl 25 rfl Z HA.out ?_; intro g11 wb HM11; try simp only [Act.put, pS1, pS2, pS3])
            | fail)
          have HBB := hidk (HM10.out.below.trans (HM11.out.below.mono HM10.out.below.size))
          refine (SP.out _).mono ?_
          rintro e wc ⟨rfl, rfl⟩
          go_wp2_with fail
          refine (CU.out _ HBB.out).mono ?_
          rintro e wd ⟨rfl, hb3⟩
          have HB3 := hidk (HBB.out.trans (hb3.mono HBB.out.size))
          clear hb3 SP CU HBB
          go_wp2_with (first
            | (show aD 14 _ _ _ _ _ _ _ _ _ _ _; refine wpList_new_var rfl 25 rfl Z HA.out ?_; intro g14 we HM14; try simp only [Act.put, pS1, pS2, pS3])
            | (refine wpList_set_var rfl 25 (.tmp 14) (.tmp 46) rfl g14 D rfl rfl 25 Z HM14.out.row HSD.out HZD.out H1D.out ?_; intro wf HW14; have hcf := FN.out _ (HW14.out.below w.heap.size w (HB3.out.trans (HM14.out.below.mono HB3.out.size)) (by rw [HM14.out.new]; exact HB3.out.size)); try simp only [Act.put, pS1, pS2, pS3])
            | fail)
          have hg14 : w.heap.size ≤ g14 := by rw [HM14.out.new]; exact HB3.out.size
          have HB5 := hidk (HW14.out.below w.heap.size w (HB3.out.trans (HM14.out.below.mono HB3.out.size)) hg14)
          refine (IH.out _ HB5.out).mono ?_
          rintro e wg ⟨⟨u, q, rfl⟩, hb7⟩
          exact ⟨rfl, ⟨_, _, rfl⟩, HB5.out.trans (hb7.mono HB5.out.size)⟩
      · -- the right part
        have hm1 : (bothR r (M - s) (N - s) x false).2.2 = false := by rw [bothR_right d r M N x k hmn (by rw [← hs]; exact hle), ← hs] at hm; exact hm
        have IH : Hid (∀ W, Below w.heap.size w W → Calls Tryz.prog 55 #[.int .i64 ((M : Int) - (s : Int)), .int .i64 ((N : Int) - (s : Int)), .bool false, .slice (some ⟨g, o, none⟩) m cap, .pointer (some ⟨gl, 0, none⟩), .pointer (some ⟨gf, 0, none⟩)] W fun e w' => (∃ u p, e = .panicked [{ v := .iface u p, recovered := false }]) ∧ Below W.heap.size W w') := fun W hb => by
          rw [show ((M : Int) - (s : Int)) = ((M - s : Nat) : Int) by omega, show ((N : Int) - (s : Int)) = ((N - s : Nat) : Int) by omega]
          exact ih (M - s) (N - s) x false (some ⟨g, o, none⟩) m cap gl gf W (by omega) (by omega) (by omega) (RR W hb) (FH W hb) hm1
        have dl : (decide ((M : Int) ≤ (s : Int))) = false := by rw [decide_eq_false_iff_not]; omega
        have dl' : (decide (M ≤ s)) = false := by rw [decide_eq_false_iff_not]; omega
        have wr1 := wrap_int ((M : Int) - (s : Int)) (by omega) (by omega)
        have wr2 := wrap_int ((N : Int) - (s : Int)) (by omega) (by omega)
        clear hm hm1 hF hR ih FH RR hs hmm hRr
        go_enter Tryz.func55, Tryz.ntmps55
        go_wp2_with (first
          | (show aD 10 _ _ _ _ _ _ _ _ _ _ _; refine wpList_new_var rfl 25 rfl Z HA.out ?_; intro g10 wa HM10; try simp only [Act.put, pS1, pS2, pS3])
          | (show aD 11 _ _ _ _ _ _ _ _ _ _ _; refine wpList_new_var rfl 25 rfl Z HA.out ?_; intro g11 wb HM11; try simp only [Act.put, pS1, pS2, pS3])
          | fail)
        have HBB := hidk (HM10.out.below.trans (HM11.out.below.mono HM10.out.below.size))
        refine (SP.out _).mono ?_
        rintro e wc ⟨rfl, rfl⟩
        go_wp2_with fail
        refine (CU.out _ HBB.out).mono ?_
        rintro e wd ⟨rfl, hb3⟩
        have HB3 := hidk (HBB.out.trans (hb3.mono HBB.out.size))
        clear hb3 SP CU HBB
        go_wp2_with (first
          | (show aD 14 _ _ _ _ _ _ _ _ _ _ _; refine wpList_new_var rfl 25 rfl Z HA.out ?_; intro g14 we HM14; try simp only [Act.put, pS1, pS2, pS3])
          | (refine wpList_set_var rfl 25 (.tmp 14) (.tmp 46) rfl g14 D rfl rfl 25 Z HM14.out.row HSD.out HZD.out H1D.out ?_; intro wf HW14; have hcf := FN.out _ (HW14.out.below w.heap.size w (HB3.out.trans (HM14.out.below.mono HB3.out.size)) (by rw [HM14.out.new]; exact HB3.out.size)); try simp only [Act.put, pS1, pS2, pS3])
          | fail)
        have hg14 : w.heap.size ≤ g14 := by rw [HM14.out.new]; exact HB3.out.size
        have HB5 := hidk (HW14.out.below w.heap.size w (HB3.out.trans (HM14.out.below.mono HB3.out.size)) hg14)
        refine (IH.out _ HB5.out).mono ?_
        rintro e wg ⟨⟨u, q, rfl⟩, hb7⟩
        exact ⟨rfl, ⟨_, _, rfl⟩, HB5.out.trans (hb7.mono HB5.out.size)⟩
set_option maxHeartbeats 8000000 in
theorem growm_ok (r : List (List UInt8)) : ∀ (M N : Nat) (x : List UInt8) (k : Bool) (a : Option Addr) (len cap gl gf : Nat) (w : World) (X : Array Value) (HX : Hid (X = (cellsOf x).toArray)) (hx : x.length = 32) (hM1 : 1 ≤ M) (hMN : M ≤ N) (hN : N ≤ 100000) (hR : LReads w a len cap r.reverse)
    (hF : w.heap[gf]? = some (.cells #[.func (.func 55) #[] #[.pointer (some ⟨gl, 0, none⟩), .pointer (some ⟨gf, 0, none⟩)]] 90 (0, 0))) (hL : w.heap[gl]? = some (.cells X 25 (0, 0))) (hK : Table 1 w) (hm : (bothR r M N x k).2.2 = true) (M1 : Array Value) (HM1 : Hid (M1 = (cellsOf (bothR r M N x k).1).toArray)) (M2 : Array Value) (HM2 : Hid (M2 = (cellsOf (bothR r M N x k).2.1).toArray)),
    Calls Tryz.prog 55 #[.int .i64 M, .int .i64 N, .bool k, .slice a len cap, .pointer (some ⟨gl, 0, none⟩), .pointer (some ⟨gf, 0, none⟩)] w fun e w' => e = .returned (.tuple #[.agg M1, .agg M2]) ∧ Below w.heap.size w w' := by
  induction r with
  | nil =>
    intro M N x k a len cap gl gf w X HX hx hM1 hMN hN hR hF hL hK hm M1 HM1 M2 HM2
    obtain ⟨Z, HZ, HA, HS, H1, H32⟩ := noughts27
    have hl : len = 0 := by have := hR.1; simpa using this.symm
    subst hl
    obtain ⟨hmn, hk⟩ : M = N ∧ k = true := by simpa [bothR] using hm
    subst hmn hk
    have hl1 : x.length = 32 := hx
    obtain rfl : M1 = X := by rw [HM1.out, HX.out]; rfl
    obtain rfl : M1 = M2 := by rw [HM2.out, HX.out]; rfl
    have HM1 := HX
    have HSM1 : Hid ((Tryz.prog.info? 25).map (·.size) = some M1.size) := by show _ = _; rw [size23, HM1.out]; simp [cellsOf_length, hl1]
    have H1M1 : Hid (M1.all (·.oneCell') = true) := by show _ = _; rw [HM1.out]; exact cellsOf_all _
    have HZM1 : Hid (Z.size = M1.size) := by show _ = _; rw [H32.out, HM1.out]; simp [cellsOf_length, hl1]
    have MU : Hid (∀ W, Calls Tryz.prog 56 #[.int .i64 0, .slice a 0 cap] W fun e w' => e = .returned (.tuple #[]) ∧ w' = W) := fun W => must_ok 0 a 0 cap W rfl (by unfold maxLen; omega)
    have cq : ((M : Int) == (M : Int)) = true := by simp
    have HL := hidk hL
    clear hm hF hR hK HX HM1 HM2 hL
    go_enter Tryz.func55, Tryz.ntmps55
    go_wp2_with (first
      | (show aD 10 _ _ _ _ _ _ _ _ _ _ _; refine wpList_new_var rfl 25 rfl Z HA.out ?_; intro g10 wa HM10; try simp only [Act.put, pS1, pS2, pS3])
      | (show aD 11 _ _ _ _ _ _ _ _ _ _ _; refine wpList_new_var rfl 25 rfl Z HA.out ?_; intro g11 wb HM11; try simp only [Act.put, pS1, pS2, pS3])
      | fail)
    have HBB := hidk (HM10.out.below.trans (HM11.out.below.mono HM10.out.below.size))
    have HK10 := hidk ((HM11.out.below.block _ (heap_lt HM10.out.row)).trans HM10.out.row)
    have h10 : w.heap.size ≤ g10 := Nat.le_of_eq HM10.out.new.symm
    have h11 : g10 < g11 := by rw [HM11.out.new]; exact heap_lt HM10.out.row
    refine (MU.out _).mono ?_
    rintro e wc ⟨rfl, rfl⟩
    have HLB := hidk ((HBB.out.block _ (heap_lt HL.out)).trans HL.out)
    have hgl : gl < w.heap.size := heap_lt HL.out
    have HBZ := HBB
    have HR11 := hidk HM11.out.row
    go_wp2
    refine wp_region_held_drew (S := (fun W => W.heap[gl]? = some (.cells M1 25 (0, 0)))) (by kernel_rfl) HLB.out (fun hHeld => ?_)
    refine zW 0 (.agg M1) rfl (yieldsIf_row (by rfl) 25 (.tmp 4) rfl gl rfl 25 M1 (0, 0) _ (fun _ h => h) Tryz.underlying25 rfl HSM1.out) hHeld ?_
    try simp only [Act.put, pS1, pS2, pS3]
    refine zW 1 (.agg M1) rfl (yieldsIf_row (by rfl) 25 (.tmp 4) rfl gl rfl 25 M1 (0, 0) _ (fun _ h => h) Tryz.underlying25 rfl HSM1.out) hHeld ?_
    try simp only [Act.put, pS1, pS2, pS3]
    refine wpAnyH_ready (rs := [2]) (by kernel_rfl) (by simp) ?_
    refine (AllReadyH.cons (o := { dst := none, op := .store 25 (.tmp 10) (.tmp 27), type := 0, pos := "check.go:118", after := #[zD 0, zP 0, { on := 1, ground := Ground.textOnly Departure.lateStores }], guard := none }) rfl (fun K hK => ?_) AllReadyH.nil)
    refine step_set_var (by rfl) 25 (.tmp 10) (.tmp 27) rfl g10 M1 rfl rfl 25 Z HK10.out HSM1.out HZM1.out H1M1.out ?_
    intro wx HW10
    refine hK.out _ _ ((HW10.out.other gl (by omega)).trans hHeld) (fun hHeld => ?_)
    clear hK K
    try simp only [Act.put, pS1, pS2, pS3]
    refine wpAnyH_ready (rs := [3]) (by kernel_rfl) (by simp) ?_
    refine (AllReadyH.cons (o := { dst := none, op := .store 25 (.tmp 11) (.tmp 28), type := 0, pos := "check.go:118", after := #[zD 1, zC 2, zP 0, zP 1, zP 2], guard := none }) rfl (fun K hK => ?_) AllReadyH.nil)
    refine step_set_var (by rfl) 25 (.tmp 11) (.tmp 28) rfl g11 M1 rfl rfl 25 Z ((HW10.out.other g11 (by omega)).trans HR11.out) HSM1.out HZM1.out H1M1.out ?_
    intro wy HW11
    refine hK.out _ _ ((HW11.out.other gl (by omega)).trans hHeld) (fun hHeld => ?_)
    clear hK K
    try simp only [Act.put, pS1, pS2, pS3]
    refine wpAnyH_done (by kernel_rfl) ?_ _
    go_wp2
    refine bodyPost_ret (v := .tuple #[.agg M1, .agg M1]) ?_ rfl ⟨rfl, HW11.out.below w.heap.size w (HW10.out.below w.heap.size w HBZ.out.drew (by omega)) (by omega)⟩
    exact results_row_row (p1 := 10) (p2 := 11) (ty := 25) rfl _ _ g10 g11 25 25 M1 M1 (0, 0) (0, 0) _ rfl rfl ((HW11.out.other g10 (by omega)).trans HW10.out.row) HW11.out.row Tryz.underlying25 rfl HSM1.out HSM1.out
  | cons d r ih =>
    intro M N x k a len cap gl gf w X HX hx hM1 hMN hN hR hF hL hK hm M1 HM1 M2 HM2
    obtain ⟨Z, HZ, HA, HS, H1, H32⟩ := noughts27
    have hlen : r.length + 1 = len := by have := hR.1; simpa using this
    obtain ⟨m, hmm⟩ : ∃ m, m = r.length := ⟨_, rfl⟩
    obtain rfl : len = m + 1 := by omega
    have hml := hR.2.2.2.1
    have hdr : Digs32 r := fun z hz => hR.2.1 z (by simp [hz])
    have hdr' : Digs32 (d :: r) := fun z hz => hR.2.1 z (List.mem_reverse.2 hz)
    by_cases hmn : M = N
    · subst hmn
      have cq : ((M : Int) == (M : Int)) = true := by simp
      cases k
      · rw [bothR_all] at hm HM1 HM2
        have hr0 : r = [] := by simpa using hm
        subst hr0
        obtain rfl : m = 0 := by simpa using hmm
        obtain ⟨g, o, rfl, hgl⟩ := hR.at (by omega)
        have hl1 : d.length = 32 := hdr' d (by simp)
        obtain rfl : M1 = M2 := by rw [HM1.out, HM2.out]
        have HSM1 : Hid ((Tryz.prog.info? 25).map (·.size) = some M1.size) := by show _ = _; rw [size23, HM1.out]; simp [cellsOf_length, hl1]
        have H1M1 : Hid (M1.all (·.oneCell') = true) := by show _ = _; rw [HM1.out]; exact cellsOf_all _
        have HZM1 : Hid (Z.size = M1.size) := by show _ = _; rw [H32.out, HM1.out]; simp [cellsOf_length, hl1]
        have HRG : Hid (w.rangeAt g o M1.toList) := by
          have := hR.range 0 (by simp)
          simp only [Nat.mul_zero, Nat.add_zero] at this
          rw [HM1.out]
          show w.rangeAt g o _
          simpa using this
        have hc1 : 1 ≤ cap := hR.2.2.1
        have idx : ∀ W, (Instr.indexAt 30 (.slice (some ⟨g, o, none⟩) 1 cap) (.int .i64 0)).run Tryz.prog W = .ok (.pointer (some ⟨g, o, none⟩)) W := fun W => by
          have := index_list W g o 1 cap 0 .i64 (by omega)
          simpa using this
        have MU : Hid (∀ W, Calls Tryz.prog 56 #[.int .i64 1, .slice (some ⟨g, o, none⟩) 1 cap] W fun e w' => e = .returned (.tuple #[]) ∧ w' = W) := fun W => must_ok 1 (some ⟨g, o, none⟩) 1 cap W rfl hml
        clear hm hF hR hK HX HM1 HM2 hL ih hmm
        go_enter Tryz.func55, Tryz.ntmps55
        go_wp2_with (first
          | (show aD 10 _ _ _ _ _ _ _ _ _ _ _; refine wpList_new_var rfl 25 rfl Z HA.out ?_; intro g10 wa HM10; try simp only [Act.put, pS1, pS2, pS3])
          | (show aD 11 _ _ _ _ _ _ _ _ _ _ _; refine wpList_new_var rfl 25 rfl Z HA.out ?_; intro g11 wb HM11; try simp only [Act.put, pS1, pS2, pS3])
          | fail)
        have HBB := hidk (HM10.out.below.trans (HM11.out.below.mono HM10.out.below.size))
        have HK10 := hidk ((HM11.out.below.block _ (heap_lt HM10.out.row)).trans HM10.out.row)
        have h10 : w.heap.size ≤ g10 := Nat.le_of_eq HM10.out.new.symm
        have h11 : g10 < g11 := by rw [HM11.out.new]; exact heap_lt HM10.out.row
        refine (MU.out _).mono ?_
        rintro e wc ⟨rfl, rfl⟩
        have HBZ := HBB
        have HR11 := hidk HM11.out.row
        go_wp2
        refine wp_region_held_drew (S := (fun W => W.rangeAt g o M1.toList)) (by kernel_rfl) (range_keep HBB.out.drew HRG.out) (fun hHeld => ?_)
        refine zX 0 (.slice (some ⟨g, o, none⟩) 1 cap) rfl hHeld ?_
        try simp only [Act.put, pS1, pS2, pS3]
        refine zW 1 (.pointer (some ⟨g, o, none⟩)) rfl (Or.inl ⟨by rfl, by intro W hSw; have := idx W; go_simp⟩) hHeld ?_
        try simp only [Act.put, pS1, pS2, pS3]
        refine zW 2 (.agg M1) rfl (yieldsIf_mid (by rfl) 25 (.tmp 35) rfl g o rfl M1 _ (fun _ h => h) Tryz.underlying25 rfl HSM1.out) hHeld ?_
        try simp only [Act.put, pS1, pS2, pS3]
        refine zX 3 (.slice (some ⟨g, o, none⟩) 1 cap) rfl hHeld ?_
        try simp only [Act.put, pS1, pS2, pS3]
        refine zW 4 (.pointer (some ⟨g, o, none⟩)) rfl (Or.inl ⟨by rfl, by intro W hSw; have := idx W; go_simp⟩) hHeld ?_
        try simp only [Act.put, pS1, pS2, pS3]
        refine zW 5 (.agg M1) rfl (yieldsIf_mid (by rfl) 25 (.tmp 38) rfl g o rfl M1 _ (fun _ h => h) Tryz.underlying25 rfl HSM1.out) hHeld ?_
        try simp only [Act.put, pS1, pS2, pS3]
        refine wpAnyH_ready (rs := [6]) (by kernel_rfl) (by simp) ?_
        refine (AllReadyH.cons (o := { dst := none, op := .store 25 (.tmp 10) (.tmp 36), type := 0, pos := "check.go:122", after := #[zD 2, zP 0, zP 1, zP 2, { on := 3, ground := Ground.textOnly Departure.lateStores }, { on := 4, ground := Ground.textOnly Departure.lateStores }, { on := 5, ground := Ground.textOnly Departure.lateStores }], guard := none }) rfl (fun K hK => ?_) AllReadyH.nil)
        refine step_set_var (by rfl) 25 (.tmp 10) (.tmp 36) rfl g10 M1 rfl rfl 25 Z HK10.out HSM1.out HZM1.out H1M1.out ?_
        intro wx HW10
        refine hK.out _ _ (fun j v hj => (World.cell?_of_block (a := ⟨g, o + j, none⟩) (HW10.out.other g (by omega))).trans (hHeld j v hj)) (fun hHeld => ?_)
        clear hK K
        try simp only [Act.put, pS1, pS2, pS3]
        refine wpAnyH_ready (rs := [7]) (by kernel_rfl) (by simp) ?_
        refine (AllReadyH.cons (o := { dst := none, op := .store 25 (.tmp 11) (.tmp 39), type := 0, pos := "check.go:122", after := #[zD 5, zC 6, zP 0, zP 1, zP 2, zP 3, zP 4, zP 5, zP 6], guard := none }) rfl (fun K hK => ?_) AllReadyH.nil)
        refine step_set_var (by rfl) 25 (.tmp 11) (.tmp 39) rfl g11 M1 rfl rfl 25 Z ((HW10.out.other g11 (by omega)).trans HR11.out) HSM1.out HZM1.out H1M1.out ?_
        intro wy HW11
        refine hK.out _ _ (fun j v hj => (World.cell?_of_block (a := ⟨g, o + j, none⟩) (HW11.out.other g (by omega))).trans (hHeld j v hj)) (fun hHeld => ?_)
        clear hK K
        try simp only [Act.put, pS1, pS2, pS3]
        refine wpAnyH_done (by kernel_rfl) ?_ _
        go_wp2
        refine bodyPost_ret (v := .tuple #[.agg M1, .agg M1]) ?_ rfl ⟨rfl, HW11.out.below w.heap.size w (HW10.out.below w.heap.size w HBZ.out.drew (by omega)) (by omega)⟩
        exact results_row_row (p1 := 10) (p2 := 11) (ty := 25) rfl _ _ g10 g11 25 25 M1 M1 (0, 0) (0, 0) _ rfl rfl ((HW11.out.other g10 (by omega)).trans HW10.out.row) HW11.out.row Tryz.underlying25 rfl HSM1.out HSM1.out
      · rw [bothR_known] at hm
        cases hm
    · have cq : ((M : Int) == (N : Int)) = false := by rw [beq_eq_false_iff_ne]; omega
      have hlt0 := bothR_length sumD_length (d :: r) M N x k hx hdr'
      have hl1 := hlt0.1
      have hl2 := hlt0.2
      have HSM1 : Hid ((Tryz.prog.info? 25).map (·.size) = some M1.size) := by show _ = _; rw [size23, HM1.out]; simp [cellsOf_length, hl1]
      have H1M1 : Hid (M1.all (·.oneCell') = true) := by show _ = _; rw [HM1.out]; exact cellsOf_all _
      have HZM1 : Hid (Z.size = M1.size) := by show _ = _; rw [H32.out, HM1.out]; simp [cellsOf_length, hl1]
      have HSM2 : Hid ((Tryz.prog.info? 25).map (·.size) = some M2.size) := by show _ = _; rw [size23, HM2.out]; simp [cellsOf_length, hl2]
      have H1M2 : Hid (M2.all (·.oneCell') = true) := by show _ = _; rw [HM2.out]; exact cellsOf_all _
      have HZM2 : Hid (Z.size = M2.size) := by show _ = _; rw [H32.out, HM2.out]; simp [cellsOf_length, hl2]
      clear hl1 hl2 hlt0
      obtain ⟨s, hs⟩ : ∃ s, s = split N := ⟨_, rfl⟩
      have hsl := split_lt N (by omega)
      have hsp := split_pos N (by omega)
      rw [← hs] at hsl hsp
      have SP : Hid (∀ W, Calls Tryz.prog 57 #[.int .i64 (N : Int)] W fun e w' => e = .returned (.int .i64 (s : Nat)) ∧ W = w') := fun W => by
        have := split_any (N : Int) W (by omega)
        rw [Int.toNat_natCast, ← hs] at this
        exact this
      obtain ⟨g, o, rfl, hgl⟩ := hR.at (by omega)
      have hRr : (d :: r).reverse = r.reverse ++ [d] := by simp
      have hd : d.length = 32 := hR.2.1 d (by simp)
      obtain ⟨D, HD, HSD, H1D, H32D⟩ := dig_row' d hd
      have HZD : Hid (Z.size = D.size) := by show _ = _; rw [H32.out, H32D.out]
      rw [hRr] at hR
      have CU : Hid (∀ W, Below w.heap.size w W → Calls Tryz.prog 58 #[.slice (some ⟨g, o, none⟩) (m + 1) cap] W fun e w' => e = .returned (.tuple #[.slice (some ⟨g, o, none⟩) m cap, .agg D]) ∧ Below W.heap.size W w') := fun W hb =>
        cut_ok g o m cap r.reverse d W (hR.keep hb) D HD
      have RR : ∀ W, Below w.heap.size w W → LReads W (some ⟨g, o, none⟩) m cap r.reverse := fun W hb => by
        have := (hR.keep hb).take m (by omega)
        rwa [List.take_left' (by simp [hmm])] at this
      have FN : Hid (∀ W, Below w.heap.size w W → W.cell? ⟨gf, 0, none⟩ = some (.func (.func 55) #[] #[.pointer (some ⟨gl, 0, none⟩), .pointer (some ⟨gf, 0, none⟩)])) := fun W hb => cell_of_one ((hb.block _ (heap_lt hF)).trans hF)
      have FH : ∀ W, Below w.heap.size w W → W.heap[gf]? = some (.cells #[.func (.func 55) #[] #[.pointer (some ⟨gl, 0, none⟩), .pointer (some ⟨gf, 0, none⟩)]] 90 (0, 0)) := fun W hb => (hb.block _ (heap_lt hF)).trans hF
      by_cases hle : M ≤ s
      · -- the left part
        cases k
        · skip
          have hlt := bothR_length sumD_length r M s x false hx hdr
          obtain ⟨A1, HA1, HSA1, H1A1, H32A1⟩ := dig_row' (bothR r M s x false).1 hlt.1
          obtain ⟨A2, HA2, HSA2, H1A2, H32A2⟩ := dig_row' (bothR r M s x false).2.1 hlt.2
          have HZA1 : Hid (Z.size = A1.size) := by show _ = _; rw [H32.out, H32A1.out]
          have HZA2 : Hid (Z.size = A2.size) := by show _ = _; rw [H32.out, H32A2.out]
          have hE := bothR_left d r M N x false hmn (by rw [← hs]; exact hle)
          rw [← hs] at hE
          rw [hE] at hm HM1 HM2
          have IH : Hid (∀ W, Below w.heap.size w W → Calls Tryz.prog 55 #[.int .i64 (M : Int), .int .i64 (s : Int), .bool false, .slice (some ⟨g, o, none⟩) m cap, .pointer (some ⟨gl, 0, none⟩), .pointer (some ⟨gf, 0, none⟩)] W fun e w' => e = .returned (.tuple #[.agg A1, .agg A2]) ∧ Below W.heap.size W w') := fun W hb => ih M s x false (some ⟨g, o, none⟩) m cap gl gf W X HX hx (by omega) (by omega) (by omega) (RR W hb) (FH W hb) ((hb.block _ (heap_lt hL)).trans hL) (hK.keep hb) hm A1 HA1 A2 HA2
          have dl : (decide ((M : Int) ≤ (s : Int))) = true := by rw [decide_eq_true_eq]; omega
          have dl' : (decide (M ≤ s)) = true := by rw [decide_eq_true_eq]; omega
          obtain rfl : A1 = M1 := by rw [HM1.out, HA1.out]
          obtain ⟨KK, HKK, HSK, H1K, H64K⟩ := knot_row ((bothR r M s x false).2.1 ++ d) (by rw [List.length_append, hlt.2, hd])
          have BK : Hid (∀ W, (Instr.build 96 #[(0, .agg A2), (1, .agg D)]).run Tryz.prog W = .ok (.agg KK) W) := fun W => build_knot W A2 D KK H32A2.out H32D.out (by rw [HKK.out, HA2.out, HD.out]; simp [cellsOf_append])
          have SU : Hid (∀ W, Below w.heap.size w W → Calls Tryz.prog 59 #[.agg KK] W fun e w' => e = .returned (.agg M2) ∧ Below W.heap.size W w') := fun W hb => sum_any (bothR r M s x false).2.1 d hlt.2 hd W (hK.keep hb) KK HKK M2 HM2
          clear hm hE hF hR ih FH RR hs hmm hRr hK hL HM1 HM2 HKK hlt HD
          go_enter Tryz.func55, Tryz.ntmps55
          go_wp2_with (first
            | (show aD 10 _ _ _ _ _ _ _ _ _ _ _; refine wpList_new_var rfl 25 rfl Z HA.out ?_; intro g10 wa HM10; try simp only [Act.put, pS1, pS2, pS3])
            | (show aD 11 _ _ _ _ _ _ _ _ _ _ _; refine wpList_new_var rfl 25 rfl Z HA.out ?_; intro g11 wb HM11; try simp only [Act.put, pS1, pS2, pS3])
            | fail)
          have HBB := hidk (HM10.out.below.trans (HM11.out.below.mono HM10.out.below.size))
          have HK10 := hidk ((HM11.out.below.block _ (heap_lt HM10.out.row)).trans HM10.out.row)
          have h10 : w.heap.size ≤ g10 := Nat.le_of_eq HM10.out.new.symm
          have h11 : g10 < g11 := by rw [HM11.out.new]; exact heap_lt HM10.out.row
          refine (SP.out _).mono ?_
          rintro e wc ⟨rfl, rfl⟩
          go_wp2_with fail
          refine (CU.out _ HBB.out).mono ?_
          rintro e wd ⟨rfl, hb3⟩
          have HB3 := hidk (HBB.out.trans (hb3.mono HBB.out.size))
          have HR10 := hidk ((hb3.block _ (heap_lt (HK10.out))).trans HK10.out)
          have HR11 := hidk ((hb3.block _ (heap_lt HM11.out.row)).trans HM11.out.row)
          clear hb3 SP CU HBB
          go_wp2_with (first
            | (show aD 14 _ _ _ _ _ _ _ _ _ _ _; refine wpList_new_var rfl 25 rfl Z HA.out ?_; intro g14 we HM14; try simp only [Act.put, pS1, pS2, pS3])
            | (refine wpList_set_var rfl 25 (.tmp 14) (.tmp 46) rfl g14 D rfl rfl 25 Z HM14.out.row HSD.out HZD.out H1D.out ?_; intro wf HW14; have hcf := FN.out _ (HW14.out.below w.heap.size w (HB3.out.trans (HM14.out.below.mono HB3.out.size)) (by rw [HM14.out.new]; exact HB3.out.size)); try simp only [Act.put, pS1, pS2, pS3])
            | fail)
          have hg14 : w.heap.size ≤ g14 := by rw [HM14.out.new]; exact HB3.out.size
          have HB5 := hidk (HW14.out.below w.heap.size w (HB3.out.trans (HM14.out.below.mono HB3.out.size)) hg14)
          have HR10w := hidk ((HW14.out.other g10 (by have := heap_lt HR10.out; have := HM14.out.new; omega)).trans ((HM14.out.below.block _ (heap_lt HR10.out)).trans HR10.out))
          have HR11w := hidk ((HW14.out.other g11 (by have := heap_lt HR11.out; have := HM14.out.new; omega)).trans ((HM14.out.below.block _ (heap_lt HR11.out)).trans HR11.out))
          have h14 : g11 < g14 := by rw [HM14.out.new]; exact heap_lt HR11.out
          have HR14 := hidk HW14.out.row
          clear HR10 HR11 HM14 HW14 HB3 HK10 HM10 HM11
          refine (IH.out _ HB5.out).mono ?_
          rintro e wg ⟨rfl, hb7⟩
          have HB7 := hidk (HB5.out.trans (hb7.mono HB5.out.size))
          have HR10g := hidk ((hb7.block _ (heap_lt HR10w.out)).trans HR10w.out)
          have HR11g := hidk ((hb7.block _ (heap_lt HR11w.out)).trans HR11w.out)
          have HR14g := hidk ((hb7.block _ (heap_lt HR14.out)).trans HR14.out)
          clear hb7 hcf IH FN HR10w HR11w HR14 HB5
          go_wp2_with (first
            | (show aD 15 _ _ _ _ _ _ _ _ _ _ _; refine wpList_new_var rfl 25 rfl Z HA.out ?_; intro ga wh HMa; try simp only [Act.put, pS1, pS2, pS3])
            | (show aD 16 _ _ _ _ _ _ _ _ _ _ _; refine wpList_new_var rfl 25 rfl Z HA.out ?_; intro gb wi HMb; have HKa := hidk ((HMb.out.below.block _ (heap_lt HMa.out.row)).trans HMa.out.row); have hab : ga < gb := by { rw [HMb.out.new]; exact heap_lt HMa.out.row }; try simp only [Act.put, pS1, pS2, pS3])
            | (refine wpList_set_var rfl 25 (.tmp 15) (.tmp 57) rfl ga A1 rfl rfl 25 Z HKa.out HSA1.out HZA1.out H1A1.out ?_; intro wj HWa; have HKb := hidk ((HWa.out.other gb (by omega)).trans HMb.out.row); try simp only [Act.put, pS1, pS2, pS3])
            | (refine wpList_set_var rfl 25 (.tmp 16) (.tmp 58) rfl gb A2 rfl rfl 25 Z HKb.out HSA2.out HZA2.out H1A2.out ?_; intro wk HWb; try simp only [Act.put, pS1, pS2, pS3])
            | fail)
          have hga : wg.heap.size = ga := HMa.out.new.symm
          have hl14 := heap_lt HR14g.out
          have hl10 := heap_lt HR10g.out
          have hl11 := heap_lt HR11g.out
          have HBk := hidk (HWb.out.below wg.heap.size wg (HWa.out.below wg.heap.size wg (HMa.out.below.trans (HMb.out.below.mono HMa.out.below.size)) (by omega)) (by omega))
          have HBX := hidk (HB7.out.trans (HBk.out.mono HB7.out.size))
          have HR10k := hidk ((HBk.out.block _ hl10).trans HR10g.out)
          have HR11k := hidk ((HBk.out.block _ hl11).trans HR11g.out)
          have HR14k := hidk ((HBk.out.block _ hl14).trans HR14g.out)
          have HRa := hidk ((HWb.out.other ga (by omega)).trans HWa.out.row)
          have HRb := hidk HWb.out.row
          have hgb : gb < wk.heap.size := heap_lt HRb.out
          clear HMa HMb HKa HKb HWa HWb HBk HR10g HR11g HR14g HB7
          refine wp_region_held_drew (S := (fun W => W.heap[ga]? = some (.cells A1 25 (0, 0)) ∧ W.heap[gb]? = some (.cells A2 25 (0, 0)) ∧ W.heap[g14]? = some (.cells D 25 (0, 0)))) (by kernel_rfl) ⟨HRa.out, HRb.out, HR14k.out⟩ (fun hHeld => ?_)
          refine zW 0 (.agg A1) rfl (yieldsIf_row (by rfl) 25 (.tmp 15) rfl ga rfl 25 A1 (0, 0) _ (fun _ h => h.1) Tryz.underlying25 rfl HSA1.out) hHeld ?_
          try simp only [Act.put, pS1, pS2, pS3]
          refine zW 1 (.agg A2) rfl (yieldsIf_row (by rfl) 25 (.tmp 16) rfl gb rfl 25 A2 (0, 0) _ (fun _ h => h.2.1) Tryz.underlying25 rfl HSA2.out) hHeld ?_
          try simp only [Act.put, pS1, pS2, pS3]
          refine zW 2 (.agg D) rfl (yieldsIf_row (by rfl) 25 (.tmp 14) rfl g14 rfl 25 D (0, 0) _ (fun _ h => h.2.2) Tryz.underlying25 rfl HSD.out) hHeld ?_
          try simp only [Act.put, pS1, pS2, pS3]
          refine zW 3 (.agg KK) rfl (yieldsIf_build (by rfl) 96 _ rfl #[(0, .agg A2), (1, .agg D)] rfl (.agg KK) BK.out) hHeld ?_
          try simp only [Act.put, pS1, pS2, pS3]
          refine wpAnyH_ready (rs := [4]) (by kernel_rfl) (by simp) ?_
          refine (AllReadyH.cons (o := { dst := some 63, op := .call { callee := .value (.func 59), args := #[.tmp 62], argTypes := #[96] }, type := 25, pos := "check.go:128", after := #[zD 3], guard := none }) rfl (fun K hK => ?_) AllReadyH.nil)
          go_simp
          refine (SU.out _ HBX.out.drew).mono ?_
          rintro e w4 ⟨rfl, hb4⟩
          have HBS := hidk (HBX.out.drew.trans (hb4.mono HBX.out.size))
          have HR10s := hidk ((hb4.block _ (heap_lt HR10k.out)).trans HR10k.out)
          have HR11s := hidk ((hb4.block _ (heap_lt HR11k.out)).trans HR11k.out)
          go_wp2_with fail
          refine hK.out _ _ ⟨(hb4.block _ (heap_lt hHeld.1)).trans hHeld.1, (hb4.block _ (heap_lt hHeld.2.1)).trans hHeld.2.1, (hb4.block _ (heap_lt hHeld.2.2)).trans hHeld.2.2⟩ (fun hHeld => ?_)
          clear hK K
          try simp only [Act.put, pS1, pS2, pS3]
          refine wpAnyH_ready (rs := [5]) (by kernel_rfl) (by simp) ?_
          refine (AllReadyH.cons (o := { dst := none, op := .store 25 (.tmp 10) (.tmp 59), type := 0, pos := "check.go:128", after := #[zD 0, zC 4, zP 0, { on := 1, ground := Ground.textOnly Departure.lateStores }, { on := 2, ground := Ground.textOnly Departure.lateStores }, { on := 3, ground := Ground.textOnly Departure.lateStores }, { on := 4, ground := Ground.textOnly Departure.lateStoresUnsure }], guard := none }) rfl (fun K hK => ?_) AllReadyH.nil)
          refine step_set_var (by rfl) 25 (.tmp 10) (.tmp 59) rfl g10 A1 rfl rfl 25 Z HR10s.out HSA1.out HZA1.out H1A1.out ?_
          intro wx HW10
          refine hK.out _ _ ⟨(HW10.out.other ga (by omega)).trans hHeld.1, (HW10.out.other gb (by omega)).trans hHeld.2.1, (HW10.out.other g14 (by omega)).trans hHeld.2.2⟩ (fun hHeld => ?_)
          clear hK K
          try simp only [Act.put, pS1, pS2, pS3]
          refine wpAnyH_ready (rs := [6]) (by kernel_rfl) (by simp) ?_
          refine (AllReadyH.cons (o := { dst := none, op := .store 25 (.tmp 11) (.tmp 63), type := 0, pos := "check.go:128", after := #[zD 4, zC 5, zP 0, zP 1, zP 2, zP 3, zP 4, zP 5], guard := none }) rfl (fun K hK => ?_) AllReadyH.nil)
          refine step_set_var (by rfl) 25 (.tmp 11) (.tmp 63) rfl g11 M2 rfl rfl 25 Z ((HW10.out.other g11 (by omega)).trans HR11s.out) HSM2.out HZM2.out H1M2.out ?_
          intro wy HW11
          refine hK.out _ _ ⟨(HW11.out.other ga (by omega)).trans hHeld.1, (HW11.out.other gb (by omega)).trans hHeld.2.1, (HW11.out.other g14 (by omega)).trans hHeld.2.2⟩ (fun hHeld => ?_)
          clear hK K
          try simp only [Act.put, pS1, pS2, pS3]
          refine wpAnyH_done (by kernel_rfl) ?_ _
          go_wp2
          refine bodyPost_ret (v := .tuple #[.agg A1, .agg M2]) ?_ rfl ⟨rfl, HW11.out.below w.heap.size w (HW10.out.below w.heap.size w HBS.out (by omega)) (by omega)⟩
          exact results_row_row (p1 := 10) (p2 := 11) (ty := 25) rfl _ _ g10 g11 25 25 A1 M2 (0, 0) (0, 0) _ rfl rfl ((HW11.out.other g10 (by omega)).trans HW10.out.row) HW11.out.row Tryz.underlying25 rfl HSA1.out HSM2.out
        · skip
          have hlt := bothR_length sumD_length r M s x true hx hdr
          obtain ⟨A1, HA1, HSA1, H1A1, H32A1⟩ := dig_row' (bothR r M s x true).1 hlt.1
          obtain ⟨A2, HA2, HSA2, H1A2, H32A2⟩ := dig_row' (bothR r M s x true).2.1 hlt.2
          have HZA1 : Hid (Z.size = A1.size) := by show _ = _; rw [H32.out, H32A1.out]
          have HZA2 : Hid (Z.size = A2.size) := by show _ = _; rw [H32.out, H32A2.out]
          have hE := bothR_left d r M N x true hmn (by rw [← hs]; exact hle)
          rw [← hs] at hE
          rw [hE] at hm HM1 HM2
          have IH : Hid (∀ W, Below w.heap.size w W → Calls Tryz.prog 55 #[.int .i64 (M : Int), .int .i64 (s : Int), .bool true, .slice (some ⟨g, o, none⟩) m cap, .pointer (some ⟨gl, 0, none⟩), .pointer (some ⟨gf, 0, none⟩)] W fun e w' => e = .returned (.tuple #[.agg A1, .agg A2]) ∧ Below W.heap.size W w') := fun W hb => ih M s x true (some ⟨g, o, none⟩) m cap gl gf W X HX hx (by omega) (by omega) (by omega) (RR W hb) (FH W hb) ((hb.block _ (heap_lt hL)).trans hL) (hK.keep hb) hm A1 HA1 A2 HA2
          have dl : (decide ((M : Int) ≤ (s : Int))) = true := by rw [decide_eq_true_eq]; omega
          have dl' : (decide (M ≤ s)) = true := by rw [decide_eq_true_eq]; omega
          obtain rfl : A1 = M1 := by rw [HM1.out, HA1.out]
          obtain ⟨KK, HKK, HSK, H1K, H64K⟩ := knot_row ((bothR r M s x true).2.1 ++ d) (by rw [List.length_append, hlt.2, hd])
          have BK : Hid (∀ W, (Instr.build 96 #[(0, .agg A2), (1, .agg D)]).run Tryz.prog W = .ok (.agg KK) W) := fun W => build_knot W A2 D KK H32A2.out H32D.out (by rw [HKK.out, HA2.out, HD.out]; simp [cellsOf_append])
          have SU : Hid (∀ W, Below w.heap.size w W → Calls Tryz.prog 59 #[.agg KK] W fun e w' => e = .returned (.agg M2) ∧ Below W.heap.size W w') := fun W hb => sum_any (bothR r M s x true).2.1 d hlt.2 hd W (hK.keep hb) KK HKK M2 HM2
          clear hm hE hF hR ih FH RR hs hmm hRr hK hL HM1 HM2 HKK hlt HD
          go_enter Tryz.func55, Tryz.ntmps55
          go_wp2_with (first
            | (show aD 10 _ _ _ _ _ _ _ _ _ _ _; refine wpList_new_var rfl 25 rfl Z HA.out ?_; intro g10 wa HM10; try simp only [Act.put, pS1, pS2, pS3])
            | (show aD 11 _ _ _ _ _ _ _ _ _ _ _; refine wpList_new_var rfl 25 rfl Z HA.out ?_; intro g11 wb HM11; try simp only [Act.put, pS1, pS2, pS3])
            | fail)
          have HBB := hidk (HM10.out.below.trans (HM11.out.below.mono HM10.out.below.size))
          have HK10 := hidk ((HM11.out.below.block _ (heap_lt HM10.out.row)).trans HM10.out.row)
          have h10 : w.heap.size ≤ g10 := Nat.le_of_eq HM10.out.new.symm
          have h11 : g10 < g11 := by rw [HM11.out.new]; exact heap_lt HM10.out.row
          refine (SP.out _).mono ?_
          rintro e wc ⟨rfl, rfl⟩
          go_wp2_with fail
          refine (CU.out _ HBB.out).mono ?_
          rintro e wd ⟨rfl, hb3⟩
          have HB3 := hidk (HBB.out.trans (hb3.mono HBB.out.size))
          have HR10 := hidk ((hb3.block _ (heap_lt (HK10.out))).trans HK10.out)
          have HR11 := hidk ((hb3.block _ (heap_lt HM11.out.row)).trans HM11.out.row)
          clear hb3 SP CU HBB
          go_wp2_with (first
            | (show aD 14 _ _ _ _ _ _ _ _ _ _ _; refine wpList_new_var rfl 25 rfl Z HA.out ?_; intro g14 we HM14; try simp only [Act.put, pS1, pS2, pS3])
            | (refine wpList_set_var rfl 25 (.tmp 14) (.tmp 46) rfl g14 D rfl rfl 25 Z HM14.out.row HSD.out HZD.out H1D.out ?_; intro wf HW14; have hcf := FN.out _ (HW14.out.below w.heap.size w (HB3.out.trans (HM14.out.below.mono HB3.out.size)) (by rw [HM14.out.new]; exact HB3.out.size)); try simp only [Act.put, pS1, pS2, pS3])
            | fail)
          have hg14 : w.heap.size ≤ g14 := by rw [HM14.out.new]; exact HB3.out.size
          have HB5 := hidk (HW14.out.below w.heap.size w (HB3.out.trans (HM14.out.below.mono HB3.out.size)) hg14)
          have HR10w := hidk ((HW14.out.other g10 (by have := heap_lt HR10.out; have := HM14.out.new; omega)).trans ((HM14.out.below.block _ (heap_lt HR10.out)).trans HR10.out))
          have HR11w := hidk ((HW14.out.other g11 (by have := heap_lt HR11.out; have := HM14.out.new; omega)).trans ((HM14.out.below.block _ (heap_lt HR11.out)).trans HR11.out))
          have h14 : g11 < g14 := by rw [HM14.out.new]; exact heap_lt HR11.out
          have HR14 := hidk HW14.out.row
          clear HR10 HR11 HM14 HW14 HB3 HK10 HM10 HM11
          refine (IH.out _ HB5.out).mono ?_
          rintro e wg ⟨rfl, hb7⟩
          have HB7 := hidk (HB5.out.trans (hb7.mono HB5.out.size))
          have HR10g := hidk ((hb7.block _ (heap_lt HR10w.out)).trans HR10w.out)
          have HR11g := hidk ((hb7.block _ (heap_lt HR11w.out)).trans HR11w.out)
          have HR14g := hidk ((hb7.block _ (heap_lt HR14.out)).trans HR14.out)
          clear hb7 hcf IH FN HR10w HR11w HR14 HB5
          go_wp2_with (first
            | (show aD 15 _ _ _ _ _ _ _ _ _ _ _; refine wpList_new_var rfl 25 rfl Z HA.out ?_; intro ga wh HMa; try simp only [Act.put, pS1, pS2, pS3])
            | (show aD 16 _ _ _ _ _ _ _ _ _ _ _; refine wpList_new_var rfl 25 rfl Z HA.out ?_; intro gb wi HMb; have HKa := hidk ((HMb.out.below.block _ (heap_lt HMa.out.row)).trans HMa.out.row); have hab : ga < gb := by { rw [HMb.out.new]; exact heap_lt HMa.out.row }; try simp only [Act.put, pS1, pS2, pS3])
            | (refine wpList_set_var rfl 25 (.tmp 15) (.tmp 57) rfl ga A1 rfl rfl 25 Z HKa.out HSA1.out HZA1.out H1A1.out ?_; intro wj HWa; have HKb := hidk ((HWa.out.other gb (by omega)).trans HMb.out.row); try simp only [Act.put, pS1, pS2, pS3])
            | (refine wpList_set_var rfl 25 (.tmp 16) (.tmp 58) rfl gb A2 rfl rfl 25 Z HKb.out HSA2.out HZA2.out H1A2.out ?_; intro wk HWb; try simp only [Act.put, pS1, pS2, pS3])
            | fail)
          have hga : wg.heap.size = ga := HMa.out.new.symm
          have hl14 := heap_lt HR14g.out
          have hl10 := heap_lt HR10g.out
          have hl11 := heap_lt HR11g.out
          have HBk := hidk (HWb.out.below wg.heap.size wg (HWa.out.below wg.heap.size wg (HMa.out.below.trans (HMb.out.below.mono HMa.out.below.size)) (by omega)) (by omega))
          have HBX := hidk (HB7.out.trans (HBk.out.mono HB7.out.size))
          have HR10k := hidk ((HBk.out.block _ hl10).trans HR10g.out)
          have HR11k := hidk ((HBk.out.block _ hl11).trans HR11g.out)
          have HR14k := hidk ((HBk.out.block _ hl14).trans HR14g.out)
          have HRa := hidk ((HWb.out.other ga (by omega)).trans HWa.out.row)
          have HRb := hidk HWb.out.row
          have hgb : gb < wk.heap.size := heap_lt HRb.out
          clear HMa HMb HKa HKb HWa HWb HBk HR10g HR11g HR14g HB7
          refine wp_region_held_drew (S := (fun W => W.heap[ga]? = some (.cells A1 25 (0, 0)) ∧ W.heap[gb]? = some (.cells A2 25 (0, 0)) ∧ W.heap[g14]? = some (.cells D 25 (0, 0)))) (by kernel_rfl) ⟨HRa.out, HRb.out, HR14k.out⟩ (fun hHeld => ?_)
          refine zW 0 (.agg A1) rfl (yieldsIf_row (by rfl) 25 (.tmp 15) rfl ga rfl 25 A1 (0, 0) _ (fun _ h => h.1) Tryz.underlying25 rfl HSA1.out) hHeld ?_
          try simp only [Act.put, pS1, pS2, pS3]
          refine zW 1 (.agg A2) rfl (yieldsIf_row (by rfl) 25 (.tmp 16) rfl gb rfl 25 A2 (0, 0) _ (fun _ h => h.2.1) Tryz.underlying25 rfl HSA2.out) hHeld ?_
          try simp only [Act.put, pS1, pS2, pS3]
          refine zW 2 (.agg D) rfl (yieldsIf_row (by rfl) 25 (.tmp 14) rfl g14 rfl 25 D (0, 0) _ (fun _ h => h.2.2) Tryz.underlying25 rfl HSD.out) hHeld ?_
          try simp only [Act.put, pS1, pS2, pS3]
          refine zW 3 (.agg KK) rfl (yieldsIf_build (by rfl) 96 _ rfl #[(0, .agg A2), (1, .agg D)] rfl (.agg KK) BK.out) hHeld ?_
          try simp only [Act.put, pS1, pS2, pS3]
          refine wpAnyH_ready (rs := [4]) (by kernel_rfl) (by simp) ?_
          refine (AllReadyH.cons (o := { dst := some 63, op := .call { callee := .value (.func 59), args := #[.tmp 62], argTypes := #[96] }, type := 25, pos := "check.go:128", after := #[zD 3], guard := none }) rfl (fun K hK => ?_) AllReadyH.nil)
          go_simp
          refine (SU.out _ HBX.out.drew).mono ?_
          rintro e w4 ⟨rfl, hb4⟩
          have HBS := hidk (HBX.out.drew.trans (hb4.mono HBX.out.size))
          have HR10s := hidk ((hb4.block _ (heap_lt HR10k.out)).trans HR10k.out)
          have HR11s := hidk ((hb4.block _ (heap_lt HR11k.out)).trans HR11k.out)
          go_wp2_with fail
          refine hK.out _ _ ⟨(hb4.block _ (heap_lt hHeld.1)).trans hHeld.1, (hb4.block _ (heap_lt hHeld.2.1)).trans hHeld.2.1, (hb4.block _ (heap_lt hHeld.2.2)).trans hHeld.2.2⟩ (fun hHeld => ?_)
          clear hK K
          try simp only [Act.put, pS1, pS2, pS3]
          refine wpAnyH_ready (rs := [5]) (by kernel_rfl) (by simp) ?_
          refine (AllReadyH.cons (o := { dst := none, op := .store 25 (.tmp 10) (.tmp 59), type := 0, pos := "check.go:128", after := #[zD 0, zC 4, zP 0, { on := 1, ground := Ground.textOnly Departure.lateStores }, { on := 2, ground := Ground.textOnly Departure.lateStores }, { on := 3, ground := Ground.textOnly Departure.lateStores }, { on := 4, ground := Ground.textOnly Departure.lateStoresUnsure }], guard := none }) rfl (fun K hK => ?_) AllReadyH.nil)
          refine step_set_var (by rfl) 25 (.tmp 10) (.tmp 59) rfl g10 A1 rfl rfl 25 Z HR10s.out HSA1.out HZA1.out H1A1.out ?_
          intro wx HW10
          refine hK.out _ _ ⟨(HW10.out.other ga (by omega)).trans hHeld.1, (HW10.out.other gb (by omega)).trans hHeld.2.1, (HW10.out.other g14 (by omega)).trans hHeld.2.2⟩ (fun hHeld => ?_)
          clear hK K
          try simp only [Act.put, pS1, pS2, pS3]
          refine wpAnyH_ready (rs := [6]) (by kernel_rfl) (by simp) ?_
          refine (AllReadyH.cons (o := { dst := none, op := .store 25 (.tmp 11) (.tmp 63), type := 0, pos := "check.go:128", after := #[zD 4, zC 5, zP 0, zP 1, zP 2, zP 3, zP 4, zP 5], guard := none }) rfl (fun K hK => ?_) AllReadyH.nil)
          refine step_set_var (by rfl) 25 (.tmp 11) (.tmp 63) rfl g11 M2 rfl rfl 25 Z ((HW10.out.other g11 (by omega)).trans HR11s.out) HSM2.out HZM2.out H1M2.out ?_
          intro wy HW11
          refine hK.out _ _ ⟨(HW11.out.other ga (by omega)).trans hHeld.1, (HW11.out.other gb (by omega)).trans hHeld.2.1, (HW11.out.other g14 (by omega)).trans hHeld.2.2⟩ (fun hHeld => ?_)
          clear hK K
          try simp only [Act.put, pS1, pS2, pS3]
          refine wpAnyH_done (by kernel_rfl) ?_ _
          go_wp2
          refine bodyPost_ret (v := .tuple #[.agg A1, .agg M2]) ?_ rfl ⟨rfl, HW11.out.below w.heap.size w (HW10.out.below w.heap.size w HBS.out (by omega)) (by omega)⟩
          exact results_row_row (p1 := 10) (p2 := 11) (ty := 25) rfl _ _ g10 g11 25 25 A1 M2 (0, 0) (0, 0) _ rfl rfl ((HW11.out.other g10 (by omega)).trans HW10.out.row) HW11.out.row Tryz.underlying25 rfl HSA1.out HSM2.out
      · -- the right part
        have hlt := bothR_length sumD_length r (M - s) (N - s) x false hx hdr
        obtain ⟨A1, HA1, HSA1, H1A1, H32A1⟩ := dig_row' (bothR r (M - s) (N - s) x false).1 hlt.1
        obtain ⟨A2, HA2, HSA2, H1A2, H32A2⟩ := dig_row' (bothR r (M - s) (N - s) x false).2.1 hlt.2
        have HZA1 : Hid (Z.size = A1.size) := by show _ = _; rw [H32.out, H32A1.out]
        have HZA2 : Hid (Z.size = A2.size) := by show _ = _; rw [H32.out, H32A2.out]
        have hE := bothR_right d r M N x k hmn (by rw [← hs]; exact hle)
        rw [← hs] at hE
        rw [hE] at hm HM1 HM2
        have IH : Hid (∀ W, Below w.heap.size w W → Calls Tryz.prog 55 #[.int .i64 ((M : Int) - (s : Int)), .int .i64 ((N : Int) - (s : Int)), .bool false, .slice (some ⟨g, o, none⟩) m cap, .pointer (some ⟨gl, 0, none⟩), .pointer (some ⟨gf, 0, none⟩)] W fun e w' => e = .returned (.tuple #[.agg A1, .agg A2]) ∧ Below W.heap.size W w') := fun W hb => by
          rw [show ((M : Int) - (s : Int)) = ((M - s : Nat) : Int) by omega, show ((N : Int) - (s : Int)) = ((N - s : Nat) : Int) by omega]
          exact ih (M - s) (N - s) x false (some ⟨g, o, none⟩) m cap gl gf W X HX hx (by omega) (by omega) (by omega) (RR W hb) (FH W hb) ((hb.block _ (heap_lt hL)).trans hL) (hK.keep hb) hm A1 HA1 A2 HA2
        have dl : (decide ((M : Int) ≤ (s : Int))) = false := by rw [decide_eq_false_iff_not]; omega
        have dl' : (decide (M ≤ s)) = false := by rw [decide_eq_false_iff_not]; omega
        have wr1 := wrap_int ((M : Int) - (s : Int)) (by omega) (by omega)
        have wr2 := wrap_int ((N : Int) - (s : Int)) (by omega) (by omega)
        obtain ⟨KK1, HKK1, HSK1, H1K1, H64K1⟩ := knot_row (d ++ (bothR r (M - s) (N - s) x false).1) (by rw [List.length_append, hlt.1, hd])
        obtain ⟨KK, HKK, HSK, H1K, H64K⟩ := knot_row (d ++ (bothR r (M - s) (N - s) x false).2.1) (by rw [List.length_append, hlt.2, hd])
        have BK1 : Hid (∀ W, (Instr.build 96 #[(0, .agg D), (1, .agg A1)]).run Tryz.prog W = .ok (.agg KK1) W) := fun W => build_knot W D A1 KK1 H32D.out H32A1.out (by rw [HKK1.out, HA1.out, HD.out]; simp [cellsOf_append])
        have BK : Hid (∀ W, (Instr.build 96 #[(0, .agg D), (1, .agg A2)]).run Tryz.prog W = .ok (.agg KK) W) := fun W => build_knot W D A2 KK H32D.out H32A2.out (by rw [HKK.out, HA2.out, HD.out]; simp [cellsOf_append])
        have SU1 : Hid (∀ W, Below w.heap.size w W → Calls Tryz.prog 59 #[.agg KK1] W fun e w' => e = .returned (.agg M1) ∧ Below W.heap.size W w') := fun W hb => sum_any d (bothR r (M - s) (N - s) x false).1 hd hlt.1 W (hK.keep hb) KK1 HKK1 M1 HM1
        have SU : Hid (∀ W, Below w.heap.size w W → Calls Tryz.prog 59 #[.agg KK] W fun e w' => e = .returned (.agg M2) ∧ Below W.heap.size W w') := fun W hb => sum_any d (bothR r (M - s) (N - s) x false).2.1 hd hlt.2 W (hK.keep hb) KK HKK M2 HM2
        clear hm hE hF hR ih FH RR hs hmm hRr hK hL HM1 HM2 HKK hlt HD HKK1
        go_enter Tryz.func55, Tryz.ntmps55
        go_wp2_with (first
          | (show aD 10 _ _ _ _ _ _ _ _ _ _ _; refine wpList_new_var rfl 25 rfl Z HA.out ?_; intro g10 wa HM10; try simp only [Act.put, pS1, pS2, pS3])
          | (show aD 11 _ _ _ _ _ _ _ _ _ _ _; refine wpList_new_var rfl 25 rfl Z HA.out ?_; intro g11 wb HM11; try simp only [Act.put, pS1, pS2, pS3])
          | fail)
        have HBB := hidk (HM10.out.below.trans (HM11.out.below.mono HM10.out.below.size))
        have HK10 := hidk ((HM11.out.below.block _ (heap_lt HM10.out.row)).trans HM10.out.row)
        have h10 : w.heap.size ≤ g10 := Nat.le_of_eq HM10.out.new.symm
        have h11 : g10 < g11 := by rw [HM11.out.new]; exact heap_lt HM10.out.row
        refine (SP.out _).mono ?_
        rintro e wc ⟨rfl, rfl⟩
        go_wp2_with fail
        refine (CU.out _ HBB.out).mono ?_
        rintro e wd ⟨rfl, hb3⟩
        have HB3 := hidk (HBB.out.trans (hb3.mono HBB.out.size))
        have HR10 := hidk ((hb3.block _ (heap_lt (HK10.out))).trans HK10.out)
        have HR11 := hidk ((hb3.block _ (heap_lt HM11.out.row)).trans HM11.out.row)
        clear hb3 SP CU HBB
        go_wp2_with (first
          | (show aD 14 _ _ _ _ _ _ _ _ _ _ _; refine wpList_new_var rfl 25 rfl Z HA.out ?_; intro g14 we HM14; try simp only [Act.put, pS1, pS2, pS3])
          | (refine wpList_set_var rfl 25 (.tmp 14) (.tmp 46) rfl g14 D rfl rfl 25 Z HM14.out.row HSD.out HZD.out H1D.out ?_; intro wf HW14; have hcf := FN.out _ (HW14.out.below w.heap.size w (HB3.out.trans (HM14.out.below.mono HB3.out.size)) (by rw [HM14.out.new]; exact HB3.out.size)); try simp only [Act.put, pS1, pS2, pS3])
          | fail)
        have hg14 : w.heap.size ≤ g14 := by rw [HM14.out.new]; exact HB3.out.size
        have HB5 := hidk (HW14.out.below w.heap.size w (HB3.out.trans (HM14.out.below.mono HB3.out.size)) hg14)
        have HR10w := hidk ((HW14.out.other g10 (by have := heap_lt HR10.out; have := HM14.out.new; omega)).trans ((HM14.out.below.block _ (heap_lt HR10.out)).trans HR10.out))
        have HR11w := hidk ((HW14.out.other g11 (by have := heap_lt HR11.out; have := HM14.out.new; omega)).trans ((HM14.out.below.block _ (heap_lt HR11.out)).trans HR11.out))
        have h14 : g11 < g14 := by rw [HM14.out.new]; exact heap_lt HR11.out
        have HR14 := hidk HW14.out.row
        clear HR10 HR11 HM14 HW14 HB3 HK10 HM10 HM11
        refine (IH.out _ HB5.out).mono ?_
        rintro e wg ⟨rfl, hb7⟩
        have HB7 := hidk (HB5.out.trans (hb7.mono HB5.out.size))
        have HR10g := hidk ((hb7.block _ (heap_lt HR10w.out)).trans HR10w.out)
        have HR11g := hidk ((hb7.block _ (heap_lt HR11w.out)).trans HR11w.out)
        have HR14g := hidk ((hb7.block _ (heap_lt HR14.out)).trans HR14.out)
        clear hb7 hcf IH FN HR10w HR11w HR14 HB5
        go_wp2_with (first
          | (show aD 17 _ _ _ _ _ _ _ _ _ _ _; refine wpList_new_var rfl 25 rfl Z HA.out ?_; intro ga wh HMa; try simp only [Act.put, pS1, pS2, pS3])
          | (show aD 18 _ _ _ _ _ _ _ _ _ _ _; refine wpList_new_var rfl 25 rfl Z HA.out ?_; intro gb wi HMb; have HKa := hidk ((HMb.out.below.block _ (heap_lt HMa.out.row)).trans HMa.out.row); have hab : ga < gb := by { rw [HMb.out.new]; exact heap_lt HMa.out.row }; try simp only [Act.put, pS1, pS2, pS3])
          | (refine wpList_set_var rfl 25 (.tmp 17) (.tmp 74) rfl ga A1 rfl rfl 25 Z HKa.out HSA1.out HZA1.out H1A1.out ?_; intro wj HWa; have HKb := hidk ((HWa.out.other gb (by omega)).trans HMb.out.row); try simp only [Act.put, pS1, pS2, pS3])
          | (refine wpList_set_var rfl 25 (.tmp 18) (.tmp 75) rfl gb A2 rfl rfl 25 Z HKb.out HSA2.out HZA2.out H1A2.out ?_; intro wk HWb; try simp only [Act.put, pS1, pS2, pS3])
          | fail)
        have hga : wg.heap.size = ga := HMa.out.new.symm
        have hl14 := heap_lt HR14g.out
        have hl10 := heap_lt HR10g.out
        have hl11 := heap_lt HR11g.out
        have HBk := hidk (HWb.out.below wg.heap.size wg (HWa.out.below wg.heap.size wg (HMa.out.below.trans (HMb.out.below.mono HMa.out.below.size)) (by omega)) (by omega))
        have HBX := hidk (HB7.out.trans (HBk.out.mono HB7.out.size))
        have HR10k := hidk ((HBk.out.block _ hl10).trans HR10g.out)
        have HR11k := hidk ((HBk.out.block _ hl11).trans HR11g.out)
        have HR14k := hidk ((HBk.out.block _ hl14).trans HR14g.out)
        have HRa := hidk ((HWb.out.other ga (by omega)).trans HWa.out.row)
        have HRb := hidk HWb.out.row
        have hgb : gb < wk.heap.size := heap_lt HRb.out
        clear HMa HMb HKa HKb HWa HWb HBk HR10g HR11g HR14g HB7
        refine wp_region_held_drew (S := (fun W => W.heap[ga]? = some (.cells A1 25 (0, 0)) ∧ W.heap[gb]? = some (.cells A2 25 (0, 0)) ∧ W.heap[g14]? = some (.cells D 25 (0, 0)))) (by kernel_rfl) ⟨HRa.out, HRb.out, HR14k.out⟩ (fun hHeld => ?_)
        refine zW 0 (.agg D) rfl (yieldsIf_row (by rfl) 25 (.tmp 14) rfl g14 rfl 25 D (0, 0) _ (fun _ h => h.2.2) Tryz.underlying25 rfl HSD.out) hHeld ?_
        try simp only [Act.put, pS1, pS2, pS3]
        refine zW 1 (.agg A1) rfl (yieldsIf_row (by rfl) 25 (.tmp 17) rfl ga rfl 25 A1 (0, 0) _ (fun _ h => h.1) Tryz.underlying25 rfl HSA1.out) hHeld ?_
        try simp only [Act.put, pS1, pS2, pS3]
        refine zW 2 (.agg KK1) rfl (yieldsIf_build (by rfl) 96 _ rfl #[(0, .agg D), (1, .agg A1)] rfl (.agg KK1) BK1.out) hHeld ?_
        try simp only [Act.put, pS1, pS2, pS3]
        refine zW 4 (.agg D) rfl (yieldsIf_row (by rfl) 25 (.tmp 14) rfl g14 rfl 25 D (0, 0) _ (fun _ h => h.2.2) Tryz.underlying25 rfl HSD.out) hHeld ?_
        try simp only [Act.put, pS1, pS2, pS3]
        refine zW 5 (.agg A2) rfl (yieldsIf_row (by rfl) 25 (.tmp 18) rfl gb rfl 25 A2 (0, 0) _ (fun _ h => h.2.1) Tryz.underlying25 rfl HSA2.out) hHeld ?_
        try simp only [Act.put, pS1, pS2, pS3]
        refine zW 6 (.agg KK) rfl (yieldsIf_build (by rfl) 96 _ rfl #[(0, .agg D), (1, .agg A2)] rfl (.agg KK) BK.out) hHeld ?_
        try simp only [Act.put, pS1, pS2, pS3]
        refine wpAnyH_ready (rs := [3]) (by kernel_rfl) (by simp) ?_
        refine (AllReadyH.cons (o := { dst := some 79, op := .call { callee := .value (.func 59), args := #[.tmp 78], argTypes := #[96] }, type := 25, pos := "check.go:131", after := #[zD 2], guard := none }) rfl (fun K hK => ?_) AllReadyH.nil)
        go_simp
        refine (SU1.out _ HBX.out.drew).mono ?_
        rintro e w3 ⟨rfl, hb4⟩
        have HBS1 := hidk (HBX.out.drew.trans (hb4.mono HBX.out.size))
        have HR10t := hidk ((hb4.block _ (heap_lt HR10k.out)).trans HR10k.out)
        have HR11t := hidk ((hb4.block _ (heap_lt HR11k.out)).trans HR11k.out)
        go_wp2_with fail
        refine hK.out _ _ ⟨(hb4.block _ (heap_lt hHeld.1)).trans hHeld.1, (hb4.block _ (heap_lt hHeld.2.1)).trans hHeld.2.1, (hb4.block _ (heap_lt hHeld.2.2)).trans hHeld.2.2⟩ (fun hHeld => ?_)
        clear hK K
        try simp only [Act.put, pS1, pS2, pS3]
        refine wpAnyH_ready (rs := [7]) (by kernel_rfl) (by simp) ?_
        refine (AllReadyH.cons (o := { dst := some 83, op := .call { callee := .value (.func 59), args := #[.tmp 82], argTypes := #[96] }, type := 25, pos := "check.go:131", after := #[zD 6, zC 3], guard := none }) rfl (fun K hK => ?_) AllReadyH.nil)
        go_simp
        refine (SU.out _ HBS1.out).mono ?_
        rintro e w7 ⟨rfl, hb5⟩
        have HBS := hidk (HBS1.out.trans (hb5.mono HBS1.out.size))
        have HR10s := hidk ((hb5.block _ (heap_lt HR10t.out)).trans HR10t.out)
        have HR11s := hidk ((hb5.block _ (heap_lt HR11t.out)).trans HR11t.out)
        go_wp2_with fail
        refine hK.out _ _ ⟨(hb5.block _ (heap_lt hHeld.1)).trans hHeld.1, (hb5.block _ (heap_lt hHeld.2.1)).trans hHeld.2.1, (hb5.block _ (heap_lt hHeld.2.2)).trans hHeld.2.2⟩ (fun hHeld => ?_)
        clear hK K
        try simp only [Act.put, pS1, pS2, pS3]
        refine wpAnyH_ready (rs := [8]) (by kernel_rfl) (by simp) ?_
        refine (AllReadyH.cons (o := { dst := none, op := .store 25 (.tmp 10) (.tmp 79), type := 0, pos := "check.go:131", after := #[zD 3, zC 7, zP 0, zP 1, zP 2, zP 3, { on := 4, ground := Ground.textOnly Departure.lateStores }, { on := 5, ground := Ground.textOnly Departure.lateStores }, { on := 6, ground := Ground.textOnly Departure.lateStores }, { on := 7, ground := Ground.textOnly Departure.lateStoresUnsure }], guard := none }) rfl (fun K hK => ?_) AllReadyH.nil)
        refine step_set_var (by rfl) 25 (.tmp 10) (.tmp 79) rfl g10 M1 rfl rfl 25 Z HR10s.out HSM1.out HZM1.out H1M1.out ?_
        intro wx HW10
        refine hK.out _ _ ⟨(HW10.out.other ga (by omega)).trans hHeld.1, (HW10.out.other gb (by omega)).trans hHeld.2.1, (HW10.out.other g14 (by omega)).trans hHeld.2.2⟩ (fun hHeld => ?_)
        clear hK K
        try simp only [Act.put, pS1, pS2, pS3]
        refine wpAnyH_ready (rs := [9]) (by kernel_rfl) (by simp) ?_
        refine (AllReadyH.cons (o := { dst := none, op := .store 25 (.tmp 11) (.tmp 83), type := 0, pos := "check.go:131", after := #[zD 7, zC 8, zP 0, zP 1, zP 2, zP 3, zP 4, zP 5, zP 6, zP 7, zP 8], guard := none }) rfl (fun K hK => ?_) AllReadyH.nil)
        refine step_set_var (by rfl) 25 (.tmp 11) (.tmp 83) rfl g11 M2 rfl rfl 25 Z ((HW10.out.other g11 (by omega)).trans HR11s.out) HSM2.out HZM2.out H1M2.out ?_
        intro wy HW11
        refine hK.out _ _ ⟨(HW11.out.other ga (by omega)).trans hHeld.1, (HW11.out.other gb (by omega)).trans hHeld.2.1, (HW11.out.other g14 (by omega)).trans hHeld.2.2⟩ (fun hHeld => ?_)
        clear hK K
        try simp only [Act.put, pS1, pS2, pS3]
        refine wpAnyH_done (by kernel_rfl) ?_ _
        go_wp2
        refine bodyPost_ret (v := .tuple #[.agg M1, .agg M2]) ?_ rfl ⟨rfl, HW11.out.below w.heap.size w (HW10.out.below w.heap.size w HBS.out (by omega)) (by omega)⟩
        exact results_row_row (p1 := 10) (p2 := 11) (ty := 25) rfl _ _ g10 g11 25 25 M1 M2 (0, 0) (0, 0) _ rfl rfl ((HW11.out.other g10 (by omega)).trans HW10.out.row) HW11.out.row Tryz.underlying25 rfl HSM1.out HSM2.out
end Go.Proofs.YtjalebncfnekiaaGreatDoor.P5
/- What check.Consistent answers. -/
namespace Go.Proofs.YtjalebncfnekiaaGreatDoor.P5
open Go.RowKit Sums
set_option maxRecDepth 100000
set_option linter.unusedVariables false
set_option linter.unusedSimpArgs false
attribute [local go_sem] store_func
set_option maxHeartbeats 1000000 in
theorem growthMakes_no (M N : Nat) (x : List UInt8) (p : List (List UInt8)) (a : Option Addr) (len cap : Nat) (w : World) (X : Array Value) (hM1 : 1 ≤ M) (hMN : M ≤ N) (hN : N ≤ 100000) (hR : LReads w a len cap p) (hm : (bothR p.reverse M N x true).2.2 = false) :
    Calls Tryz.prog 35 #[.int .i64 M, .int .i64 N, .agg X, .slice a len cap] w fun e w' => (∃ u p, e = .panicked [{ v := .iface u p, recovered := false }]) ∧ Below w.heap.size w w' := by
  have hmf : ∀ (fn : Fn) (first cap : Array Value) (w : World), (Instr.makeFunc fn first cap).run Tryz.prog w = .ok (.func fn first cap) w := fun _ _ _ _ => rfl
  obtain ⟨Z, HZ, HA, HS, H1, H32⟩ := noughts27
  have DN : Hid (∀ W gf, Below w.heap.size w W → W.heap[gf]? = some (.cells #[.func (.func 55) #[] #[.pointer (some ⟨w.heap.size, 0, none⟩), .pointer (some ⟨gf, 0, none⟩)]] 90 (0, 0)) → Calls Tryz.prog 55 #[.int .i64 M, .int .i64 N, .bool true, .slice a len cap, .pointer (some ⟨w.heap.size, 0, none⟩), .pointer (some ⟨gf, 0, none⟩)] W fun e w' => (∃ u p, e = .panicked [{ v := .iface u p, recovered := false }]) ∧ Below W.heap.size W w') := fun W gf hb hf =>
    growm_no p.reverse M N x true a len cap w.heap.size gf W hM1 hMN hN (by rw [List.reverse_reverse]; exact hR.keep hb) hf hm
  clear hm hR
  go_enter Tryz.func35, Tryz.ntmps35
  go_wp2_with (first
    | (show aD 8 _ _ _ _ _ _ _ _ _ _ _; refine wpList_new_var rfl 25 rfl Z HA.out ?_; intro g8 w1 HM8; try simp only [Act.put, pS1, pS2, pS3])
    | (show aD 9 _ _ _ _ _ _ _ _ _ _ _; refine wpList_new_var rfl 25 rfl Z HA.out ?_; intro g9 w2 HM9; try simp only [Act.put, pS1, pS2, pS3])
    | fail)
  have h8a : w.heap.size < g8 := by have e := HM8.out.new; simp at e; omega
  have h9a : g8 < g9 := by rw [HM9.out.new]; exact heap_lt HM8.out.row
  have h9b : g9 < w2.heap.size := heap_lt HM9.out.row
  have HL1 := hidk ((HM8.out.below.block _ (by simp)).trans (heap_alloc_new w (.cells X 25)))
  have HL2 := hidk ((HM9.out.below.block _ (heap_lt HL1.out)).trans HL1.out)
  have HB1 : Hid (Below w.heap.size w w1) := ((Below.refl _ _).alloc (Nat.le_refl _) _).trans (HM8.out.below.mono (by simp))
  have HB2 : Hid (Below w.heap.size w w2) := HB1.out.trans (HM9.out.below.mono HB1.out.size)
  have HB3 : Hid (Below w.heap.size w (w2.alloc (.cells #[.func (.func 55) #[] #[.pointer (some ⟨w.heap.size, 0, none⟩), .pointer (some ⟨w2.heap.size, 0, none⟩)]] 90))) := HB2.out.alloc (by omega) _
  have HF3 : Hid ((w2.alloc (.cells #[.func (.func 55) #[] #[.pointer (some ⟨w.heap.size, 0, none⟩), .pointer (some ⟨w2.heap.size, 0, none⟩)]] 90)).heap[w2.heap.size]? = some (.cells #[.func (.func 55) #[] #[.pointer (some ⟨w.heap.size, 0, none⟩), .pointer (some ⟨w2.heap.size, 0, none⟩)]] 90 (0, 0))) := heap_alloc_new w2 _
  have HL3 : Hid ((w2.alloc (.cells #[.func (.func 55) #[] #[.pointer (some ⟨w.heap.size, 0, none⟩), .pointer (some ⟨w2.heap.size, 0, none⟩)]] 90)).heap[w.heap.size]? = some (.cells X 25 (0, 0))) := heap_keep HL2.out
  refine (DN.out _ _ HB3.out HF3.out).mono ?_
  rintro e w3 ⟨⟨u, q, rfl⟩, hb3⟩
  exact ⟨rfl, ⟨_, _, rfl⟩, HB3.out.trans (hb3.mono HB3.out.size)⟩
set_option maxHeartbeats 1000000 in
theorem growthMakes_ok (M N : Nat) (x : List UInt8) (p : List (List UInt8)) (a : Option Addr) (len cap : Nat) (w : World) (X : Array Value) (HX : Hid (X = (cellsOf x).toArray)) (hx : x.length = 32) (hM1 : 1 ≤ M) (hMN : M ≤ N) (hN : N ≤ 100000) (hR : LReads w a len cap p) (hK : Table 1 w) (hm : (bothR p.reverse M N x true).2.2 = true)
    (M1 : Array Value) (HM1 : Hid (M1 = (cellsOf (bothR p.reverse M N x true).1).toArray)) (M2 : Array Value) (HM2 : Hid (M2 = (cellsOf (bothR p.reverse M N x true).2.1).toArray)) :
    Calls Tryz.prog 35 #[.int .i64 M, .int .i64 N, .agg X, .slice a len cap] w fun e w' => e = .returned (.tuple #[.agg M1, .agg M2]) ∧ Below w.heap.size w w' := by
  have hmf : ∀ (fn : Fn) (first cap : Array Value) (w : World), (Instr.makeFunc fn first cap).run Tryz.prog w = .ok (.func fn first cap) w := fun _ _ _ _ => rfl
  obtain ⟨Z, HZ, HA, HS, H1, H32⟩ := noughts27
  have hlt := bothR_length sumD_length p.reverse M N x true hx (fun z hz => hR.2.1 z (List.mem_reverse.1 hz))
  have HSM1 : Hid ((Tryz.prog.info? 25).map (·.size) = some M1.size) := by show _ = _; rw [size23, HM1.out]; simp [cellsOf_length, hlt.1]
  have H1M1 : Hid (M1.all (·.oneCell') = true) := by show _ = _; rw [HM1.out]; exact cellsOf_all _
  have HZM1 : Hid (Z.size = M1.size) := by show _ = _; rw [H32.out, HM1.out]; simp [cellsOf_length, hlt.1]
  have HSM2 : Hid ((Tryz.prog.info? 25).map (·.size) = some M2.size) := by show _ = _; rw [size23, HM2.out]; simp [cellsOf_length, hlt.2]
  have H1M2 : Hid (M2.all (·.oneCell') = true) := by show _ = _; rw [HM2.out]; exact cellsOf_all _
  have HZM2 : Hid (Z.size = M2.size) := by show _ = _; rw [H32.out, HM2.out]; simp [cellsOf_length, hlt.2]
  have DN : Hid (∀ W gf, Below w.heap.size w W → W.heap[gf]? = some (.cells #[.func (.func 55) #[] #[.pointer (some ⟨w.heap.size, 0, none⟩), .pointer (some ⟨gf, 0, none⟩)]] 90 (0, 0)) → W.heap[w.heap.size]? = some (.cells X 25 (0, 0)) → Calls Tryz.prog 55 #[.int .i64 M, .int .i64 N, .bool true, .slice a len cap, .pointer (some ⟨w.heap.size, 0, none⟩), .pointer (some ⟨gf, 0, none⟩)] W fun e w' => e = .returned (.tuple #[.agg M1, .agg M2]) ∧ Below W.heap.size W w') := fun W gf hb hf hl =>
    growm_ok p.reverse M N x true a len cap w.heap.size gf W X HX hx hM1 hMN hN (by rw [List.reverse_reverse]; exact hR.keep hb) hf hl (hK.keep hb) hm M1 HM1 M2 HM2
  clear hm hR hK HM1 HM2 hlt
  go_enter Tryz.func35, Tryz.ntmps35
  go_wp2_with (first
    | (show aD 8 _ _ _ _ _ _ _ _ _ _ _; refine wpList_new_var rfl 25 rfl Z HA.out ?_; intro g8 w1 HM8; try simp only [Act.put, pS1, pS2, pS3])
    | (show aD 9 _ _ _ _ _ _ _ _ _ _ _; refine wpList_new_var rfl 25 rfl Z HA.out ?_; intro g9 w2 HM9; try simp only [Act.put, pS1, pS2, pS3])
    | fail)
  have h8a : w.heap.size < g8 := by have e := HM8.out.new; simp at e; omega
  have h9a : g8 < g9 := by rw [HM9.out.new]; exact heap_lt HM8.out.row
  have h9b : g9 < w2.heap.size := heap_lt HM9.out.row
  have HL1 := hidk ((HM8.out.below.block _ (by simp)).trans (heap_alloc_new w (.cells X 25)))
  have HL2 := hidk ((HM9.out.below.block _ (heap_lt HL1.out)).trans HL1.out)
  have HB1 : Hid (Below w.heap.size w w1) := ((Below.refl _ _).alloc (Nat.le_refl _) _).trans (HM8.out.below.mono (by simp))
  have HB2 : Hid (Below w.heap.size w w2) := HB1.out.trans (HM9.out.below.mono HB1.out.size)
  have HB3 : Hid (Below w.heap.size w (w2.alloc (.cells #[.func (.func 55) #[] #[.pointer (some ⟨w.heap.size, 0, none⟩), .pointer (some ⟨w2.heap.size, 0, none⟩)]] 90))) := HB2.out.alloc (by omega) _
  have HF3 : Hid ((w2.alloc (.cells #[.func (.func 55) #[] #[.pointer (some ⟨w.heap.size, 0, none⟩), .pointer (some ⟨w2.heap.size, 0, none⟩)]] 90)).heap[w2.heap.size]? = some (.cells #[.func (.func 55) #[] #[.pointer (some ⟨w.heap.size, 0, none⟩), .pointer (some ⟨w2.heap.size, 0, none⟩)]] 90 (0, 0))) := heap_alloc_new w2 _
  have HL3 : Hid ((w2.alloc (.cells #[.func (.func 55) #[] #[.pointer (some ⟨w.heap.size, 0, none⟩), .pointer (some ⟨w2.heap.size, 0, none⟩)]] 90)).heap[w.heap.size]? = some (.cells X 25 (0, 0))) := heap_keep HL2.out
  have HR8 : Hid ((w2.alloc (.cells #[.func (.func 55) #[] #[.pointer (some ⟨w.heap.size, 0, none⟩), .pointer (some ⟨w2.heap.size, 0, none⟩)]] 90)).heap[g8]? = some (.cells Z 25 (0, 0))) := heap_keep ((HM9.out.below.block _ (heap_lt HM8.out.row)).trans HM8.out.row)
  have HR9 : Hid ((w2.alloc (.cells #[.func (.func 55) #[] #[.pointer (some ⟨w.heap.size, 0, none⟩), .pointer (some ⟨w2.heap.size, 0, none⟩)]] 90)).heap[g9]? = some (.cells Z 25 (0, 0))) := heap_keep HM9.out.row
  refine (DN.out _ _ HB3.out HF3.out HL3.out).mono ?_
  rintro e w3 ⟨rfl, hb3⟩
  have HR83 := hidk ((hb3.block _ (heap_lt HR8.out)).trans HR8.out)
  have HR93 := hidk ((hb3.block _ (heap_lt HR9.out)).trans HR9.out)
  have HB4 := hidk (HB3.out.trans (hb3.mono HB3.out.size))
  clear hb3 HR8 HR9 DN HB3 HF3 HL3
  go_wp2_with (first
    | (refine wpList_set_var rfl 25 (.tmp 8) (.tmp 17) rfl g8 M1 rfl rfl 25 Z HR83.out HSM1.out HZM1.out H1M1.out ?_; intro w4 HW8; have HR94 := hidk ((HW8.out.other g9 (by omega)).trans HR93.out); try simp only [Act.put, pS1, pS2, pS3])
    | (refine wpList_set_var rfl 25 (.tmp 9) (.tmp 18) rfl g9 M2 rfl rfl 25 Z HR94.out HSM2.out HZM2.out H1M2.out ?_; intro w5 HW9; try simp only [Act.put, pS1, pS2, pS3])
    | fail)
  refine bodyPost_ret (v := .tuple #[.agg M1, .agg M2]) ?_ rfl ⟨rfl, HW9.out.below w.heap.size w (HW8.out.below w.heap.size w HB4.out (by omega)) (by omega)⟩
  exact results_row_row (p1 := 8) (p2 := 9) (ty := 25) rfl _ _ g8 g9 25 25 M1 M2 (0, 0) (0, 0) _ rfl rfl ((HW9.out.other g8 (by omega)).trans HW8.out.row) HW9.out.row Tryz.underlying25 rfl HSM1.out HSM2.out
structure FiveC (gm go gn gr gp : Nat) (m : Int) (O : Array Value) (n : Int) (R : Array Value) (a : Option Addr) (len cap : Nat) (W : World) : Prop where
  first : W.heap[gm]? = some (.cells #[.int .i64 m] 3 (0, 0))
  old : W.heap[go]? = some (.cells O 25 (0, 0))
  all : W.heap[gn]? = some (.cells #[.int .i64 n] 3 (0, 0))
  root : W.heap[gr]? = some (.cells R 25 (0, 0))
  proof : W.heap[gp]? = some (.cells #[.slice a len cap] 30 (0, 0))
theorem FiveC.keep {gm go gn gr gp : Nat} {m n : Int} {O R : Array Value} {a : Option Addr} {len cap : Nat} {W W' : World} (h : FiveC gm go gn gr gp m O n R a len cap W) (hb : Below W.heap.size W W') : FiveC gm go gn gr gp m O n R a len cap W' :=
  ⟨(hb.block _ (heap_lt h.first)).trans h.first, (hb.block _ (heap_lt h.old)).trans h.old, (hb.block _ (heap_lt h.all)).trans h.all, (hb.block _ (heap_lt h.root)).trans h.root, (hb.block _ (heap_lt h.proof)).trans h.proof⟩
set_option maxHeartbeats 1000000 in
theorem cons1_no (M N : Nat) (x : List UInt8) (p : List (List UInt8)) (a : Option Addr) (len cap gm go gn gr gp : Nat) (w : World) (R X : Array Value) (HX : Hid (X = (cellsOf x).toArray)) (hx : x.length = 32) (hM1 : 1 ≤ M) (hMN : M ≤ N) (hN : N ≤ 100000) (hF : FiveC gm go gn gr gp M X N R a len cap w) (hR : LReads w a len cap p) (hm : (bothR p.reverse M N x true).2.2 = false) :
    Calls Tryz.prog 34 #[.pointer (some ⟨gm, 0, none⟩), .pointer (some ⟨gn, 0, none⟩), .pointer (some ⟨go, 0, none⟩), .pointer (some ⟨gp, 0, none⟩), .pointer (some ⟨gr, 0, none⟩)] w fun e w' => (∃ u p, e = .panicked [{ v := .iface u p, recovered := false }]) ∧ Below w.heap.size w w' := by
  have HSX : Hid ((Tryz.prog.info? 25).map (·.size) = some X.size) := by show _ = _; rw [size23, HX.out]; simp [cellsOf_length, hx]
  have LM : Hid (Calls Tryz.prog 35 #[.int .i64 M, .int .i64 N, .agg X, .slice a len cap] w fun e w' => (∃ u p, e = .panicked [{ v := .iface u p, recovered := false }]) ∧ Below w.heap.size w w') := growthMakes_no M N x p a len cap w X hM1 hMN hN hR hm
  have hc0 := cell_of_one hF.first
  have hc1 := cell_of_one hF.all
  have hc3 := cell_of_one hF.proof
  have HL := hidk hF.old
  clear hm hR hF
  go_enter Tryz.func34, Tryz.ntmps34
  go_wp2_with (first
    | (show aD 11 _ _ _ _ _ _ _ _ _ _ _; refine wpList_load_row rfl 25 (.tmp 2) rfl go rfl 25 X (0, 0) _ HL.out Tryz.underlying25 rfl HSX.out ?_; try simp only [Act.put, pS1, pS2, pS3])
    | fail)
  refine LM.out.mono ?_
  rintro e w2 ⟨⟨u, q, rfl⟩, hb2⟩
  exact ⟨rfl, ⟨_, _, rfl⟩, hb2⟩
set_option maxHeartbeats 1000000 in
theorem cons1_ok (root : List UInt8) (M N : Nat) (x : List UInt8) (p : List (List UInt8)) (a : Option Addr) (len cap gm go gn gr gp : Nat) (w : World) (R X : Array Value) (HR : Hid (R = (cellsOf root).toArray)) (hr : root.length = 32) (HX : Hid (X = (cellsOf x).toArray)) (hx : x.length = 32) (hM1 : 1 ≤ M) (hMN : M ≤ N) (hN : N ≤ 100000) (hF : FiveC gm go gn gr gp M X N R a len cap w) (hR : LReads w a len cap p) (hK : Table 1 w) (hm : (bothR p.reverse M N x true).2.2 = true) :
    Calls Tryz.prog 34 #[.pointer (some ⟨gm, 0, none⟩), .pointer (some ⟨gn, 0, none⟩), .pointer (some ⟨go, 0, none⟩), .pointer (some ⟨gp, 0, none⟩), .pointer (some ⟨gr, 0, none⟩)] w fun e w' => e = .returned (.bool (decide ((bothR p.reverse M N x true).1 = x ∧ (bothR p.reverse M N x true).2.1 = root))) ∧ Below w.heap.size w w' := by
  obtain ⟨Z, HZ, HA, HS, H1, H32⟩ := noughts27
  have HSX : Hid ((Tryz.prog.info? 25).map (·.size) = some X.size) := by show _ = _; rw [size23, HX.out]; simp [cellsOf_length, hx]
  have HSR : Hid ((Tryz.prog.info? 25).map (·.size) = some R.size) := by show _ = _; rw [size23, HR.out]; simp [cellsOf_length, hr]
  have hlt := bothR_length sumD_length p.reverse M N x true hx (fun z hz => hR.2.1 z (List.mem_reverse.1 hz))
  obtain ⟨M1, HM1, HSM1, H1M1, H32M1⟩ := dig_row' (bothR p.reverse M N x true).1 hlt.1
  obtain ⟨M2, HM2, HSM2, H1M2, H32M2⟩ := dig_row' (bothR p.reverse M N x true).2.1 hlt.2
  have HZM1 : Hid (Z.size = M1.size) := by show _ = _; rw [H32.out, H32M1.out]
  have HZM2 : Hid (Z.size = M2.size) := by show _ = _; rw [H32.out, H32M2.out]
  obtain ⟨b1, hb1⟩ : ∃ b, decide ((bothR p.reverse M N x true).1 = x) = b := ⟨_, rfl⟩
  obtain ⟨b2, hb2⟩ : ∃ b, decide ((bothR p.reverse M N x true).2.1 = root) = b := ⟨_, rfl⟩
  have hq1 : ∀ W, (binOp .eql 25 (.agg M1) (.agg X)).run Tryz.prog W = .ok (.bool b1) W := fun W => eqDigV _ _ hlt.1 hx M1 X HM1 HX b1 hb1 W
  have hq2 : ∀ W, (binOp .eql 25 (.agg M2) (.agg R)).run Tryz.prog W = .ok (.bool b2) W := fun W => eqDigV _ _ hlt.2 hr M2 R HM2 HR b2 hb2 W
  have LM : Hid (Calls Tryz.prog 35 #[.int .i64 M, .int .i64 N, .agg X, .slice a len cap] w fun e w' => e = .returned (.tuple #[.agg M1, .agg M2]) ∧ Below w.heap.size w w') := growthMakes_ok M N x p a len cap w X HX hx hM1 hMN hN hR hK hm M1 HM1 M2 HM2
  have hc0 := cell_of_one hF.first
  have hc1 := cell_of_one hF.all
  have hc3 := cell_of_one hF.proof
  have HL := hidk hF.old
  have HRT := hidk hF.root
  have hbb : decide ((bothR p.reverse M N x true).1 = x ∧ (bothR p.reverse M N x true).2.1 = root) = (b1 && b2) := by rw [← hb1, ← hb2]; simp
  rw [hbb]
  clear hm hR hF hK hb1 hb2 hbb HM1 HM2 hlt
  cases b1
  · skip
    go_enter Tryz.func34, Tryz.ntmps34
    go_wp2_with (first
      | (show aD 11 _ _ _ _ _ _ _ _ _ _ _; refine wpList_load_row rfl 25 (.tmp 2) rfl go rfl 25 X (0, 0) _ HL.out Tryz.underlying25 rfl HSX.out ?_; try simp only [Act.put, pS1, pS2, pS3])
      | fail)
    refine LM.out.mono ?_
    rintro e w2 ⟨rfl, hb2⟩
    have HR2 := hidk ((hb2.block _ (heap_lt HRT.out)).trans HRT.out)
    have HL2 := hidk ((hb2.block _ (heap_lt HL.out)).trans HL.out)
    have hlr := heap_lt HR2.out
    have hll := heap_lt HL2.out
    clear HL HRT LM hc0 hc1 hc3
    go_wp2_with (first
      | (show aD 6 _ _ _ _ _ _ _ _ _ _ _; refine wpList_new_var rfl 25 rfl Z HA.out ?_; intro g6 w3 HM6; try simp only [Act.put, pS1, pS2, pS3])
      | (show aD 7 _ _ _ _ _ _ _ _ _ _ _; refine wpList_new_var rfl 25 rfl Z HA.out ?_; intro g7 w4 HM7; have HK6 := hidk ((HM7.out.below.block _ (heap_lt HM6.out.row)).trans HM6.out.row); have h67 : g6 < g7 := by { rw [HM7.out.new]; exact heap_lt HM6.out.row }; have h26 : w2.heap.size ≤ g6 := Nat.le_of_eq HM6.out.new.symm; try simp only [Act.put, pS1, pS2, pS3])
      | (refine wpList_set_var rfl 25 (.tmp 6) (.tmp 14) rfl g6 M1 rfl rfl 25 Z HK6.out HSM1.out HZM1.out H1M1.out ?_; intro w5 HW6; have HK7 := hidk ((HW6.out.other g7 (by omega)).trans HM7.out.row); try simp only [Act.put, pS1, pS2, pS3])
      | (refine wpList_set_var rfl 25 (.tmp 7) (.tmp 15) rfl g7 M2 rfl rfl 25 Z HK7.out HSM2.out HZM2.out H1M2.out ?_; intro w6 HW7; have HB6 := hidk (HW7.out.below w2.heap.size w2 (HW6.out.below w2.heap.size w2 (HM6.out.below.trans (HM7.out.below.mono HM6.out.below.size)) (by omega)) (by omega)); have HR6 := hidk ((HB6.out.block _ hlr).trans HR2.out); have HL6 := hidk ((HB6.out.block _ hll).trans HL2.out); have HR66 := hidk ((HW7.out.other g6 (by omega)).trans HW6.out.row); try simp only [Act.put, pS1, pS2, pS3])
      | (show aD 16 _ _ _ _ _ _ _ _ _ _ _; refine wpList_load_row rfl 25 (.tmp 6) rfl g6 rfl 25 M1 (0, 0) _ HR66.out Tryz.underlying25 rfl HSM1.out ?_; try simp only [Act.put, pS1, pS2, pS3])
      | (show aD 17 _ _ _ _ _ _ _ _ _ _ _; refine wpList_load_row rfl 25 (.tmp 2) rfl go rfl 25 X (0, 0) _ HL6.out Tryz.underlying25 rfl HSX.out ?_; try simp only [Act.put, pS1, pS2, pS3])
      | (show aD 20 _ _ _ _ _ _ _ _ _ _ _; refine wpList_load_row_w (by rfl) 25 (.tmp 7) rfl g7 rfl 25 M2 (0, 0) _ HW7.out.row Tryz.underlying25 rfl HSM2.out ?_; try simp only [Act.put, pS1, pS2, pS3])
      | (show aD 21 _ _ _ _ _ _ _ _ _ _ _; refine wpList_load_row_w (by rfl) 25 (.tmp 4) rfl gr rfl 25 R (0, 0) _ HR6.out Tryz.underlying25 rfl HSR.out ?_; try simp only [Act.put, pS1, pS2, pS3])
      | fail)
    go_ret
    exact ⟨rfl, hb2.trans (HB6.out.mono hb2.size)⟩
  · skip
    go_enter Tryz.func34, Tryz.ntmps34
    go_wp2_with (first
      | (show aD 11 _ _ _ _ _ _ _ _ _ _ _; refine wpList_load_row rfl 25 (.tmp 2) rfl go rfl 25 X (0, 0) _ HL.out Tryz.underlying25 rfl HSX.out ?_; try simp only [Act.put, pS1, pS2, pS3])
      | fail)
    refine LM.out.mono ?_
    rintro e w2 ⟨rfl, hb2⟩
    have HR2 := hidk ((hb2.block _ (heap_lt HRT.out)).trans HRT.out)
    have HL2 := hidk ((hb2.block _ (heap_lt HL.out)).trans HL.out)
    have hlr := heap_lt HR2.out
    have hll := heap_lt HL2.out
    clear HL HRT LM hc0 hc1 hc3
    go_wp2_with (first
      | (show aD 6 _ _ _ _ _ _ _ _ _ _ _; refine wpList_new_var rfl 25 rfl Z HA.out ?_; intro g6 w3 HM6; try simp only [Act.put, pS1, pS2, pS3])
      | (show aD 7 _ _ _ _ _ _ _ _ _ _ _; refine wpList_new_var rfl 25 rfl Z HA.out ?_; intro g7 w4 HM7; have HK6 := hidk ((HM7.out.below.block _ (heap_lt HM6.out.row)).trans HM6.out.row); have h67 : g6 < g7 := by { rw [HM7.out.new]; exact heap_lt HM6.out.row }; have h26 : w2.heap.size ≤ g6 := Nat.le_of_eq HM6.out.new.symm; try simp only [Act.put, pS1, pS2, pS3])
      | (refine wpList_set_var rfl 25 (.tmp 6) (.tmp 14) rfl g6 M1 rfl rfl 25 Z HK6.out HSM1.out HZM1.out H1M1.out ?_; intro w5 HW6; have HK7 := hidk ((HW6.out.other g7 (by omega)).trans HM7.out.row); try simp only [Act.put, pS1, pS2, pS3])
      | (refine wpList_set_var rfl 25 (.tmp 7) (.tmp 15) rfl g7 M2 rfl rfl 25 Z HK7.out HSM2.out HZM2.out H1M2.out ?_; intro w6 HW7; have HB6 := hidk (HW7.out.below w2.heap.size w2 (HW6.out.below w2.heap.size w2 (HM6.out.below.trans (HM7.out.below.mono HM6.out.below.size)) (by omega)) (by omega)); have HR6 := hidk ((HB6.out.block _ hlr).trans HR2.out); have HL6 := hidk ((HB6.out.block _ hll).trans HL2.out); have HR66 := hidk ((HW7.out.other g6 (by omega)).trans HW6.out.row); try simp only [Act.put, pS1, pS2, pS3])
      | (show aD 16 _ _ _ _ _ _ _ _ _ _ _; refine wpList_load_row rfl 25 (.tmp 6) rfl g6 rfl 25 M1 (0, 0) _ HR66.out Tryz.underlying25 rfl HSM1.out ?_; try simp only [Act.put, pS1, pS2, pS3])
      | (show aD 17 _ _ _ _ _ _ _ _ _ _ _; refine wpList_load_row rfl 25 (.tmp 2) rfl go rfl 25 X (0, 0) _ HL6.out Tryz.underlying25 rfl HSX.out ?_; try simp only [Act.put, pS1, pS2, pS3])
      | (show aD 20 _ _ _ _ _ _ _ _ _ _ _; refine wpList_load_row_w (by rfl) 25 (.tmp 7) rfl g7 rfl 25 M2 (0, 0) _ HW7.out.row Tryz.underlying25 rfl HSM2.out ?_; try simp only [Act.put, pS1, pS2, pS3])
      | (show aD 21 _ _ _ _ _ _ _ _ _ _ _; refine wpList_load_row_w (by rfl) 25 (.tmp 4) rfl gr rfl 25 R (0, 0) _ HR6.out Tryz.underlying25 rfl HSR.out ?_; try simp only [Act.put, pS1, pS2, pS3])
      | fail)
    go_ret
    exact ⟨rfl, hb2.trans (HB6.out.mono hb2.size)⟩
set_option maxHeartbeats 2000000 in
theorem empty_from (old : List UInt8) (n : Int) (root : List UInt8) (p : List (List UInt8)) (a : Option Addr) (len cap : Nat) (w : World) (O R : Array Value) (HO : Hid (O = (cellsOf old).toArray)) (HR : Hid (R = (cellsOf root).toArray)) (ho : old.length = 32) (hr : root.length = 32) (hn : 0 ≤ n ∧ n ≤ 100000) (hR : LReads w a len cap p) (hK : Table 1 w) :
    Calls Tryz.prog 32 #[.agg O, .int .i64 n, .agg R, .slice a len cap] w fun e w' => e = .returned (.int .i64 (conE 0 old n root p)) ∧ Below w.heap.size w w' := by
  rw [conE_none old n root p hn]
  have HSO : Hid ((Tryz.prog.info? 25).map (·.size) = some O.size) := by show _ = _; rw [size23, HO.out]; simp [cellsOf_length, ho]
  have HSR : Hid ((Tryz.prog.info? 25).map (·.size) = some R.size) := by show _ = _; rw [size23, HR.out]; simp [cellsOf_length, hr]
  have hml : len ≤ 9223372036854775807 := by have := hR.2.2.2.1; unfold maxLen at this; omega
  have HW : Hid (((w.alloc (.cells O 25)).alloc (.cells R 25)).heap[w.heap.size]? = some (.cells O 25 (0, 0)) ∧ ((w.alloc (.cells O 25)).alloc (.cells R 25)).heap[w.heap.size + 1]? = some (.cells R 25 (0, 0)) ∧ Below w.heap.size w ((w.alloc (.cells O 25)).alloc (.cells R 25))) := ⟨heap_alloc2_old w _ _, heap_alloc2_new w _ _, ((Below.refl _ _).alloc (Nat.le_refl _) _).alloc (by simp) _⟩
  by_cases h0 : len = 0
  · subst h0
    obtain rfl : p = [] := List.eq_nil_of_length_eq_zero hR.1
    rw [if_pos rfl]
    obtain ⟨E, HE, HSE, H1E, H32E⟩ := dig_row' (sumD []) (sumD_length _)
    have EM : Hid (∀ W, Below w.heap.size w W → Calls Tryz.prog 31 #[] W fun e w' => e = .returned (.agg E) ∧ Below W.heap.size W w') := fun W hb => empty_any W (hK.keep hb) E HE
    by_cases hoe : old = sumD []
    · have nq : ∀ W, (binOp .neq 25 (.agg O) (.agg E)).run Tryz.prog W = .ok (.bool false) W := fun W => neqDigV _ _ ho (sumD_length _) O E HO HE false (by simp [hoe]) W
      by_cases hn0 : n = 0
      · subst hn0
        obtain ⟨bb, hbb⟩ : ∃ b, (!decide (root = old)) = b := ⟨_, rfl⟩
        have nq2 : ∀ W, (binOp .neq 25 (.agg R) (.agg O)).run Tryz.prog W = .ok (.bool bb) W := fun W => neqDigV _ _ hr ho R O HR HO bb hbb W
        obtain ⟨V, hV⟩ : ∃ V : Int, (if old = sumD [] ∧ (0 = (0 : Int) → root = old) then (0 : Int) else 41) = V := ⟨_, rfl⟩
        have HBF : Hid (bb = false → V = 0) := fun e => by rw [← hV, if_pos]; rw [e] at hbb; exact ⟨hoe, fun _ => by simpa using hbb⟩
        have HBT : Hid (bb = true → V = 41) := fun e => by rw [← hV, if_neg]; rw [e] at hbb; rintro ⟨_, h⟩; simp [h rfl] at hbb
        rw [hV]
        clear hR hK hbb hoe hn HO HR HE hV
        go_enter Tryz.func32, Tryz.ntmps32
        go_wp2
        refine wp_region_held_drew (S := (fun W => W.heap[w.heap.size]? = some (.cells O 25 (0, 0)) ∧ W.heap[w.heap.size + 1]? = some (.cells R 25 (0, 0)))) (by kernel_rfl) ⟨HW.out.1, HW.out.2.1⟩ (fun hHeld => ?_)
        refine zW 0 (.agg O) rfl (yieldsIf_row (by rfl) 25 (.tmp 4) rfl w.heap.size rfl 25 O (0, 0) _ (fun _ h => h.1) Tryz.underlying25 rfl HSO.out) hHeld ?_
        try simp only [Act.put, pS1, pS2, pS3]
        refine wpAnyH_ready (rs := [1]) (by kernel_rfl) (by simp) ?_
        refine (AllReadyH.cons (o := { dst := some 13, op := .call { callee := .value (.func 31), args := #[], argTypes := #[] }, type := 25, pos := "check.go:43", after := #[], guard := none }) rfl (fun K hK => ?_) AllReadyH.nil)
        go_simp
        refine (EM.out _ HW.out.2.2.drew).mono ?_
        rintro e w1 ⟨rfl, hb1⟩
        have HB1 := hidk (HW.out.2.2.drew.trans (hb1.mono HW.out.2.2.size))
        go_wp2_with fail
        refine hK.out _ _ ⟨(hb1.block _ (heap_lt hHeld.1)).trans hHeld.1, (hb1.block _ (heap_lt hHeld.2)).trans hHeld.2⟩ (fun hHeld => ?_)
        clear hK K
        try simp only [Act.put, pS1, pS2, pS3]
        refine zW 2 (.bool false) rfl (Or.inl ⟨by rfl, by intro W hSw; have := nq W; go_simp⟩) hHeld ?_
        try simp only [Act.put, pS1, pS2, pS3]
        refine zX 3 (.bool false) rfl hHeld ?_
        try simp only [Act.put, pS1, pS2, pS3]
        refine zX 4 (.int .i64 0) rfl hHeld ?_
        try simp only [Act.put, pS1, pS2, pS3]
        refine zX 5 (.bool true) rfl hHeld ?_
        try simp only [Act.put, pS1, pS2, pS3]
        refine zX 6 (.bool true) rfl hHeld ?_
        try simp only [Act.put, pS1, pS2, pS3]
        refine zW 7 (.agg R) rfl (yieldsIf_row (by rfl) 25 (.tmp 6) rfl (w.heap.size + 1) rfl 25 R (0, 0) _ (fun _ h => h.2) Tryz.underlying25 rfl HSR.out) hHeld ?_
        try simp only [Act.put, pS1, pS2, pS3]
        refine zW 8 (.agg O) rfl (yieldsIf_row (by rfl) 25 (.tmp 4) rfl w.heap.size rfl 25 O (0, 0) _ (fun _ h => h.1) Tryz.underlying25 rfl HSO.out) hHeld ?_
        try simp only [Act.put, pS1, pS2, pS3]
        refine zW 9 (.bool bb) rfl (Or.inl ⟨by rfl, by intro W hSw; have := nq2 W; go_simp⟩) hHeld ?_
        try simp only [Act.put, pS1, pS2, pS3]
        refine zX 10 (.bool bb) rfl hHeld ?_
        try simp only [Act.put, pS1, pS2, pS3]
        refine zX 11 (.bool bb) rfl hHeld ?_
        try simp only [Act.put, pS1, pS2, pS3]
        refine wpAnyH_done (by kernel_rfl) ?_ _
        cases bb
        · go_wp2
          go_ret
          exact ⟨by rw [HBF.out (by trivial)]; rfl, HB1.out⟩
        · go_wp2
          go_ret
          exact ⟨by rw [HBT.out (by trivial)]; rfl, HB1.out⟩
      · have c5 : (n == 0) = false := by rw [beq_eq_false_iff_ne]; exact hn0
        rw [if_pos ⟨hoe, fun e => absurd e hn0⟩]
        clear hR hK hoe hn HO HR HE hn0
        go_enter Tryz.func32, Tryz.ntmps32
        go_wp2
        refine wp_region_held_drew (S := (fun W => W.heap[w.heap.size]? = some (.cells O 25 (0, 0)) ∧ W.heap[w.heap.size + 1]? = some (.cells R 25 (0, 0)))) (by kernel_rfl) ⟨HW.out.1, HW.out.2.1⟩ (fun hHeld => ?_)
        refine zW 0 (.agg O) rfl (yieldsIf_row (by rfl) 25 (.tmp 4) rfl w.heap.size rfl 25 O (0, 0) _ (fun _ h => h.1) Tryz.underlying25 rfl HSO.out) hHeld ?_
        try simp only [Act.put, pS1, pS2, pS3]
        refine wpAnyH_ready (rs := [1]) (by kernel_rfl) (by simp) ?_
        refine (AllReadyH.cons (o := { dst := some 13, op := .call { callee := .value (.func 31), args := #[], argTypes := #[] }, type := 25, pos := "check.go:43", after := #[], guard := none }) rfl (fun K hK => ?_) AllReadyH.nil)
        go_simp
        refine (EM.out _ HW.out.2.2.drew).mono ?_
        rintro e w1 ⟨rfl, hb1⟩
        have HB1 := hidk (HW.out.2.2.drew.trans (hb1.mono HW.out.2.2.size))
        go_wp2_with fail
        refine hK.out _ _ ⟨(hb1.block _ (heap_lt hHeld.1)).trans hHeld.1, (hb1.block _ (heap_lt hHeld.2)).trans hHeld.2⟩ (fun hHeld => ?_)
        clear hK K
        try simp only [Act.put, pS1, pS2, pS3]
        refine zW 2 (.bool false) rfl (Or.inl ⟨by rfl, by intro W hSw; have := nq W; go_simp⟩) hHeld ?_
        try simp only [Act.put, pS1, pS2, pS3]
        refine zX 3 (.bool false) rfl hHeld ?_
        try simp only [Act.put, pS1, pS2, pS3]
        refine zX 4 (.int .i64 n) rfl hHeld ?_
        try simp only [Act.put, pS1, pS2, pS3]
        refine zX 5 (.bool false) rfl hHeld ?_
        try simp only [Act.put, pS1, pS2, pS3]
        refine zX 6 (.bool false) rfl hHeld ?_
        try simp only [Act.put, pS1, pS2, pS3]
        refine zW 7 (undef) rfl (Or.inr ⟨by rfl, rfl⟩) hHeld ?_
        try simp only [Act.put, pS1, pS2, pS3]
        refine zW 8 (undef) rfl (Or.inr ⟨by rfl, rfl⟩) hHeld ?_
        try simp only [Act.put, pS1, pS2, pS3]
        refine zW 9 (undef) rfl (Or.inr ⟨by rfl, rfl⟩) hHeld ?_
        try simp only [Act.put, pS1, pS2, pS3]
        refine zX 10 (.bool false) rfl hHeld ?_
        try simp only [Act.put, pS1, pS2, pS3]
        refine zX 11 (.bool false) rfl hHeld ?_
        try simp only [Act.put, pS1, pS2, pS3]
        refine wpAnyH_done (by kernel_rfl) ?_ _
        go_wp2
        go_ret
        exact ⟨rfl, HB1.out⟩
    · have nq : ∀ W, (binOp .neq 25 (.agg O) (.agg E)).run Tryz.prog W = .ok (.bool true) W := fun W => neqDigV _ _ ho (sumD_length _) O E HO HE true (by simp [hoe]) W
      rw [if_neg (fun h => hoe h.1)]
      clear hR hK hoe hn HO HR HE
      go_enter Tryz.func32, Tryz.ntmps32
      go_wp2
      refine wp_region_held_drew (S := (fun W => W.heap[w.heap.size]? = some (.cells O 25 (0, 0)) ∧ W.heap[w.heap.size + 1]? = some (.cells R 25 (0, 0)))) (by kernel_rfl) ⟨HW.out.1, HW.out.2.1⟩ (fun hHeld => ?_)
      refine zW 0 (.agg O) rfl (yieldsIf_row (by rfl) 25 (.tmp 4) rfl w.heap.size rfl 25 O (0, 0) _ (fun _ h => h.1) Tryz.underlying25 rfl HSO.out) hHeld ?_
      try simp only [Act.put, pS1, pS2, pS3]
      refine wpAnyH_ready (rs := [1]) (by kernel_rfl) (by simp) ?_
      refine (AllReadyH.cons (o := { dst := some 13, op := .call { callee := .value (.func 31), args := #[], argTypes := #[] }, type := 25, pos := "check.go:43", after := #[], guard := none }) rfl (fun K hK => ?_) AllReadyH.nil)
      go_simp
      refine (EM.out _ HW.out.2.2.drew).mono ?_
      rintro e w1 ⟨rfl, hb1⟩
      have HB1 := hidk (HW.out.2.2.drew.trans (hb1.mono HW.out.2.2.size))
      go_wp2_with fail
      refine hK.out _ _ ⟨(hb1.block _ (heap_lt hHeld.1)).trans hHeld.1, (hb1.block _ (heap_lt hHeld.2)).trans hHeld.2⟩ (fun hHeld => ?_)
      clear hK K
      try simp only [Act.put, pS1, pS2, pS3]
      refine zW 2 (.bool true) rfl (Or.inl ⟨by rfl, by intro W hSw; have := nq W; go_simp⟩) hHeld ?_
      try simp only [Act.put, pS1, pS2, pS3]
      refine zX 3 (.bool true) rfl hHeld ?_
      try simp only [Act.put, pS1, pS2, pS3]
      refine zW 4 (undef) rfl (Or.inr ⟨by rfl, rfl⟩) hHeld ?_
      try simp only [Act.put, pS1, pS2, pS3]
      refine zW 5 (undef) rfl (Or.inr ⟨by rfl, rfl⟩) hHeld ?_
      try simp only [Act.put, pS1, pS2, pS3]
      refine zW 6 (undef) rfl (Or.inr ⟨by rfl, rfl⟩) hHeld ?_
      try simp only [Act.put, pS1, pS2, pS3]
      refine zW 7 (undef) rfl (Or.inr ⟨by rfl, rfl⟩) hHeld ?_
      try simp only [Act.put, pS1, pS2, pS3]
      refine zW 8 (undef) rfl (Or.inr ⟨by rfl, rfl⟩) hHeld ?_
      try simp only [Act.put, pS1, pS2, pS3]
      refine zW 9 (undef) rfl (Or.inr ⟨by rfl, rfl⟩) hHeld ?_
      try simp only [Act.put, pS1, pS2, pS3]
      refine zW 10 (undef) rfl (Or.inr ⟨by rfl, rfl⟩) hHeld ?_
      try simp only [Act.put, pS1, pS2, pS3]
      refine zX 11 (.bool true) rfl hHeld ?_
      try simp only [Act.put, pS1, pS2, pS3]
      refine wpAnyH_done (by kernel_rfl) ?_ _
      go_wp2
      go_ret
      exact ⟨rfl, HB1.out⟩
  · have hp : p ≠ [] := fun e => by rw [e] at hR; exact h0 (by have := hR.1; simpa using this.symm)
    rw [if_neg hp]
    have d0 : decide (0 < (len : Int)) = true := by rw [decide_eq_true_eq]; omega
    have d0' : decide (0 < len) = true := by rw [decide_eq_true_eq]; omega
    have hpos : 0 < len := by omega
    clear hR hK HO HR hp h0
    go_enter Tryz.func32, Tryz.ntmps32
    go_wp2
    go_ret
    exact ⟨rfl, HW.out.2.2⟩
theorem fiveC_new (w : World) (O R : Array Value) (m n : Int) (a : Option Addr) (len cap : Nat) : FiveC w.heap.size (w.heap.size + 1) (w.heap.size + 2) (w.heap.size + 3) (w.heap.size + 4) m O n R a len cap (((((w.alloc (.cells #[.int .i64 m] 3)).alloc (.cells O 25)).alloc (.cells #[.int .i64 n] 3)).alloc (.cells R 25)).alloc (.cells #[.slice a len cap] 30)) ∧ Below w.heap.size w (((((w.alloc (.cells #[.int .i64 m] 3)).alloc (.cells O 25)).alloc (.cells #[.int .i64 n] 3)).alloc (.cells R 25)).alloc (.cells #[.slice a len cap] 30)) := by
  refine ⟨⟨heap_keep (heap_keep (heap_keep (heap_keep (heap_alloc_new w _)))), heap_keep (heap_keep (heap_keep ?_)), heap_keep (heap_keep ?_), heap_keep ?_, ?_⟩, ?_⟩
  · have := heap_alloc_new (w.alloc (.cells #[.int .i64 m] 3)) (.cells O 25)
    simpa using this
  · have := heap_alloc_new ((w.alloc (.cells #[.int .i64 m] 3)).alloc (.cells O 25)) (.cells #[.int .i64 n] 3)
    simpa using this
  · have := heap_alloc_new (((w.alloc (.cells #[.int .i64 m] 3)).alloc (.cells O 25)).alloc (.cells #[.int .i64 n] 3)) (.cells R 25)
    simpa using this
  · have := heap_alloc_new ((((w.alloc (.cells #[.int .i64 m] 3)).alloc (.cells O 25)).alloc (.cells #[.int .i64 n] 3)).alloc (.cells R 25)) (.cells #[.slice a len cap] 30)
    simpa using this
  · exact ((((((Below.refl _ _).alloc (Nat.le_refl _) _).alloc (by simp) _).alloc (by simp; omega) _).alloc (by simp; omega) _).alloc (by simp; omega) _)
set_option maxHeartbeats 1000000 in
theorem consistent_out (m n : Int) (a : Option Addr) (len cap : Nat) (w : World) (O R : Array Value) (h : ¬ (0 ≤ n ∧ n ≤ 100000 ∧ 0 ≤ m ∧ m ≤ n)) :
    Calls Tryz.prog 17 #[.int .i64 m, .agg O, .int .i64 n, .agg R, .slice a len cap] w fun e w' => e = .returned (.int .i64 40) ∧ Below w.heap.size w w' := by
  have HB := hidk (fiveC_new w O R m n a len cap).2
  have hF := (fiveC_new w O R m n a len cap).1
  have hc1 := cell_of_one hF.first
  have hc2 := cell_of_one hF.all
  clear hF
  by_cases h1 : n < 0
  · have d1 : decide (n < 0) = true := by rw [decide_eq_true_eq]; exact h1
    clear h h1
    go_enter Tryz.func17, Tryz.ntmps17
    go_wp2
    go_ret
    exact ⟨rfl, HB.out⟩
  · have d1 : decide (n < 0) = false := by rw [decide_eq_false_iff_not]; exact h1
    by_cases h2 : 100000 < n
    · have d2 : decide (100000 < n) = true := by rw [decide_eq_true_eq]; exact h2
      clear h h1 h2
      go_enter Tryz.func17, Tryz.ntmps17
      go_wp2
      go_ret
      exact ⟨rfl, HB.out⟩
    · have d2 : decide (100000 < n) = false := by rw [decide_eq_false_iff_not]; exact h2
      by_cases h3 : m < 0
      · have d3 : decide (m < 0) = true := by rw [decide_eq_true_eq]; exact h3
        clear h h1 h2 h3
        go_enter Tryz.func17, Tryz.ntmps17
        go_wp2
        go_ret
        exact ⟨rfl, HB.out⟩
      · have d3 : decide (m < 0) = false := by rw [decide_eq_false_iff_not]; exact h3
        have d4 : decide (n < m) = true := by rw [decide_eq_true_eq]; omega
        clear h h1 h2 h3
        go_enter Tryz.func17, Tryz.ntmps17
        go_wp2
        go_ret
        exact ⟨rfl, HB.out⟩
set_option maxHeartbeats 1000000 in
theorem consistent_none (old : List UInt8) (n : Int) (root : List UInt8) (p : List (List UInt8)) (a : Option Addr) (len cap : Nat) (w : World) (O R : Array Value) (HO : Hid (O = (cellsOf old).toArray)) (HR : Hid (R = (cellsOf root).toArray)) (ho : old.length = 32) (hr : root.length = 32) (hn : 0 ≤ n ∧ n ≤ 100000) (hR : LReads w a len cap p) (hK : Table 1 w) :
    Calls Tryz.prog 17 #[.int .i64 0, .agg O, .int .i64 n, .agg R, .slice a len cap] w fun e w' => e = .returned (.int .i64 (conE 0 old n root p)) ∧ Below w.heap.size w w' := by
  have HSO : Hid ((Tryz.prog.info? 25).map (·.size) = some O.size) := by show _ = _; rw [size23, HO.out]; simp [cellsOf_length, ho]
  have HSR : Hid ((Tryz.prog.info? 25).map (·.size) = some R.size) := by show _ = _; rw [size23, HR.out]; simp [cellsOf_length, hr]
  have HF := hidk (fiveC_new w O R 0 n a len cap)
  have hc1 := cell_of_one HF.out.1.first
  have hc2 := cell_of_one HF.out.1.all
  have hc3 := cell_of_one HF.out.1.proof
  have EM : Hid (∀ W, Below w.heap.size w W → Calls Tryz.prog 32 #[.agg O, .int .i64 n, .agg R, .slice a len cap] W fun e w' => e = .returned (.int .i64 (conE 0 old n root p)) ∧ Below W.heap.size W w') := fun W hb => empty_from old n root p a len cap W O R HO HR ho hr hn (hR.keep hb) (hK.keep hb)
  have d1 : decide (n < 0) = false := by rw [decide_eq_false_iff_not]; omega
  have d2 : decide (100000 < n) = false := by rw [decide_eq_false_iff_not]; omega
  obtain ⟨E, hE⟩ : ∃ E, E = conE 0 old n root p := ⟨_, rfl⟩
  rw [← hE] at EM ⊢
  clear hK hR hE hn HO HR
  go_enter Tryz.func17, Tryz.ntmps17
  go_wp2_with (first
    | (show aD 28 _ _ _ _ _ _ _ _ _ _ _; refine wpList_load_row rfl 25 (.tmp 6) rfl (w.heap.size + 1) rfl 25 O (0, 0) _ HF.out.1.old Tryz.underlying25 rfl HSO.out ?_; try simp only [Act.put, pS1, pS2, pS3])
    | (show aD 30 _ _ _ _ _ _ _ _ _ _ _; refine wpList_load_row rfl 25 (.tmp 8) rfl (w.heap.size + 3) rfl 25 R (0, 0) _ HF.out.1.root Tryz.underlying25 rfl HSR.out ?_; try simp only [Act.put, pS1, pS2, pS3])
    | fail)
  refine (EM.out _ HF.out.2).mono ?_
  rintro e w2 ⟨rfl, hb2⟩
  have HB2 := hidk (HF.out.2.trans (hb2.mono HF.out.2.size))
  clear hb2 EM HF hc1 hc2 hc3
  go_wp2
  go_ret
  exact ⟨rfl, HB2.out⟩
set_option maxHeartbeats 1000000 in
theorem consistent_some (M : Nat) (old : List UInt8) (N : Nat) (root : List UInt8) (p : List (List UInt8)) (a : Option Addr) (len cap : Nat) (w : World) (O R : Array Value) (HO : Hid (O = (cellsOf old).toArray)) (HR : Hid (R = (cellsOf root).toArray)) (ho : old.length = 32) (hr : root.length = 32) (hM1 : 1 ≤ M) (hMN : M ≤ N) (hN : N ≤ 100000) (hR : LReads w a len cap p) (hK : Table 1 w) :
    Calls Tryz.prog 17 #[.int .i64 M, .agg O, .int .i64 N, .agg R, .slice a len cap] w fun e w' => e = .returned (.int .i64 (conE M old N root p)) ∧ Below w.heap.size w w' := by
  have hmf : ∀ (fn : Fn) (first cap : Array Value) (w : World), (Instr.makeFunc fn first cap).run Tryz.prog w = .ok (.func fn first cap) w := fun _ _ _ _ => rfl
  have HF := hidk (fiveC_new w O R M N a len cap)
  have hc1 := cell_of_one HF.out.1.first
  have hc2 := cell_of_one HF.out.1.all
  have HD : Hid (∀ W, (((((w.alloc (.cells #[.int .i64 (M : Int)] 3)).alloc (.cells O 25)).alloc (.cells #[.int .i64 (N : Int)] 3)).alloc (.cells R 25)).alloc (.cells #[.slice a len cap] 30)) = W → Calls Tryz.prog 33 #[.func (.func 34) #[] #[.pointer (some ⟨w.heap.size, 0, none⟩), .pointer (some ⟨(w.heap.size + 2), 0, none⟩), .pointer (some ⟨(w.heap.size + 1), 0, none⟩), .pointer (some ⟨(w.heap.size + 4), 0, none⟩), .pointer (some ⟨(w.heap.size + 3), 0, none⟩)]] W fun e w' => e = .returned (.int .i64 (conE M old N root p)) ∧ Below W.heap.size W w') := fun W hW => by
    subst hW
    rw [conE_in M old N root p hM1 hMN hN]
    by_cases hm : (bothR p.reverse M N old true).2.2 = true
    · rw [if_pos hm]
      have := held_ok 34 _ _ (decide ((bothR p.reverse M N old true).1 = old ∧ (bothR p.reverse M N old true).2.1 = root)) (fun _ => by simp [go_sem]) (fun W' hb => cons1_ok root M N old p a len cap _ _ _ _ _ W' R O HR hr HO ho hM1 hMN hN (HF.out.1.keep hb) ((hR.keep HF.out.2).keep hb) ((hK.keep HF.out.2).keep hb) hm)
      simpa using this
    · rw [if_neg hm]
      exact held_no 34 _ _ (fun _ => by simp [go_sem]) (fun W' hb => cons1_no M N old p a len cap _ _ _ _ _ W' R O HO ho hM1 hMN hN (HF.out.1.keep hb) ((hR.keep HF.out.2).keep hb) (by simpa using hm))
  have d1 : decide ((N : Int) < 0) = false := by rw [decide_eq_false_iff_not]; omega
  have d2 : decide (100000 < (N : Int)) = false := by rw [decide_eq_false_iff_not]; omega
  have d2' : decide (100000 < N) = false := by rw [decide_eq_false_iff_not]; omega
  have d3 : decide ((M : Int) < 0) = false := by rw [decide_eq_false_iff_not]; omega
  have d4 : decide ((N : Int) < (M : Int)) = false := by rw [decide_eq_false_iff_not]; omega
  have d4' : decide (N < M) = false := by rw [decide_eq_false_iff_not]; omega
  have d5 : ((M : Int) == 0) = false := by rw [beq_eq_false_iff_ne]; omega
  obtain ⟨E, hE⟩ : ∃ E, E = conE M old N root p := ⟨_, rfl⟩
  rw [← hE] at HD ⊢
  have HB := hidk HF.out.2
  clear hK hR HF hE
  go_enter Tryz.func17, Tryz.ntmps17
  go_wp2_with fail
  refine (HD.out _ rfl).mono ?_
  rintro e w2 ⟨rfl, hb2⟩
  have HB2 := hidk (HB.out.trans (hb2.mono HB.out.size))
  clear hb2 HD
  go_wp2
  go_ret
  exact ⟨rfl, HB2.out⟩
end Go.Proofs.YtjalebncfnekiaaGreatDoor.P5
/- What the calls of package check answer, where Clash is not reached. -/
namespace Go.Proofs.YtjalebncfnekiaaGreatDoor.P5
open Go.RowKit Sums
set_option maxRecDepth 100000
set_option linter.unusedVariables false
theorem checkC : CheckC where
  consistent := fun m old n root proof a len cap w O R HO HR ho hr hm hn hR hK => by
    by_cases h : 0 ≤ n ∧ n ≤ 100000 ∧ 0 ≤ m ∧ m ≤ n
    · by_cases h0 : m = 0
      · subst h0
        exact consistent_none old n root proof a len cap w O R HO HR ho hr (by omega) hR hK.sha
      · obtain ⟨M, rfl⟩ : ∃ M : Nat, m = M := ⟨m.toNat, by omega⟩
        obtain ⟨N, rfl⟩ : ∃ N : Nat, n = N := ⟨n.toNat, by omega⟩
        exact consistent_some M old N root proof a len cap w O R HO HR ho hr (by omega) (by omega) (by omega) hR hK.sha
    · rw [conE_out m old n root proof h]
      exact consistent_out m n a len cap w O R h
end Go.Proofs.YtjalebncfnekiaaGreatDoor.P5
