/- Texts of our own that the row of TopJournal leans on, part 30. -/
import Derived.Test.YtgclohgcehhfnabGreatDoorTopJournalJ28
import Derived.Great.BuildSlice
/- Literals of lists of digests. -/
namespace Go.Proofs.YtgclohgcehhfnabGreatDoor
open Go.RowKit Sums
set_option maxRecDepth 100000
set_option linter.unusedVariables false
set_option linter.unusedSimpArgs false
theorem fold_setD (D : List Value) : ∀ (k off : Nat) (cs : Array Value) (pre old rest : List Value), cs.toList = pre ++ old ++ rest → pre.length = off + k → old.length = D.length →
    ((D.zipIdx k).foldl (fun cs (c, j) => cs.setIfInBounds (off + j) c) cs).toList = pre ++ D ++ rest := by
  induction D with
  | nil =>
    intro k off cs pre old rest h hp ho
    have : old = [] := List.eq_nil_of_length_eq_zero ho
    subst this
    simpa using h
  | cons d D ih =>
    intro k off cs pre old rest h hp ho
    match old, ho with
    | x :: old, ho =>
      rw [List.zipIdx_cons, List.foldl_cons]
      have := ih (k + 1) off (cs.setIfInBounds (off + k) d) (pre ++ [d]) old rest (by
        rw [Array.toList_setIfInBounds, h, ← hp]
        simp) (by simp; omega) (by simpa using ho)
      rw [this]
      simp
theorem fill_rows (ds : List (List Value)) : ∀ (k : Nat) (cs : Array Value) (pre old : List Value), cs.toList = pre ++ old → pre.length = k * 32 → (∀ d ∈ ds, d.length = 32) → old.length = ds.length * 32 →
    Instr.fill (fun i => some (i * 32, 32)) cs ((ds.zipIdx k).map fun x => (x.2, Value.agg x.1.toArray)) = some (pre ++ ds.flatten).toArray := by
  induction ds with
  | nil =>
    intro k cs pre old h hp hd ho
    have : old = [] := List.eq_nil_of_length_eq_zero (by simpa using ho)
    subst this
    simp only [List.zipIdx_nil, List.map_nil, Instr.fill, List.flatten_nil, ← h]
  | cons d ds ih =>
    intro k cs pre old h hp hd ho
    have h32 := hd d (List.mem_cons_self ..)
    simp only [List.length_cons] at ho
    have hcs : cs.size = k * 32 + old.length := by rw [← Array.length_toList, h, List.length_append, hp]
    rw [List.zipIdx_cons, List.map_cons]
    unfold Instr.fill
    have hsz : (Value.agg d.toArray).cells.size = 32 := by show d.toArray.size = 32; simp [h32]
    simp only [hsz]
    rw [if_neg (by simp; omega)]
    refine (ih (k + 1) _ (pre ++ d) (old.drop 32) ?_ (by simp; omega) (fun x hx => hd x (List.mem_cons_of_mem _ hx)) (by simp; omega)).trans (by simp)
    have := fold_setD d 0 (k * 32) cs pre (old.take 32) (old.drop 32) (by rw [h, List.append_assoc, List.take_append_drop]) (by omega) (by simp; omega)
    rw [← this, ← Array.foldl_toList]
    congr 2
    simp [Value.cells]
theorem run_build_digs (w : World) (n : Nat) (ds : List (List UInt8)) (hd : Digs32 ds) (hn : ds.length = n) (h1 : 0 < n) (h2 : n ≤ 100) (parts : Array (Nat × Value)) (hp : parts.toList = ((ds.map cellsOf).zipIdx 0).map fun x => (x.2, Value.agg x.1.toArray)) :
    (Instr.buildSlice 118 n parts).run Tryz.prog w = .ok (.slice (some ⟨w.heap.size, 0, none⟩) n n) (w.alloc (.cells (cellsOf ds.flatten).toArray 39)) := by
  cases hie : Tryz.prog.info? 39 with
  | none => have := zero27; simp [hie] at this
  | some ie =>
    have hz := zero27
    rw [hie] at hz
    simp only [Option.map_some, Option.some.injEq, Prod.mk.injEq] at hz
    obtain ⟨hz, hs⟩ := hz
    refine run_buildSlice w 118 39 n parts _ ie _ Tryz.underlying118 hie hz (by rw [hs]; omega) (by rw [hs]; omega) ?_
    rw [hs, hp]
    have e : (ds.map cellsOf).flatten = cellsOf ds.flatten := by
      unfold cellsOf
      rw [List.map_flatten]
    generalize hcs : Array.map _ (Array.range (n * 32)) = cs
    have hcz : cs.size = n * 32 := by rw [← hcs]; simp
    rw [fill_rows (ds.map cellsOf) 0 cs [] cs.toList rfl rfl (fun d h => by
      obtain ⟨x, hx, rfl⟩ := List.mem_map.1 h
      rw [cellsOf_length]; exact hd x hx) (by simp [hcz, hn]), e]
    rfl
theorem build_one (w : World) (d : List UInt8) (hd : d.length = 32) (D : Array Value) (HD : Hid (D = (cellsOf d).toArray)) :
    (Instr.buildSlice 118 1 #[(0, .agg D)]).run Tryz.prog w = .ok (.slice (some ⟨w.heap.size, 0, none⟩) 1 1) (w.alloc (.cells D 39)) := by
  rw [HD.out, run_build_digs w 1 [d] (.one hd) rfl (by omega) (by omega) _ (by simp)]
  simp
theorem wp_build_run {P : Program} {o : Oper} {a : Act} {w : World} {K : Act → World → Prop} {Q : Exit → Act → World → Prop} (t : TypeId) (n : Nat) (parts : Array (Nat × Operand)) (ho : o.op = .buildSlice t n parts) (vals : Array (Nat × Value)) (hv : (parts.toList.map fun p => (p.1, a.eval p.2)) = vals.toList)
    (s : Value) (w' : World) (hrun : (Instr.buildSlice t n vals).run P w = .ok s w') (h : K (a.put o.dst s) w') : o.wp P a w K Q := by
  have hv' : (parts.map fun (i, x) => (i, a.eval x)) = vals := by
    apply Array.ext'
    rw [Array.toList_map, ← hv]
  subst hv'
  unfold Oper.wp execOp
  simp only [ho, Sem.run_bind, hrun, Result.andThen_ok]
  exact h
theorem wpList_build_run {P : Program} {ops : Array Oper} {rest : List Oper} {o : Oper} {a : Act} {w : World} {Q : Exit → Act → World → Prop} (hg : o.guard = none) (t : TypeId) (n : Nat) (parts : Array (Nat × Operand)) (ho : o.op = .buildSlice t n parts) (vals : Array (Nat × Value)) (hv : (parts.toList.map fun p => (p.1, a.eval p.2)) = vals.toList)
    (s : Value) (w' : World) (hrun : (Instr.buildSlice t n vals).run P w = .ok s w') (h : wpList P ops Q rest (a.put o.dst s) w') : wpList P ops Q (o :: rest) a w :=
  wpList_plain hg fun _ hK => wp_build_run t n parts ho vals hv s w' hrun (hK _ _ h)
theorem wpList_build_run_w {P : Program} {ops : Array Oper} {rest : List Oper} {o : Oper} {a : Act} {w : World} {Q : Exit → Act → World → Prop} (hw : Region.wanted o (yielded ops a.tmps) = true) (t : TypeId) (n : Nat) (parts : Array (Nat × Operand)) (ho : o.op = .buildSlice t n parts) (vals : Array (Nat × Value)) (hv : (parts.toList.map fun p => (p.1, a.eval p.2)) = vals.toList)
    (s : Value) (w' : World) (hrun : (Instr.buildSlice t n vals).run P w = .ok s w') (h : wpList P ops Q rest (a.put o.dst s) w') : wpList P ops Q (o :: rest) a w :=
  BigFrame.wpList_want hw fun _ hK => wp_build_run t n parts ho vals hv s w' hrun (hK _ _ h)
theorem LReads.new (W : World) (ds : List (List UInt8)) (n : Nat) (hn : ds.length = n) (hd : Digs32 ds) (h1 : n ≤ 100) (L : Array Value) (HL : Hid (L = (cellsOf ds.flatten).toArray)) : LReads (W.alloc (.cells L 39)) (some ⟨W.heap.size, 0, none⟩) n n ds := by
  refine ⟨hn, hd, Nat.le_refl _, by unfold maxLen; omega, .inr ⟨_, _, rfl, fun i hi => ?_⟩⟩
  rw [Nat.zero_add, cell_of_row _ _ i _ 39 (0, 0) (heap_alloc_new W _), HL.out]
  simp [cellsOf_at _ i hi]
attribute [local go_sem] store_func
end Go.Proofs.YtgclohgcehhfnabGreatDoor
/- What tree.Consistency answers: the proof of a beginning. -/
namespace Go.Proofs.YtgclohgcehhfnabGreatDoor
open Go.RowKit Sums
set_option maxRecDepth 100000
set_option linter.unusedVariables false
set_option linter.unusedSimpArgs false
attribute [local go_sem] store_func
end Go.Proofs.YtgclohgcehhfnabGreatDoor
