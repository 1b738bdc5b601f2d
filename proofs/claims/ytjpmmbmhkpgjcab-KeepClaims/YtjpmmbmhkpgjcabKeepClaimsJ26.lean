/- Texts of our own that the row of KeepClaims leans on, part 26. -/
import Derived.Test.YtjpmmbmhkpgjcabKeepClaimsJ24
import Derived.Great.BuildSlice

/- Literals of lists of digests. -/
namespace Go.Proofs.Ytjpmmbmhkpgjcab
open Go.RowKit Sums
set_option maxRecDepth 100000
set_option linter.unusedVariables false
set_option linter.unusedSimpArgs false
theorem fold_setD (D : List Value) : ∀ (k off : Nat) (cs : Array Value) (pre old rest : List Value), cs.toList = pre ++ old ++ rest → pre.length = off + k → old.length = D.length →
    ((D.zipIdx k).foldl (fun cs (c, j) => cs.setIfInBounds (off + j) c) cs).toList = pre ++ D ++ rest := by
  induction D with
  | nil =>
    intro k off cs pre old rest h hp ho
    have : old = [] := List.eq_nil_of_length_eq_zero ho
    subst this
    simpa using h
  | cons d D ih =>
    intro k off cs pre old rest h hp ho
    match old, ho with
    | x :: old, ho =>
      rw [List.zipIdx_cons, List.foldl_cons]
      have := ih (k + 1) off (cs.setIfInBounds (off + k) d) (pre ++ [d]) old rest (by
        rw [Array.toList_setIfInBounds, h, ← hp]
        simp) (by simp; omega) (by simpa using ho)
      rw [this]
      simp
/-- A literal of a list, as one step of a region that draws its order, and of a plain one. -/
theorem wp_build_run {P : Program} {o : Oper} {a : Act} {w : World} {K : Act → World → Prop} {Q : Exit → Act → World → Prop} (t : TypeId) (n : Nat) (parts : Array (Nat × Operand)) (ho : o.op = .buildSlice t n parts) (vals : Array (Nat × Value)) (hv : (parts.toList.map fun p => (p.1, a.eval p.2)) = vals.toList)
    (s : Value) (w' : World) (hrun : (Instr.buildSlice t n vals).run P w = .ok s w') (h : K (a.put o.dst s) w') : o.wp P a w K Q := by
  have hv' : (parts.map fun (i, x) => (i, a.eval x)) = vals := by
    apply Array.ext'
    rw [Array.toList_map, ← hv]
  subst hv'
  unfold Oper.wp execOp
  simp only [ho, Sem.run_bind, hrun, Result.andThen_ok]
  exact h
theorem step_build_run {P : Program} {ops : Array Oper} {o : Oper} {a : Act} {w : World} {K : Act → World → Prop} {Q : Exit → Act → World → Prop} {E : Prop} (hw : Region.wanted o (yielded ops a.tmps) = true) (t : TypeId) (n : Nat) (parts : Array (Nat × Operand)) (ho : o.op = .buildSlice t n parts) (vals : Array (Nat × Value)) (hv : (parts.toList.map fun p => (p.1, a.eval p.2)) = vals.toList)
    (s : Value) (w' : World) (hrun : (Instr.buildSlice t n vals).run P w = .ok s w') (h : K (a.put o.dst s) w') : if Region.wanted o (yielded ops a.tmps) = true then Oper.wp P o a w K Q else E := by
  rw [if_pos hw]
  exact wp_build_run t n parts ho vals hv s w' hrun h
theorem wpList_build_run {P : Program} {ops : Array Oper} {rest : List Oper} {o : Oper} {a : Act} {w : World} {Q : Exit → Act → World → Prop} (hg : o.guard = none) (t : TypeId) (n : Nat) (parts : Array (Nat × Operand)) (ho : o.op = .buildSlice t n parts) (vals : Array (Nat × Value)) (hv : (parts.toList.map fun p => (p.1, a.eval p.2)) = vals.toList)
    (s : Value) (w' : World) (hrun : (Instr.buildSlice t n vals).run P w = .ok s w') (h : wpList P ops Q rest (a.put o.dst s) w') : wpList P ops Q (o :: rest) a w :=
  wpList_plain hg fun _ hK => wp_build_run t n parts ho vals hv s w' hrun (hK _ _ h)
/-- A literal of digests that has just been laid can be read. -/
theorem LReads.new (W : World) (ds : List (List UInt8)) (n : Nat) (hn : ds.length = n) (hd : Digs32 ds) (h1 : n ≤ 100) (L : Array Value) (HL : Hid (L = (cellsOf ds.flatten).toArray)) : LReads (W.alloc (.cells L 27)) (some ⟨W.heap.size, 0, none⟩) n n ds := by
  refine ⟨hn, hd, Nat.le_refl _, by unfold maxLen; omega, .inr ⟨_, _, rfl, fun i hi => ?_⟩⟩
  rw [Nat.zero_add, cell_of_row _ _ i _ 27 (0, 0) (heap_alloc_new W _), HL.out]
  simp [cellsOf_at _ i hi]
end Go.Proofs.Ytjpmmbmhkpgjcab

/- What the document's behind and Inclusion answer. -/
namespace Go.Proofs.Ytjpmmbmhkpgjcab
open Go.RowKit Sums
set_option maxRecDepth 100000
set_option linter.unusedVariables false
set_option linter.unusedSimpArgs false

end Go.Proofs.Ytjpmmbmhkpgjcab

/- What the document's Consistency answers. -/
namespace Go.Proofs.Ytjpmmbmhkpgjcab
open Go.RowKit Sums
set_option maxRecDepth 100000
set_option linter.unusedVariables false
set_option linter.unusedSimpArgs false

end Go.Proofs.Ytjpmmbmhkpgjcab
