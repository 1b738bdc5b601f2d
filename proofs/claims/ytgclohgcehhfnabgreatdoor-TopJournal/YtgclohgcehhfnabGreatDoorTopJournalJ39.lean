/- Texts of our own that the row of TopJournal leans on, part 39. -/
import Derived.Test.YtgclohgcehhfnabGreatDoorTopJournalJ6
import Derived.Test.YtgclohgcehhfnabGreatDoorTopJournalJ15
import Derived.Test.YtgclohgcehhfnabGreatDoorTopJournalJ34
/- What the document's New, Read, Write, Sync and Stop answer. -/
namespace Go.Proofs.YtgclohgcehhfnabGreatDoor
open Go.RowKit Nums Sums
set_option linter.unusedVariables false
set_option linter.unusedSimpArgs false
set_option maxRecDepth 100000
theorem run_max2 {P : Program} (W : World) (ats : Array TypeId) (ty : TypeId) (a b : Int) : (Builtin.max_ ats ty #[.int .i64 a, .int .i64 b]).run P W = .ok (.int .i64 (max a b)) W := by
  simp only [Builtin.max_, List.foldlM_cons, List.foldlM_nil]
  by_cases h : a < b
  · have e : max a b = b := by omega
    rw [e]
    simp [go_sem, Builtin.max2, h]
  · have e : max a b = a := by omega
    rw [e]
    simp [go_sem, Builtin.max2, h]
theorem run_min2 {P : Program} (W : World) (ats : Array TypeId) (ty : TypeId) (a b : Int) : (Builtin.min_ ats ty #[.int .i64 a, .int .i64 b]).run P W = .ok (.int .i64 (min a b)) W := by
  simp only [Builtin.min_, List.foldlM_cons, List.foldlM_nil]
  by_cases h : a < b
  · have e : min a b = a := by omega
    rw [e]
    have h' : ¬ b < a := by omega
    simp [go_sem, Builtin.min2, h, h']
  · have e : min a b = b := by omega
    rw [e]
    by_cases h2 : b < a
    · simp [go_sem, Builtin.min2, h, h2]
    · obtain rfl : a = b := by omega
      simp [go_sem, Builtin.min2]
theorem wpList_max {P : Program} {ops : Array Oper} {rest : List Oper} {o : Oper} {A : Act} {w : World} {Q : Exit → Act → World → Prop} (hgd : o.guard = none) (x y : Operand) (ts : Array TypeId) (hop : o.op = Op.call { callee := Callee.builtin Builtin.max, args := #[x, y], argTypes := ts })
    (a b : Int) (hx : A.eval x = .int .i64 a) (hy : A.eval y = .int .i64 b) (m : Int) (hm : m = max a b) (h : wpList P ops Q rest (A.put o.dst (.int .i64 m)) w) : wpList P ops Q (o :: rest) A w := by
  refine wpList_plain hgd fun K hK => ?_
  have hrun := run_max2 (P := P) w ts o.type a b
  rw [← hm] at hrun
  unfold Oper.wp
  simp only [execOp, hop, resolve, invoke, builtin, List.map_toArray, List.map_cons, List.map_nil, hx, hy, hrun, Sem.run_bind, Sem.run_pure, Result.andThen_ok]
  exact hK _ _ h
theorem wpList_min {P : Program} {ops : Array Oper} {rest : List Oper} {o : Oper} {A : Act} {w : World} {Q : Exit → Act → World → Prop} (hgd : o.guard = none) (x y : Operand) (ts : Array TypeId) (hop : o.op = Op.call { callee := Callee.builtin Builtin.min, args := #[x, y], argTypes := ts })
    (a b : Int) (hx : A.eval x = .int .i64 a) (hy : A.eval y = .int .i64 b) (m : Int) (hm : m = min a b) (h : wpList P ops Q rest (A.put o.dst (.int .i64 m)) w) : wpList P ops Q (o :: rest) A w := by
  refine wpList_plain hgd fun K hK => ?_
  have hrun := run_min2 (P := P) w ts o.type a b
  rw [← hm] at hrun
  unfold Oper.wp
  simp only [execOp, hop, resolve, invoke, builtin, List.map_toArray, List.map_cons, List.map_nil, hx, hy, hrun, Sem.run_bind, Sem.run_pure, Result.andThen_ok]
  exact hK _ _ h
end Go.Proofs.YtgclohgcehhfnabGreatDoor
