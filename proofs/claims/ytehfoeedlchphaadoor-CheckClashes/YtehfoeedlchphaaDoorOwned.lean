/- Lists of the call's own: an append in a plain region; such a list can be read. -/
import Derived.Test.YtehfoeedlchphaaDoorGrown
namespace Go.Proofs.YtehfoeedlchphaaDoor
open Go.RowKit Sums
set_option linter.unusedVariables false
set_option linter.unusedSimpArgs false

/-- An append whose run is known, in a plain region. -/
theorem wpList_append_run {P : Program} {ops : Array Oper} {rest : List Oper} {o : Oper} {a : Act} {w : World} {Q : Exit → Act → World → Prop}
    (hg : o.guard = none) (s x : Operand) (t u : TypeId) (hop : o.op = Op.call { callee := Callee.builtin Builtin.append, args := #[s, x], argTypes := #[t, u] })
    (vs vx v' : Value) (w' : World) (hs : a.eval s = vs) (hx : a.eval x = vx) (hrun : (Builtin.append_ #[t, u] o.type #[vs, vx]).run P w = .ok v' w')
    (h : wpList P ops Q rest (a.put o.dst v') w') : wpList P ops Q (o :: rest) a w := by
  refine wpList_plain hg fun K hK => ?_
  unfold Oper.wp
  simp [execOp, hop, resolve, invoke, builtin, hs, hx, hrun, Result.andThen]
  exact hK _ _ h
theorem neqSelf (D : Array Value) (l : List UInt8) (hl : l.length = 32) (HD : Hid (D = (cellsOf l).toArray)) (w : World) : (binOp .neq 23 (.agg D) (.agg D)).run Tryd.prog w = .ok (.bool false) w := by
  have h : (Op.equalIn (9998 + 2) 23 (.agg (cellsOf l).toArray) (.agg (cellsOf l).toArray)).run Tryd.prog w = .ok (l == l) w := run_equalIn_bytes (P := Tryd.prog) w 9998 23 5 32 Tryd.underlying23 Tryd.underlying5 sizeOf5 l l hl hl
  rw [run_neq_struct, HD.out]
  simp only [Nat.reduceAdd] at h
  rw [h]
  simp

/-- A list of the call's own can be read. -/
theorem LReads.own {w : World} {B : Nat} {v : Value} {l : List (List UInt8)} (h : w.ownsRow B 23 32 v l.length (cellsOf l.flatten)) (hd : Digs32 l) : ∃ a cap, v = .slice a l.length cap ∧ LReads w a l.length cap l ∧ (∀ g o, a = some ⟨g, o, none⟩ → B ≤ g) := by
  rcases h.2 with ⟨rfl, h0⟩ | ⟨g, cap, cur, rfl, hb, hg, hc, hm, hs, ht⟩
  · exact ⟨none, 0, by rw [h0], ⟨rfl, hd, by omega, by omega, .inl h0⟩, fun g o e => by cases e⟩
  · refine ⟨some ⟨g, 0, none⟩, cap, rfl, ⟨rfl, hd, hc, by omega, .inr ⟨g, 0, rfl, fun i hi => ?_⟩⟩, fun g' o' e => by cases e; exact hb⟩
    rw [Nat.zero_add, cell_of_row w g i cur 23 (0, 0) hg]
    have hfl := flat_length hd
    have e : (cellsOf l.flatten)[i]? = cur.toList[i]? := by
      rw [← ht, List.getElem?_take, if_pos (by omega)]
    rw [cellsOf_at _ i hi] at e
    simpa using e.symm
end Go.Proofs.YtehfoeedlchphaaDoor
