/- Lists of digests that grow: an append, and a variable that holds one. -/
import Derived.Test.YtehfoeedlchphaaDoorRoots
import Derived.OneCell
namespace Go.Proofs.YtehfoeedlchphaaDoor
open Go.RowKit Sums
set_option linter.unusedVariables false
set_option linter.unusedSimpArgs false

/-- A function's value is written into a variable. -/
theorem store_func (P : Program) (w : World) (a : Addr) (m : Mode) (f : Fn) (first cap : Array Value) : (store a (.func f first cap) m).run P w = stored P w a (.func f first cap) m := run_store P w a _ m rfl
theorem own_below {B : Nat} {e : TypeId} {k : Nat} {v : Value} {n : Nat} {xs : List Value} {w w' : World} (h : w.ownsRow B e k v n xs) (hb : Below w.heap.size w w') : w'.ownsRow B e k v n xs :=
  h.kept (row := none) ⟨hb.os, hb.tape, hb.output, hb.size, fun j hj _ => hb.block j hj⟩ (by cases hv : v.ownBlock <;> simp)
theorem table_low {g B : Nat} {w w' : World} (h : Table g w) (hb : Below B w w') (hg : g < B) : Table g w' :=
  ⟨Nat.lt_of_lt_of_le h.1 hb.size, fun k hk => by rw [hb.cell hg]; exact h.2 k hk⟩

theorem infoD : (Tryd.prog.info? 23).map (fun i => (i.zero, i.size, i.bytes)) = some (some (.agg (cellsOf (List.replicate 32 0)).toArray), 32, 32) := by kernel_rfl

/-- Digests put behind those of a list of the call's own. -/
theorem run_append_digs (W : World) (B : Nat) (v : Value) (l news : List (List UInt8)) (hown : W.ownsRow B 23 32 v l.length (cellsOf l.flatten)) (a : Addr) (m c : Nat) (hm : news.length = m) (hd : Digs32 news)
    (hN : ∀ j u, (cellsOf news.flatten)[j]? = some u → W.cell? (a.add j) = some u) (hB : B ≤ W.heap.size) (hlen : l.length + m ≤ 1000000) :
    ∃ v' w', (Builtin.append_ #[24, 24] 24 #[v, .slice (some a) m c]).run Tryd.prog W = .ok v' w' ∧ w'.ownsRow B 23 32 v' (l.length + m) (cellsOf (l ++ news).flatten) ∧ W.grownBy w' v.ownBlock := by
  obtain ⟨i0, hi, hz0, hz1, hz2⟩ := info_parts infoD
  obtain ⟨v', w', hr, ho, hg, _⟩ := run_append_own (P := Tryd.prog) W B 24 24 23 i0 _ 32 32 Tryd.underlying24 hi hz0 hz1 hz2 (by rfl) (by decide) v l.length _ hown a m c (cellsOf news.flatten)
    (by rw [cellsOf_length, flat_length hd]; omega) hN (cellsOf_one _) (by unfold maxLen; omega) (by omega) hB
  refine ⟨v', w', hr, ?_, hg⟩
  rw [List.flatten_append, cellsOf_append]
  exact ho

/-- What a proof's variable and its function's variable hold while it grows. -/
structure Holds (B gp gf : Nat) (tf : TypeId) (F v : Value) (l : List (List UInt8)) (w : World) : Prop where
  proof : w.heap[gp]? = some (.cells #[v] 24 (0, 0))
  prove : w.heap[gf]? = some (.cells #[F] tf (0, 0))
  own : w.ownsRow B 23 32 v l.length (cellsOf l.flatten)

theorem Holds.keep {B gp gf : Nat} {tf : TypeId} {F v : Value} {l : List (List UInt8)} {w w' : World} (h : Holds B gp gf tf F v l w) (hb : Below w.heap.size w w') : Holds B gp gf tf F v l w' :=
  ⟨(hb.block _ (heap_lt h.proof)).trans h.proof, (hb.block _ (heap_lt h.prove)).trans h.prove, own_below h.own hb⟩
theorem Holds.drew {B gp gf : Nat} {tf : TypeId} {F v : Value} {l : List (List UInt8)} {w : World} (h : Holds B gp gf tf F v l w) : Holds B gp gf tf F v l w.drew := ⟨h.proof, h.prove, h.own⟩
theorem own_other {B : Nat} {v : Value} {l : List (List UInt8)} {w : World} {b : Nat} {c : Array Value} {t : TypeId} {m : Nat × Nat} (h : w.ownsRow B 23 32 v l.length (cellsOf l.flatten)) (hb : w.heap[b]? = some (.cells c t m)) (ht : t ≠ 23) : some b ≠ v.ownBlock := by
  intro e
  rcases h.2 with ⟨rfl, _⟩ | ⟨g, cap, cur, rfl, _, hgb, _⟩
  · simp [Value.ownBlock] at e
  · obtain rfl : b = g := by simpa [Value.ownBlock] using e
    rw [hgb] at hb
    cases hb
    exact ht rfl

theorem own_form {w : World} {B size n : Nat} {e : TypeId} {v : Value} {xs : List Value} (h : w.ownsRow B e size v n xs) (hn : 0 < n) : ∃ g cap, v = .slice (some ⟨g, 0, none⟩) n cap := by
  rcases h.2 with ⟨_, h0⟩ | ⟨g, cap, cur, hv, _⟩
  · omega
  · exact ⟨g, cap, hv⟩

/-- One digest put behind a list that grows: the literal's block is made, the append runs. -/
theorem Holds.append {B gp gf : Nat} {tf : TypeId} {F v : Value} {l : List (List UInt8)} {w : World} (h : Holds B gp gf tf F v l w) (htf : tf ≠ 23) (hB : B ≤ w.heap.size) (hlen : l.length + 1 ≤ 1000000) (d : List UInt8) (hd : d.length = 32) (D : Array Value) (HD : Hid (D = (cellsOf d).toArray)) :
    ∃ gn cn w', (Builtin.append_ #[24, 24] 24 #[v, .slice (some ⟨w.heap.size, 0, none⟩) 1 1]).run Tryd.prog (w.alloc (.cells D 23)) = .ok (.slice (some ⟨gn, 0, none⟩) (l.length + 1) cn) w' ∧
      w'.heap[gp]? = some (.cells #[v] 24 (0, 0)) ∧ w'.heap[gf]? = some (.cells #[F] tf (0, 0)) ∧ w'.ownsRow B 23 32 (.slice (some ⟨gn, 0, none⟩) (l.length + 1) cn) (l ++ [d]).length (cellsOf (l ++ [d]).flatten) ∧ Below B w w' := by
  have hb0 : Below w.heap.size w (w.alloc (.cells D 23)) := (Below.refl _ _).alloc (Nat.le_refl _) _
  have h' := h.keep hb0
  obtain ⟨v', w', hr, ho, hg⟩ := run_append_digs (w.alloc (.cells D 23)) B v l [d] h'.own ⟨w.heap.size, 0, none⟩ 1 1 rfl (.one hd) (by
    intro j u hj
    rw [add_plain, Nat.zero_add, cell_of_row _ _ j _ 23 (0, 0) (heap_alloc_new w _), HD.out]
    simpa using hj) (Nat.le_trans hB (by simp)) hlen
  obtain ⟨gn, cn, rfl⟩ := own_form ho (by omega)
  refine ⟨gn, cn, w', hr, ?_, ?_, by rw [List.length_append]; exact ho, ?_⟩
  · exact (hg.block _ (heap_lt h'.proof) (own_other h'.own h'.proof (by decide))).trans h'.proof
  · exact (hg.block _ (heap_lt h'.prove) (own_other h'.own h'.prove htf)).trans h'.prove
  · exact (hb0.mono hB).grown hg (Nat.le_trans hB (by simp)) (fun k hk => (h'.own.lt k hk).1)

/-- The variable is written. -/
theorem Holds.put {B gp gf : Nat} {tf : TypeId} {F v v' : Value} {l : List (List UInt8)} {w : World} (hne : gp ≠ gf) (h1 : w.heap[gp]? = some (.cells #[v] 24 (0, 0))) (h2 : w.heap[gf]? = some (.cells #[F] tf (0, 0))) (h3 : w.ownsRow B 23 32 v' l.length (cellsOf l.flatten)) :
    Holds B gp gf tf F v' l (w.setCell ⟨gp, 0, none⟩ v') := by
  refine ⟨?_, ?_, ?_⟩
  · exact one_setCell h1
  · rw [Below.heap_setCell _ _ _ _ (fun e => hne (by simpa using e.symm))]; exact h2
  · exact ownsRow_setCell_other h3 (own_other h3 h1 (by decide)).symm v'
end Go.Proofs.YtehfoeedlchphaaDoor
