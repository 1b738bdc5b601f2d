/- What sha.Empty, sha.Leaf and sha.Knot answer. -/
import Derived.Test.YtkmndchbmbhlhaaDoorOf
import Derived.BigQuiet
namespace Go.Proofs.YtkmndchbmbhlhaaDoor
open Go.RowKit Sums
set_option linter.unusedVariables false
set_option linter.unusedSimpArgs false

/-- Texts in a new block. -/
theorem texts_new (w : World) (ss : List ByteArray) (t : TypeId) : Texts (w.alloc (.cells (ss.map Value.string).toArray t)) (some ⟨w.heap.size, 0, none⟩) ss.length ss := by
  refine ⟨rfl, .inr ⟨w.heap.size, 0, rfl, by simp, fun i hi => ?_⟩⟩
  rw [Nat.zero_add, cell_of_row _ _ i _ t (0, 0) (heap_alloc_new w _)]
  simp [List.getElem?_eq_getElem hi]

/-- Of, where a block of texts was just made. -/
theorem of_new (ss : List ByteArray) (t : TypeId) (w : World) (ht : total ss ≤ 1000000) (hlen : ss.length ≤ 9223372036854775807) (hK : Table 0 w) (D : Array Value) (HD : Hid (D = (cellsOf (sumD (joinL ss))).toArray)) (n cap g : Nat) (hn : n = ss.length) (hg : g = w.heap.size)
    (cs : Array Value) (hcs : cs = (ss.map Value.string).toArray) :
    Calls Tryd.prog 17 #[.slice (some ⟨g, 0, none⟩) n cap] (w.alloc (.cells cs t)) fun e w' => e = .returned (.agg D) ∧ Below w.heap.size w w' := by
  subst hcs hn hg
  have h := of_any _ ss.length cap ss _ (texts_new w ss t) ht hlen (hK.keep ((Below.refl _ _).alloc (Nat.le_refl _) _))
  refine h.mono ?_
  rintro e w' ⟨he, hb⟩
  refine ⟨?_, ((Below.refl _ _).alloc (Nat.le_refl _) _).trans (hb.mono (by simp))⟩
  rw [he, HD.out]
  rfl

theorem of_none (w : World) (hK : Table 0 w) (D : Array Value) (HD : Hid (D = (cellsOf (sumD [])).toArray)) :
    Calls Tryd.prog 17 #[.slice none 0 0] w fun e w' => e = .returned (.agg D) ∧ Below w.heap.size w w' := by
  have h := of_any none 0 0 [] w ⟨rfl, .inl rfl⟩ (by decide) (by decide) hK
  rw [HD.out]
  exact h

theorem range_keep {W W' : World} {g o : Nat} {l : List Value} (hb : Below W.heap.size W W') (h : W.rangeAt g o l) : W'.rangeAt g o l := fun j v hj => by
  have hc := h j v hj
  rw [hb.cell (World.block_lt_of_cell? _ _ hc)]
  exact hc
theorem range_row {W : World} {g : Nat} {l : List Value} {t : TypeId} {fr : Nat × Nat} (h : W.heap[g]? = some (.cells l.toArray t fr)) : W.rangeAt g 0 l := fun j v hj => by
  rw [Nat.zero_add, cell_of_row W g j _ t fr h]
  simpa using hj
theorem range_other {W : World} {g g' o : Nat} {l : List Value} {cs : Array Value} (h : W.rangeAt g o l) (hne : g ≠ g') : (W.setRow g' cs).rangeAt g o l := fun j v hj => by
  rw [cell_setRow_other W g' cs _ hne]
  exact h j v hj
theorem conv_dig (W : World) (g : Nat) (l : List UInt8) (hl : l.length = 32) (h : W.rangeAt g 0 (cellsOf l)) : Sem.run Tryd.prog (convert 38 9 (.slice (some ⟨g, 0, none⟩) 32 32)) W = .ok (.string ⟨l.toArray⟩) W := by
  have := run_convert_bytes_back (P := Tryd.prog) W 38 9 5 ⟨g, 0, none⟩ 32 l Tryd.underlying38 Tryd.underlying5 Tryd.underlying9 (fun j hj => by
    rw [add_plain]
    exact h j _ (cellsOf_at l j hj))
  rw [hl] at this
  exact this

theorem keep2 {w W W' : World} {g0 g1 : Nat} {A B : List Value} (hb : Below W.heap.size W W') (h : W.rangeAt g0 0 A ∧ W.rangeAt g1 0 B ∧ Below w.heap.size w W) :
    W'.rangeAt g0 0 A ∧ W'.rangeAt g1 0 B ∧ Below w.heap.size w W' :=
  ⟨range_keep hb h.1, range_keep hb h.2.1, h.2.2.trans (hb.mono h.2.2.size)⟩

end Go.Proofs.YtkmndchbmbhlhaaDoor
