/- A front to which leaves come: its variable, and how two peaks give way to their knot. -/
import Derived.Test.YtmpmhfagbcknnaaDoorFRoot
import Derived.OneCell
namespace Go.Proofs.YtmpmhfagbcknnaaDoor
open Go.RowKit Sums
set_option linter.unusedVariables false
set_option linter.unusedSimpArgs false

/-- What the variable holds: a size, and peaks of the call's own. -/
structure Grow (B gp : Nat) (x v : Value) (l : List (List UInt8)) (w : World) : Prop where
  var : w.heap[gp]? = some (.cells #[x, v] 50 (0, 0))
  own : w.ownsRow B 29 32 v l.length (cellsOf l.flatten)
theorem Grow.keep {B gp : Nat} {x v : Value} {l : List (List UInt8)} {w w' : World} (h : Grow B gp x v l w) (hb : Below w.heap.size w w') : Grow B gp x v l w' :=
  ⟨(hb.block _ (heap_lt h.var)).trans h.var, own_below h.own hb⟩
theorem Grow.drew {B gp : Nat} {x v : Value} {l : List (List UInt8)} {w : World} (h : Grow B gp x v l w) : Grow B gp x v l w.drew := ⟨h.var, h.own⟩
theorem Grow.two {B gp : Nat} {x v : Value} {l : List (List UInt8)} {w : World} (h : Grow B gp x v l w) : Two w gp x v :=
  ⟨by rw [cell_of_row _ _ 0 _ 50 (0, 0) h.var]; rfl, by rw [cell_of_row _ _ 1 _ 50 (0, 0) h.var]; rfl⟩
theorem Grow.free {B gp : Nat} {x v : Value} {l : List (List UInt8)} {w : World} (h : Grow B gp x v l w) (j : Nat) : w.frozen? ⟨gp, j, none⟩ = false := frozen_of_row w gp j _ 50 h.var
theorem Grow.size {B gp : Nat} {x v : Value} {l : List (List UInt8)} {w : World} (h : Grow B gp x v l w) (x' : Value) : Grow B gp x' v l (w.setCell ⟨gp, 0, none⟩ x') :=
  ⟨by rw [heap_setCell_same w gp 0 _ 50 x' h.var]; rfl, ownsRow_setCell_other h.own (own_other h.own h.var (by decide)).symm x'⟩
theorem grow_put {B gp : Nat} {x v v' : Value} {l : List (List UInt8)} {w : World} (h1 : w.heap[gp]? = some (.cells #[x, v] 50 (0, 0))) (h2 : w.ownsRow B 29 32 v' l.length (cellsOf l.flatten)) : Grow B gp x v' l (w.setCell ⟨gp, 1, none⟩ v') :=
  ⟨by rw [heap_setCell_same w gp 1 _ 50 v' h1]; rfl, ownsRow_setCell_other h2 (own_other h2 h1 (by decide)).symm v'⟩
/-- One digest put behind a list that grows: the literal's block is made, the append runs. -/
theorem Grow.append {B gp : Nat} {x v : Value} {l : List (List UInt8)} {w : World} (h : Grow B gp x v l w) (hB : B ≤ w.heap.size) (hlen : l.length + 1 ≤ 1000000) (d : List UInt8) (hd : d.length = 32) (D : Array Value) (HD : Hid (D = (cellsOf d).toArray)) :
    ∃ v' w', (Builtin.append_ #[22, 22] 22 #[v, .slice (some ⟨w.heap.size, 0, none⟩) 1 1]).run Tryd.prog (w.alloc (.cells D 29)) = .ok v' w' ∧
      w'.heap[gp]? = some (.cells #[x, v] 50 (0, 0)) ∧ w'.ownsRow B 29 32 v' (l ++ [d]).length (cellsOf (l ++ [d]).flatten) ∧ Below B w w' := by
  have hb0 : Below w.heap.size w (w.alloc (.cells D 29)) := (Below.refl _ _).alloc (Nat.le_refl _) _
  have h' := h.keep hb0
  obtain ⟨v', w', hr, ho, hg⟩ := run_append_digs (w.alloc (.cells D 29)) B v l [d] h'.own ⟨w.heap.size, 0, none⟩ 1 1 rfl (.one hd) (by
    intro j u hj
    rw [add_plain, Nat.zero_add, cell_of_row _ _ j _ 29 (0, 0) (heap_alloc_new w _), HD.out]
    simpa using hj) (Nat.le_trans hB (by simp)) hlen
  refine ⟨v', w', hr, ?_, by rw [List.length_append]; exact ho, ?_⟩
  · exact (hg.block _ (heap_lt h'.var) (own_other h'.own h'.var (by decide))).trans h'.var
  · exact (hb0.mono hB).grown hg (Nat.le_trans hB (by simp)) (fun k hk => (h'.own.lt k hk).1)

/-! A digest written into the midst of a list. -/
theorem cells_set (g : Nat) (t : TypeId) : ∀ (vs : List Value) (o : Nat) (w : World) (cur : Array Value), w.heap[g]? = some (.cells cur t (0, 0)) → o + vs.length ≤ cur.size →
    ∃ cur', (w.setCells g o vs).heap[g]? = some (.cells cur' t (0, 0)) ∧ cur'.toList = cur.toList.take o ++ vs ++ cur.toList.drop (o + vs.length)
  | [], o, w, cur, h, _ => ⟨cur, h, by simp⟩
  | v :: r, o, w, cur, h, hs => by
    simp only [List.length_cons] at hs
    obtain ⟨cur', h1, h2⟩ := cells_set g t r (o + 1) (w.setCell ⟨g, o, none⟩ v) (cur.setIfInBounds o v) (heap_setCell_same w g o cur t v h) (by simp; omega)
    refine ⟨cur', h1, ?_⟩
    have ho : o < cur.toList.length := by simp; omega
    rw [h2, Array.toList_setIfInBounds, List.take_set, List.drop_set_of_lt (by omega)]
    rw [List.take_add_one, List.getElem?_eq_getElem ho]
    simp only [Option.toList_some, List.length_cons]
    rw [List.set_append_right _ _ (by simp; omega)]
    have e : o - (cur.toList.take o).length = 0 := by simp; omega
    rw [e, List.set_cons_zero, show o + 1 + r.length = o + (r.length + 1) by omega]
    simp
theorem flat_set {l : List (List UInt8)} (h : Digs32 l) (i : Nat) (hi : i < l.length) (c : List UInt8) : (l.set i c).flatten = l.flatten.take (32 * i) ++ c ++ l.flatten.drop (32 * i + 32) := by
  rw [← flat_take h, show 32 * i + 32 = 32 * (i + 1) by omega, ← flat_drop h, List.set_eq_take_append_cons_drop, if_pos hi]
  simp
theorem own_put {w : World} {B g n cap : Nat} {l : List (List UInt8)} (h : w.ownsRow B 29 32 (.slice (some ⟨g, 0, none⟩) n cap) l.length (cellsOf l.flatten)) (hd : Digs32 l) (i : Nat) (hi : i < l.length) (c : List UInt8) (hc32 : c.length = 32) :
    (w.setCells g (32 * i) (cellsOf c)).ownsRow B 29 32 (.slice (some ⟨g, 0, none⟩) n cap) (l.set i c).length (cellsOf (l.set i c).flatten) := by
  have hds : Digs32 (l.set i c) := fun x hx => by
    rcases List.mem_or_eq_of_mem_set hx with h | rfl
    · exact hd x h
    · exact hc32
  rcases h.2 with ⟨hv, _⟩ | ⟨g', cp, cur, hv, hb, hg, hc, hm, hs, ht⟩
  · cases hv
  · cases hv
    have hl : (cellsOf c).length = 32 := by rw [cellsOf_length, hc32]
    obtain ⟨cur', h1, h2⟩ := cells_set g 29 (cellsOf c) (32 * i) w cur hg (by rw [hl, hs]; omega)
    rw [hl] at h2
    have hcl : cur.toList.length = cap * 32 := by rw [Array.length_toList]; exact hs
    refine ⟨by rw [cellsOf_length, flat_length hds]; omega, .inr ⟨g, cap, cur', by rw [List.length_set], hb, h1, by rw [List.length_set]; exact hc, hm, ?_, ?_⟩⟩
    · rw [← Array.length_toList, h2]
      simp only [List.length_append, List.length_take, List.length_drop, hl]
      omega
    · rw [h2, List.length_set, flat_set hd i hi c]
      have e : cellsOf (l.flatten.take (32 * i) ++ c ++ l.flatten.drop (32 * i + 32)) = (cellsOf l.flatten).take (32 * i) ++ cellsOf c ++ (cellsOf l.flatten).drop (32 * i + 32) := by
        rw [cellsOf_append, cellsOf_append]; unfold cellsOf; rw [List.map_take, List.map_drop]
      rw [e, ← ht, List.take_append, List.take_append, List.take_take, List.take_take, List.take_of_length_le (l := cellsOf c)]
      · congr 1
        · congr 2
          omega
        · rw [List.drop_take, List.length_append, List.length_take, hl]
          congr 1
          omega
      · rw [List.length_take, hl]; omega

theorem step_load_mid {P : Program} {ops : Array Oper} {op : Oper} {a : Act} {w : World} {K : Act → World → Prop} {Q : Exit → Act → World → Prop} {E : Prop} (hw : Region.wanted op (yielded ops a.tmps) = true) (ty : TypeId) (x : Operand) (ho : op.op = .load ty x)
    (b o : Nat) (hx : a.eval x = .pointer (some ⟨b, o, none⟩)) (cs : List Value) (d : TypeDesc) (hc : w.rangeAt b o cs) (hu : P.underlying ty = some d) (hd : d.isRow = true) (hi : (P.info? ty).map (·.size) = some cs.length)
    (h : K (a.put op.dst (.agg cs.toArray)) w) : if Region.wanted op (yielded ops a.tmps) = true then Oper.wp P op a w K Q else E := by
  rw [if_pos hw]
  exact wp_load_mid ty x ho b o hx cs d hc hu hd hi h
theorem step_store_mid {P : Program} {ops : Array Oper} {op : Oper} {a : Act} {w : World} {K : Act → World → Prop} {Q : Exit → Act → World → Prop} {E : Prop} (hw : Region.wanted op (yielded ops a.tmps) = true) (ty : TypeId) (x y : Operand) (ho : op.op = .store ty x y)
    (b o : Nat) (cells : Array Value) (hx : a.eval x = .pointer (some ⟨b, o, none⟩)) (hy : a.eval y = .agg cells) (ht : w.there b o cells.size) (hi : (P.info? ty).map (·.size) = some cells.size) (h1 : cells.all (·.oneCell') = true)
    (h : K (a.put op.dst undef) (w.setCells b o cells.toList)) : if Region.wanted op (yielded ops a.tmps) = true then Oper.wp P op a w K Q else E := by
  rw [if_pos hw]
  exact wp_store_mid ty x y ho b o cells hx hy ht hi h1 h
theorem own_there {w : World} {B g n cap : Nat} {l : List (List UInt8)} (h : w.ownsRow B 29 32 (.slice (some ⟨g, 0, none⟩) n cap) l.length (cellsOf l.flatten)) (i : Nat) (hi : i < l.length) : w.there g (32 * i) 32 := by
  rcases h.2 with ⟨hv, _⟩ | ⟨g', cp, cur, hv, hb, hg, hc, hm, hs, ht⟩
  · cases hv
  · cases hv
    intro j hj
    have hjc : 32 * i + j < cur.size := by rw [hs]; omega
    refine ⟨?_, ?_⟩
    · rw [cell_of_row w g _ cur 29 (0, 0) hg, Array.getElem?_eq_getElem hjc]
      rfl
    · simp [World.frozen?, hg]
theorem below_cells4 {B b : Nat} {a : World} (hb : B ≤ b) : ∀ (vs : List Value) (o : Nat) (w : World), Below B a w → Below B a (w.setCells b o vs)
  | [], _, _, h => h
  | v :: r, o, w, h => by
    rw [World.setCells]
    exact below_cells4 hb r (o + 1) _ (h.setCell (by simpa using hb) _)
theorem cells_other {g k : Nat} (hne : k ≠ g) : ∀ (vs : List Value) (o : Nat) (w : World), (w.setCells g o vs).heap[k]? = w.heap[k]?
  | [], _, _ => rfl
  | v :: r, o, w => by
    rw [World.setCells, cells_other hne r (o + 1) _, heap_setCell_other w ⟨g, o, none⟩ k v hne]
end Go.Proofs.YtmpmhfagbcknnaaDoor
