/- Knots in memory: a list of them that grows in a variable, beside the variables of the calls that make it grow. -/
import Derived.Test.YtehfoeedlchphaaDoorCuts
import Derived.OneCell
namespace Go.Proofs.YtehfoeedlchphaaDoor
open Go.RowKit Sums
set_option linter.unusedVariables false
set_option linter.unusedSimpArgs false

/-- What a call leaves that makes the list in the variable gk grow: all other blocks are as they were; the list lies where it lay, or in a new block. -/
structure Grew (gk : Nat) (v v' : Value) (w w' : World) : Prop where
  os : w'.os = w.os
  tape : w'.tape = w.tape
  output : w'.output = w.output
  size : w.heap.size ≤ w'.heap.size
  block : ∀ k, k < w.heap.size → k ≠ gk → some k ≠ v.ownBlock → w'.heap[k]? = w.heap[k]?
  mine : v'.ownBlock = v.ownBlock ∨ ∃ k, v'.ownBlock = some k ∧ w.heap.size ≤ k

theorem Grew.of {gk : Nat} {v : Value} {w w' : World} (h : Below w.heap.size w w') : Grew gk v v w w' := ⟨h.os, h.tape, h.output, h.size, fun k hk _ _ => h.block k hk, .inl rfl⟩
theorem Grew.trans {gk : Nat} {v v1 v2 : Value} {w w1 w2 : World} (h : Grew gk v v1 w w1) (k : Grew gk v1 v2 w1 w2) : Grew gk v v2 w w2 := by
  refine ⟨k.os.trans h.os, k.tape.trans h.tape, k.output.trans h.output, Nat.le_trans h.size k.size, fun j hj h1 h2 => ?_, ?_⟩
  · refine (k.block j (Nat.lt_of_lt_of_le hj h.size) h1 ?_).trans (h.block j hj h1 h2)
    rcases h.mine with e | ⟨q, e, hq⟩
    · rw [e]; exact h2
    · rw [e]; intro e'; cases e'; omega
  · rcases k.mine with e | ⟨q, e, hq⟩
    · rw [e]; exact h.mine
    · exact .inr ⟨q, e, Nat.le_trans h.size hq⟩
theorem Grew.below {gk B : Nat} {v v' : Value} {w w' : World} (h : Grew gk v v' w w') (hB : B ≤ w.heap.size) (hg : B ≤ gk) (hv : ∀ k, v.ownBlock = some k → B ≤ k) : Below B w w' :=
  ⟨h.os, h.tape, h.output, h.size, fun k hk => h.block k (by omega) (by omega) (fun e => by have := hv k e.symm; omega)⟩
theorem Grew.new {gk y : Nat} {v v' : Value} {w w' : World} (h : Grew gk v v' w w') (hy : y < w.heap.size) (hv : some y ≠ v.ownBlock) : some y ≠ v'.ownBlock := by
  rcases h.mine with e | ⟨q, e, hq⟩
  · rw [e]; exact hv
  · rw [e]; intro e'; cases e'; omega
/-- What is written into a block of the call's own is not seen. -/
theorem Grew.wrote {gk g : Nat} {v v' : Value} {w w1 w2 : World} {D : Array Value} {t : TypeId} (h : Grew gk v v' w w1) (hw : Wrote g D t w1 w2) (hg : w.heap.size ≤ g) : Grew gk v v' w w2 := by
  have hb := hw.below w.heap.size w1 (Below.refl _ _) hg
  exact ⟨hb.os.trans h.os, hb.tape.trans h.tape, hb.output.trans h.output, Nat.le_trans h.size hb.size, fun k hk h1 h2 => (hb.block k hk).trans (h.block k hk h1 h2), h.mine⟩

/-- What the variables hold: the leaf, the function, the list of knots. -/
structure KH (B gl gf gk : Nat) (X : Array Value) (F v : Value) (l : List (List UInt8)) (w : World) : Prop where
  leaf : w.heap[gl]? = some (.cells X 23 (0, 0))
  fn : w.heap[gf]? = some (.cells #[F] 72 (0, 0))
  var : w.heap[gk]? = some (.cells #[v] 43 (0, 0))
  own : w.ownsRow B 57 64 v l.length (cellsOf l.flatten)
theorem own_apart {B : Nat} {v : Value} {n : Nat} {xs : List Value} {w : World} {b : Nat} {c : Array Value} {t : TypeId} {m : Nat × Nat} (h : w.ownsRow B 57 64 v n xs) (hb : w.heap[b]? = some (.cells c t m)) (ht : t ≠ 57) : some b ≠ v.ownBlock := by
  intro e
  rcases h.2 with ⟨rfl, _⟩ | ⟨g, cap, cur, rfl, _, hgb, _⟩
  · simp [Value.ownBlock] at e
  · obtain rfl : b = g := by simpa [Value.ownBlock] using e
    rw [hgb] at hb
    cases hb
    exact ht rfl
theorem KH.keep {B gl gf gk : Nat} {X : Array Value} {F v : Value} {l : List (List UInt8)} {w w' : World} (h : KH B gl gf gk X F v l w) (hb : Below w.heap.size w w') : KH B gl gf gk X F v l w' :=
  ⟨(hb.block _ (heap_lt h.leaf)).trans h.leaf, (hb.block _ (heap_lt h.fn)).trans h.fn, (hb.block _ (heap_lt h.var)).trans h.var, own_below h.own hb⟩
theorem KH.drew {B gl gf gk : Nat} {X : Array Value} {F v : Value} {l : List (List UInt8)} {w : World} (h : KH B gl gf gk X F v l w) : KH B gl gf gk X F v l w.drew := ⟨h.leaf, h.fn, h.var, h.own⟩
theorem KH.wrote {B gl gf gk g : Nat} {X : Array Value} {F v : Value} {l : List (List UInt8)} {w w' : World} {D : Array Value} {t : TypeId} (h : KH B gl gf gk X F v l w) (hw : Wrote g D t w w') (h1 : g ≠ gl) (h2 : g ≠ gf) (h3 : g ≠ gk) (h4 : some g ≠ v.ownBlock) : KH B gl gf gk X F v l w' := by
  have hb := hw.below 0 w (Below.refl _ _) (Nat.zero_le _)
  refine ⟨(hw.other _ (Ne.symm h1)).trans h.leaf, (hw.other _ (Ne.symm h2)).trans h.fn, (hw.other _ (Ne.symm h3)).trans h.var, ?_⟩
  exact h.own.kept (row := some g) ⟨hb.os, hb.tape, hb.output, hb.size, fun k _ hk => hw.other k (fun e => hk (by rw [e]))⟩ (.inr (Ne.symm h4))

/-- Knots put behind those of a list of the call's own. -/
theorem run_append_knot (W : World) (B : Nat) (v : Value) (l : List (List UInt8)) (k : List UInt8) (hk : k.length = 64) (hown : W.ownsRow B 57 64 v l.length (cellsOf l.flatten)) (a : Addr)
    (hN : ∀ j u, (cellsOf k)[j]? = some u → W.cell? (a.add j) = some u) (hB : B ≤ W.heap.size) (hlen : l.length + 1 ≤ 1000000) :
    ∃ v' w', (Builtin.append_ #[43, 43] 43 #[v, .slice (some a) 1 1]).run Tryd.prog W = .ok v' w' ∧ w'.ownsRow B 57 64 v' (l ++ [k]).length (cellsOf (l ++ [k]).flatten) ∧ W.grownBy w' v.ownBlock ∧ (v'.ownBlock = v.ownBlock ∨ ∃ q, v'.ownBlock = some q ∧ W.heap.size ≤ q) := by
  obtain ⟨i0, hi, hz0, hz1, hz2⟩ := info_parts infoK
  have hl1 : (cellsOf k).length = 1 * 64 := by rw [cellsOf_length, hk]
  have hu : Tryd.prog.underlying 43 = some (.slice 57) := Tryd.underlying43
  obtain ⟨v', w', hr, ho, hg, _⟩ := run_append_own (P := Tryd.prog) W B 43 43 57 i0 _ 64 64 hu hi hz0 hz1 hz2 (by rfl) (by decide) v l.length _ hown a 1 1 (cellsOf k)
    hl1 hN (cellsOf_one _) (by unfold maxLen; omega) (by omega) hB
  refine ⟨v', w', hr, ?_, hg, ?_⟩
  · rw [List.length_append, List.flatten_append, cellsOf_append]
    simpa using ho
  · have hi1 : (cellsOf k).length = 1 * i0.size := by rw [hz1, hl1]
    rcases hown.2 with ⟨rfl, h0⟩ | ⟨g, cap, cur, rfl, hbg, hgg, hnc, hcm, hcs, htake⟩
    · have := run_append_nil (P := Tryd.prog) W 43 43 57 i0 _ hu hi hz0 a 1 1 (cellsOf k) hi1 hN (by omega) (by omega) (by omega)
      rw [hr] at this
      cases this
      exact .inr ⟨W.heap.size, rfl, Nat.le_refl _⟩
    · by_cases hroom : l.length + 1 ≤ cap
      · have := run_append_room (P := Tryd.prog) W 43 43 57 i0 hu hi g l.length cap cur hgg a 1 1 (cellsOf k) hi1 hN (cellsOf_one _) hroom (by rw [hz1, hl1, hcs]; omega)
        rw [hr] at this
        cases this
        exact .inl rfl
      · have hx : (cellsOf l.flatten).length = l.length * i0.size := by rw [hz1]; exact hown.1
        have := run_append_grow (P := Tryd.prog) W 43 43 57 i0 _ hu hi hz0 ⟨g, 0, none⟩ l.length cap (cellsOf l.flatten) hx (hown.cells (g := g) rfl) a 1 1 (cellsOf k) hi1 hN (by omega) (by omega) (growslice_fits (by omega) (by rw [hz2]; omega))
        rw [hr] at this
        cases this
        exact .inr ⟨W.heap.size, rfl, Nat.le_refl _⟩
/-- A literal of one knot. -/
theorem build_oneK (w : World) (k : List UInt8) (hk : k.length = 64) (D : Array Value) (HD : Hid (D = (cellsOf k).toArray)) :
    (Instr.buildSlice 43 1 #[(0, .agg D)]).run Tryd.prog w = .ok (.slice (some ⟨w.heap.size, 0, none⟩) 1 1) (w.alloc (.cells D 57)) := by
  obtain ⟨i0, hi, hz0, hz1, hz2⟩ := info_parts infoK
  refine run_buildSlice w 43 57 1 _ _ i0 _ Tryd.underlying43 hi hz0 (by rw [hz1]; omega) (by rw [hz1]; omega) ?_
  rw [hz1]
  generalize hcs : Array.map _ (Array.range (1 * 64)) = cs
  have hcz : cs.size = 64 := by rw [← hcs]; simp
  have hD : D.size = 64 := by rw [HD.out]; simp [cellsOf_length, hk]
  refine (fill_put _ 0 0 64 D cs [] cs.toList [] [] rfl hD (by simp) rfl (by simpa using hcz)).trans ?_
  simp [Instr.fill]
/-- One knot put behind the list of the variable: the literal's block is made, the append runs, the variable is written. -/
theorem KH.append {B gl gf gk : Nat} {X : Array Value} {F v : Value} {l : List (List UInt8)} {w : World} (h : KH B gl gf gk X F v l w) (hlk : gl ≠ gk) (hfk : gf ≠ gk) (hB : B ≤ w.heap.size) (hlen : l.length + 1 ≤ 1000000) (k : List UInt8) (hk : k.length = 64) (D : Array Value) (HD : Hid (D = (cellsOf k).toArray)) :
    ∃ v' w', (Builtin.append_ #[43, 43] 43 #[v, .slice (some ⟨w.heap.size, 0, none⟩) 1 1]).run Tryd.prog (w.alloc (.cells D 57)) = .ok v' w' ∧
      w'.heap[gk]? = some (.cells #[v] 43 (0, 0)) ∧ KH B gl gf gk X F v' (l ++ [k]) (w'.setCell ⟨gk, 0, none⟩ v') ∧ Grew gk v v' w (w'.setCell ⟨gk, 0, none⟩ v') := by
  have hb0 : Below w.heap.size w (w.alloc (.cells D 57)) := (Below.refl _ _).alloc (Nat.le_refl _) _
  have h' := h.keep hb0
  obtain ⟨v', w', hr, ho, hg, hm⟩ := run_append_knot (w.alloc (.cells D 57)) B v l k hk h'.own ⟨w.heap.size, 0, none⟩ (by
    intro j u hj
    rw [add_plain, Nat.zero_add, cell_of_row _ _ j _ 57 (0, 0) (heap_alloc_new w _), HD.out]
    simpa using hj) (Nat.le_trans hB (by simp)) hlen
  have q1 : w'.heap[gk]? = some (.cells #[v] 43 (0, 0)) := (hg.block _ (heap_lt h'.var) (own_apart h'.own h'.var (by decide))).trans h'.var
  have q2 : w'.heap[gf]? = some (.cells #[F] 72 (0, 0)) := (hg.block _ (heap_lt h'.fn) (own_apart h'.own h'.fn (by decide))).trans h'.fn
  have q3 : w'.heap[gl]? = some (.cells X 23 (0, 0)) := (hg.block _ (heap_lt h'.leaf) (own_apart h'.own h'.leaf (by decide))).trans h'.leaf
  refine ⟨v', w', hr, q1, ⟨?_, ?_, one_setCell q1, ?_⟩, ?_⟩
  · rw [Below.heap_setCell _ _ _ _ (by simpa using hlk)]; exact q3
  · rw [Below.heap_setCell _ _ _ _ (by simpa using hfk)]; exact q2
  · exact ownsRow_setCell_other ho (own_apart ho q1 (by decide)).symm v'
  · refine ⟨hg.os, hg.tape, hg.output, ?_, fun j hj h1 h2 => ?_, ?_⟩
    · have := hg.size
      simp [World.setCell] at this ⊢
      omega
    · rw [Below.heap_setCell _ _ _ _ (by simpa using h1)]
      exact (hg.block j (by simp; omega) h2).trans (hb0.block j hj)
    · rcases hm with e | ⟨q, e, hq⟩
      · exact .inl e
      · exact .inr ⟨q, e, by simp at hq; omega⟩
end Go.Proofs.YtehfoeedlchphaaDoor
