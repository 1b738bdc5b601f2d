/- Texts of our own that the row of DiskNil leans on, part 17. -/
import Derived.Test.YticljiffagobnaaDiskNilJ6
import Derived.Test.YticljiffagobnaaDiskNilJ10
import Derived.Test.YticljiffagobnaaDiskNilJ16

/- What the document's New, Read, Write, Sync and Stop answer. -/
namespace Go.Proofs.Yticljiffagobnaa
open Go.RowKit Nums Sums
set_option linter.unusedVariables false
set_option linter.unusedSimpArgs false
set_option maxRecDepth 100000
theorem infoP : (Try.prog.info? 65).map (fun i => (i.zero, i.size, i.bytes)) = some (some (.agg #[.int .i64 0, .string ⟨#[]⟩]), 2, 24) := by kernel_rfl
/-- A write put behind the others. -/
theorem run_append_put (W : World) (v : Value) (l : List (Nat × List UInt8)) (q : Nat × List UInt8) (hown : W.ownsRow 0 65 2 v l.length (pcells l)) (a : Addr)
    (hN : ∀ j u, (pcells [q])[j]? = some u → W.cell? (a.add j) = some u) (hlen : l.length ≤ 1000000) :
    ∃ v' w', (Builtin.append_ #[37, 37] 37 #[v, .slice (some a) 1 1]).run Try.prog W = .ok v' w' ∧ w'.ownsRow 0 65 2 v' (l ++ [q]).length (pcells (l ++ [q])) ∧ W.grownBy w' v.ownBlock ∧ (v'.ownBlock = v.ownBlock ∨ ∃ g, v'.ownBlock = some g ∧ W.heap.size ≤ g) := by
  obtain ⟨i0, hi, hz0, hz1, hz2⟩ := info_parts infoP
  have hl1 : (pcells [q]).length = 1 * 2 := pcells_length [q]
  have hu : Try.prog.underlying 37 = some (.slice 65) := Try.underlying37
  obtain ⟨v', w', hr, ho, hg, _⟩ := run_append_own (P := Try.prog) W 0 37 37 65 i0 _ 2 24 hu hi hz0 hz1 hz2 (by rfl) (by decide) v l.length _ hown a 1 1 (pcells [q])
    hl1 hN (pcells_one _) (by unfold maxLen; omega) (by omega) (Nat.zero_le _)
  refine ⟨v', w', hr, ?_, hg, ?_⟩
  · rw [List.length_append, pcells_append]
    exact ho
  · have hi1 : (pcells [q]).length = 1 * i0.size := by rw [hz1, hl1]
    rcases hown.2 with ⟨rfl, h0⟩ | ⟨g, cap, cur, rfl, hbg, hgg, hnc, hcm, hcs, htake⟩
    · have := run_append_nil (P := Try.prog) W 37 37 65 i0 _ hu hi hz0 a 1 1 (pcells [q]) hi1 hN (by omega) (by omega) (by omega)
      rw [hr] at this
      cases this
      exact .inr ⟨W.heap.size, rfl, Nat.le_refl _⟩
    · by_cases hroom : l.length + 1 ≤ cap
      · have := run_append_room (P := Try.prog) W 37 37 65 i0 hu hi g l.length cap cur hgg a 1 1 (pcells [q]) hi1 hN (pcells_one _) hroom (by rw [hz1, hl1, hcs]; omega)
        rw [hr] at this
        cases this
        exact .inl rfl
      · have hx : (pcells l).length = l.length * i0.size := by rw [hz1]; exact hown.1
        have := run_append_grow (P := Try.prog) W 37 37 65 i0 _ hu hi hz0 ⟨g, 0, none⟩ l.length cap (pcells l) hx (hown.cells (g := g) rfl) a 1 1 (pcells [q]) hi1 hN (by omega) (by omega) (growslice_fits (by omega) (by rw [hz2]; omega))
        rw [hr] at this
        cases this
        exact .inr ⟨W.heap.size, rfl, Nat.le_refl _⟩
/-- The literal of a write, the append, the store: what is there then. -/
theorem MRow.append {w : World} {p : Nat} {D : DkT} {v : Value} (h : MRow w p D v) (n : Nat) (b : List UInt8) (B : ByteArray) (HB : Hid (B = bD b)) (hl : D.puts.length ≤ 1000000) :
    ∃ v' w', (Builtin.append_ #[37, 37] 37 #[v, .slice (some ⟨w.heap.size, 0, none⟩) 1 1]).run Try.prog (w.alloc (.cells #[.int .i64 (n : Int), .string B] 65)) = .ok v' w' ∧
      w'.cell? ⟨p, 1, none⟩ = some v ∧ w'.frozen? ⟨p, 1, none⟩ = false ∧ MRow (w'.setCell ⟨p, 1, none⟩ v') p { D with puts := D.puts ++ [(n, b)] } v' ∧ (v'.ownBlock = v.ownBlock ∨ ∃ g, v'.ownBlock = some g ∧ w.heap.size ≤ g) ∧
      Away (fun k => k = p ∨ v.ownBlock = some k) w w' ∧ Away (fun k => k = p ∨ v.ownBlock = some k) w (w'.setCell ⟨p, 1, none⟩ v') := by
  have hb0 : Below w.heap.size w (w.alloc (.cells #[.int .i64 (n : Int), .string B] 65)) := (Below.refl _ _).alloc (Nat.le_refl _) _
  have h' := h.below hb0
  obtain ⟨v', w', hr, ho, hg, hm⟩ := run_append_put (w.alloc (.cells #[.int .i64 (n : Int), .string B] 65)) v D.puts (n, b) h'.2 ⟨w.heap.size, 0, none⟩ (by
    intro j u hj
    rw [add_plain, Nat.zero_add, cell_of_row _ _ j _ 65 (0, 0) (heap_alloc_new w _), HB.out]
    match j, hj with
    | 0, hj => simpa [pcells] using hj
    | 1, hj => simpa [pcells] using hj
    | j + 2, hj => simp [pcells] at hj) hl
  have q1 : w'.heap[p]? = some (.cells (mCells D v) 39 (0, 0)) := (hg.block _ (heap_lt h'.1) (fun e => h'.apart e.symm)).trans h'.1
  have aw : Away (fun k => k = p ∨ v.ownBlock = some k) w w' := ⟨hg.os.trans hb0.os, hg.tape.trans hb0.tape, hg.output.trans hb0.output, Nat.le_trans hb0.size hg.size, fun k hk hs => (hg.block k (Nat.lt_of_lt_of_le hk hb0.size) (fun e => hs (.inr e.symm))).trans (hb0.block k hk)⟩
  have hsz : w.heap.size + 1 ≤ w'.heap.size := by have := hg.size; simp at this; omega
  have hm' : v'.ownBlock = v.ownBlock ∨ ∃ g, v'.ownBlock = some g ∧ w.heap.size ≤ g := by
    rcases hm with e | ⟨q, e, hq⟩
    · exact .inl e
    · exact .inr ⟨q, e, by simp at hq; omega⟩
  have hap : v'.ownBlock ≠ some p := by
    rcases hm' with e | ⟨q, e, hq⟩
    · rw [e]; exact h.apart
    · rw [e]; intro e2; have := Option.some.inj e2; have := h.lt.1; omega
  refine ⟨v', w', hr, ?_, frozen_of_row w' p 1 _ _ q1, ⟨?_, ?_⟩, hm', aw, ?_⟩
  · rw [cell_of_row w' p 1 _ _ (0, 0) q1]; rfl
  · rw [Go.heap_setCell_same w' p 1 _ _ v' q1]
    rfl
  · exact ho.kept (Lib.grownBy_setCell w' p 1 v') (.inr hap)
  · refine aw.trans (away_grown (S := fun k => k = p) (Lib.grownBy_setCell w' p 1 v') rfl) fun x hx => .inl (.inl hx)
end Go.Proofs.Yticljiffagobnaa

/- What the document's Write and Sync answer. -/
namespace Go.Proofs.Yticljiffagobnaa
open Go.RowKit Nums Sums
set_option linter.unusedVariables false
set_option linter.unusedSimpArgs false
set_option maxRecDepth 100000
theorem MAt.mk' {w w' : World} {p : Nat} {D' : DkT} {S : Nat → Prop} {v v' : Value} (hS : ∀ b, S b ↔ (b = p ∨ v.ownBlock = some b)) (ok : OkD D') (hr : MRow w' p D' v') (hm : v'.ownBlock = none ∨ v'.ownBlock = v.ownBlock ∨ ∃ g, v'.ownBlock = some g ∧ w.heap.size ≤ g) :
    ∃ S', MAt w' p D' S' ∧ ∀ b, S' b → S b ∨ w.heap.size ≤ b := by
  refine ⟨fun b => b = p ∨ v'.ownBlock = some b, ⟨ok, v', hr, fun b => Iff.rfl⟩, fun b hb => ?_⟩
  rcases hb with rfl | hb
  · exact .inl ((hS _).2 (.inl rfl))
  · rcases hm with e | e | ⟨g, e, hg⟩
    · rw [e] at hb; cases hb
    · rw [e] at hb; exact .inl ((hS b).2 (.inr hb))
    · rw [e] at hb; obtain rfl := Option.some.inj hb; exact .inr hg
end Go.Proofs.Yticljiffagobnaa

/- What the document's Sync answers. -/
namespace Go.Proofs.Yticljiffagobnaa
open Go.RowKit Nums Sums
set_option linter.unusedVariables false
set_option linter.unusedSimpArgs false
set_option maxRecDepth 100000
theorem run_max2 {P : Program} (W : World) (ats : Array TypeId) (ty : TypeId) (a b : Int) : (Builtin.max_ ats ty #[.int .i64 a, .int .i64 b]).run P W = .ok (.int .i64 (max a b)) W := by
  simp only [Builtin.max_, List.foldlM_cons, List.foldlM_nil]
  by_cases h : a < b
  · have e : max a b = b := by omega
    rw [e]
    simp [go_sem, Builtin.max2, h]
  · have e : max a b = a := by omega
    rw [e]
    simp [go_sem, Builtin.max2, h]
theorem run_min2 {P : Program} (W : World) (ats : Array TypeId) (ty : TypeId) (a b : Int) : (Builtin.min_ ats ty #[.int .i64 a, .int .i64 b]).run P W = .ok (.int .i64 (min a b)) W := by
  simp only [Builtin.min_, List.foldlM_cons, List.foldlM_nil]
  by_cases h : a < b
  · have e : min a b = a := by omega
    rw [e]
    have h' : ¬ b < a := by omega
    simp [go_sem, Builtin.min2, h, h']
  · have e : min a b = b := by omega
    rw [e]
    by_cases h2 : b < a
    · simp [go_sem, Builtin.min2, h, h2]
    · obtain rfl : a = b := by omega
      simp [go_sem, Builtin.min2]
theorem wpList_max {P : Program} {ops : Array Oper} {rest : List Oper} {o : Oper} {A : Act} {w : World} {Q : Exit → Act → World → Prop} (hgd : o.guard = none) (x y : Operand) (ts : Array TypeId) (hop : o.op = Op.call { callee := Callee.builtin Builtin.max, args := #[x, y], argTypes := ts })
    (a b : Int) (hx : A.eval x = .int .i64 a) (hy : A.eval y = .int .i64 b) (m : Int) (hm : m = max a b) (h : wpList P ops Q rest (A.put o.dst (.int .i64 m)) w) : wpList P ops Q (o :: rest) A w := by
  refine wpList_plain hgd fun K hK => ?_
  have hrun := run_max2 (P := P) w ts o.type a b
  rw [← hm] at hrun
  unfold Oper.wp
  simp only [execOp, hop, resolve, invoke, builtin, List.map_toArray, List.map_cons, List.map_nil, hx, hy, hrun, Sem.run_bind, Sem.run_pure, Result.andThen_ok]
  exact hK _ _ h
theorem wpList_min {P : Program} {ops : Array Oper} {rest : List Oper} {o : Oper} {A : Act} {w : World} {Q : Exit → Act → World → Prop} (hgd : o.guard = none) (x y : Operand) (ts : Array TypeId) (hop : o.op = Op.call { callee := Callee.builtin Builtin.min, args := #[x, y], argTypes := ts })
    (a b : Int) (hx : A.eval x = .int .i64 a) (hy : A.eval y = .int .i64 b) (m : Int) (hm : m = min a b) (h : wpList P ops Q rest (A.put o.dst (.int .i64 m)) w) : wpList P ops Q (o :: rest) A w := by
  refine wpList_plain hgd fun K hK => ?_
  have hrun := run_min2 (P := P) w ts o.type a b
  rw [← hm] at hrun
  unfold Oper.wp
  simp only [execOp, hop, resolve, invoke, builtin, List.map_toArray, List.map_cons, List.map_nil, hx, hy, hrun, Sem.run_bind, Sem.run_pure, Result.andThen_ok]
  exact hK _ _ h
end Go.Proofs.Yticljiffagobnaa
