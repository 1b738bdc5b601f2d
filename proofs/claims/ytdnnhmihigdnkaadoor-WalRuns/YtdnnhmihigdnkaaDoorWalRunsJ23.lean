/- Texts of our own that the row of WalRuns leans on, part 23. -/
import Derived.Test.YtdnnhmihigdnkaaDoorWalRunsJ0
import Derived.Test.YtdnnhmihigdnkaaDoorWalRunsJ16
import Derived.Test.YtdnnhmihigdnkaaDoorWalRunsJ22

/- The document's Log of what the records may be, as it lies. -/
namespace Go.Proofs.YtdnnhmihigdnkaaDoor
open Go.RowKit Nums
set_option linter.unusedVariables false
set_option linter.unusedSimpArgs false
set_option maxRecDepth 100000
/-- A state as it lies: the slice of its records, its cost. -/
structure SvT where
  a : Option Addr
  len : Nat
  cap : Nat
  cost : Nat
def SvT.v (c : SvT) : Value := .agg #[.slice c.a c.len c.cap, .int .i64 (c.cost : Int)]
structure StOf (w : World) (c : SvT) (s : StT) : Prop where
  cost : c.cost = s.cost
  recs : Texts w c.a c.len s.recs
  cap : c.a = none → c.cap = 0
theorem StOf.same {w w' : World} {c : SvT} {s : StT} (h : StOf w c s) (hs : w.heap.size ≤ w'.heap.size) (hb : ∀ b, TBlock c.a c.len b → w'.heap[b]? = w.heap[b]?) : StOf w' c s := ⟨h.cost, h.recs.same hs hb, h.cap⟩
theorem StOf.below {w w' : World} {c : SvT} {s : StT} (h : StOf w c s) (hb : Below w.heap.size w w') : StOf w' c s := h.same hb.size fun b e => hb.block b (h.recs.blk_lt b e)
def stL (l : List SvT) : List Value := l.flatMap fun c => [.slice c.a c.len c.cap, .int .i64 (c.cost : Int)]
theorem stL_append (a b : List SvT) : stL (a ++ b) = stL a ++ stL b := by unfold stL; rw [List.flatMap_append]
theorem stL_length (l : List SvT) : (stL l).length = l.length * 2 := by
  induction l with
  | nil => rfl
  | cons x r ih =>
    have e : stL (x :: r) = [.slice x.a x.len x.cap, .int .i64 (x.cost : Int)] ++ stL r := by unfold stL; rw [List.flatMap_cons]
    rw [e, List.length_append, ih]
    show 2 + r.length * 2 = (r.length + 1) * 2
    omega
theorem stL_one (l : List SvT) : ∀ v ∈ stL l, v.oneCell' = true := by
  intro v hv
  obtain ⟨x, _, hx⟩ := List.mem_flatMap.1 hv
  simp only [List.mem_cons, List.not_mem_nil, or_false] at hx
  rcases hx with rfl | rfl <;> rfl
theorem stL_at : ∀ (l : List SvT) (i : Nat) (h : i < l.length), (stL l)[i * 2]? = some (.slice l[i].a l[i].len l[i].cap) ∧ (stL l)[i * 2 + 1]? = some (.int .i64 (l[i].cost : Int))
  | [], i, h => by simp at h
  | x :: r, i, h => by
    have e : stL (x :: r) = [.slice x.a x.len x.cap, .int .i64 (x.cost : Int)] ++ stL r := by unfold stL; rw [List.flatMap_cons]
    rw [e]
    cases i with
    | zero => exact ⟨rfl, rfl⟩
    | succ j =>
      have h' : j < r.length := by simpa using h
      obtain ⟨h1, h2⟩ := stL_at r j h'
      rw [List.getElem?_append_right (by show 2 ≤ _; omega), List.getElem?_append_right (by show 2 ≤ _; omega)]
      show (stL r)[(j + 1) * 2 - 2]? = _ ∧ (stL r)[(j + 1) * 2 + 1 - 2]? = _
      rw [show (j + 1) * 2 - 2 = j * 2 by omega, show (j + 1) * 2 + 1 - 2 = j * 2 + 1 by omega]
      exact ⟨h1, h2⟩
/-- Each state lies where its table says. -/
def AllSt (w : World) (cs : List SvT) (ss : List StT) : Prop := cs.length = ss.length ∧ ∀ i (h : i < cs.length) (h' : i < ss.length), StOf w cs[i] ss[i]
theorem AllSt.same {w w' : World} {cs : List SvT} {ss : List StT} (h : AllSt w cs ss) (hs : w.heap.size ≤ w'.heap.size) (hb : ∀ c ∈ cs, ∀ b, TBlock c.a c.len b → w'.heap[b]? = w.heap[b]?) : AllSt w' cs ss :=
  ⟨h.1, fun i h1 h2 => (h.2 i h1 h2).same hs fun b e => hb _ (List.getElem_mem h1) b e⟩
theorem AllSt.snoc {w : World} {cs : List SvT} {ss : List StT} (h : AllSt w cs ss) {c : SvT} {s : StT} (k : StOf w c s) : AllSt w (cs ++ [c]) (ss ++ [s]) := by
  refine ⟨by simp [h.1], fun i h1 h2 => ?_⟩
  have hl := h.1
  by_cases e : i < cs.length
  · rw [List.getElem_append_left e, List.getElem_append_left (by omega)]
    exact h.2 i e (by omega)
  · have e1 : i = cs.length := by simp at h1; omega
    subst e1
    rw [List.getElem_append_right (by omega), List.getElem_append_right (by omega)]
    simp [hl]
    exact k
theorem AllSt.one {w : World} {c : SvT} {s : StT} (k : StOf w c s) : AllSt w [c] [s] := ⟨rfl, fun i h1 h2 => by
  obtain rfl : i = 0 := by simp at h1; omega
  exact k⟩
structure LogR (w : World) (m : Nat) (sv : Value) (cs : List SvT) (x : SvT) (L : LgT) : Prop where
  row : w.heap[m]? = some (.cells #[sv, .slice x.a x.len x.cap, .int .i64 (x.cost : Int), .bool L.maybe] 62 (0, 0))
  list : w.ownsRow 0 44 2 sv cs.length (stL cs)
  recs : AllSt w cs (statesL L)
  may : StOf w x L.may
  apart : ∀ c, c ∈ cs ∨ c = x → ∀ b, TBlock c.a c.len b → b ≠ m ∧ sv.ownBlock ≠ some b
def memL (m : Nat) (sv : Value) (cs : List SvT) (x : SvT) (b : Nat) : Prop := b = m ∨ sv.ownBlock = some b ∨ ∃ c, (c ∈ cs ∨ c = x) ∧ TBlock c.a c.len b
def LogAt (w : World) (m : Nat) (L : LgT) (M : Nat → Prop) : Prop := ∃ sv cs x, LogR w m sv cs x L ∧ ∀ b, M b ↔ memL m sv cs x b
theorem LogR.keep {w w' : World} {m : Nat} {sv : Value} {cs : List SvT} {x : SvT} {L : LgT} (h : LogR w m sv cs x L) (hs : w.heap.size ≤ w'.heap.size) (hb : ∀ b, memL m sv cs x b → w'.heap[b]? = w.heap[b]?) : LogR w' m sv cs x L :=
  ⟨(hb m (.inl rfl)).trans h.row, own_same h.list fun b e => hb b (.inr (.inl e)), h.recs.same hs fun c hc b e => hb b (.inr (.inr ⟨c, .inl hc, e⟩)), h.may.same hs fun b e => hb b (.inr (.inr ⟨x, .inr rfl, e⟩)), h.apart⟩
theorem LogR.lt {w : World} {m : Nat} {sv : Value} {cs : List SvT} {x : SvT} {L : LgT} (h : LogR w m sv cs x L) : ∀ b, memL m sv cs x b → b < w.heap.size := by
  rintro b (rfl | e | ⟨c, hc | rfl, e⟩)
  · exact heap_lt h.row
  · exact own_lt h.list b e
  · obtain ⟨i, hi, rfl⟩ := List.getElem_of_mem hc
    exact (h.recs.2 i hi (by rw [← h.recs.1]; exact hi)).recs.blk_lt b e
  · exact h.may.recs.blk_lt b e
theorem LogAt.keep {w w' : World} {m : Nat} {L : LgT} {M : Nat → Prop} (h : LogAt w m L M) (hs : w.heap.size ≤ w'.heap.size) (hb : ∀ b, M b → w'.heap[b]? = w.heap[b]?) : LogAt w' m L M := by
  obtain ⟨sv, cs, x, hL, hM⟩ := h
  exact ⟨sv, cs, x, hL.keep hs fun b e => hb b ((hM b).2 e), hM⟩
theorem LogAt.lt {w : World} {m : Nat} {L : LgT} {M : Nat → Prop} (h : LogAt w m L M) : ∀ b, M b → b < w.heap.size := by
  obtain ⟨sv, cs, x, hL, hM⟩ := h
  exact fun b e => hL.lt b ((hM b).1 e)
theorem LogAt.below {w w' : World} {m : Nat} {L : LgT} {M : Nat → Prop} (h : LogAt w m L M) (hb : Below w.heap.size w w') : LogAt w' m L M := h.keep hb.size fun b e => hb.block b (h.lt b e)
theorem LogAt.away {w w' : World} {m : Nat} {L : LgT} {M T : Nat → Prop} (h : LogAt w m L M) (hw : Away T w w') (hT : ∀ b, M b → ¬ T b) : LogAt w' m L M := h.keep hw.size fun b e => hw.block b (h.lt b e) (hT b e)
theorem LogR.svne {w : World} {m : Nat} {sv : Value} {cs : List SvT} {x : SvT} {L : LgT} (h : LogR w m sv cs x L) : sv.ownBlock ≠ some m := by
  intro e
  rcases h.list.2 with ⟨rfl, _⟩ | ⟨q, cap, cur, rfl, _, hq, _⟩
  · cases e
  · obtain rfl : q = m := Option.some.inj e
    exact row_ne hq h.row (by decide) rfl
/-- The states' slice, and the last state. -/
theorem LogR.last {w : World} {m : Nat} {sv : Value} {cs : List SvT} {x : SvT} {L : LgT} (h : LogR w m sv cs x L) : ∃ g cap c, sv = .slice (some ⟨g, 0, none⟩) cs.length cap ∧ 1 ≤ cs.length ∧ cs.getLast? = some c ∧ StOf w c L.now ∧ c ∈ cs ∧ w.cell? ⟨g, (cs.length - 1) * 2, none⟩ = some (.slice c.a c.len c.cap) ∧ w.cell? ⟨g, (cs.length - 1) * 2 + 1, none⟩ = some (.int .i64 (c.cost : Int)) := by
  have hl := h.recs.1
  have hn : (statesL L).length = L.olds.length + 1 := by unfold statesL; simp
  have h1 : cs.length - 1 < cs.length := by omega
  rcases h.list.2 with ⟨_, h0⟩ | ⟨g, cap, cur, rfl, _, hg, _⟩
  · omega
  · obtain ⟨k1, k2⟩ := stL_at cs (cs.length - 1) h1
    have c1 := h.list.cells (g := g) rfl _ _ k1
    have c2 := h.list.cells (g := g) rfl _ _ k2
    rw [add_plain, Nat.zero_add] at c1 c2
    refine ⟨g, cap, cs[cs.length - 1], rfl, by omega, by rw [List.getLast?_eq_getElem?, List.getElem?_eq_getElem h1], ?_, List.getElem_mem h1, c1, c2⟩
    have := h.recs.2 (cs.length - 1) h1 (by omega)
    have e : (statesL L)[cs.length - 1]'(by omega) = L.now := by
      unfold statesL
      rw [List.getElem_append_right (by omega)]
      simp
    rw [e] at this
    exact this
/-- Any state, by its number. -/
theorem LogR.at {w : World} {m : Nat} {sv : Value} {cs : List SvT} {x : SvT} {L : LgT} (h : LogR w m sv cs x L) (i : Nat) (hi : i < cs.length) : ∃ g cap, sv = .slice (some ⟨g, 0, none⟩) cs.length cap ∧ w.cell? ⟨g, i * 2, none⟩ = some (.slice cs[i].a cs[i].len cs[i].cap) ∧ w.cell? ⟨g, i * 2 + 1, none⟩ = some (.int .i64 (cs[i].cost : Int)) := by
  rcases h.list.2 with ⟨_, h0⟩ | ⟨g, cap, cur, rfl, _, hg, _⟩
  · omega
  · obtain ⟨k1, k2⟩ := stL_at cs i hi
    have c1 := h.list.cells (g := g) rfl _ _ k1
    have c2 := h.list.cells (g := g) rfl _ _ k2
    rw [add_plain, Nat.zero_add] at c1 c2
    exact ⟨g, cap, rfl, c1, c2⟩
theorem LogR.c {w : World} {m : Nat} {sv : Value} {cs : List SvT} {x : SvT} {L : LgT} (h : LogR w m sv cs x L) : w.cell? ⟨m, 0, none⟩ = some sv ∧ w.cell? ⟨m, 1, none⟩ = some (.slice x.a x.len x.cap) ∧ w.cell? ⟨m, 2, none⟩ = some (.int .i64 (x.cost : Int)) ∧ w.cell? ⟨m, 3, none⟩ = some (.bool L.maybe) :=
  ⟨by rw [cell_of_row w m 0 _ _ (0, 0) h.row]; rfl, by rw [cell_of_row w m 1 _ _ (0, 0) h.row]; rfl, by rw [cell_of_row w m 2 _ _ (0, 0) h.row]; rfl, by rw [cell_of_row w m 3 _ _ (0, 0) h.row]; rfl⟩
theorem LogR.fz {w : World} {m : Nat} {sv : Value} {cs : List SvT} {x : SvT} {L : LgT} (h : LogR w m sv cs x L) (i : Nat) : w.frozen? ⟨m, i, none⟩ = false := frozen_of_row w m i _ _ h.row
theorem sizeSt (w : World) : (sizeOf 44).run Tryd.prog w = .ok 2 w := by
  have h : (Tryd.prog.info? 44).map (·.size) = some 2 := by kernel_rfl
  cases hq : Tryd.prog.info? 44 with
  | none => rw [hq] at h; cases h
  | some i =>
    rw [hq] at h
    simp only [Option.map_some, Option.some.injEq] at h
    simp [sizeOf, typeInfo, hq, h]
theorem index_st (g len cap k : Nat) (hk : k < len) (V : World) : (Instr.indexAt 60 (.slice (some ⟨g, 0, none⟩) len cap) (.int .i64 (k : Int))).run Tryd.prog V = .ok (.pointer (some ⟨g, k * 2, none⟩)) V := by
  simp [Instr.indexAt, asIntOf, run_underlying Tryd.underlying60, sizeSt, hk]
  rw [add_plain, Nat.zero_add]
theorem infoSt : (Tryd.prog.info? 44).map (fun i => (i.zero, i.size, i.bytes)) = some (some (.agg #[.slice none 0 0, .int .i64 0]), 2, 32) := by kernel_rfl
/-- A state put behind the others. -/
theorem run_append_st (W : World) (v : Value) (l : List SvT) (q : SvT) (hown : W.ownsRow 0 44 2 v l.length (stL l)) (a : Addr)
    (hN : ∀ j u, (stL [q])[j]? = some u → W.cell? (a.add j) = some u) (hlen : l.length ≤ 1000000) :
    ∃ v' w', (Builtin.append_ #[60, 60] 60 #[v, .slice (some a) 1 1]).run Tryd.prog W = .ok v' w' ∧ w'.ownsRow 0 44 2 v' (l ++ [q]).length (stL (l ++ [q])) ∧ W.grownBy w' v.ownBlock ∧ (v'.ownBlock = v.ownBlock ∨ ∃ g, v'.ownBlock = some g ∧ W.heap.size ≤ g) := by
  obtain ⟨i0, hi, hz0, hz1, hz2⟩ := info_parts infoSt
  have hl1 : (stL [q]).length = 1 * 2 := stL_length [q]
  have hu : Tryd.prog.underlying 60 = some (.slice 44) := Tryd.underlying60
  obtain ⟨v', w', hr, ho, hg, _⟩ := run_append_own (P := Tryd.prog) W 0 60 60 44 i0 _ 2 32 hu hi hz0 hz1 hz2 (by rfl) (by decide) v l.length _ hown a 1 1 (stL [q])
    hl1 hN (stL_one _) (by unfold maxLen; omega) (by omega) (Nat.zero_le _)
  refine ⟨v', w', hr, ?_, hg, ?_⟩
  · rw [List.length_append, stL_append]
    exact ho
  · have hi1 : (stL [q]).length = 1 * i0.size := by rw [hz1, hl1]
    rcases hown.2 with ⟨rfl, h0⟩ | ⟨g, cap, cur, rfl, hbg, hgg, hnc, hcm, hcs, htake⟩
    · have := run_append_nil (P := Tryd.prog) W 60 60 44 i0 _ hu hi hz0 a 1 1 (stL [q]) hi1 hN (by omega) (by omega) (by omega)
      rw [hr] at this
      cases this
      exact .inr ⟨W.heap.size, rfl, Nat.le_refl _⟩
    · by_cases hroom : l.length + 1 ≤ cap
      · have := run_append_room (P := Tryd.prog) W 60 60 44 i0 hu hi g l.length cap cur hgg a 1 1 (stL [q]) hi1 hN (stL_one _) hroom (by rw [hz1, hl1, hcs]; omega)
        rw [hr] at this
        cases this
        exact .inl rfl
      · have hx : (stL l).length = l.length * i0.size := by rw [hz1]; exact hown.1
        have := run_append_grow (P := Tryd.prog) W 60 60 44 i0 _ hu hi hz0 ⟨g, 0, none⟩ l.length cap (stL l) hx (hown.cells (g := g) rfl) a 1 1 (stL [q]) hi1 hN (by omega) (by omega) (growslice_fits (by omega) (by rw [hz2]; omega))
        rw [hr] at this
        cases this
        exact .inr ⟨W.heap.size, rfl, Nat.le_refl _⟩
end Go.Proofs.YtdnnhmihigdnkaaDoor

/- The document's New, Now, Was and Committed. -/
namespace Go.Proofs.YtdnnhmihigdnkaaDoor
open Go.RowKit Nums
set_option linter.unusedVariables false
set_option linter.unusedSimpArgs false
set_option maxRecDepth 100000
set_option maxHeartbeats 2000000 in
theorem refNewL (w : World) : Calls Tryd.prog 11 #[] w fun e w' => ∃ m M, e = .returned (ptr m) ∧ LogAt w' m newL M ∧ (∀ b, M b → w.heap.size ≤ b) ∧ Below w.heap.size w w' := by
  have HF : Hid (∃ M, LogAt ((w.alloc (.cells #[.slice none 0 0, .int .i64 0] 44)).alloc (.cells #[.slice (some ⟨w.heap.size, 0, none⟩) 1 1, .slice none 0 0, .int .i64 0, .bool false] 62)) (w.heap.size + 1) newL M ∧ (∀ b, M b → w.heap.size ≤ b) ∧ Below w.heap.size w ((w.alloc (.cells #[.slice none 0 0, .int .i64 0] 44)).alloc (.cells #[.slice (some ⟨w.heap.size, 0, none⟩) 1 1, .slice none 0 0, .int .i64 0, .bool false] 62))) := by
    have h2 := heap_alloc_new (w.alloc (.cells #[.slice none 0 0, .int .i64 0] 44)) (.cells #[.slice (some ⟨w.heap.size, 0, none⟩) 1 1, .slice none 0 0, .int .i64 0, .bool false] 62)
    rw [alloc_size] at h2
    have h0 : StOf ((w.alloc (.cells #[.slice none 0 0, .int .i64 0] 44)).alloc (.cells #[.slice (some ⟨w.heap.size, 0, none⟩) 1 1, .slice none 0 0, .int .i64 0, .bool false] 62)) ⟨none, 0, 0, 0⟩ ⟨[], 0⟩ := ⟨rfl, texts_none _, fun _ => rfl⟩
    have ho : ((w.alloc (.cells #[.slice none 0 0, .int .i64 0] 44)).alloc (.cells #[.slice (some ⟨w.heap.size, 0, none⟩) 1 1, .slice none 0 0, .int .i64 0, .bool false] 62)).ownsRow 0 44 2 (.slice (some ⟨w.heap.size, 0, none⟩) 1 1) 1 (stL [⟨none, 0, 0, 0⟩]) :=
      ⟨rfl, .inr ⟨w.heap.size, 1, #[.slice none 0 0, .int .i64 0], rfl, Nat.zero_le _, heap_keep (heap_alloc_new w _), by decide, by unfold maxLen; decide, rfl, rfl⟩⟩
    refine ⟨_, ⟨.slice (some ⟨w.heap.size, 0, none⟩) 1 1, [⟨none, 0, 0, 0⟩], ⟨none, 0, 0, 0⟩, ⟨h2, ho, AllSt.one h0, h0, ?_⟩, fun b => Iff.rfl⟩, ?_, ((Below.refl _ _).alloc (Nat.le_refl _) _).alloc (by simp) _⟩
    · rintro c (hc | rfl) b ⟨off, e, _⟩
      · obtain rfl : c = ⟨none, 0, 0, 0⟩ := by simpa using hc
        cases e
      · cases e
    · rintro b (rfl | e | ⟨c, hc | rfl, ⟨off, e, _⟩⟩)
      · omega
      · obtain rfl : w.heap.size = b := Option.some.inj e
        exact Nat.le_refl _
      · obtain rfl : c = ⟨none, 0, 0, 0⟩ := by simpa using hc
        cases e
      · cases e
  go_enter Tryd.func11, Tryd.ntmps11
  go_wp2
  go_ret
  obtain ⟨M, k1, k2, k3⟩ := HF.out
  exact ⟨w.heap.size + 1, M, rfl, k1, k2, k3⟩
set_option maxHeartbeats 4000000 in
theorem refNowL (w : World) (m : Nat) (sv : Value) (cs : List SvT) (x : SvT) (L : LgT) (h : LogR w m sv cs x L) (hn : cs.length ≤ 1000000) :
    Calls Tryd.prog 22 #[ptr m] w fun e w' => (∃ c, e = .returned c.v ∧ c ∈ cs ∧ StOf w c L.now) ∧ Below w.heap.size w w' := by
  obtain ⟨d0, -⟩ := h.c
  obtain ⟨g, cap, c, rfl, hn1, _, hst, hmem, e0, e1⟩ := h.last
  have hm := heap_lt h.row
  have hgl : g < w.heap.size := own_lt h.list g rfl
  have HST := hidd hst
  have HMEM := hidd hmem
  have hb : Below w.heap.size w (w.alloc (.cells #[.slice none 0 0, .int .i64 0] 44)) := (Below.refl _ _).alloc (Nat.le_refl _) _
  have hrow := heap_alloc_new w (.cells #[.slice none 0 0, .int .i64 0] 44)
  have HROW : Hid ((w.alloc (.cells #[.slice c.a c.len c.cap, .int .i64 (c.cost : Int)] 44)).drew.heap[w.heap.size]? = some (.cells #[.slice c.a c.len c.cap, .int .i64 (c.cost : Int)] 44 (0, 0))) := heap_alloc_new w _
  have HB : Hid (Below w.heap.size w (w.alloc (.cells #[.slice c.a c.len c.cap, .int .i64 (c.cost : Int)] 44)).drew) := ((Below.refl _ _).alloc (Nat.le_refl _) _).drew
  obtain ⟨n, Hn⟩ : ∃ n, Hid (n = cs.length) := ⟨_, hidd rfl⟩
  rw [← Hn.out] at d0 e0 e1 hn hn1
  obtain ⟨k, rfl⟩ : ∃ k, n = k + 1 := ⟨n - 1, by omega⟩
  rw [show k + 1 - 1 = k by omega] at e0 e1
  have IX : Hid (∀ V, (Instr.indexAt 60 (.slice (some ⟨g, 0, none⟩) (k + 1) cap) (.int .i64 (k : Int))).run Tryd.prog V = .ok (.pointer (some ⟨g, k * 2, none⟩)) V) := fun V => index_st g (k + 1) cap k (by omega) V
  have HK : Hid (∀ V, Below w.heap.size w V → V.cell? ⟨m, 0, none⟩ = some (.slice (some ⟨g, 0, none⟩) (k + 1) cap) ∧ V.cell? ⟨g, k * 2, none⟩ = some (.slice c.a c.len c.cap) ∧ V.cell? ⟨g, k * 2 + 1, none⟩ = some (.int .i64 (c.cost : Int))) := fun V hV =>
    ⟨(hV.cell (p := ⟨m, 0, none⟩) hm).trans d0, (hV.cell (p := ⟨g, k * 2, none⟩) hgl).trans e0, (hV.cell (p := ⟨g, k * 2 + 1, none⟩) hgl).trans e1⟩
  have HK1 := hidd (HK.out _ hb)
  have HK2 := hidd (HK.out _ HB.out)
  have f0 : (w.alloc (.cells #[.slice none 0 0, .int .i64 0] 44)).frozen? ⟨w.heap.size, 0, none⟩ = false := frozen_of_row _ _ 0 _ _ hrow
  have f1 : (w.alloc (.cells #[.slice none 0 0, .int .i64 0] 44)).frozen? ⟨w.heap.size, 1, none⟩ = false := frozen_of_row _ _ 1 _ _ hrow
  have v0 : (w.alloc (.cells #[.slice none 0 0, .int .i64 0] 44)).cell? ⟨w.heap.size, 0, none⟩ = some (.slice none 0 0) := by rw [cell_of_row _ _ 0 _ _ (0, 0) hrow]; rfl
  have v1 : (w.alloc (.cells #[.slice none 0 0, .int .i64 0] 44)).cell? ⟨w.heap.size, 1, none⟩ = some (.int .i64 0) := by rw [cell_of_row _ _ 1 _ _ (0, 0) hrow]; rfl
  have hw1 := wrap_int (k : Int) (by omega) (by omega)
  have hmx : k + 1 ≤ 9223372036854775807 := by omega
  clear hrow h d0 e0 e1 hst hmem HK Hn hb
  unfold ptr
  go_enter Tryd.func22, Tryd.ntmps22
  go_wp2
  refine wp_region_held_drew (S := (fun V => V.cell? ⟨m, 0, none⟩ = some (.slice (some ⟨g, 0, none⟩) (k + 1) cap) ∧ V.cell? ⟨g, k * 2, none⟩ = some (.slice c.a c.len c.cap) ∧ V.cell? ⟨g, k * 2 + 1, none⟩ = some (.int .i64 (c.cost : Int)))) (by kernel_rfl) HK1.out (fun hHeld => ?_)
  refine wpAnyH_take (i := 0) (oi := { dst := some 3, op := Op.move (Operand.tmp 0), type := 26, pos := "ref.go:23", after := #[], guard := none }) (v := .pointer (some ⟨m, 0, none⟩)) rfl (by kernel_rfl) (by kernel_rfl) (by kernel_rfl) (fun _ _ _ h => h) (Or.inl ⟨by rfl, by intro W hSw; go_simp⟩) hHeld ?_
  try simp only [Act.put, pS1, pS2, pS3]
  refine wpAnyH_take (i := 1) (oi := { dst := some 4, op := Op.nilCheck (Operand.tmp 3), type := 0, pos := "ref.go:23", after := #[zD 0], guard := none }) (v := .pointer (some ⟨m, 0, none⟩)) rfl (by kernel_rfl) (by kernel_rfl) (by kernel_rfl) (fun _ _ _ h => h) (Or.inl ⟨by rfl, by intro W hSw; go_simp⟩) hHeld ?_
  try simp only [Act.put, pS1, pS2, pS3]
  refine wpAnyH_take (i := 2) (oi := { dst := some 5, op := Op.fieldAddr 62 (Operand.tmp 4) 0, type := 0, pos := "ref.go:23", after := #[zD 1], guard := none }) (v := .pointer (some ⟨m, 0, none⟩)) rfl (by kernel_rfl) (by kernel_rfl) (by kernel_rfl) (fun _ _ _ h => h) (Or.inl ⟨by rfl, by intro W hSw; go_simp⟩) hHeld ?_
  try simp only [Act.put, pS1, pS2, pS3]
  refine wpAnyH_take (i := 3) (oi := { dst := some 6, op := Op.load 60 (Operand.tmp 5), type := 60, pos := "ref.go:23", after := #[zD 2], guard := none }) (v := .slice (some ⟨g, 0, none⟩) (k + 1) cap) rfl (by kernel_rfl) (by kernel_rfl) (by kernel_rfl) (fun _ _ _ h => h) (Or.inl ⟨by rfl, by intro W hSw; have h1 := hSw.1; go_simp⟩) hHeld ?_
  try simp only [Act.put, pS1, pS2, pS3]
  refine wpAnyH_take (i := 4) (oi := { dst := some 7, op := Op.move (Operand.tmp 0), type := 26, pos := "ref.go:23", after := #[], guard := none }) (v := .pointer (some ⟨m, 0, none⟩)) rfl (by kernel_rfl) (by kernel_rfl) (by kernel_rfl) (fun _ _ _ h => h) (Or.inl ⟨by rfl, by intro W hSw; go_simp⟩) hHeld ?_
  try simp only [Act.put, pS1, pS2, pS3]
  refine wpAnyH_take (i := 5) (oi := { dst := some 8, op := Op.nilCheck (Operand.tmp 7), type := 0, pos := "ref.go:23", after := #[zD 4], guard := none }) (v := .pointer (some ⟨m, 0, none⟩)) rfl (by kernel_rfl) (by kernel_rfl) (by kernel_rfl) (fun _ _ _ h => h) (Or.inl ⟨by rfl, by intro W hSw; go_simp⟩) hHeld ?_
  try simp only [Act.put, pS1, pS2, pS3]
  refine wpAnyH_take (i := 6) (oi := { dst := some 9, op := Op.fieldAddr 62 (Operand.tmp 8) 0, type := 0, pos := "ref.go:23", after := #[zD 5], guard := none }) (v := .pointer (some ⟨m, 0, none⟩)) rfl (by kernel_rfl) (by kernel_rfl) (by kernel_rfl) (fun _ _ _ h => h) (Or.inl ⟨by rfl, by intro W hSw; go_simp⟩) hHeld ?_
  try simp only [Act.put, pS1, pS2, pS3]
  refine wpAnyH_take (i := 7) (oi := { dst := some 10, op := Op.load 60 (Operand.tmp 9), type := 60, pos := "ref.go:23", after := #[zD 6], guard := none }) (v := .slice (some ⟨g, 0, none⟩) (k + 1) cap) rfl (by kernel_rfl) (by kernel_rfl) (by kernel_rfl) (fun _ _ _ h => h) (Or.inl ⟨by rfl, by intro W hSw; have h1 := hSw.1; go_simp⟩) hHeld ?_
  try simp only [Act.put, pS1, pS2, pS3]
  refine wpAnyH_take (i := 8) (oi := { dst := some 11, op := Op.call { callee := Callee.builtin Builtin.len, args := #[Operand.tmp 10], argTypes := #[60] }, type := 3, pos := "ref.go:23", after := #[zD 7], guard := none }) (v := .int .i64 ((k + 1 : Nat) : Int)) rfl (by kernel_rfl) (by kernel_rfl) (by kernel_rfl) (fun _ _ _ h => h) (Or.inl ⟨by rfl, by intro W hSw; go_simp⟩) hHeld ?_
  try simp only [Act.put, pS1, pS2, pS3]
  refine wpAnyH_take (i := 9) (oi := { dst := some 12, op := Op.binOp BinOp.sub 3 (Operand.tmp 11) (Operand.const (Value.int IntKind.i64 1)) 3, type := 3, pos := "ref.go:23", after := #[zD 8], guard := none }) (v := .int .i64 (k : Int)) rfl (by kernel_rfl) (by kernel_rfl) (by kernel_rfl) (fun _ _ _ h => h) (Or.inl ⟨by rfl, by intro W hSw; go_simp⟩) hHeld ?_
  try simp only [Act.put, pS1, pS2, pS3]
  refine wpAnyH_take (i := 10) (oi := { dst := some 13, op := Op.indexAddr 60 (Operand.tmp 6) (Operand.tmp 12), type := 0, pos := "ref.go:23", after := #[zD 3, zD 9], guard := none }) (v := .pointer (some ⟨g, k * 2, none⟩)) rfl (by kernel_rfl) (by kernel_rfl) (by kernel_rfl) (fun _ _ _ h => h) (Or.inl ⟨by rfl, by intro W hSw; have h1 := IX.out W; go_simp⟩) hHeld ?_
  try simp only [Act.put, pS1, pS2, pS3]
  refine wpAnyH_take (i := 11) (oi := { dst := some 14, op := Op.load 44 (Operand.tmp 13), type := 44, pos := "ref.go:23", after := #[zD 10], guard := none }) (v := .agg #[.slice c.a c.len c.cap, .int .i64 (c.cost : Int)]) rfl (by kernel_rfl) (by kernel_rfl) (by kernel_rfl) (fun _ _ _ h => h) (Or.inl ⟨by rfl, by intro W hSw; have h1 := hSw.2.1; have h2 := hSw.2.2; go_simp⟩) hHeld ?_
  try simp only [Act.put, pS1, pS2, pS3]
  refine wpAnyH_ready (rs := [12]) (by kernel_rfl) (by simp) ?_
  refine (AllReadyH.cons (o := { dst := none, op := Op.store 44 (Operand.tmp 2) (Operand.tmp 14), type := 0, pos := "ref.go:23", after := #[zD 11, zP 0, zP 1, zP 2, zP 3, zP 4, zP 5, zP 6, zP 7, zP 8, zP 9, zP 10, zP 11], guard := none }) rfl (fun K hK => ?_) AllReadyH.nil)
  go_simp
  refine hK.out _ _ HK2.out (fun hHeld => ?_)
  clear hK K
  try simp only [Act.put, pS1, pS2, pS3]
  refine wpAnyH_done (by kernel_rfl) ?_ _
  clear hHeld
  go_wp2
  refine bodyPost_ret (v := c.v) ?_ rfl ⟨⟨c, rfl, HMEM.out, HST.out⟩, HB.out⟩
  exact results_cell_row (p := 2) (ty := 44) rfl _ _ w.heap.size 44 #[.slice c.a c.len c.cap, .int .i64 (c.cost : Int)] (0, 0) _ rfl HROW.out Tryd.underlying44 rfl (by kernel_rfl)
end Go.Proofs.YtdnnhmihigdnkaaDoor

/- The document's Was and Committed. -/
namespace Go.Proofs.YtdnnhmihigdnkaaDoor
open Go.RowKit Nums
set_option linter.unusedVariables false
set_option linter.unusedSimpArgs false
set_option maxRecDepth 100000
theorem own_rowne {w : World} {B k n m : Nat} {t u : TypeId} {v : Value} {xs : List Value} {cs : Array Value} (h : w.ownsRow B t k v n xs) (hr : w.heap[m]? = some (.cells cs u (0, 0))) (e : t ≠ u) : v.ownBlock ≠ some m := by
  intro e1
  rcases h.2 with ⟨rfl, _⟩ | ⟨q, cap, cur, rfl, _, hq, _⟩
  · cases e1
  · obtain rfl : q = m := Option.some.inj e1
    exact row_ne hq hr e rfl
set_option maxHeartbeats 4000000 in
theorem refWasL (a : Option Addr) (len cap : Nat) (l : List ByteArray) (w : World) (hT : Texts w a len l) (hc : a = none → cap = 0) (hS : Small 1000000 1000000 l) :
    Calls Tryd.prog 34 #[.slice a len cap] w fun e w' => (∃ c : SvT, e = .returned c.v ∧ StOf w' c (wasS l) ∧ ∀ b, TBlock c.a c.len b → w.heap.size ≤ b) ∧ Below w.heap.size w w' := by
  have hl := hT.1
  have hlen : len ≤ 1000000 := by have := hS.1; omega
  have hb1 : Below w.heap.size w (w.alloc (.cells #[.slice none 0 0, .int .i64 0] 44)) := (Below.refl _ _).alloc (Nat.le_refl _) _
  have hrow := heap_alloc_new w (.cells #[.slice none 0 0, .int .i64 0] 44)
  obtain ⟨v2, w2, hrun, ho, hg⟩ := run_append_texts (hT.keep hb1) hc w.heap.size 0 29 (.slice none 0 0) [] (World.ownsRow_nil _ _ _ _) (by simp) (by omega)
  rw [Nat.zero_add, List.nil_append] at ho
  obtain ⟨a2, c2, rfl, hT2, hc2, _, hbl⟩ := texts_own ho
  have hs2 := hg.size
  rw [alloc_size] at hs2
  have hb2 : Below w.heap.size w w2 := hb1.grown hg (by simp) (by intro k hk; cases hk)
  have hrow2 : w2.heap[w.heap.size]? = some (.cells #[.slice none 0 0, .int .i64 0] 44) := (hg.block _ (by simp) (fun e => by cases e)).trans hrow
  have f0 := frozen_of_row w2 w.heap.size 0 _ _ hrow2
  have f1 := frozen_of_row w2 w.heap.size 1 _ _ hrow2
  have v0 : w2.cell? ⟨w.heap.size, 0, none⟩ = some (.slice none 0 0) := by rw [cell_of_row _ _ 0 _ _ (0, 0) hrow2]; rfl
  have v1 : w2.cell? ⟨w.heap.size, 1, none⟩ = some (.int .i64 0) := by rw [cell_of_row _ _ 1 _ _ (0, 0) hrow2]; rfl
  have HROW := hidd (Go.heap_setCell_same _ _ 1 _ _ (.int .i64 (costN l : Int)) (Go.heap_setCell_same w2 _ 0 _ _ (.slice a2 len c2) hrow2))
  have CST := hidd (refCost_any a len cap l w2 (hT.keep hb2) hS)
  have hg3 := gr_trans (Lib.grownBy_setCell w2 w.heap.size 0 (.slice a2 len c2)) (Lib.grownBy_setCell _ w.heap.size 1 (.int .i64 (costN l : Int)))
  have hne := own_rowne ho hrow2 (by decide)
  have HF : Hid (∃ c : SvT, c.v = .agg #[.slice a2 len c2, .int .i64 (costN l : Int)] ∧ StOf ((w2.setCell ⟨w.heap.size, 0, none⟩ (.slice a2 len c2)).setCell ⟨w.heap.size, 1, none⟩ (.int .i64 (costN l : Int))) c (wasS l) ∧ ∀ b, TBlock c.a c.len b → w.heap.size ≤ b) :=
    ⟨⟨a2, len, c2, costN l⟩, rfl, ⟨rfl, hT2.same hg3.size fun b e => hg3.block b (hT2.blk_lt b e) (fun e2 => hne (by rw [← e2]; exact (hbl b e).2)), hc2⟩, fun b e => (hbl b e).1⟩
  have HB : Hid (Below w.heap.size w ((w2.setCell ⟨w.heap.size, 0, none⟩ (.slice a2 len c2)).setCell ⟨w.heap.size, 1, none⟩ (.int .i64 (costN l : Int)))) := (hb2.setCell (Nat.le_refl _) _).setCell (Nat.le_refl _) _
  have HRUN := hidd hrun
  obtain ⟨cn, Hcn⟩ : ∃ n : Int, Hid (n = (costN l : Int)) := ⟨_, hidd rfl⟩
  rw [← Hcn.out] at HROW CST HF HB
  clear hrun ho hg hb1 hb2 hrow hrow2 hT hT2 hS hl hbl hne hg3
  go_enter Tryd.func34, Tryd.ntmps34
  go_wp2_with (first
    | ((with_reducible show wpList _ _ _ ({ dst := some 6, op := _, type := _, pos := _, after := _, guard := _ } :: _) _ _); refine wpList_append_run (by rfl) (.tmp 4) (.tmp 5) 29 29 (by rfl) _ _ _ _ (by rfl) (by rfl) HRUN.out ?_; try simp only [Act.put, pS1, pS2, pS3])
    | fail)
  refine CST.out.mono ?_
  rintro e W3 ⟨rfl, rfl⟩
  clear CST HRUN
  go_wp2
  obtain ⟨c, e1, e2, e3⟩ := HF.out
  refine bodyPost_ret (v := .agg #[.slice a2 len c2, .int .i64 cn]) ?_ rfl ⟨⟨c, by rw [e1], e2, e3⟩, HB.out⟩
  exact results_cell_row (p := 2) (ty := 44) rfl _ _ w.heap.size 44 #[.slice a2 len c2, .int .i64 cn] (0, 0) _ rfl HROW.out Tryd.underlying44 rfl (by kernel_rfl)
set_option maxHeartbeats 8000000 in
theorem refCommitted (w : World) (m : Nat) (sv : Value) (cs : List SvT) (x : SvT) (L : LgT) (h : LogR w m sv cs x L) (hn : cs.length ≤ 1000000) (a : Option Addr) (len cap : Nat) (l : List ByteArray) (hT : Texts w a len l) (hc : a = none → cap = 0) (hS : Small 1000000 1000000 l) (hR : L.now.recs.length ≤ 1000000) (hC : L.now.cost ≤ 4000000000000000) :
    Calls Tryd.prog 35 #[ptr m, .slice a len cap] w fun e w' => (∃ c : SvT, e = .returned c.v ∧ StOf w' c (committed L l) ∧ ∀ b, TBlock c.a c.len b → w.heap.size ≤ b) ∧ Below w.heap.size w w' := by
  have hl := hT.1
  have hlen : len ≤ 1000000 := by have := hS.1; omega
  have hcl := costN_le hS.2
  have hcl2 : l.length * (8 + 1000000) ≤ 1000000 * (8 + 1000000) := Nat.mul_le_mul_right _ hS.1
  have hb1 : Below w.heap.size w (w.alloc (.cells #[.slice none 0 0, .int .i64 0] 44)) := (Below.refl _ _).alloc (Nat.le_refl _) _
  have hrow := heap_alloc_new w (.cells #[.slice none 0 0, .int .i64 0] 44)
  have hmem : ∀ b, memL m sv cs x b → b < w.heap.size := h.lt
  have h1 : LogR (w.alloc (.cells #[.slice none 0 0, .int .i64 0] 44)) m sv cs x L := h.keep hb1.size fun b e => hb1.block b (hmem b e)
  have NOW := hidd (refNowL (w.alloc (.cells #[.slice none 0 0, .int .i64 0] 44)) m sv cs x L h1 hn)
  have NX : Hid (∀ (W1 : World) (c : SvT), c ∈ cs → StOf (w.alloc (.cells #[.slice none 0 0, .int .i64 0] 44)) c L.now → Below (w.alloc (.cells #[.slice none 0 0, .int .i64 0] 44)).heap.size (w.alloc (.cells #[.slice none 0 0, .int .i64 0] 44)) W1 →
      ∃ a3 c3 W3 a4 n4 c4 W4, (Builtin.append_ #[29, 29] 29 #[.slice none 0 0, .slice c.a c.len c.cap]).run Tryd.prog (W1.alloc (.cells #[.slice c.a c.len c.cap, .int .i64 (c.cost : Int)] 44)) = .ok (.slice a3 c.len c3) W3 ∧
        (Builtin.append_ #[29, 29] 29 #[.slice a3 c.len c3, .slice a len cap]).run Tryd.prog W3 = .ok (.slice a4 n4 c4) W4 ∧
        W3.cell? ⟨W1.heap.size, 0, none⟩ = some (.slice c.a c.len c.cap) ∧
        W4.cell? ⟨W1.heap.size, 1, none⟩ = some (.int .i64 (c.cost : Int)) ∧ W4.cell? ⟨w.heap.size, 0, none⟩ = some (.slice none 0 0) ∧ W4.cell? ⟨w.heap.size, 1, none⟩ = some (.int .i64 0) ∧ W4.frozen? ⟨w.heap.size, 0, none⟩ = false ∧ W4.frozen? ⟨w.heap.size, 1, none⟩ = false ∧
        Calls Tryd.prog 24 #[.slice a len cap] W4.drew (fun e w' => e = .returned (.int .i64 (costN l)) ∧ W4.drew = w') ∧
        ((W4.drew.setCell ⟨w.heap.size, 0, none⟩ (.slice a4 n4 c4)).setCell ⟨w.heap.size, 1, none⟩ (.int .i64 ((c.cost : Int) + (costN l : Int)))).heap[w.heap.size]? = some (.cells #[.slice a4 n4 c4, .int .i64 ((c.cost : Int) + (costN l : Int))] 44 (0, 0)) ∧
        (∃ d : SvT, d.v = .agg #[.slice a4 n4 c4, .int .i64 ((c.cost : Int) + (costN l : Int))] ∧ StOf ((W4.drew.setCell ⟨w.heap.size, 0, none⟩ (.slice a4 n4 c4)).setCell ⟨w.heap.size, 1, none⟩ (.int .i64 ((c.cost : Int) + (costN l : Int)))) d (committed L l) ∧ ∀ b, TBlock d.a d.len b → w.heap.size ≤ b) ∧ Below w.heap.size w ((W4.drew.setCell ⟨w.heap.size, 0, none⟩ (.slice a4 n4 c4)).setCell ⟨w.heap.size, 1, none⟩ (.int .i64 ((c.cost : Int) + (costN l : Int))))) := fun W1 c hm hst hbw => by
    have hw1 : Below w.heap.size w W1 := hb1.trans (hbw.mono (by simp))
    have hs1 := hw1.size
    have hsz1 : w.heap.size < W1.heap.size := by have := hbw.size; rw [alloc_size] at this; omega
    have hb2 : Below w.heap.size w (W1.alloc (.cells #[.slice c.a c.len c.cap, .int .i64 (c.cost : Int)] 44)) := hw1.alloc hs1 _
    have hcr := hst.recs.1
    have hst2 : Texts (W1.alloc (.cells #[.slice c.a c.len c.cap, .int .i64 (c.cost : Int)] 44)) c.a c.len L.now.recs := (hst.recs.keep hbw).keep ((Below.refl _ _).alloc (Nat.le_refl _) _)
    obtain ⟨v3, W3, r3, o3, g3⟩ := run_append_texts hst2 hst.cap w.heap.size 0 29 (.slice none 0 0) [] (World.ownsRow_nil _ _ _ _) (by rw [alloc_size]; omega) (by omega)
    rw [Nat.zero_add, List.nil_append] at o3
    obtain ⟨a3, c3, rfl, t3, k3, _, b3⟩ := texts_own o3
    have hs3 := g3.size
    rw [alloc_size] at hs3
    have hb3 : Below w.heap.size w W3 := hb2.grown g3 (by rw [alloc_size]; omega) (by intro k hk; cases hk)
    obtain ⟨v4, W4, r4, o4, g4⟩ := run_append_texts (hT.keep hb3) hc w.heap.size c.len 29 (.slice a3 c.len c3) L.now.recs o3 (by omega) (by omega)
    obtain ⟨a4, c4, rfl, t4, k4, _, b4⟩ := texts_own o4
    have hs4 := g4.size
    have hb4 : Below w.heap.size w W4 := hb3.grown g4 (by omega) (by
      intro k hk
      by_cases h0 : c.len = 0
      · rcases o3.2 with ⟨e, _⟩ | ⟨q, _, _, e, hq, _⟩
        · rw [e] at hk; cases hk
        · rw [e] at hk; cases hk; exact hq
      · rcases o3.2 with ⟨e, _⟩ | ⟨q, _, _, e, hq, _⟩
        · rw [e] at hk; cases hk
        · rw [e] at hk; cases hk; exact hq)
    have hn2 := heap_alloc_new W1 (.cells #[.slice c.a c.len c.cap, .int .i64 (c.cost : Int)] 44)
    have q3 : W3.heap[W1.heap.size]? = some (.cells #[.slice c.a c.len c.cap, .int .i64 (c.cost : Int)] 44 (0, 0)) := (g3.block _ (by simp) (fun e => by cases e)).trans hn2
    have z1 : W1.heap[w.heap.size]? = some (.cells #[.slice none 0 0, .int .i64 0] 44) := (hbw.block _ (by simp)).trans hrow
    have z3 : W3.heap[w.heap.size]? = some (.cells #[.slice none 0 0, .int .i64 0] 44) := (g3.block _ (by rw [alloc_size]; omega) (fun e => by cases e)).trans (heap_keep z1)
    have q4 : W4.heap[W1.heap.size]? = some (.cells #[.slice c.a c.len c.cap, .int .i64 (c.cost : Int)] 44 (0, 0)) := (g4.block _ (heap_lt q3) (fun e => own_rowne o3 q3 (by decide) e.symm)).trans q3
    have z4 : W4.heap[w.heap.size]? = some (.cells #[.slice none 0 0, .int .i64 0] 44) := (g4.block _ (heap_lt z3) (fun e => own_rowne o3 z3 (by decide) e.symm)).trans z3
    have g5 := gr_trans (Lib.grownBy_setCell W4.drew w.heap.size 0 (.slice a4 (c.len + len) c4)) (Lib.grownBy_setCell _ w.heap.size 1 (.int .i64 ((c.cost : Int) + (costN l : Int))))
    have ne4 := own_rowne o4 z4 (by decide)
    refine ⟨a3, c3, W3, a4, c.len + len, c4, W4, r3, r4, by rw [cell_of_row _ _ 0 _ _ (0, 0) q3]; rfl, by rw [cell_of_row _ _ 1 _ _ (0, 0) q4]; rfl, by rw [cell_of_row _ _ 0 _ _ (0, 0) z4]; rfl, by rw [cell_of_row _ _ 1 _ _ (0, 0) z4]; rfl, frozen_of_row W4 _ 0 _ _ z4, frozen_of_row W4 _ 1 _ _ z4, refCost_any a len cap l W4.drew (hT.keep hb4.drew) hS, Go.heap_setCell_same _ _ 1 _ _ _ (Go.heap_setCell_same W4.drew _ 0 _ _ _ z4), ?_, (hb4.drew.setCell (Nat.le_refl _) _).setCell (Nat.le_refl _) _⟩
    refine ⟨⟨a4, c.len + len, c4, c.cost + costN l⟩, by unfold SvT.v; rw [show ((c.cost + costN l : Nat) : Int) = (c.cost : Int) + (costN l : Int) by omega], ⟨by show c.cost + costN l = L.now.cost + costN l; rw [hst.cost], ?_, k4⟩, fun b e => (b4 b e).1⟩
    exact t4.same (by have := g5.size; exact this) fun b e => g5.block b (t4.blk_lt b e) (fun e2 => ne4 (by rw [← e2]; exact (b4 b e).2))
  have hcb : Hid (∀ c : SvT, StOf (w.alloc (.cells #[.slice none 0 0, .int .i64 0] 44)) c L.now → (c.cost : Int) ≤ 4000000000000000) := fun c hst => by have := hst.cost; omega
  obtain ⟨cn, Hcn⟩ : ∃ n : Nat, Hid (n = costN l) := ⟨_, hidd rfl⟩
  have hcn : cn ≤ 4000000000000 := by rw [Hcn.out]; omega
  rw [← Hcn.out] at NX
  unfold ptr
  unfold ptr at NOW
  clear hrow hmem h1 hb1 h hT hS hl hcl hcl2
  go_enter Tryd.func35, Tryd.ntmps35
  go_wp2_with fail
  refine NOW.out.mono ?_
  rintro e W1 ⟨⟨c, rfl, hm, hst⟩, hbw⟩
  obtain ⟨a3, c3, W3, a4, n4, c4, W4, r3, r4, q3, q4, y0, y1, f0, f1, cst, hrw, hfin, hbl⟩ := NX.out W1 c hm hst hbw
  have hcc := hcb.out c hst
  have R3 := hidd r3
  have R4 := hidd r4
  have CST := hidd cst
  have HRW := hidd hrw
  have HFIN := hidd hfin
  have HBL := hidd hbl
  have hw1 := wrap_int ((c.cost : Int) + (cn : Int)) (by omega) (by omega)
  unfold SvT.v
  clear NX NOW hcb r3 r4 cst hrw hfin hbl hm hst hbw
  go_wp2_with (first
    | ((with_reducible show wpList _ _ _ ({ dst := some 12, op := _, type := _, pos := _, after := _, guard := _ } :: _) _ _); refine wpList_append_run (by rfl) (.tmp 9) (.tmp 11) 29 29 (by rfl) _ _ _ _ (by rfl) (by rfl) R3.out ?_; try simp only [Act.put, pS1, pS2, pS3])
    | ((with_reducible show wpList _ _ _ ({ dst := some 15, op := _, type := _, pos := _, after := _, guard := _ } :: _) _ _); refine wpList_append_run (by rfl) (.tmp 13) (.tmp 14) 29 29 (by rfl) _ _ _ _ (by rfl) (by rfl) R4.out ?_; try simp only [Act.put, pS1, pS2, pS3])
    | fail)
  refine wp_region_held_drew (S := (fun _ => True)) (by kernel_rfl) trivial (fun hHeld => ?_)
  refine wpAnyH_take (i := 0) (oi := { dst := some 16, op := Op.move (Operand.tmp 6), type := 29, pos := "ref.go:66", after := #[], guard := none }) (v := .slice a4 n4 c4) rfl (by kernel_rfl) (by kernel_rfl) (by kernel_rfl) (fun _ _ _ h => h) (Or.inl ⟨by rfl, by intro W hSw; go_simp⟩) hHeld ?_
  try simp only [Act.put, pS1, pS2, pS3]
  refine wpAnyH_take (i := 1) (oi := { dst := some 17, op := Op.fieldAddr 44 (Operand.tmp 5) 1, type := 0, pos := "ref.go:66", after := #[], guard := none }) (v := .pointer (some ⟨W1.heap.size, 1, none⟩)) rfl (by kernel_rfl) (by kernel_rfl) (by kernel_rfl) (fun _ _ _ h => h) (Or.inl ⟨by rfl, by intro W hSw; go_simp⟩) hHeld ?_
  try simp only [Act.put, pS1, pS2, pS3]
  refine wpAnyH_take (i := 3) (oi := { dst := some 19, op := Op.move (Operand.tmp 1), type := 29, pos := "ref.go:66", after := #[], guard := none }) (v := .slice a len cap) rfl (by kernel_rfl) (by kernel_rfl) (by kernel_rfl) (fun _ _ _ h => h) (Or.inl ⟨by rfl, by intro W hSw; go_simp⟩) hHeld ?_
  try simp only [Act.put, pS1, pS2, pS3]
  refine wpAnyH_ready (rs := [2, 4]) (by kernel_rfl) (by simp) ?_
  refine (AllReadyH.cons (o := { dst := some 18, op := Op.load 3 (Operand.tmp 17), type := 3, pos := "ref.go:66", after := #[zD 1], guard := none }) rfl (fun K hK => ?_) (AllReadyH.cons (o := { dst := some 20, op := Op.call { callee := Callee.value (Operand.func 24), args := #[Operand.tmp 19], argTypes := #[29] }, type := 3, pos := "ref.go:66", after := #[zD 3], guard := none }) rfl (fun K hK => ?_) AllReadyH.nil))
  · have h1 := q4
    go_simp
    clear h1
    refine hK.out _ _ trivial (fun hHeld => ?_)
    clear hK K
    try simp only [Act.put, pS1, pS2, pS3]
    refine wpAnyH_ready (rs := [4]) (by kernel_rfl) (by simp) ?_
    refine (AllReadyH.cons (o := { dst := some 20, op := Op.call { callee := Callee.value (Operand.func 24), args := #[Operand.tmp 19], argTypes := #[29] }, type := 3, pos := "ref.go:66", after := #[zD 3], guard := none }) rfl (fun K hK => ?_) AllReadyH.nil)
    go_simp
    refine CST.out.mono ?_
    rintro e W5 ⟨rfl, rfl⟩
    go_wp2_with fail
    refine hK.out _ _ trivial (fun hHeld => ?_)
    clear hK K
    try simp only [Act.put, pS1, pS2, pS3]
    refine wpAnyH_take (i := 5) (oi := { dst := some 21, op := Op.binOp BinOp.add 3 (Operand.tmp 18) (Operand.tmp 20) 3, type := 3, pos := "ref.go:66", after := #[zD 2, zD 4], guard := none }) (v := .int .i64 ((c.cost : Int) + (cn : Int))) rfl (by kernel_rfl) (by kernel_rfl) (by kernel_rfl) (fun _ _ _ h => h) (Or.inl ⟨by rfl, by intro W hSw; go_simp⟩) hHeld ?_
    try simp only [Act.put, pS1, pS2, pS3]
    refine wpAnyH_take (i := 6) (oi := { dst := some 22, op := Op.build 44 #[(0, Operand.tmp 16), (1, Operand.tmp 21)], type := 44, pos := "ref.go:66", after := #[zD 0, zD 5], guard := none }) (v := .agg #[.slice a4 n4 c4, .int .i64 ((c.cost : Int) + (cn : Int))]) rfl (by kernel_rfl) (by kernel_rfl) (by kernel_rfl) (fun _ _ _ h => h) (Or.inl ⟨by rfl, by intro W hSw; go_simp⟩) hHeld ?_
    try simp only [Act.put, pS1, pS2, pS3]
    refine wpAnyH_ready (rs := [7]) (by kernel_rfl) (by simp) ?_
    refine (AllReadyH.cons (o := { dst := none, op := Op.store 44 (Operand.tmp 4) (Operand.tmp 22), type := 0, pos := "ref.go:66", after := #[zD 6, zC 4, zP 0, zP 1, zP 2, zP 3, zP 4, zP 5, zP 6], guard := none }) rfl (fun K hK => ?_) AllReadyH.nil)
    go_simp
    refine hK.out _ _ trivial (fun hHeld => ?_)
    clear hK K
    try simp only [Act.put, pS1, pS2, pS3]
    refine wpAnyH_done (by kernel_rfl) ?_ _
    clear hHeld
    go_wp2
    obtain ⟨d, e1, e2, e3⟩ := HFIN.out
    refine bodyPost_ret (v := .agg #[.slice a4 n4 c4, .int .i64 ((c.cost : Int) + (cn : Int))]) ?_ rfl ⟨⟨d, by rw [e1], e2, e3⟩, HBL.out⟩
    exact results_cell_row (p := 4) (ty := 44) rfl _ _ w.heap.size 44 #[.slice a4 n4 c4, .int .i64 ((c.cost : Int) + (cn : Int))] (0, 0) _ rfl HRW.out Tryd.underlying44 rfl (by kernel_rfl)
  · go_simp
    refine CST.out.mono ?_
    rintro e W5 ⟨rfl, rfl⟩
    go_wp2_with fail
    refine hK.out _ _ trivial (fun hHeld => ?_)
    clear hK K
    try simp only [Act.put, pS1, pS2, pS3]
    refine wpAnyH_ready (rs := [2]) (by kernel_rfl) (by simp) ?_
    refine (AllReadyH.cons (o := { dst := some 18, op := Op.load 3 (Operand.tmp 17), type := 3, pos := "ref.go:66", after := #[zD 1], guard := none }) rfl (fun K hK => ?_) AllReadyH.nil)
    have h1 := q4
    go_simp
    clear h1
    refine hK.out _ _ trivial (fun hHeld => ?_)
    clear hK K
    try simp only [Act.put, pS1, pS2, pS3]
    refine wpAnyH_take (i := 5) (oi := { dst := some 21, op := Op.binOp BinOp.add 3 (Operand.tmp 18) (Operand.tmp 20) 3, type := 3, pos := "ref.go:66", after := #[zD 2, zD 4], guard := none }) (v := .int .i64 ((c.cost : Int) + (cn : Int))) rfl (by kernel_rfl) (by kernel_rfl) (by kernel_rfl) (fun _ _ _ h => h) (Or.inl ⟨by rfl, by intro W hSw; go_simp⟩) hHeld ?_
    try simp only [Act.put, pS1, pS2, pS3]
    refine wpAnyH_take (i := 6) (oi := { dst := some 22, op := Op.build 44 #[(0, Operand.tmp 16), (1, Operand.tmp 21)], type := 44, pos := "ref.go:66", after := #[zD 0, zD 5], guard := none }) (v := .agg #[.slice a4 n4 c4, .int .i64 ((c.cost : Int) + (cn : Int))]) rfl (by kernel_rfl) (by kernel_rfl) (by kernel_rfl) (fun _ _ _ h => h) (Or.inl ⟨by rfl, by intro W hSw; go_simp⟩) hHeld ?_
    try simp only [Act.put, pS1, pS2, pS3]
    refine wpAnyH_ready (rs := [7]) (by kernel_rfl) (by simp) ?_
    refine (AllReadyH.cons (o := { dst := none, op := Op.store 44 (Operand.tmp 4) (Operand.tmp 22), type := 0, pos := "ref.go:66", after := #[zD 6, zC 4, zP 0, zP 1, zP 2, zP 3, zP 4, zP 5, zP 6], guard := none }) rfl (fun K hK => ?_) AllReadyH.nil)
    go_simp
    refine hK.out _ _ trivial (fun hHeld => ?_)
    clear hK K
    try simp only [Act.put, pS1, pS2, pS3]
    refine wpAnyH_done (by kernel_rfl) ?_ _
    clear hHeld
    go_wp2
    obtain ⟨d, e1, e2, e3⟩ := HFIN.out
    refine bodyPost_ret (v := .agg #[.slice a4 n4 c4, .int .i64 ((c.cost : Int) + (cn : Int))]) ?_ rfl ⟨⟨d, by rw [e1], e2, e3⟩, HBL.out⟩
    exact results_cell_row (p := 4) (ty := 44) rfl _ _ w.heap.size 44 #[.slice a4 n4 c4, .int .i64 ((c.cost : Int) + (cn : Int))] (0, 0) _ rfl HRW.out Tryd.underlying44 rfl (by kernel_rfl)
end Go.Proofs.YtdnnhmihigdnkaaDoor

/- The document's To and Synced. -/
namespace Go.Proofs.YtdnnhmihigdnkaaDoor
open Go.RowKit Nums
set_option linter.unusedVariables false
set_option linter.unusedSimpArgs false
set_option maxRecDepth 100000
/-- The log's own row is written, nothing else. -/
theorem LogR.set {w w' : World} {m : Nat} {sv : Value} {cs : List SvT} {x x' : SvT} {L L' : LgT} (h : LogR w m sv cs x L) (hg : w.grownBy w' (some m))
    (hr : w'.heap[m]? = some (.cells #[sv, .slice x'.a x'.len x'.cap, .int .i64 (x'.cost : Int), .bool L'.maybe] 62 (0, 0))) (hs : statesL L' = statesL L) (hx : StOf w x' L'.may) (hap : ∀ b, TBlock x'.a x'.len b → b ≠ m ∧ sv.ownBlock ≠ some b) : LogR w' m sv cs x' L' := by
  have ne : ∀ b, b ≠ m → b < w.heap.size → w'.heap[b]? = w.heap[b]? := fun b hb hl => hg.block b hl (fun e => hb (Option.some.inj e))
  refine ⟨hr, own_same h.list fun b e => ne b (fun e2 => h.svne (by rw [← e2]; exact e)) (own_lt h.list b e), ?_, hx.same hg.size fun b e => ne b (hap b e).1 (hx.recs.blk_lt b e), ?_⟩
  · rw [hs]
    exact h.recs.same hg.size fun c hc b e => ne b (h.apart c (.inl hc) b e).1 (h.lt b (.inr (.inr ⟨c, .inl hc, e⟩)))
  · rintro c (hc | rfl) b e
    · exact h.apart c (.inl hc) b e
    · exact hap b e
/-- What a call on the log leaves. -/
def WentL (w : World) (m : Nat) (L' : LgT) (M X : Nat → Prop) (w' : World) : Prop := (∃ M', LogAt w' m L' M' ∧ ∀ b, M' b → M b ∨ X b ∨ w.heap.size ≤ b) ∧ Away M w w'
set_option maxHeartbeats 8000000 in
theorem refTo (w : World) (m : Nat) (L : LgT) (M : Nat → Prop) (h : LogAt w m L M) (hn : (statesL L).length ≤ 1000000) (c : SvT) (s : StT) (hc : StOf w c s) (hap : ∀ b, TBlock c.a c.len b → ¬ M b) (n : Int) :
    Calls Tryd.prog 36 #[ptr m, c.v, .int .i64 n] w fun e w' => (∃ v, e = .returned v) ∧ WentL w m (toL L s n) M (TBlock c.a c.len) w' := by
  obtain ⟨sv, cs, x, hL, hM⟩ := h
  have hm := heap_lt hL.row
  have hlen := hL.recs.1
  have hcm : ∀ b, TBlock c.a c.len b → b ≠ m ∧ sv.ownBlock ≠ some b := fun b e => ⟨fun e2 => hap b e ((hM b).2 (.inl e2)), fun e2 => hap b e ((hM b).2 (.inr (.inl e2)))⟩
  have hb1 : Below w.heap.size w (w.alloc (.cells #[.slice c.a c.len c.cap, .int .i64 (c.cost : Int)] 44)) := (Below.refl _ _).alloc (Nat.le_refl _) _
  have hrow := heap_alloc_new w (.cells #[.slice c.a c.len c.cap, .int .i64 (c.cost : Int)] 44)
  have b0 : (w.alloc (.cells #[.slice c.a c.len c.cap, .int .i64 (c.cost : Int)] 44)).cell? ⟨w.heap.size, 0, none⟩ = some (.slice c.a c.len c.cap) := by rw [cell_of_row _ _ 0 _ _ (0, 0) hrow]; rfl
  have b1 : (w.alloc (.cells #[.slice c.a c.len c.cap, .int .i64 (c.cost : Int)] 44)).cell? ⟨w.heap.size, 1, none⟩ = some (.int .i64 (c.cost : Int)) := by rw [cell_of_row _ _ 1 _ _ (0, 0) hrow]; rfl
  have hL1 : LogR (w.alloc (.cells #[.slice c.a c.len c.cap, .int .i64 (c.cost : Int)] 44)) m sv cs x L := hL.keep hb1.size fun b e => hb1.block b (hL.lt b e)
  obtain ⟨d0, d1, d2, d3⟩ := hL1.c
  have SAME : Hid (toL L s n = L → WentL w m (toL L s n) M (TBlock c.a c.len) (w.alloc (.cells #[.slice c.a c.len c.cap, .int .i64 (c.cost : Int)] 44))) := fun e => by
    rw [e]
    exact ⟨⟨M, ⟨sv, cs, x, hL1, hM⟩, fun b e => .inl e⟩, Away.of_below hb1⟩
  unfold ptr SvT.v
  by_cases hn0 : n = 0
  · subst hn0
    have NX : Hid (∃ g' n' cap' w3, (Builtin.append_ #[60, 60] 60 #[sv, .slice (some ⟨w.heap.size + 1, 0, none⟩) 1 1]).run Tryd.prog ((w.alloc (.cells #[.slice c.a c.len c.cap, .int .i64 (c.cost : Int)] 44)).drew.alloc (.cells #[.slice c.a c.len c.cap, .int .i64 (c.cost : Int)] 44)) = .ok (.slice g' n' cap') w3 ∧ w3.cell? ⟨m, 0, none⟩ = some sv ∧ w3.frozen? ⟨m, 0, none⟩ = false ∧ WentL w m (toL L s 0) M (TBlock c.a c.len) (w3.setCell ⟨m, 0, none⟩ (.slice g' n' cap'))) := by
      have hb2 : Below w.heap.size w ((w.alloc (.cells #[.slice c.a c.len c.cap, .int .i64 (c.cost : Int)] 44)).drew.alloc (.cells #[.slice c.a c.len c.cap, .int .i64 (c.cost : Int)] 44)) := hb1.drew.alloc (by simp) _
      have hsz : (w.alloc (.cells #[.slice c.a c.len c.cap, .int .i64 (c.cost : Int)] 44)).drew.heap.size = w.heap.size + 1 := by show (w.alloc (.cells #[.slice c.a c.len c.cap, .int .i64 (c.cost : Int)] 44)).heap.size = _; simp
      have hL2 : LogR ((w.alloc (.cells #[.slice c.a c.len c.cap, .int .i64 (c.cost : Int)] 44)).drew.alloc (.cells #[.slice c.a c.len c.cap, .int .i64 (c.cost : Int)] 44)) m sv cs x L := hL.keep hb2.size fun b e => hb2.block b (hL.lt b e)
      obtain ⟨v', w3, hrun, ho, hg3, hpv⟩ := run_append_st _ sv cs c hL2.list ⟨w.heap.size + 1, 0, none⟩ (fun j u hj => by
        have hq := heap_alloc_new (w.alloc (.cells #[.slice c.a c.len c.cap, .int .i64 (c.cost : Int)] 44)).drew (.cells #[.slice c.a c.len c.cap, .int .i64 (c.cost : Int)] 44)
        rw [hsz] at hq
        rw [add_plain, Nat.zero_add, cell_of_row _ (w.heap.size + 1) j _ 44 (0, 0) hq]
        simpa [stL] using hj) (by omega)
      obtain ⟨g', n', cap', rfl⟩ : ∃ g' n' cap', v' = .slice g' n' cap' := by
        rcases ho.2 with ⟨e, _⟩ | ⟨_, _, _, e, _⟩
        · exact ⟨_, _, _, e⟩
        · exact ⟨_, _, _, e⟩
      have hs3 := hg3.size
      have hs2 : ((w.alloc (.cells #[.slice c.a c.len c.cap, .int .i64 (c.cost : Int)] 44)).drew.alloc (.cells #[.slice c.a c.len c.cap, .int .i64 (c.cost : Int)] 44)).heap.size = w.heap.size + 2 := by rw [alloc_size, hsz]
      have hrow3 : w3.heap[m]? = _ := (hg3.block m (by omega) (fun e => hL.svne e.symm)).trans hL2.row
      have g4 := Lib.grownBy_setCell w3 m 0 (.slice g' n' cap')
      have hs4 := g4.size
      have h4 := Go.heap_setCell_same w3 m 0 _ _ (.slice g' n' cap') hrow3
      -- a block of the log's texts, or the new state's, stays
      have stay : ∀ b, b < w.heap.size → b ≠ m → sv.ownBlock ≠ some b → (w3.setCell ⟨m, 0, none⟩ (.slice g' n' cap')).heap[b]? = w.heap[b]? := fun b hb e1 e2 => (g4.block b (by omega) (fun e => e1 (Option.some.inj e))).trans ((hg3.block b (by omega) (fun e => e2 e.symm)).trans (hb2.block b hb))
      have own' : ∀ b, (Value.slice g' n' cap').ownBlock = some b → b ≠ m ∧ ∀ d, (d ∈ cs ∨ d = x ∨ d = c) → ¬ TBlock d.a d.len b := by
        intro b e
        rcases hpv with e2 | ⟨y, e2, hy⟩
        · rw [e2] at e
          refine ⟨fun e3 => hL.svne (by rw [← e3]; exact e), fun d hd ht => ?_⟩
          rcases hd with hd | rfl | rfl
          · exact (hL.apart d (.inl hd) b ht).2 e
          · exact (hL.apart d (.inr rfl) b ht).2 e
          · exact (hcm b ht).2 e
        · rw [e2] at e
          obtain rfl := Option.some.inj e
          refine ⟨by omega, fun d hd ht => ?_⟩
          have : y < w.heap.size := by
            rcases hd with hd | rfl | rfl
            · exact hL.lt y (.inr (.inr ⟨d, .inl hd, ht⟩))
            · exact hL.lt y (.inr (.inr ⟨d, .inr rfl, ht⟩))
            · exact hc.recs.blk_lt y ht
          omega
      refine ⟨g', n', cap', w3, hrun, by rw [cell_of_row _ _ 0 _ _ (0, 0) hrow3]; rfl, frozen_of_row w3 m 0 _ _ hrow3, ⟨_, ⟨.slice g' n' cap', cs ++ [c], x, ⟨?_, ?_, ?_, ?_, ?_⟩, fun b => Iff.rfl⟩, ?_⟩, ?_⟩
      · rw [h4]; simp; rfl
      · exact own_same ho fun b e => g4.block b (own_lt ho b e) (fun e2 => (own' b e).1 (Option.some.inj e2))
      · rw [statesL_to]
        refine AllSt.snoc (hL.recs.same (by omega) fun d hd b e => ?_) (hc.same (by omega) fun b e => stay b (hc.recs.blk_lt b e) (hcm b e).1 (hcm b e).2)
        have k := hL.apart d (.inl hd) b e
        exact stay b (hL.lt b (.inr (.inr ⟨d, .inl hd, e⟩))) k.1 k.2
      · refine hL.may.same (by omega) fun b e => ?_
        have k := hL.apart x (.inr rfl) b e
        exact stay b (hL.may.recs.blk_lt b e) k.1 k.2
      · rintro d hd b e
        have hd' : d ∈ cs ∨ d = x ∨ d = c := by
          rcases hd with hd | rfl
          · rcases List.mem_append.1 hd with hd | hd
            · exact .inl hd
            · exact .inr (.inr (by simpa using hd))
          · exact .inr (.inl rfl)
        refine ⟨?_, fun e2 => (own' b e2).2 d hd' e⟩
        rcases hd' with hd | rfl | rfl
        · exact (hL.apart d (.inl hd) b e).1
        · exact (hL.apart d (.inr rfl) b e).1
        · exact (hcm b e).1
      · rintro b (rfl | e | ⟨d, hd, e⟩)
        · exact .inl ((hM b).2 (.inl rfl))
        · rcases hpv with e2 | ⟨y, e2, hy⟩
          · exact .inl ((hM b).2 (.inr (.inl (by rw [← e2]; exact e))))
          · rw [e2] at e
            obtain rfl := Option.some.inj e
            exact .inr (.inr (by omega))
        · rcases hd with hd | rfl
          · rcases List.mem_append.1 hd with hd | hd
            · exact .inl ((hM b).2 (.inr (.inr ⟨d, .inl hd, e⟩)))
            · obtain rfl : d = c := by simpa using hd
              exact .inr (.inl e)
          · exact .inl ((hM b).2 (.inr (.inr ⟨d, .inr rfl, e⟩)))
      · exact ⟨g4.os.trans (hg3.os.trans hb2.os), g4.tape.trans (hg3.tape.trans hb2.tape), g4.output.trans (hg3.output.trans hb2.output), by omega, fun b hb hN => stay b hb (fun e => hN ((hM b).2 (.inl e))) (fun e => hN ((hM b).2 (.inr (.inl e))))⟩
    obtain ⟨g', n', cap', w3, hrun, k1, k2, hfin⟩ := NX.out
    have HRUN := hidd hrun
    have HFIN := hidd hfin
    obtain ⟨sa, sn, sc, rfl⟩ : ∃ g' n' cap', sv = .slice g' n' cap' := by
      rcases hL.list.2 with ⟨e, _⟩ | ⟨_, _, _, e, _⟩
      · exact ⟨_, _, _, e⟩
      · exact ⟨_, _, _, e⟩
    have D0 := hidd d0
    have hmB : m < (w.alloc (.cells #[.slice c.a c.len c.cap, .int .i64 (c.cost : Int)] 44)).heap.size := by rw [alloc_size]; omega
    clear d0 NX hrun hfin SAME hL hM hcm hap hb1 hrow hL1 d1 d2 d3 hc hlen
    go_enter Tryd.func36, Tryd.ntmps36
    go_wp2
    refine wp_region_held_drew (S := (fun _ => True)) (by kernel_rfl) trivial (fun hHeld => ?_)
    refine wpAnyH_take (i := 0) (oi := { dst := some 9, op := Op.move (Operand.tmp 0), type := 26, pos := "ref.go:80", after := #[], guard := none }) (v := .pointer (some ⟨m, 0, none⟩)) rfl (by kernel_rfl) (by kernel_rfl) (by kernel_rfl) (fun _ _ _ h => h) (Or.inl ⟨by rfl, by intro W hSw; go_simp⟩) hHeld ?_
    try simp only [Act.put, pS1, pS2, pS3]
    refine wpAnyH_take (i := 1) (oi := { dst := some 10, op := Op.move (Operand.tmp 0), type := 26, pos := "ref.go:80", after := #[], guard := none }) (v := .pointer (some ⟨m, 0, none⟩)) rfl (by kernel_rfl) (by kernel_rfl) (by kernel_rfl) (fun _ _ _ h => h) (Or.inl ⟨by rfl, by intro W hSw; go_simp⟩) hHeld ?_
    try simp only [Act.put, pS1, pS2, pS3]
    refine wpAnyH_take (i := 2) (oi := { dst := some 11, op := Op.nilCheck (Operand.tmp 10), type := 0, pos := "ref.go:80", after := #[zD 1], guard := none }) (v := .pointer (some ⟨m, 0, none⟩)) rfl (by kernel_rfl) (by kernel_rfl) (by kernel_rfl) (fun _ _ _ h => h) (Or.inl ⟨by rfl, by intro W hSw; go_simp⟩) hHeld ?_
    try simp only [Act.put, pS1, pS2, pS3]
    refine wpAnyH_take (i := 3) (oi := { dst := some 12, op := Op.fieldAddr 62 (Operand.tmp 11) 0, type := 0, pos := "ref.go:80", after := #[zD 2], guard := none }) (v := .pointer (some ⟨m, 0, none⟩)) rfl (by kernel_rfl) (by kernel_rfl) (by kernel_rfl) (fun _ _ _ h => h) (Or.inl ⟨by rfl, by intro W hSw; go_simp⟩) hHeld ?_
    try simp only [Act.put, pS1, pS2, pS3]
    refine wpAnyH_ready (rs := [4, 5]) (by kernel_rfl) (by simp) ?_
    refine (AllReadyH.cons (o := { dst := some 13, op := Op.load 60 (Operand.tmp 12), type := 60, pos := "ref.go:80", after := #[zD 3], guard := none }) rfl (fun K hK => ?_) (AllReadyH.cons (o := { dst := some 14, op := Op.load 44 (Operand.tmp 4), type := 44, pos := "ref.go:80", after := #[], guard := none }) rfl (fun K hK => ?_) AllReadyH.nil))
    · have h1 := D0.out
      go_simp
      clear h1
      refine hK.out _ _ trivial (fun hHeld => ?_)
      clear hK K
      try simp only [Act.put, pS1, pS2, pS3]
      refine wpAnyH_ready (rs := [5]) (by kernel_rfl) (by simp) ?_
      refine (AllReadyH.cons (o := { dst := some 14, op := Op.load 44 (Operand.tmp 4), type := 44, pos := "ref.go:80", after := #[], guard := none }) rfl (fun K hK => ?_) AllReadyH.nil)
      have h1 := b0
      have h2 := b1
      go_simp
      clear h1 h2
      refine hK.out _ _ trivial (fun hHeld => ?_)
      clear hK K
      try simp only [Act.put, pS1, pS2, pS3]
      refine wpAnyH_ready (rs := [6]) (by kernel_rfl) (by simp) ?_
      refine (AllReadyH.cons (o := { dst := some 15, op := Op.buildSlice 60 1 #[(0, Operand.tmp 14)], type := 60, pos := "ref.go:80", after := #[zD 5], guard := none }) rfl (fun K hK => ?_) AllReadyH.nil)
      go_simp
      replace D0 := hidd ((((Below.refl _ _).alloc (Nat.le_refl _) (.cells #[.slice c.a c.len c.cap, .int .i64 (c.cost : Int)] 44)).cell (p := ⟨m, 0, none⟩) hmB).trans D0.out)
      refine hK.out _ _ trivial (fun hHeld => ?_)
      clear hK K
      try simp only [Act.put, pS1, pS2, pS3]
      refine wpAnyH_ready (rs := [7]) (by kernel_rfl) (by simp) ?_
      refine (AllReadyH.cons (o := { dst := some 16, op := Op.call { callee := Callee.builtin Builtin.append, args := #[Operand.tmp 13, Operand.tmp 15], argTypes := #[60, 60] }, type := 60, pos := "ref.go:80", after := #[zD 4, zD 6], guard := none }) rfl (fun K hK => ?_) AllReadyH.nil)
      refine step_append_run rfl (.tmp 13) (.tmp 15) 60 60 rfl _ _ _ w3 rfl rfl HRUN.out ?_
      refine hK.out _ _ trivial (fun hHeld => ?_)
      clear hK K
      try simp only [Act.put, pS1, pS2, pS3]
      refine wpAnyH_take (i := 8) (oi := { dst := some 17, op := Op.nilCheck (Operand.tmp 9), type := 0, pos := "ref.go:80", after := #[zD 0, zP 0, zP 1, zP 2, zP 3, zP 4, zP 5, zP 6, zP 7], guard := none }) (v := .pointer (some ⟨m, 0, none⟩)) rfl (by kernel_rfl) (by kernel_rfl) (by kernel_rfl) (fun _ _ _ h => h) (Or.inl ⟨by rfl, by intro W hSw; go_simp⟩) hHeld ?_
      try simp only [Act.put, pS1, pS2, pS3]
      refine wpAnyH_take (i := 9) (oi := { dst := some 18, op := Op.fieldAddr 62 (Operand.tmp 17) 0, type := 0, pos := "ref.go:80", after := #[zD 8, zP 0, zP 1, zP 2, zP 3, zP 4, zP 5, zP 6, zP 7], guard := none }) (v := .pointer (some ⟨m, 0, none⟩)) rfl (by kernel_rfl) (by kernel_rfl) (by kernel_rfl) (fun _ _ _ h => h) (Or.inl ⟨by rfl, by intro W hSw; go_simp⟩) hHeld ?_
      try simp only [Act.put, pS1, pS2, pS3]
      refine wpAnyH_ready (rs := [10]) (by kernel_rfl) (by simp) ?_
      refine (AllReadyH.cons (o := { dst := none, op := Op.store 60 (Operand.tmp 18) (Operand.tmp 16), type := 0, pos := "ref.go:80", after := #[zD 9, zD 7, zC 7, zP 0, zP 1, zP 2, zP 3, zP 4, zP 5, zP 6, zP 7], guard := none }) rfl (fun K hK => ?_) AllReadyH.nil)
      have h1 := k1
      have h2 := k2
      go_simp
      clear h1 h2
      refine hK.out _ _ trivial (fun hHeld => ?_)
      clear hK K
      try simp only [Act.put, pS1, pS2, pS3]
      refine wpAnyH_done (by kernel_rfl) ?_ _
      clear hHeld
      go_wp2
      refine bodyPost_end (results_none rfl _ _ _) rfl ?_
      exact ⟨⟨_, rfl⟩, HFIN.out⟩
    · have h1 := b0
      have h2 := b1
      go_simp
      clear h1 h2
      refine hK.out _ _ trivial (fun hHeld => ?_)
      clear hK K
      try simp only [Act.put, pS1, pS2, pS3]
      refine wpAnyH_ready (rs := [4, 6]) (by kernel_rfl) (by simp) ?_
      refine (AllReadyH.cons (o := { dst := some 13, op := Op.load 60 (Operand.tmp 12), type := 60, pos := "ref.go:80", after := #[zD 3], guard := none }) rfl (fun K hK => ?_) (AllReadyH.cons (o := { dst := some 15, op := Op.buildSlice 60 1 #[(0, Operand.tmp 14)], type := 60, pos := "ref.go:80", after := #[zD 5], guard := none }) rfl (fun K hK => ?_) AllReadyH.nil))
      · have h1 := D0.out
        go_simp
        clear h1
        refine hK.out _ _ trivial (fun hHeld => ?_)
        clear hK K
        try simp only [Act.put, pS1, pS2, pS3]
        refine wpAnyH_ready (rs := [6]) (by kernel_rfl) (by simp) ?_
        refine (AllReadyH.cons (o := { dst := some 15, op := Op.buildSlice 60 1 #[(0, Operand.tmp 14)], type := 60, pos := "ref.go:80", after := #[zD 5], guard := none }) rfl (fun K hK => ?_) AllReadyH.nil)
        go_simp
        replace D0 := hidd ((((Below.refl _ _).alloc (Nat.le_refl _) (.cells #[.slice c.a c.len c.cap, .int .i64 (c.cost : Int)] 44)).cell (p := ⟨m, 0, none⟩) hmB).trans D0.out)
        refine hK.out _ _ trivial (fun hHeld => ?_)
        clear hK K
        try simp only [Act.put, pS1, pS2, pS3]
        refine wpAnyH_ready (rs := [7]) (by kernel_rfl) (by simp) ?_
        refine (AllReadyH.cons (o := { dst := some 16, op := Op.call { callee := Callee.builtin Builtin.append, args := #[Operand.tmp 13, Operand.tmp 15], argTypes := #[60, 60] }, type := 60, pos := "ref.go:80", after := #[zD 4, zD 6], guard := none }) rfl (fun K hK => ?_) AllReadyH.nil)
        refine step_append_run rfl (.tmp 13) (.tmp 15) 60 60 rfl _ _ _ w3 rfl rfl HRUN.out ?_
        refine hK.out _ _ trivial (fun hHeld => ?_)
        clear hK K
        try simp only [Act.put, pS1, pS2, pS3]
        refine wpAnyH_take (i := 8) (oi := { dst := some 17, op := Op.nilCheck (Operand.tmp 9), type := 0, pos := "ref.go:80", after := #[zD 0, zP 0, zP 1, zP 2, zP 3, zP 4, zP 5, zP 6, zP 7], guard := none }) (v := .pointer (some ⟨m, 0, none⟩)) rfl (by kernel_rfl) (by kernel_rfl) (by kernel_rfl) (fun _ _ _ h => h) (Or.inl ⟨by rfl, by intro W hSw; go_simp⟩) hHeld ?_
        try simp only [Act.put, pS1, pS2, pS3]
        refine wpAnyH_take (i := 9) (oi := { dst := some 18, op := Op.fieldAddr 62 (Operand.tmp 17) 0, type := 0, pos := "ref.go:80", after := #[zD 8, zP 0, zP 1, zP 2, zP 3, zP 4, zP 5, zP 6, zP 7], guard := none }) (v := .pointer (some ⟨m, 0, none⟩)) rfl (by kernel_rfl) (by kernel_rfl) (by kernel_rfl) (fun _ _ _ h => h) (Or.inl ⟨by rfl, by intro W hSw; go_simp⟩) hHeld ?_
        try simp only [Act.put, pS1, pS2, pS3]
        refine wpAnyH_ready (rs := [10]) (by kernel_rfl) (by simp) ?_
        refine (AllReadyH.cons (o := { dst := none, op := Op.store 60 (Operand.tmp 18) (Operand.tmp 16), type := 0, pos := "ref.go:80", after := #[zD 9, zD 7, zC 7, zP 0, zP 1, zP 2, zP 3, zP 4, zP 5, zP 6, zP 7], guard := none }) rfl (fun K hK => ?_) AllReadyH.nil)
        have h1 := k1
        have h2 := k2
        go_simp
        clear h1 h2
        refine hK.out _ _ trivial (fun hHeld => ?_)
        clear hK K
        try simp only [Act.put, pS1, pS2, pS3]
        refine wpAnyH_done (by kernel_rfl) ?_ _
        clear hHeld
        go_wp2
        refine bodyPost_end (results_none rfl _ _ _) rfl ?_
        exact ⟨⟨_, rfl⟩, HFIN.out⟩
      · go_simp
        replace D0 := hidd ((((Below.refl _ _).alloc (Nat.le_refl _) (.cells #[.slice c.a c.len c.cap, .int .i64 (c.cost : Int)] 44)).cell (p := ⟨m, 0, none⟩) hmB).trans D0.out)
        refine hK.out _ _ trivial (fun hHeld => ?_)
        clear hK K
        try simp only [Act.put, pS1, pS2, pS3]
        refine wpAnyH_ready (rs := [4]) (by kernel_rfl) (by simp) ?_
        refine (AllReadyH.cons (o := { dst := some 13, op := Op.load 60 (Operand.tmp 12), type := 60, pos := "ref.go:80", after := #[zD 3], guard := none }) rfl (fun K hK => ?_) AllReadyH.nil)
        have h1 := D0.out
        go_simp
        clear h1
        refine hK.out _ _ trivial (fun hHeld => ?_)
        clear hK K
        try simp only [Act.put, pS1, pS2, pS3]
        refine wpAnyH_ready (rs := [7]) (by kernel_rfl) (by simp) ?_
        refine (AllReadyH.cons (o := { dst := some 16, op := Op.call { callee := Callee.builtin Builtin.append, args := #[Operand.tmp 13, Operand.tmp 15], argTypes := #[60, 60] }, type := 60, pos := "ref.go:80", after := #[zD 4, zD 6], guard := none }) rfl (fun K hK => ?_) AllReadyH.nil)
        refine step_append_run rfl (.tmp 13) (.tmp 15) 60 60 rfl _ _ _ w3 rfl rfl HRUN.out ?_
        refine hK.out _ _ trivial (fun hHeld => ?_)
        clear hK K
        try simp only [Act.put, pS1, pS2, pS3]
        refine wpAnyH_take (i := 8) (oi := { dst := some 17, op := Op.nilCheck (Operand.tmp 9), type := 0, pos := "ref.go:80", after := #[zD 0, zP 0, zP 1, zP 2, zP 3, zP 4, zP 5, zP 6, zP 7], guard := none }) (v := .pointer (some ⟨m, 0, none⟩)) rfl (by kernel_rfl) (by kernel_rfl) (by kernel_rfl) (fun _ _ _ h => h) (Or.inl ⟨by rfl, by intro W hSw; go_simp⟩) hHeld ?_
        try simp only [Act.put, pS1, pS2, pS3]
        refine wpAnyH_take (i := 9) (oi := { dst := some 18, op := Op.fieldAddr 62 (Operand.tmp 17) 0, type := 0, pos := "ref.go:80", after := #[zD 8, zP 0, zP 1, zP 2, zP 3, zP 4, zP 5, zP 6, zP 7], guard := none }) (v := .pointer (some ⟨m, 0, none⟩)) rfl (by kernel_rfl) (by kernel_rfl) (by kernel_rfl) (fun _ _ _ h => h) (Or.inl ⟨by rfl, by intro W hSw; go_simp⟩) hHeld ?_
        try simp only [Act.put, pS1, pS2, pS3]
        refine wpAnyH_ready (rs := [10]) (by kernel_rfl) (by simp) ?_
        refine (AllReadyH.cons (o := { dst := none, op := Op.store 60 (Operand.tmp 18) (Operand.tmp 16), type := 0, pos := "ref.go:80", after := #[zD 9, zD 7, zC 7, zP 0, zP 1, zP 2, zP 3, zP 4, zP 5, zP 6, zP 7], guard := none }) rfl (fun K hK => ?_) AllReadyH.nil)
        have h1 := k1
        have h2 := k2
        go_simp
        clear h1 h2
        refine hK.out _ _ trivial (fun hHeld => ?_)
        clear hK K
        try simp only [Act.put, pS1, pS2, pS3]
        refine wpAnyH_done (by kernel_rfl) ?_ _
        clear hHeld
        go_wp2
        refine bodyPost_end (results_none rfl _ _ _) rfl ?_
        exact ⟨⟨_, rfl⟩, HFIN.out⟩
  · have hq0 : (n == 0) = false := by simpa using hn0
    by_cases hn8 : n = 80
    · subst hn8
      cases hmb : L.maybe
      · have f1 := hL.fz 1
        have f2 := hL.fz 2
        have f3 := hL.fz 3
        obtain ⟨y0, y1, y2, y3⟩ := hL.c
        have s3 := Go.heap_setCell_same w m 3 _ _ (.bool true) hL.row
        have s1 := Go.heap_setCell_same _ m 1 _ _ (.slice c.a c.len c.cap) s3
        have s2 := Go.heap_setCell_same _ m 2 _ _ (.int .i64 (c.cost : Int)) s1
        have HG := hidd (gr_trans (gr_trans (Lib.grownBy_setCell w m 3 (.bool true)) (Lib.grownBy_setCell _ m 1 (.slice c.a c.len c.cap))) (Lib.grownBy_setCell _ m 2 (.int .i64 (c.cost : Int))))
        have hT : toL L s 80 = { L with may := s, maybe := true } := by unfold toL; rw [if_neg (by decide), if_pos rfl, if_neg (by rw [hmb]; decide)]
        have HF : Hid (WentL w m (toL L s 80) M (TBlock c.a c.len) ((((w.setCell ⟨m, 3, none⟩ (.bool true)).setCell ⟨m, 1, none⟩ (.slice c.a c.len c.cap)).setCell ⟨m, 2, none⟩ (.int .i64 (c.cost : Int))).alloc (.cells #[.slice c.a c.len c.cap, .int .i64 (c.cost : Int)] 44))) := by
          have hR : LogR ((((w.setCell ⟨m, 3, none⟩ (.bool true)).setCell ⟨m, 1, none⟩ (.slice c.a c.len c.cap)).setCell ⟨m, 2, none⟩ (.int .i64 (c.cost : Int)))) m sv cs c (toL L s 80) := hL.set HG.out (by rw [s2, hT]; simp) (by rw [hT]; rfl) (by rw [hT]; exact hc) hcm
          have hba : ∀ V : World, Below V.heap.size V (V.alloc (.cells #[.slice c.a c.len c.cap, .int .i64 (c.cost : Int)] 44)) := fun V => (Below.refl _ _).alloc (Nat.le_refl _) _
          refine ⟨⟨memL m sv cs c, ⟨sv, cs, c, hR.keep (hba _).size fun b e => (hba _).block b (hR.lt b e), fun b => Iff.rfl⟩, ?_⟩, ?_⟩
          · rintro b (rfl | e | ⟨d, hd | rfl, e⟩)
            · exact .inl ((hM b).2 (.inl rfl))
            · exact .inl ((hM b).2 (.inr (.inl e)))
            · exact .inl ((hM b).2 (.inr (.inr ⟨d, .inl hd, e⟩)))
            · exact .inr (.inl e)
          · exact (away_grown (S := M) HG.out ((hM m).2 (.inl rfl))).trans (Away.of_below (S := M) (hba _)) fun y hy => .inl hy
        rw [hmb] at y3
        clear d0 d1 d2
        rw [hmb] at d3
        obtain ⟨xc, Hxc⟩ : ∃ n : Int, Hid (n = (x.cost : Int)) := ⟨_, hidd rfl⟩
        rw [← Hxc.out] at y2
        clear SAME hL hM hcm hap hb1 hrow hL1 hc hlen s1 s2 s3 HG hT hmb
        go_enter Tryd.func36, Tryd.ntmps36
        go_wp2
        refine bodyPost_end (results_none rfl _ _ _) rfl ?_
        exact ⟨⟨_, rfl⟩, HF.out⟩
      · have HF := hidd (SAME.out (by unfold toL; rw [if_neg (by decide), if_pos rfl, if_pos hmb]))
        rw [hmb] at d3
        clear SAME hL hM hcm hap hb1 hrow hL1 d0 d1 d2 hc hlen hmb
        go_enter Tryd.func36, Tryd.ntmps36
        go_wp2
        refine bodyPost_end (results_none rfl _ _ _) rfl ?_
        exact ⟨⟨_, rfl⟩, HF.out⟩
    · have hq8 : (n == 80) = false := by simpa using hn8
      have HF := hidd (SAME.out (by unfold toL; rw [if_neg hn0, if_neg hn8]))
      clear SAME hL hM hcm hap hb1 hrow hL1 d0 d1 d2 d3 hc hlen hn0 hn8
      go_enter Tryd.func36, Tryd.ntmps36
      go_wp2
      refine bodyPost_end (results_none rfl _ _ _) rfl ?_
      exact ⟨⟨_, rfl⟩, HF.out⟩
/-- The states are one alone, laid anew; nothing may be beside. -/
theorem LogR.one {w W1 : World} {m : Nat} {sv : Value} {cs : List SvT} {x : SvT} {L L' : LgT} {M : Nat → Prop} (h : LogR w m sv cs x L) (hM : ∀ b, M b ↔ memL m sv cs x b) (hw : Below w.heap.size w W1) (c : SvT) (hc : c ∈ cs ∨ c = x) (hst : StOf w c L'.now) (h1 : L'.olds = []) (h2 : L'.may = L.may) (h3 : L'.maybe = false) :
    LogAt (((W1.setCell ⟨m, 0, none⟩ (.slice (some ⟨W1.heap.size, 0, none⟩) 1 1)).setCell ⟨m, 3, none⟩ (.bool false)).alloc (.cells #[.slice c.a c.len c.cap, .int .i64 (c.cost : Int)] 44)) m L' (memL m (.slice (some ⟨W1.heap.size, 0, none⟩) 1 1) [c] x) ∧ (∀ b, memL m (.slice (some ⟨W1.heap.size, 0, none⟩) 1 1) [c] x b → M b ∨ w.heap.size ≤ b) ∧ Away M w (((W1.setCell ⟨m, 0, none⟩ (.slice (some ⟨W1.heap.size, 0, none⟩) 1 1)).setCell ⟨m, 3, none⟩ (.bool false)).alloc (.cells #[.slice c.a c.len c.cap, .int .i64 (c.cost : Int)] 44)) := by
  have hs := hw.size
  have hm := heap_lt h.row
  have hR : LogR W1 m sv cs x L := h.keep hs fun b e => hw.block b (h.lt b e)
  have s0 := Go.heap_setCell_same W1 m 0 _ _ (.slice (some ⟨W1.heap.size, 0, none⟩) 1 1) hR.row
  have s3 := Go.heap_setCell_same _ m 3 _ _ (.bool false) s0
  have hg := gr_trans (Lib.grownBy_setCell W1 m 0 (.slice (some ⟨W1.heap.size, 0, none⟩) 1 1)) (Lib.grownBy_setCell _ m 3 (.bool false))
  have hsz : ((W1.setCell ⟨m, 0, none⟩ (.slice (some ⟨W1.heap.size, 0, none⟩) 1 1)).setCell ⟨m, 3, none⟩ (.bool false)).heap.size = W1.heap.size := by simp
  have hba : Below W1.heap.size ((W1.setCell ⟨m, 0, none⟩ (.slice (some ⟨W1.heap.size, 0, none⟩) 1 1)).setCell ⟨m, 3, none⟩ (.bool false)) (((W1.setCell ⟨m, 0, none⟩ (.slice (some ⟨W1.heap.size, 0, none⟩) 1 1)).setCell ⟨m, 3, none⟩ (.bool false)).alloc (.cells #[.slice c.a c.len c.cap, .int .i64 (c.cost : Int)] 44)) := (Below.refl _ _).alloc (Nat.le_of_eq hsz.symm) _
  have hnew := heap_alloc_new ((W1.setCell ⟨m, 0, none⟩ (.slice (some ⟨W1.heap.size, 0, none⟩) 1 1)).setCell ⟨m, 3, none⟩ (.bool false)) (.cells #[.slice c.a c.len c.cap, .int .i64 (c.cost : Int)] 44)
  rw [hsz] at hnew
  have stay : ∀ b, b < w.heap.size → b ≠ m → (((W1.setCell ⟨m, 0, none⟩ (.slice (some ⟨W1.heap.size, 0, none⟩) 1 1)).setCell ⟨m, 3, none⟩ (.bool false)).alloc (.cells #[.slice c.a c.len c.cap, .int .i64 (c.cost : Int)] 44)).heap[b]? = w.heap[b]? := fun b hb e => (hba.block b (by omega)).trans ((hg.block b (by omega) (fun e2 => e (Option.some.inj e2))).trans (hw.block b hb))
  have hsy : (((W1.setCell ⟨m, 0, none⟩ (.slice (some ⟨W1.heap.size, 0, none⟩) 1 1)).setCell ⟨m, 3, none⟩ (.bool false)).alloc (.cells #[.slice c.a c.len c.cap, .int .i64 (c.cost : Int)] 44)).heap.size = W1.heap.size + 1 := by rw [alloc_size, hsz]
  have hmx : ∀ b, TBlock x.a x.len b → b ≠ m ∧ b < w.heap.size := fun b e => ⟨(h.apart x (.inr rfl) b e).1, h.lt b (.inr (.inr ⟨x, .inr rfl, e⟩))⟩
  have hmc : ∀ b, TBlock c.a c.len b → b ≠ m ∧ b < w.heap.size := fun b e => ⟨(h.apart c hc b e).1, h.lt b (.inr (.inr ⟨c, hc, e⟩))⟩
  refine ⟨⟨_, [c], x, ⟨?_, ?_, ?_, ?_, ?_⟩, fun b => Iff.rfl⟩, ?_, ?_⟩
  · rw [hba.block m (by omega), s3, h3]
    simp
  · exact ⟨rfl, .inr ⟨W1.heap.size, 1, #[.slice c.a c.len c.cap, .int .i64 (c.cost : Int)], rfl, Nat.zero_le _, hnew, Nat.le_refl 1, by unfold maxLen; decide, rfl, rfl⟩⟩
  · have e : statesL L' = [L'.now] := by unfold statesL; rw [h1]; rfl
    rw [e]
    exact AllSt.one (hst.same (by omega) fun b e => stay b (hmc b e).2 (hmc b e).1)
  · rw [h2]
    exact h.may.same (by omega) fun b e => stay b (hmx b e).2 (hmx b e).1
  · rintro d hd b e
    have k : b ≠ m ∧ b < w.heap.size := by
      rcases hd with hd | rfl
      · obtain rfl : d = c := by simpa using hd
        exact hmc b e
      · exact hmx b e
    refine ⟨k.1, fun e2 => ?_⟩
    have : W1.heap.size = b := Option.some.inj e2
    omega
  · rintro b (rfl | e | ⟨d, hd | rfl, e⟩)
    · exact .inl ((hM b).2 (.inl rfl))
    · have : W1.heap.size = b := Option.some.inj e
      right; omega
    · obtain rfl : d = c := by simpa using hd
      exact .inl ((hM b).2 (.inr (.inr ⟨d, hc, e⟩)))
    · exact .inl ((hM b).2 (.inr (.inr ⟨d, .inr rfl, e⟩)))
  · exact ⟨hba.os.trans (hg.os.trans hw.os), hba.tape.trans (hg.tape.trans hw.tape), hba.output.trans (hg.output.trans hw.output), by omega, fun b hb hN => stay b hb (fun e => hN ((hM b).2 (.inl e)))⟩
set_option maxHeartbeats 4000000 in
theorem refSynced (w : World) (m : Nat) (L : LgT) (M : Nat → Prop) (h : LogAt w m L M) (hn : (statesL L).length ≤ 1000000) :
    Calls Tryd.prog 18 #[ptr m] w fun e w' => (∃ v, e = .returned v) ∧ WentL w m (syncedL L) M (fun _ => False) w' := by
  obtain ⟨sv, cs, x, hL, hM⟩ := h
  have hm := heap_lt hL.row
  have hlen := hL.recs.1
  have NOW := hidd (refNowL w m sv cs x L hL (by omega))
  have NX : Hid (∀ (W1 : World) (c : SvT), c ∈ cs → StOf w c L.now → Below w.heap.size w W1 → WentL w m (syncedL L) M (fun _ => False) (((W1.setCell ⟨m, 0, none⟩ (.slice (some ⟨W1.heap.size, 0, none⟩) 1 1)).setCell ⟨m, 3, none⟩ (.bool false)).alloc (.cells #[.slice c.a c.len c.cap, .int .i64 (c.cost : Int)] 44)) ∧ W1.cell? ⟨m, 0, none⟩ = some sv ∧ W1.cell? ⟨m, 3, none⟩ = some (.bool L.maybe) ∧ W1.frozen? ⟨m, 0, none⟩ = false ∧ W1.frozen? ⟨m, 3, none⟩ = false ∧ m < W1.heap.size) := fun W1 c hc hst hw => by
    have hR : LogR W1 m sv cs x L := hL.keep hw.size fun b e => hw.block b (hL.lt b e)
    obtain ⟨k1, k2, k3⟩ := hL.one (L' := syncedL L) hM hw c (.inl hc) hst rfl rfl rfl
    refine ⟨⟨⟨_, k1, fun b e => ?_⟩, k3⟩, hR.c.1, hR.c.2.2.2, hR.fz 0, hR.fz 3, heap_lt hR.row⟩
    rcases k2 b e with e | e
    · exact .inl e
    · exact .inr (.inr e)
  obtain ⟨sa, sn, sc, rfl⟩ : ∃ g' n' cap', sv = .slice g' n' cap' := by
    rcases hL.list.2 with ⟨e, _⟩ | ⟨_, _, _, e, _⟩
    · exact ⟨_, _, _, e⟩
    · exact ⟨_, _, _, e⟩
  obtain ⟨mb, Hmb⟩ : ∃ b, Hid (b = L.maybe) := ⟨_, hidd rfl⟩
  rw [← Hmb.out] at NX
  unfold ptr
  unfold ptr at NOW
  clear hL hM hlen
  go_enter Tryd.func18, Tryd.ntmps18
  go_wp2_with fail
  refine NOW.out.mono ?_
  rintro e W1 ⟨⟨c, rfl, hc, hst⟩, hbw⟩
  obtain ⟨hf, k0, k3, f0, f3, hmW⟩ := NX.out W1 c hc hst hbw
  have HF := hidd hf
  unfold SvT.v
  clear hf NX NOW hc hst hbw
  go_wp2
  refine bodyPost_end (results_none rfl _ _ _) rfl ?_
  exact ⟨⟨_, rfl⟩, HF.out⟩
end Go.Proofs.YtdnnhmihigdnkaaDoor

/- The document's Opens. -/
namespace Go.Proofs.YtdnnhmihigdnkaaDoor
open Go.RowKit Nums
set_option linter.unusedVariables false
set_option linter.unusedSimpArgs false
set_option maxRecDepth 100000
theorem row0 {V : World} {gx : Nat} {p q : Value} {t : TypeId} (h : V.heap[gx]? = some (.cells #[p, q] t (0, 0))) : V.cell? ⟨gx, 0, none⟩ = some p := by rw [cell_of_row V gx 0 _ _ (0, 0) h]; rfl
theorem row1 {V : World} {gx : Nat} {p q : Value} {t : TypeId} (h : V.heap[gx]? = some (.cells #[p, q] t (0, 0))) : V.cell? ⟨gx, 1, none⟩ = some q := by rw [cell_of_row V gx 1 _ _ (0, 0) h]; rfl
/-- What is picked ahead of what may be beside. -/
def pick1 (L : LgT) (r : List ByteArray) (c : Bool) : StT × Bool :=
  if r = L.now.recs then (L.now, true) else if c = true then (match findS r (statesL L) with | some s => (s, true) | none => (L.now, false)) else (L.now, false)
theorem pickS_eq (L : LgT) (r : List ByteArray) (c : Bool) : pickS L r c = if (pick1 L r c).2 = false ∧ c = true ∧ L.maybe = true then (L.may, decide (r = L.may.recs)) else pick1 L r c := by
  unfold pickS pick1
  by_cases e : r = L.now.recs
  · simp [e]
  · simp only [if_neg e]
    cases c
    · simp
    · cases hf : findS r (statesL L) with
      | some t => simp
      | none => cases hm : L.maybe <;> simp
theorem findS_take {r : List ByteArray} : ∀ {l : List StT} {k : Nat} (h : k < l.length), (∀ s ∈ l.take k, s.recs ≠ r) → l[k].recs = r → findS r l = some l[k]
  | [], k, h, _, _ => by simp at h
  | s :: t, 0, h, _, e => by
    have e' : s.recs = r := e
    unfold findS
    rw [if_pos e']
    rfl
  | s :: t, k + 1, h, hn, e => by
    have h1 : s.recs ≠ r := hn s (by simp)
    unfold findS
    rw [if_neg h1]
    exact findS_take (l := t) (k := k) (by simpa using h) (fun y hy => hn y (by simp; exact .inr hy)) e
theorem findS_no {r : List ByteArray} : ∀ {l : List StT}, (∀ s ∈ l, s.recs ≠ r) → findS r l = none
  | [], _ => rfl
  | s :: t, h => by
    unfold findS
    rw [if_neg (h s (List.mem_cons_self ..))]
    exact findS_no fun y hy => h y (List.mem_cons_of_mem _ hy)
/-- What a call of Opens leans on. -/
structure OpHyp (w : World) (m g scap n : Nat) (L : LgT) (cs : List SvT) (x : SvT) (M : Nat → Prop) (a : Option Addr) (len cap : Nat) (rs : List ByteArray) (c : Bool) : Prop where
  n1 : 1 ≤ n ∧ n ≤ 1000000
  cells : ∀ V, Below w.heap.size w V → V.cell? ⟨m, 0, none⟩ = some (.slice (some ⟨g, 0, none⟩) n scap) ∧ V.cell? ⟨m, 1, none⟩ = some (.slice x.a x.len x.cap) ∧ V.cell? ⟨m, 2, none⟩ = some (.int .i64 (x.cost : Int)) ∧ V.cell? ⟨m, 3, none⟩ = some (.bool L.maybe)
  slen : (statesL L).length = n
  at_ : ∀ k, k < n → ∃ q, q ∈ cs ∧ (∀ h : k < (statesL L).length, StOf w q (statesL L)[k]) ∧ ∀ V, Below w.heap.size w V → V.cell? ⟨g, k * 2, none⟩ = some (.slice q.a q.len q.cap) ∧ V.cell? ⟨g, k * 2 + 1, none⟩ = some (.int .i64 (q.cost : Int))
  same : ∀ d s, StOf w d s → (s ∈ statesL L ∨ s = L.may) → ∀ V, Below w.heap.size w V → Calls Tryd.prog 27 #[.slice a len cap, .slice d.a d.len d.cap] V fun e w' => e = .returned (.bool (decide (rs = s.recs))) ∧ Below V.heap.size V w'
  cost : ∀ d s, StOf w d s → (s ∈ statesL L ∨ s = L.may) → d.cost = s.cost
  may : StOf w x L.may
  now : Calls Tryd.prog 22 #[.pointer (some ⟨m, 0, none⟩)] w fun e w' => (∃ c, e = .returned c.v ∧ c ∈ cs ∧ StOf w c L.now) ∧ Below w.heap.size w w'
  fin : ∀ W1 d, (d ∈ cs ∨ d = x) → StOf w d (opensX L rs c) → Below w.heap.size w W1 → WentL w m (opensL L rs c) M (fun _ => False) (((W1.setCell ⟨m, 0, none⟩ (.slice (some ⟨W1.heap.size, 0, none⟩) 1 1)).setCell ⟨m, 3, none⟩ (.bool false)).alloc (.cells #[.slice d.a d.len d.cap, .int .i64 (d.cost : Int)] 44)) ∧ W1.cell? ⟨m, 0, none⟩ = some (.slice (some ⟨g, 0, none⟩) n scap) ∧ W1.cell? ⟨m, 3, none⟩ = some (.bool L.maybe) ∧ W1.frozen? ⟨m, 0, none⟩ = false ∧ W1.frozen? ⟨m, 3, none⟩ = false ∧ m < W1.heap.size
theorem opHyp (w : World) (m : Nat) (L : LgT) (M : Nat → Prop) (h : LogAt w m L M) (hn : (statesL L).length ≤ 1000000) (hb : ∀ s, s ∈ statesL L ∨ s = L.may → s.recs.length ≤ 1000000) (a : Option Addr) (len cap : Nat) (rs : List ByteArray) (hR : Texts w a len rs) (hl : len ≤ maxLen) (c : Bool) :
    ∃ g scap n cs x, OpHyp w m g scap n L cs x M a len cap rs c := by
  obtain ⟨sv, cs, x, hL, hM⟩ := h
  have hlen := hL.recs.1
  obtain ⟨g, scap, c0, rfl, hn1, _⟩ := hL.last
  have keep : ∀ V, Below w.heap.size w V → LogR V m (.slice (some ⟨g, 0, none⟩) cs.length scap) cs x L := fun V hV => hL.keep hV.size fun b e => hV.block b (hL.lt b e)
  refine ⟨g, scap, cs.length, cs, x, ⟨hn1, by omega⟩, fun V hV => (keep V hV).c, by omega, fun k hk => ?_, fun d s hd hs V hV => ?_, fun d s hd _ => hd.cost, hL.may, refNowL w m _ cs x L hL (by omega), fun W1 d hd hst hw => ?_⟩
  · refine ⟨cs[k], List.getElem_mem hk, fun h => hL.recs.2 k hk h, fun V hV => ?_⟩
    obtain ⟨g', cap', e, k1, k2⟩ := (keep V hV).at k hk
    cases e
    exact ⟨k1, k2⟩
  · have h1 := hd.recs.1
    have h2 := hb s hs
    exact refSame_any a len cap rs d.a d.len d.cap s.recs V (hR.keep hV) (hd.recs.keep hV) hl (by unfold maxLen; omega)
  · have hR := keep W1 hw
    obtain ⟨k1, k2, k3⟩ := hL.one (L' := opensL L rs c) hM hw d hd hst rfl rfl rfl
    refine ⟨⟨⟨_, k1, fun b e => ?_⟩, k3⟩, hR.c.1, hR.c.2.2.2, hR.fz 0, hR.fz 3, heap_lt hR.row⟩
    rcases k2 b e with e | e
    · exact .inl e
    · exact .inr (.inr e)
set_option maxHeartbeats 4000000 in
theorem opens_calm (w : World) (m g scap n : Nat) (L : LgT) (cs : List SvT) (x : SvT) (M : Nat → Prop) (a : Option Addr) (len cap : Nat) (rs : List ByteArray) (hh : OpHyp w m g scap n L cs x M a len cap rs false) :
    Calls Tryd.prog 14 #[.pointer (some ⟨m, 0, none⟩), .slice a len cap, .bool false] w fun e w' => e = .returned (.bool (opensB L rs false)) ∧ WentL w m (opensL L rs false) M (fun _ => False) w' := by
  have HH := hidd hh
  have hmx : n ≤ 9223372036854775807 := by have := hh.n1; omega
  obtain ⟨mb, Hmb⟩ : ∃ b, Hid (b = L.maybe) := ⟨_, hidd rfl⟩
  have HC : Hid (∀ V, Below w.heap.size w V → V.cell? ⟨m, 0, none⟩ = some (.slice (some ⟨g, 0, none⟩) n scap) ∧ V.cell? ⟨m, 1, none⟩ = some (.slice x.a x.len x.cap) ∧ V.cell? ⟨m, 2, none⟩ = some (.int .i64 (x.cost : Int)) ∧ V.cell? ⟨m, 3, none⟩ = some (.bool mb)) := fun V hV => by rw [Hmb.out]; exact hh.cells V hV
  have NX : Hid (∀ W1 d, (d ∈ cs ∨ d = x) → StOf w d (opensX L rs false) → Below w.heap.size w W1 → WentL w m (opensL L rs false) M (fun _ => False) (((W1.setCell ⟨m, 0, none⟩ (.slice (some ⟨W1.heap.size, 0, none⟩) 1 1)).setCell ⟨m, 3, none⟩ (.bool false)).alloc (.cells #[.slice d.a d.len d.cap, .int .i64 (d.cost : Int)] 44)) ∧ W1.cell? ⟨m, 0, none⟩ = some (.slice (some ⟨g, 0, none⟩) n scap) ∧ W1.cell? ⟨m, 3, none⟩ = some (.bool mb) ∧ W1.frozen? ⟨m, 0, none⟩ = false ∧ W1.frozen? ⟨m, 3, none⟩ = false ∧ m < W1.heap.size) := fun W1 d hd hst hw => by rw [Hmb.out]; exact hh.fin W1 d hd hst hw
  have NOW := hidd hh.now
  obtain ⟨ob, Hob⟩ : ∃ b, Hid (b = opensB L rs false) := ⟨_, hidd rfl⟩
  rw [← Hob.out]
  clear hh
  go_enter Tryd.func14, Tryd.ntmps14
  go_wp2_with fail
  refine NOW.out.mono ?_
  rintro e W1 ⟨⟨d, rfl, hd, hst⟩, hbw⟩
  have HM := hidd (show d ∈ cs ∨ d = x from .inl hd)
  have hmem : L.now ∈ statesL L := (statesL_mem L _).2 (.inr rfl)
  have HB2 : Hid (Below w.heap.size w (W1.alloc (.cells #[.slice d.a d.len d.cap, .int .i64 (d.cost : Int)] 44))) := hbw.alloc hbw.size _
  obtain ⟨gx, hgx⟩ : ∃ gx, gx = W1.heap.size := ⟨_, rfl⟩
  have hx1 := heap_alloc_new W1 (.cells #[.slice d.a d.len d.cap, .int .i64 (d.cost : Int)] 44)
  have y0 : (W1.alloc (.cells #[.slice d.a d.len d.cap, .int .i64 (d.cost : Int)] 44)).cell? ⟨W1.heap.size, 0, none⟩ = some (.slice d.a d.len d.cap) := row0 hx1
  have SM := hidd (HH.out.same d L.now hst (.inl hmem) _ HB2.out)
  have HST : Hid (StOf w d (opensX L rs false)) := by
    have : opensX L rs false = L.now := by
      unfold opensX pickS
      rw [if_neg (by decide)]
      by_cases e : rs = L.now.recs
      · rw [if_pos e]
      · rw [if_neg e, if_neg (by decide)]
    show StOf w d _
    rw [this]; exact hst
  have HFD : Hid (ob = decide (rs = L.now.recs)) := by
    show _ = _
    rw [Hob.out]
    unfold opensB pickS
    by_cases e : rs = L.now.recs
    · rw [if_pos e, decide_eq_true e]
    · rw [if_neg e, if_neg (by decide), decide_eq_false e]
  have HX1 := hidd hx1
  unfold SvT.v
  clear NOW hbw hst hd hmem hx1 hgx
  go_wp2_with fail
  refine SM.out.mono ?_
  rintro e W3 ⟨rfl, hb3⟩
  have HBX := hidd (HB2.out.trans (hb3.mono (HB2.out.size)))
  have HXX : Hid (W3.heap[W1.heap.size]? = some (.cells #[.slice d.a d.len d.cap, .int .i64 (d.cost : Int)] 44 (0, 0))) := (hb3.block _ (heap_lt HX1.out)).trans HX1.out
  obtain ⟨fd, Hfd⟩ : ∃ b, Hid (b = decide (rs = L.now.recs)) := ⟨_, hidd rfl⟩
  rw [← Hfd.out] at HFD
  rw [← Hfd.out]
  obtain ⟨c0, c1, c2, c3⟩ := HC.out W3 HBX.out
  have hd0 : 0 < n := by have := HH.out.n1; omega
  obtain ⟨-, z0, z3, zf0, zf3, hmW⟩ := NX.out W3 d HM.out HST.out HBX.out
  obtain ⟨hfin, -⟩ := NX.out W3.drew d HM.out HST.out HBX.out.drew
  have HF := hidd hfin
  have x0 := row0 HXX.out
  have x1 := row1 HXX.out
  clear hfin hb3 SM HC NX HH y0
  cases fd
  · go_wp2
    go_loopw [8, 9] (fun f i wr => f = .bool false ∧ i = .int .i64 0 ∧ W3 = wr) (fun _ _ _ => 0)
    case atStart => exact ⟨rfl, rfl, rfl⟩
    case round =>
      obtain ⟨rfl, rfl, rfl⟩ := hrel
      go_wp2
      go_loopw [10] (fun i wr => i = .int .i64 0 ∧ W3 = wr) (fun _ _ => 0)
      case atStart => exact ⟨rfl, rfl⟩
      case round =>
        obtain ⟨rfl, rfl⟩ := hrel
        go_wp2
        refine wp_region_held_drew (S := (fun _ => True)) (by kernel_rfl) trivial (fun hHeld => ?_)
        refine wpAnyH_take (i := 0) (oi := { dst := some 105, op := Op.move (Operand.tmp 2), type := 4, pos := "ref.go:112", after := #[], guard := none }) (v := .bool false) rfl (by kernel_rfl) (by kernel_rfl) (by kernel_rfl) (fun _ _ _ h => h) (Or.inl ⟨by rfl, by intro W hSw; go_simp⟩) hHeld ?_
        try simp only [Act.put, pS1, pS2, pS3]
        refine wpAnyH_take (i := 1) (oi := { dst := some 106, op := Op.move (Operand.tmp 105), type := 4, pos := "ref.go:112", after := #[zD 0], guard := none }) (v := .bool false) rfl (by kernel_rfl) (by kernel_rfl) (by kernel_rfl) (fun _ _ _ h => h) (Or.inl ⟨by rfl, by intro W hSw; go_simp⟩) hHeld ?_
        try simp only [Act.put, pS1, pS2, pS3]
        refine wpAnyH_take (i := 2) (oi := { dst := some 107, op := Op.move (Operand.tmp 0), type := 26, pos := "ref.go:112", after := #[zG 1], guard := some (1, true) }) (v := undef) rfl (by kernel_rfl) (by kernel_rfl) (by kernel_rfl) (fun _ _ _ h => h) (Or.inr ⟨by rfl, rfl⟩) hHeld ?_
        try simp only [Act.put, pS1, pS2, pS3]
        refine wpAnyH_take (i := 3) (oi := { dst := some 108, op := Op.nilCheck (Operand.tmp 107), type := 0, pos := "ref.go:112", after := #[zD 2, zG 1], guard := some (1, true) }) (v := undef) rfl (by kernel_rfl) (by kernel_rfl) (by kernel_rfl) (fun _ _ _ h => h) (Or.inr ⟨by rfl, rfl⟩) hHeld ?_
        try simp only [Act.put, pS1, pS2, pS3]
        refine wpAnyH_take (i := 4) (oi := { dst := some 109, op := Op.fieldAddr 62 (Operand.tmp 108) 2, type := 0, pos := "ref.go:112", after := #[zD 3, zG 1], guard := some (1, true) }) (v := undef) rfl (by kernel_rfl) (by kernel_rfl) (by kernel_rfl) (fun _ _ _ h => h) (Or.inr ⟨by rfl, rfl⟩) hHeld ?_
        try simp only [Act.put, pS1, pS2, pS3]
        refine wpAnyH_take (i := 5) (oi := { dst := some 110, op := Op.load 4 (Operand.tmp 109), type := 4, pos := "ref.go:112", after := #[zD 4, zG 1], guard := some (1, true) }) (v := undef) rfl (by kernel_rfl) (by kernel_rfl) (by kernel_rfl) (fun _ _ _ h => h) (Or.inr ⟨by rfl, rfl⟩) hHeld ?_
        try simp only [Act.put, pS1, pS2, pS3]
        refine wpAnyH_take (i := 6) (oi := { dst := some 111, op := Op.pick (Operand.tmp 106) (Operand.tmp 110) (Operand.const (Value.bool false)), type := 4, pos := "ref.go:112", after := #[zD 1, zD 5], guard := none }) (v := .bool false) rfl (by kernel_rfl) (by kernel_rfl) (by kernel_rfl) (fun _ _ _ h => h) (Or.inl ⟨by rfl, by intro W hSw; go_simp⟩) hHeld ?_
        try simp only [Act.put, pS1, pS2, pS3]
        refine wpAnyH_take (i := 7) (oi := { dst := some 112, op := Op.move (Operand.tmp 111), type := 4, pos := "ref.go:112", after := #[zD 6, zC 1], guard := none }) (v := .bool false) rfl (by kernel_rfl) (by kernel_rfl) (by kernel_rfl) (fun _ _ _ h => h) (Or.inl ⟨by rfl, by intro W hSw; go_simp⟩) hHeld ?_
        try simp only [Act.put, pS1, pS2, pS3]
        refine wpAnyH_take (i := 8) (oi := { dst := some 113, op := Op.move (Operand.tmp 1), type := 29, pos := "ref.go:112", after := #[zG 7], guard := some (7, true) }) (v := undef) rfl (by kernel_rfl) (by kernel_rfl) (by kernel_rfl) (fun _ _ _ h => h) (Or.inr ⟨by rfl, rfl⟩) hHeld ?_
        try simp only [Act.put, pS1, pS2, pS3]
        refine wpAnyH_take (i := 9) (oi := { dst := some 114, op := Op.move (Operand.tmp 0), type := 26, pos := "ref.go:112", after := #[zG 7], guard := some (7, true) }) (v := undef) rfl (by kernel_rfl) (by kernel_rfl) (by kernel_rfl) (fun _ _ _ h => h) (Or.inr ⟨by rfl, rfl⟩) hHeld ?_
        try simp only [Act.put, pS1, pS2, pS3]
        refine wpAnyH_take (i := 10) (oi := { dst := some 115, op := Op.nilCheck (Operand.tmp 114), type := 0, pos := "ref.go:112", after := #[zD 9, zG 7], guard := some (7, true) }) (v := undef) rfl (by kernel_rfl) (by kernel_rfl) (by kernel_rfl) (fun _ _ _ h => h) (Or.inr ⟨by rfl, rfl⟩) hHeld ?_
        try simp only [Act.put, pS1, pS2, pS3]
        refine wpAnyH_take (i := 11) (oi := { dst := some 116, op := Op.fieldAddr 62 (Operand.tmp 115) 1, type := 0, pos := "ref.go:112", after := #[zD 10, zG 7], guard := some (7, true) }) (v := undef) rfl (by kernel_rfl) (by kernel_rfl) (by kernel_rfl) (fun _ _ _ h => h) (Or.inr ⟨by rfl, rfl⟩) hHeld ?_
        try simp only [Act.put, pS1, pS2, pS3]
        refine wpAnyH_take (i := 12) (oi := { dst := some 117, op := Op.fieldAddr 44 (Operand.tmp 116) 0, type := 0, pos := "ref.go:112", after := #[zD 11, zG 7], guard := some (7, true) }) (v := undef) rfl (by kernel_rfl) (by kernel_rfl) (by kernel_rfl) (fun _ _ _ h => h) (Or.inr ⟨by rfl, rfl⟩) hHeld ?_
        try simp only [Act.put, pS1, pS2, pS3]
        refine wpAnyH_take (i := 13) (oi := { dst := some 118, op := Op.load 29 (Operand.tmp 117), type := 29, pos := "ref.go:112", after := #[zD 12, zG 7], guard := some (7, true) }) (v := undef) rfl (by kernel_rfl) (by kernel_rfl) (by kernel_rfl) (fun _ _ _ h => h) (Or.inr ⟨by rfl, rfl⟩) hHeld ?_
        try simp only [Act.put, pS1, pS2, pS3]
        refine wpAnyH_take (i := 14) (oi := { dst := some 119, op := Op.call { callee := Callee.value (Operand.func 27), args := #[Operand.tmp 113, Operand.tmp 118], argTypes := #[29, 29] }, type := 4, pos := "ref.go:112", after := #[zD 8, zD 13, zC 7, zG 7], guard := some (7, true) }) (v := undef) rfl (by kernel_rfl) (by kernel_rfl) (by kernel_rfl) (fun _ _ _ h => h) (Or.inr ⟨by rfl, rfl⟩) hHeld ?_
        try simp only [Act.put, pS1, pS2, pS3]
        refine wpAnyH_take (i := 15) (oi := { dst := some 120, op := Op.pick (Operand.tmp 112) (Operand.tmp 119) (Operand.const (Value.bool false)), type := 4, pos := "ref.go:112", after := #[zD 7, zD 14], guard := none }) (v := .bool false) rfl (by kernel_rfl) (by kernel_rfl) (by kernel_rfl) (fun _ _ _ h => h) (Or.inl ⟨by rfl, by intro W hSw; go_simp⟩) hHeld ?_
        try simp only [Act.put, pS1, pS2, pS3]
        refine wpAnyH_take (i := 16) (oi := { dst := some 121, op := Op.move (Operand.tmp 120), type := 4, pos := "ref.go:112", after := #[zD 15, zC 14], guard := none }) (v := .bool false) rfl (by kernel_rfl) (by kernel_rfl) (by kernel_rfl) (fun _ _ _ h => h) (Or.inl ⟨by rfl, by intro W hSw; go_simp⟩) hHeld ?_
        try simp only [Act.put, pS1, pS2, pS3]
        refine wpAnyH_take (i := 17) (oi := { dst := some 122, op := Op.move (Operand.tmp 0), type := 26, pos := "ref.go:112", after := #[zG 16], guard := some (16, true) }) (v := undef) rfl (by kernel_rfl) (by kernel_rfl) (by kernel_rfl) (fun _ _ _ h => h) (Or.inr ⟨by rfl, rfl⟩) hHeld ?_
        try simp only [Act.put, pS1, pS2, pS3]
        refine wpAnyH_take (i := 18) (oi := { dst := some 123, op := Op.nilCheck (Operand.tmp 122), type := 0, pos := "ref.go:112", after := #[zD 17, zG 16], guard := some (16, true) }) (v := undef) rfl (by kernel_rfl) (by kernel_rfl) (by kernel_rfl) (fun _ _ _ h => h) (Or.inr ⟨by rfl, rfl⟩) hHeld ?_
        try simp only [Act.put, pS1, pS2, pS3]
        refine wpAnyH_take (i := 19) (oi := { dst := some 124, op := Op.fieldAddr 62 (Operand.tmp 123) 1, type := 0, pos := "ref.go:112", after := #[zD 18, zG 16], guard := some (16, true) }) (v := undef) rfl (by kernel_rfl) (by kernel_rfl) (by kernel_rfl) (fun _ _ _ h => h) (Or.inr ⟨by rfl, rfl⟩) hHeld ?_
        try simp only [Act.put, pS1, pS2, pS3]
        refine wpAnyH_take (i := 20) (oi := { dst := some 125, op := Op.fieldAddr 44 (Operand.tmp 124) 1, type := 0, pos := "ref.go:112", after := #[zD 19, zG 16], guard := some (16, true) }) (v := undef) rfl (by kernel_rfl) (by kernel_rfl) (by kernel_rfl) (fun _ _ _ h => h) (Or.inr ⟨by rfl, rfl⟩) hHeld ?_
        try simp only [Act.put, pS1, pS2, pS3]
        refine wpAnyH_take (i := 21) (oi := { dst := some 126, op := Op.load 3 (Operand.tmp 125), type := 3, pos := "ref.go:112", after := #[zD 20, zG 16], guard := some (16, true) }) (v := undef) rfl (by kernel_rfl) (by kernel_rfl) (by kernel_rfl) (fun _ _ _ h => h) (Or.inr ⟨by rfl, rfl⟩) hHeld ?_
        try simp only [Act.put, pS1, pS2, pS3]
        refine wpAnyH_take (i := 22) (oi := { dst := some 127, op := Op.fieldAddr 44 (Operand.tmp 7) 1, type := 0, pos := "ref.go:112", after := #[zG 16], guard := some (16, true) }) (v := undef) rfl (by kernel_rfl) (by kernel_rfl) (by kernel_rfl) (fun _ _ _ h => h) (Or.inr ⟨by rfl, rfl⟩) hHeld ?_
        try simp only [Act.put, pS1, pS2, pS3]
        refine wpAnyH_take (i := 23) (oi := { dst := some 128, op := Op.load 3 (Operand.tmp 127), type := 3, pos := "ref.go:112", after := #[zD 22, zG 16], guard := some (16, true) }) (v := undef) rfl (by kernel_rfl) (by kernel_rfl) (by kernel_rfl) (fun _ _ _ h => h) (Or.inr ⟨by rfl, rfl⟩) hHeld ?_
        try simp only [Act.put, pS1, pS2, pS3]
        refine wpAnyH_take (i := 24) (oi := { dst := some 129, op := Op.binOp BinOp.gtr 3 (Operand.tmp 126) (Operand.tmp 128) 3, type := 4, pos := "ref.go:112", after := #[zD 21, zD 23, zG 16], guard := some (16, true) }) (v := undef) rfl (by kernel_rfl) (by kernel_rfl) (by kernel_rfl) (fun _ _ _ h => h) (Or.inr ⟨by rfl, rfl⟩) hHeld ?_
        try simp only [Act.put, pS1, pS2, pS3]
        refine wpAnyH_take (i := 25) (oi := { dst := some 130, op := Op.pick (Operand.tmp 121) (Operand.tmp 129) (Operand.const (Value.bool false)), type := 4, pos := "ref.go:112", after := #[zD 16, zD 24], guard := none }) (v := .bool false) rfl (by kernel_rfl) (by kernel_rfl) (by kernel_rfl) (fun _ _ _ h => h) (Or.inl ⟨by rfl, by intro W hSw; go_simp⟩) hHeld ?_
        try simp only [Act.put, pS1, pS2, pS3]
        refine wpAnyH_done (by kernel_rfl) ?_ _
        clear hHeld
        go_wp2
        go_ret
        exact ⟨by rw [HFD.out]; rfl, HF.out⟩
  · go_wp2
    go_loopw [8, 9] (fun f i wr => f = .bool true ∧ i = .int .i64 0 ∧ W3 = wr) (fun _ _ _ => 0)
    case atStart => exact ⟨rfl, rfl, rfl⟩
    case round =>
      obtain ⟨rfl, rfl, rfl⟩ := hrel
      go_wp2
      go_loopw [10] (fun i wr => i = .int .i64 0 ∧ W3 = wr) (fun _ _ => 0)
      case atStart => exact ⟨rfl, rfl⟩
      case round =>
        obtain ⟨rfl, rfl⟩ := hrel
        go_wp2
        refine wp_region_held_drew (S := (fun _ => True)) (by kernel_rfl) trivial (fun hHeld => ?_)
        refine wpAnyH_take (i := 0) (oi := { dst := some 105, op := Op.move (Operand.tmp 2), type := 4, pos := "ref.go:112", after := #[], guard := none }) (v := .bool false) rfl (by kernel_rfl) (by kernel_rfl) (by kernel_rfl) (fun _ _ _ h => h) (Or.inl ⟨by rfl, by intro W hSw; go_simp⟩) hHeld ?_
        try simp only [Act.put, pS1, pS2, pS3]
        refine wpAnyH_take (i := 1) (oi := { dst := some 106, op := Op.move (Operand.tmp 105), type := 4, pos := "ref.go:112", after := #[zD 0], guard := none }) (v := .bool false) rfl (by kernel_rfl) (by kernel_rfl) (by kernel_rfl) (fun _ _ _ h => h) (Or.inl ⟨by rfl, by intro W hSw; go_simp⟩) hHeld ?_
        try simp only [Act.put, pS1, pS2, pS3]
        refine wpAnyH_take (i := 2) (oi := { dst := some 107, op := Op.move (Operand.tmp 0), type := 26, pos := "ref.go:112", after := #[zG 1], guard := some (1, true) }) (v := undef) rfl (by kernel_rfl) (by kernel_rfl) (by kernel_rfl) (fun _ _ _ h => h) (Or.inr ⟨by rfl, rfl⟩) hHeld ?_
        try simp only [Act.put, pS1, pS2, pS3]
        refine wpAnyH_take (i := 3) (oi := { dst := some 108, op := Op.nilCheck (Operand.tmp 107), type := 0, pos := "ref.go:112", after := #[zD 2, zG 1], guard := some (1, true) }) (v := undef) rfl (by kernel_rfl) (by kernel_rfl) (by kernel_rfl) (fun _ _ _ h => h) (Or.inr ⟨by rfl, rfl⟩) hHeld ?_
        try simp only [Act.put, pS1, pS2, pS3]
        refine wpAnyH_take (i := 4) (oi := { dst := some 109, op := Op.fieldAddr 62 (Operand.tmp 108) 2, type := 0, pos := "ref.go:112", after := #[zD 3, zG 1], guard := some (1, true) }) (v := undef) rfl (by kernel_rfl) (by kernel_rfl) (by kernel_rfl) (fun _ _ _ h => h) (Or.inr ⟨by rfl, rfl⟩) hHeld ?_
        try simp only [Act.put, pS1, pS2, pS3]
        refine wpAnyH_take (i := 5) (oi := { dst := some 110, op := Op.load 4 (Operand.tmp 109), type := 4, pos := "ref.go:112", after := #[zD 4, zG 1], guard := some (1, true) }) (v := undef) rfl (by kernel_rfl) (by kernel_rfl) (by kernel_rfl) (fun _ _ _ h => h) (Or.inr ⟨by rfl, rfl⟩) hHeld ?_
        try simp only [Act.put, pS1, pS2, pS3]
        refine wpAnyH_take (i := 6) (oi := { dst := some 111, op := Op.pick (Operand.tmp 106) (Operand.tmp 110) (Operand.const (Value.bool false)), type := 4, pos := "ref.go:112", after := #[zD 1, zD 5], guard := none }) (v := .bool false) rfl (by kernel_rfl) (by kernel_rfl) (by kernel_rfl) (fun _ _ _ h => h) (Or.inl ⟨by rfl, by intro W hSw; go_simp⟩) hHeld ?_
        try simp only [Act.put, pS1, pS2, pS3]
        refine wpAnyH_take (i := 7) (oi := { dst := some 112, op := Op.move (Operand.tmp 111), type := 4, pos := "ref.go:112", after := #[zD 6, zC 1], guard := none }) (v := .bool false) rfl (by kernel_rfl) (by kernel_rfl) (by kernel_rfl) (fun _ _ _ h => h) (Or.inl ⟨by rfl, by intro W hSw; go_simp⟩) hHeld ?_
        try simp only [Act.put, pS1, pS2, pS3]
        refine wpAnyH_take (i := 8) (oi := { dst := some 113, op := Op.move (Operand.tmp 1), type := 29, pos := "ref.go:112", after := #[zG 7], guard := some (7, true) }) (v := undef) rfl (by kernel_rfl) (by kernel_rfl) (by kernel_rfl) (fun _ _ _ h => h) (Or.inr ⟨by rfl, rfl⟩) hHeld ?_
        try simp only [Act.put, pS1, pS2, pS3]
        refine wpAnyH_take (i := 9) (oi := { dst := some 114, op := Op.move (Operand.tmp 0), type := 26, pos := "ref.go:112", after := #[zG 7], guard := some (7, true) }) (v := undef) rfl (by kernel_rfl) (by kernel_rfl) (by kernel_rfl) (fun _ _ _ h => h) (Or.inr ⟨by rfl, rfl⟩) hHeld ?_
        try simp only [Act.put, pS1, pS2, pS3]
        refine wpAnyH_take (i := 10) (oi := { dst := some 115, op := Op.nilCheck (Operand.tmp 114), type := 0, pos := "ref.go:112", after := #[zD 9, zG 7], guard := some (7, true) }) (v := undef) rfl (by kernel_rfl) (by kernel_rfl) (by kernel_rfl) (fun _ _ _ h => h) (Or.inr ⟨by rfl, rfl⟩) hHeld ?_
        try simp only [Act.put, pS1, pS2, pS3]
        refine wpAnyH_take (i := 11) (oi := { dst := some 116, op := Op.fieldAddr 62 (Operand.tmp 115) 1, type := 0, pos := "ref.go:112", after := #[zD 10, zG 7], guard := some (7, true) }) (v := undef) rfl (by kernel_rfl) (by kernel_rfl) (by kernel_rfl) (fun _ _ _ h => h) (Or.inr ⟨by rfl, rfl⟩) hHeld ?_
        try simp only [Act.put, pS1, pS2, pS3]
        refine wpAnyH_take (i := 12) (oi := { dst := some 117, op := Op.fieldAddr 44 (Operand.tmp 116) 0, type := 0, pos := "ref.go:112", after := #[zD 11, zG 7], guard := some (7, true) }) (v := undef) rfl (by kernel_rfl) (by kernel_rfl) (by kernel_rfl) (fun _ _ _ h => h) (Or.inr ⟨by rfl, rfl⟩) hHeld ?_
        try simp only [Act.put, pS1, pS2, pS3]
        refine wpAnyH_take (i := 13) (oi := { dst := some 118, op := Op.load 29 (Operand.tmp 117), type := 29, pos := "ref.go:112", after := #[zD 12, zG 7], guard := some (7, true) }) (v := undef) rfl (by kernel_rfl) (by kernel_rfl) (by kernel_rfl) (fun _ _ _ h => h) (Or.inr ⟨by rfl, rfl⟩) hHeld ?_
        try simp only [Act.put, pS1, pS2, pS3]
        refine wpAnyH_take (i := 14) (oi := { dst := some 119, op := Op.call { callee := Callee.value (Operand.func 27), args := #[Operand.tmp 113, Operand.tmp 118], argTypes := #[29, 29] }, type := 4, pos := "ref.go:112", after := #[zD 8, zD 13, zC 7, zG 7], guard := some (7, true) }) (v := undef) rfl (by kernel_rfl) (by kernel_rfl) (by kernel_rfl) (fun _ _ _ h => h) (Or.inr ⟨by rfl, rfl⟩) hHeld ?_
        try simp only [Act.put, pS1, pS2, pS3]
        refine wpAnyH_take (i := 15) (oi := { dst := some 120, op := Op.pick (Operand.tmp 112) (Operand.tmp 119) (Operand.const (Value.bool false)), type := 4, pos := "ref.go:112", after := #[zD 7, zD 14], guard := none }) (v := .bool false) rfl (by kernel_rfl) (by kernel_rfl) (by kernel_rfl) (fun _ _ _ h => h) (Or.inl ⟨by rfl, by intro W hSw; go_simp⟩) hHeld ?_
        try simp only [Act.put, pS1, pS2, pS3]
        refine wpAnyH_take (i := 16) (oi := { dst := some 121, op := Op.move (Operand.tmp 120), type := 4, pos := "ref.go:112", after := #[zD 15, zC 14], guard := none }) (v := .bool false) rfl (by kernel_rfl) (by kernel_rfl) (by kernel_rfl) (fun _ _ _ h => h) (Or.inl ⟨by rfl, by intro W hSw; go_simp⟩) hHeld ?_
        try simp only [Act.put, pS1, pS2, pS3]
        refine wpAnyH_take (i := 17) (oi := { dst := some 122, op := Op.move (Operand.tmp 0), type := 26, pos := "ref.go:112", after := #[zG 16], guard := some (16, true) }) (v := undef) rfl (by kernel_rfl) (by kernel_rfl) (by kernel_rfl) (fun _ _ _ h => h) (Or.inr ⟨by rfl, rfl⟩) hHeld ?_
        try simp only [Act.put, pS1, pS2, pS3]
        refine wpAnyH_take (i := 18) (oi := { dst := some 123, op := Op.nilCheck (Operand.tmp 122), type := 0, pos := "ref.go:112", after := #[zD 17, zG 16], guard := some (16, true) }) (v := undef) rfl (by kernel_rfl) (by kernel_rfl) (by kernel_rfl) (fun _ _ _ h => h) (Or.inr ⟨by rfl, rfl⟩) hHeld ?_
        try simp only [Act.put, pS1, pS2, pS3]
        refine wpAnyH_take (i := 19) (oi := { dst := some 124, op := Op.fieldAddr 62 (Operand.tmp 123) 1, type := 0, pos := "ref.go:112", after := #[zD 18, zG 16], guard := some (16, true) }) (v := undef) rfl (by kernel_rfl) (by kernel_rfl) (by kernel_rfl) (fun _ _ _ h => h) (Or.inr ⟨by rfl, rfl⟩) hHeld ?_
        try simp only [Act.put, pS1, pS2, pS3]
        refine wpAnyH_take (i := 20) (oi := { dst := some 125, op := Op.fieldAddr 44 (Operand.tmp 124) 1, type := 0, pos := "ref.go:112", after := #[zD 19, zG 16], guard := some (16, true) }) (v := undef) rfl (by kernel_rfl) (by kernel_rfl) (by kernel_rfl) (fun _ _ _ h => h) (Or.inr ⟨by rfl, rfl⟩) hHeld ?_
        try simp only [Act.put, pS1, pS2, pS3]
        refine wpAnyH_take (i := 21) (oi := { dst := some 126, op := Op.load 3 (Operand.tmp 125), type := 3, pos := "ref.go:112", after := #[zD 20, zG 16], guard := some (16, true) }) (v := undef) rfl (by kernel_rfl) (by kernel_rfl) (by kernel_rfl) (fun _ _ _ h => h) (Or.inr ⟨by rfl, rfl⟩) hHeld ?_
        try simp only [Act.put, pS1, pS2, pS3]
        refine wpAnyH_take (i := 22) (oi := { dst := some 127, op := Op.fieldAddr 44 (Operand.tmp 7) 1, type := 0, pos := "ref.go:112", after := #[zG 16], guard := some (16, true) }) (v := undef) rfl (by kernel_rfl) (by kernel_rfl) (by kernel_rfl) (fun _ _ _ h => h) (Or.inr ⟨by rfl, rfl⟩) hHeld ?_
        try simp only [Act.put, pS1, pS2, pS3]
        refine wpAnyH_take (i := 23) (oi := { dst := some 128, op := Op.load 3 (Operand.tmp 127), type := 3, pos := "ref.go:112", after := #[zD 22, zG 16], guard := some (16, true) }) (v := undef) rfl (by kernel_rfl) (by kernel_rfl) (by kernel_rfl) (fun _ _ _ h => h) (Or.inr ⟨by rfl, rfl⟩) hHeld ?_
        try simp only [Act.put, pS1, pS2, pS3]
        refine wpAnyH_take (i := 24) (oi := { dst := some 129, op := Op.binOp BinOp.gtr 3 (Operand.tmp 126) (Operand.tmp 128) 3, type := 4, pos := "ref.go:112", after := #[zD 21, zD 23, zG 16], guard := some (16, true) }) (v := undef) rfl (by kernel_rfl) (by kernel_rfl) (by kernel_rfl) (fun _ _ _ h => h) (Or.inr ⟨by rfl, rfl⟩) hHeld ?_
        try simp only [Act.put, pS1, pS2, pS3]
        refine wpAnyH_take (i := 25) (oi := { dst := some 130, op := Op.pick (Operand.tmp 121) (Operand.tmp 129) (Operand.const (Value.bool false)), type := 4, pos := "ref.go:112", after := #[zD 16, zD 24], guard := none }) (v := .bool false) rfl (by kernel_rfl) (by kernel_rfl) (by kernel_rfl) (fun _ _ _ h => h) (Or.inl ⟨by rfl, by intro W hSw; go_simp⟩) hHeld ?_
        try simp only [Act.put, pS1, pS2, pS3]
        refine wpAnyH_done (by kernel_rfl) ?_ _
        clear hHeld
        go_wp2
        go_ret
        exact ⟨by rw [HFD.out]; rfl, HF.out⟩
end Go.Proofs.YtdnnhmihigdnkaaDoor
