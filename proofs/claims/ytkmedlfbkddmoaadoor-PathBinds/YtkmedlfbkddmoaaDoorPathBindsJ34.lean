/- Texts of our own that the row of PathBinds leans on, part 34. -/
import Derived.Test.YtkmedlfbkddmoaaDoorPathBindsJ15
import Derived.Test.YtkmedlfbkddmoaaDoorPathBindsJ25
import Derived.Test.YtkmedlfbkddmoaaDoorPathBindsJ30
import Derived.Test.YtkmedlfbkddmoaaDoorPathBindsJ31
import Derived.Test.YtkmedlfbkddmoaaDoorPathBindsJ33
import Derived.Deep.Slices

/- Steps that came in. -/
namespace Go.Proofs.YtkmedlfbkddmoaaDoor
open Go.RowKit Sums Nums Go.ChangeShapes
set_option linter.unusedVariables false
set_option linter.unusedSimpArgs false
set_option maxRecDepth 100000
variable {H : Type} {enc : TypeId × Value → H} {W : World} {fuel : Nat} {x : DataW H × List MemPlace}
/-- A step that came in: its texts are as long as they are. -/
structure CmV (W : World) (v : StV) : Prop where
  i : In64 v.i
  x : CmI v.x
  h : InS v.h
  p : LReads W v.a v.n v.c v.p
  n : v.a = none → v.c = 0
theorem CmV.ok {v : StV} (h : CmV W v) : OkV v := ⟨h.x.ok, h.h.h.d, h.h.g⟩
theorem CmV.keep {W' : World} {v : StV} (h : CmV W v) (hb : Below W.heap.size W W') : CmV W' v := ⟨h.i, h.x, h.h, h.p.keep hb, h.n⟩
theorem open_digs_cells {cs : List Value} (hf : DataW.trod enc Tryd.prog W 0 (fun _ => true) true fuel 44 cs = some x) : ∃ a n c l, cs = [.slice a n c] ∧ LReads W a n c l ∧ (a = none → c = 0) := by
  rcases DataW.trod_slice Tryd.underlying44 hf with ⟨hcs, _⟩ | ⟨a', len', cap', elems, rest, n, _, hcs, _, hb, hl, hm, hlen, hel, _, _⟩
  · exact ⟨none, 0, 0, [], hcs, ⟨rfl, (fun d hd => by cases hd), Nat.le_refl _, Nat.zero_le _, .inl rfl⟩, fun _ => rfl⟩
  · subst hcs
    obtain ⟨l, hl⟩ := open_digs (a := some a') (len := len') (cap := cap') ⟨fuel, hf⟩
    exact ⟨some a', len', cap', l, rfl, hl, fun e => by cases e⟩
theorem open_step_cells {cs : List Value} (hf : DataW.trod enc Tryd.prog W 0 (fun _ => true) true fuel 46 cs = some x) : ∃ v : StV, CmV W v ∧ cs = stcells v := by
  obtain ⟨xs, m, rfl, _, hl, hx, hall⟩ := DataW.trod_struct Tryd.underlying46 hf
  have h110 : Tryd.prog.cellsOf 43 = 110 := by kernel_rfl
  have h1 : Tryd.prog.cellsOf 3 = 1 := by kernel_rfl
  have hL : Tryd.prog.cellsOf 44 = 1 := by kernel_rfl
  have h69 : Tryd.prog.cellsOf 33 = 69 := by kernel_rfl
  have hsz : Tryd.prog.cellsOf 46 = 181 := by kernel_rfl
  rw [hsz] at hl
  obtain ⟨y0, e0⟩ := part_some hx (i := 0) (by decide)
  obtain ⟨y1, e1⟩ := part_some hx (i := 1) (by decide)
  obtain ⟨y2, e2⟩ := part_some hx (i := 2) (by decide)
  obtain ⟨y3, e3⟩ := part_some hx (i := 3) (by decide)
  have f0 : DataW.trod enc Tryd.prog W 0 (fun _ => true) true m 3 ((cs.drop 0).take (Tryd.prog.cellsOf 3)) = some y0 := (hall 0 _ rfl).trans e0
  have f1 : DataW.trod enc Tryd.prog W 0 (fun _ => true) true m 43 ((cs.drop 1).take (Tryd.prog.cellsOf 43)) = some y1 := (hall 1 _ rfl).trans e1
  have f2 : DataW.trod enc Tryd.prog W 0 (fun _ => true) true m 44 ((cs.drop 111).take (Tryd.prog.cellsOf 44)) = some y2 := (hall 2 _ rfl).trans e2
  have f3 : DataW.trod enc Tryd.prog W 0 (fun _ => true) true m 33 ((cs.drop 112).take (Tryd.prog.cellsOf 33)) = some y3 := (hall 3 _ rfl).trans e3
  rw [h1] at f0
  rw [h110] at f1
  rw [hL] at f2
  rw [h69] at f3
  obtain ⟨i, ii, ci⟩ := open_int_cells f0
  obtain ⟨z, iz, cz⟩ := open_item_cells f1
  obtain ⟨a, n, c, p, cp', hp, hn⟩ := open_digs_cells f2
  obtain ⟨h, ih, ch⟩ := open_signed_cells f3
  refine ⟨⟨i, z, a, n, c, h, p⟩, ⟨ii, iz, ih, hp, hn⟩, ?_⟩
  unfold stcells
  show cs = [Value.int .i64 i] ++ icells z ++ [.slice a n c] ++ scells h
  have k0 : cs = ((cs.drop 0).take 1 ++ ((cs.drop 1).take 110 ++ ((cs.drop 111).take 1 ++ (cs.drop 112).take 69))) := by
    have q3 : (cs.drop 112).take 69 = cs.drop 112 := List.take_of_length_le (by rw [List.length_drop]; omega)
    have q2 : (cs.drop 111).take 1 ++ cs.drop 112 = cs.drop 111 := by
      have := List.take_append_drop 1 (cs.drop 111)
      rw [List.drop_drop] at this
      exact this
    have q1 : (cs.drop 1).take 110 ++ cs.drop 111 = cs.drop 1 := by
      have := List.take_append_drop 110 (cs.drop 1)
      rw [List.drop_drop] at this
      exact this
    rw [q3, q2, q1, List.drop_zero, List.take_append_drop]
  rw [ci, cz, cp', ch] at k0
  rw [k0]
  simp only [List.append_assoc]
theorem open_step {base' : Nat} {r : Reach} {v : Value} {d : DataW H} {p : List MemPlace}
    (hv : Value.okWide Tryd.prog W r base' 46 v) (h : DataW.Trod enc Tryd.prog W 0 (fun _ => true) true 46 v d p) : ∃ z : StV, CmV W z ∧ v = .agg (stcells z).toArray := by
  obtain ⟨cs, rfl⟩ : ∃ cs, v = .agg cs := by
    simp only [Value.okWide, Tryd.underlying46] at hv
    obtain ⟨cs, h1, _⟩ := hv
    exact ⟨cs, h1⟩
  obtain ⟨fuel, hf⟩ := h
  obtain ⟨z, iz, hz⟩ := open_step_cells hf
  refine ⟨z, iz, ?_⟩
  rw [← hz]
  rfl
end Go.Proofs.YtkmedlfbkddmoaaDoor

/- The document's Big of paths. -/
namespace Go.Proofs.YtkmedlfbkddmoaaDoor
open Go.RowKit Nums Sums
set_option linter.unusedVariables false
set_option linter.unusedSimpArgs false
set_option maxRecDepth 100000
def bigP (l : List StV) : Bool := decide (20 < l.length) || l.any fun v => decide (60 < v.n) || decide (1000 < v.x.e.t.size)
theorem bigP_yes {l : List StV} (i : Nat) (hi : i < l.length) (h : 60 < l[i].n ∨ 1000 < l[i].x.e.t.size) : bigP l = true := by
  unfold bigP
  rw [Bool.or_eq_true, List.any_eq_true]
  refine .inr ⟨l[i], List.getElem_mem hi, ?_⟩
  rw [Bool.or_eq_true, decide_eq_true_eq, decide_eq_true_eq]
  exact h
theorem bigP_no {l : List StV} (hl : l.length ≤ 20) (h : ∀ x ∈ l, x.n ≤ 60 ∧ x.x.e.t.size ≤ 1000) : bigP l = false := by
  unfold bigP
  rw [Bool.or_eq_false_iff, List.any_eq_false]
  refine ⟨decide_eq_false (by omega), fun x hx => ?_⟩
  have := h x hx
  rw [Bool.or_eq_true, decide_eq_true_eq, decide_eq_true_eq]
  omega
theorem bigP_false {l : List StV} (h : bigP l = false) : l.length ≤ 20 ∧ ∀ x ∈ l, x.n ≤ 60 ∧ x.x.e.t.size ≤ 1000 := by
  unfold bigP at h
  rw [Bool.or_eq_false_iff, List.any_eq_false] at h
  refine ⟨by have := h.1; rw [decide_eq_false_iff_not] at this; omega, fun x hx => ?_⟩
  have := h.2 x hx
  rw [Bool.or_eq_true, decide_eq_true_eq, decide_eq_true_eq] at this
  omega
set_option maxHeartbeats 4000000 in
theorem refBigP_any (a : Option Addr) (len cap : Nat) (l : List StV) (w : World) (h : SReads w a len cap l) (hc : ∀ v ∈ l, v.x.e.t.size ≤ maxLen ∧ v.n ≤ maxLen) :
    Calls Tryd.prog 17 #[.slice a len cap] w fun e w' => e = .returned (.bool (bigP l)) ∧ w = w' := by
  have H := hidk h
  have HL := hidk h.ln
  have HT := hidk hc
  have hmx : len ≤ 9223372036854775807 := by have := h.mx; unfold maxLen at this; omega
  by_cases h5 : len ≤ 20
  · have h5' : decide ((20 : Int) < (len : Int)) = false := by rw [decide_eq_false_iff_not]; omega
    clear h hc
    go_enter Tryd.func17, Tryd.ntmps17
    go_wp2
    go_loop [3] (fun i => ∃ k : Nat, k ≤ len ∧ i = .int .i64 k ∧ Hid (∀ s ∈ l.take k, s.n ≤ 60 ∧ s.x.e.t.size ≤ 1000)) (fun i => len - (intOf i).toNat)
    case atStart => exact ⟨0, by omega, rfl, fun s hs => by simp at hs⟩
    case round =>
      obtain ⟨k, hk, rfl, HA⟩ := hrel
      by_cases hlt : k < len
      · obtain ⟨g, o, rfl, hg⟩ := H.out.at (by omega)
        have hkl : k < l.length := by have := HL.out; omega
        obtain ⟨t, Ht⟩ : ∃ t, Hid (t = l[k].x.e.t) := ⟨_, hidk rfl⟩
        obtain ⟨n, Hn⟩ : ∃ n, Hid (n = l[k].n) := ⟨_, hidk rfl⟩
        have ok := H.out.ok _ (List.getElem_mem hkl)
        have hrg := H.out.range k hkl
        have hct : w.cell? ⟨g, o + 181 * k + 5, none⟩ = some (.string t) := by
          have := range_entry (range_stx hrg) 3 (.string t) (by rw [Ht.out]; rfl)
          rw [← this]
        have hcn : w.cell? ⟨g, o + 181 * k + 111, none⟩ = some (.slice l[k].a n l[k].c) := by
          have := range_stp ok hrg
          rw [Hn.out]
          exact this
        have hts : t.size ≤ maxLen := by rw [Ht.out]; exact (HT.out _ (List.getElem_mem hkl)).1
        have hns : n ≤ maxLen := by rw [Hn.out]; exact (HT.out _ (List.getElem_mem hkl)).2
        unfold maxLen at hts hns
        have ix := fun W => index_st W g o len cap k .i64 hlt
        have hd : decide ((k : Int) < (len : Int)) = true := by rw [decide_eq_true_eq]; omega
        have hw1 := wrap_int ((k : Int) + 1) (by omega) (by omega)
        have htm : t.size ≤ 9223372036854775807 := by omega
        have hnm : n ≤ 9223372036854775807 := by omega
        by_cases h6 : n ≤ 60
        · have h6' : decide ((60 : Int) < (n : Int)) = false := by rw [decide_eq_false_iff_not]; omega
          by_cases h4 : t.size ≤ 1000
          · have h4' : decide ((1000 : Int) < (t.size : Int)) = false := by rw [decide_eq_false_iff_not]; omega
            have HN : Hid (∀ s ∈ l.take (k + 1), s.n ≤ 60 ∧ s.x.e.t.size ≤ 1000) := take_mem_succ hkl HA.out (by rw [← Ht.out, ← Hn.out]; exact ⟨h6, h4⟩)
            clear Ht hrg ok Hn
            go_wp2
            go_round
            case rel => exact ⟨k + 1, by omega, by go_num, HN⟩
            case measure => simp [intOf]; omega
          · have h4' : decide ((1000 : Int) < (t.size : Int)) = true := by rw [decide_eq_true_eq]; omega
            have HN : Hid (bigP l = true) := bigP_yes k hkl (.inr (by rw [← Ht.out]; omega))
            clear Ht hrg ok Hn
            go_wp2
            go_ret
            exact ⟨by rw [HN.out]; rfl, rfl⟩
        · have h6' : decide ((60 : Int) < (n : Int)) = true := by rw [decide_eq_true_eq]; omega
          have HN : Hid (bigP l = true) := bigP_yes k hkl (.inl (by rw [← Hn.out]; omega))
          clear Ht hrg ok Hn
          go_wp2
          go_ret
          exact ⟨by rw [HN.out]; rfl, rfl⟩
      · obtain rfl : len = k := by omega
        have hd : decide ((len : Int) < (len : Int)) = false := by rw [decide_eq_false_iff_not]; omega
        have HN : Hid (bigP l = false) := bigP_no (by have := HL.out; omega) (by have := HA.out; rwa [List.take_of_length_le (by have := HL.out; omega)] at this)
        go_wp2
        go_ret
        exact ⟨by rw [HN.out]; rfl, rfl⟩
  · have h5' : decide ((20 : Int) < (len : Int)) = true := by rw [decide_eq_true_eq]; omega
    have HN : Hid (bigP l = true) := by show _ = _; unfold bigP; rw [HL.out, decide_eq_true (by omega), Bool.true_or]
    clear h hc
    go_enter Tryd.func17, Tryd.ntmps17
    go_wp2
    go_ret
    exact ⟨by rw [HN.out]; rfl, rfl⟩
end Go.Proofs.YtkmedlfbkddmoaaDoor

/- PathBinds. -/
namespace Go.Proofs.YtkmedlfbkddmoaaDoor
open Go.RowKit Nums Sums
set_option linter.unusedVariables false
set_option linter.unusedSimpArgs false
set_option maxRecDepth 100000
structure HeldY (w : World) (K X Y : Array Value) (V : World) : Prop where
  b : Below w.heap.size w V
  k : V.heap[w.heap.size]? = some (.cells K 23 (0, 0))
  x : V.heap[w.heap.size + 1]? = some (.cells X 46 (0, 0))
  y : V.heap[w.heap.size + 1 + 1]? = some (.cells Y 46 (0, 0))
theorem HeldY.keep {w : World} {K X Y : Array Value} {V V' : World} (h : HeldY w K X Y V) (hb : Below V.heap.size V V') : HeldY w K X Y V' :=
  ⟨h.b.trans (hb.mono h.b.size), (hb.block _ (heap_lt h.k)).trans h.k, (hb.block _ (heap_lt h.x)).trans h.x, (hb.block _ (heap_lt h.y)).trans h.y⟩
theorem heldY (w : World) (K X Y : Array Value) : HeldY w K X Y (((w.alloc (.cells K 23)).alloc (.cells X 46)).alloc (.cells Y 46)) := by
  have h0 := heldV w K X
  have h2 : ((w.alloc (.cells K 23)).alloc (.cells X 46)).heap.size = w.heap.size + 1 + 1 := by simp
  refine ⟨h0.b.alloc (by omega) _, heap_keep h0.k, heap_keep h0.x, ?_⟩
  have := heap_alloc_new ((w.alloc (.cells K 23)).alloc (.cells X 46)) (.cells Y 46)
  rw [h2] at this
  exact this
def eqIB14 (a b : ItT) : Bool := decide (a.p = b.p) && eqEB a.e b.e
theorem eqIB14_iff (a b : ItT) : eqIB14 a b = true ↔ a = b := by
  unfold eqIB14
  rw [Bool.and_eq_true, decide_eq_true_eq, eqEB_iff]
  constructor
  · rintro ⟨h1, h2⟩
    cases a; cases b
    simp only at h1 h2
    rw [h1, h2]
  · rintro rfl
    exact ⟨rfl, rfl⟩
/-- A literal of one step, and of two. -/
theorem lit_one (v : StV) (ok : OkV v) (R : Array Value) (HR : Hid (R = (stcells v).toArray)) (W : World) : (Instr.buildSlice 50 1 #[(0, .agg R)]).run Tryd.prog W = .ok (.slice (some ⟨W.heap.size, 0, none⟩) 1 1) (W.alloc (.cells (stL [v]).toArray 46)) :=
  run_build_sts W 1 [v] (fun u hu => by rw [List.mem_singleton] at hu; rw [hu]; exact ok) rfl (by omega) (by omega) _ (by rw [HR.out]; rfl)
theorem lit_two (v u : StV) (ok : OkV v) (oku : OkV u) (R T : Array Value) (HR : Hid (R = (stcells v).toArray)) (HT : Hid (T = (stcells u).toArray)) (W : World) : (Instr.buildSlice 50 2 #[(0, .agg R), (1, .agg T)]).run Tryd.prog W = .ok (.slice (some ⟨W.heap.size, 0, none⟩) 2 2) (W.alloc (.cells (stL [v, u]).toArray 46)) :=
  run_build_sts W 2 [v, u] (fun x hx => by rcases List.mem_cons.1 hx with hx | hx; rw [hx]; exact ok; rw [List.mem_singleton] at hx; rw [hx]; exact oku) rfl (by omega) (by omega) _ (by rw [HR.out, HT.out]; rfl)
set_option maxHeartbeats 32000000 in
theorem pathBinds_of (hc : HistoryC) (hd : HeadC) (en : EntryC) (ck : P5.CheckC) (pc : PathC) (z0 : List UInt8) (x y : StV) (w : World) (K X Y : Array Value) (HK : Hid (K = (cellsOf z0).toArray)) (HX : Hid (X = (stcells x).toArray)) (HY : Hid (Y = (stcells y).toArray)) (w0 : z0.length = 32) (cx : CmV w x) (cy : CmV w y) (hT : TabH w) :
    Calls Tryd.prog 5 #[.agg K, .agg X, .agg Y] w fun e w' => e = .returned (.bool true) ∧ Below w.heap.size w w' := by
  have okx := cx.ok
  have oky := cy.ok
  have HSK : Hid ((Tryd.prog.info? 23).map (·.size) = some K.size) := by show _ = _; rw [sizeY, HK.out]; simp [cellsOf_length, w0]
  have HSX : Hid ((Tryd.prog.info? 46).map (·.size) = some X.size) := by show _ = _; rw [sizeSt, HX.out]; simp [stcells_length _ okx]
  have HSY : Hid ((Tryd.prog.info? 46).map (·.size) = some Y.size) := by show _ = _; rw [sizeSt, HY.out]; simp [stcells_length _ oky]
  have H0 := hidk (heldY w K X Y)
  have PT : Hid (∀ W, Below w.heap.size w W → Calls Tryd.prog 10 #[] W fun e w' => e = .returned (.bool true) ∧ Below W.heap.size W w') := fun W hb => paths_true hc hd pc W (hT.keep hb)
  obtain ⟨L2, HL2⟩ : ∃ L : Array Value, Hid (L = (stL [x, y]).toArray) := ⟨_, hidk rfl⟩
  obtain ⟨LX, HLX⟩ : ∃ L : Array Value, Hid (L = (stL [x]).toArray) := ⟨_, hidk rfl⟩
  obtain ⟨LY, HLY⟩ : ∃ L : Array Value, Hid (L = (stL [y]).toArray) := ⟨_, hidk rfl⟩
  have BB : Hid (∀ W : World, (Instr.buildSlice 50 2 #[(0, .agg X), (1, .agg Y)]).run Tryd.prog W = .ok (.slice (some ⟨W.heap.size, 0, none⟩) 2 2) (W.alloc (.cells L2 46))) := fun W => by rw [HL2.out]; exact lit_two x y okx oky X Y HX HY W
  have BX : Hid (∀ W : World, (Instr.buildSlice 50 1 #[(0, .agg X)]).run Tryd.prog W = .ok (.slice (some ⟨W.heap.size, 0, none⟩) 1 1) (W.alloc (.cells LX 46))) := fun W => by rw [HLX.out]; exact lit_one x okx X HX W
  have BY : Hid (∀ W : World, (Instr.buildSlice 50 1 #[(0, .agg Y)]).run Tryd.prog W = .ok (.slice (some ⟨W.heap.size, 0, none⟩) 1 1) (W.alloc (.cells LY 46))) := fun W => by rw [HLY.out]; exact lit_one y oky Y HY W
  obtain ⟨b, Hb⟩ : ∃ b, Hid (bigP [x, y] = b) := ⟨_, hidk rfl⟩
  have mem2 : ∀ (P : StV → Prop), P x → P y → ∀ v ∈ [x, y], P v := fun P h1 h2 v hv => by rcases List.mem_cons.1 hv with hv | hv; rw [hv]; exact h1; rw [List.mem_singleton] at hv; rw [hv]; exact h2
  have mem1 : ∀ (P : StV → Prop) (u : StV), P u → ∀ v ∈ [u], P v := fun P u h1 v hv => by rw [List.mem_singleton] at hv; rw [hv]; exact h1
  have BG : Hid (∀ W, Below w.heap.size w W → Calls Tryd.prog 17 #[.slice (some ⟨W.heap.size, 0, none⟩) 2 2] (W.alloc (.cells L2 46)) fun e w' => e = .returned (.bool b) ∧ Below W.heap.size W w') := fun W hb => by
    refine (refBigP_any _ 2 2 [x, y] _ (SReads.new W [x, y] 2 rfl (mem2 _ okx oky) (by omega) L2 HL2) (mem2 _ ⟨cx.x.e.t, cx.p.2.2.2.1⟩ ⟨cy.x.e.t, cy.p.2.2.2.1⟩)).mono ?_
    rintro e w' ⟨rfl, rfl⟩
    rw [Hb.out]
    exact ⟨rfl, (Below.refl _ _).alloc (Nat.le_refl _) _⟩
  cases b
  · obtain ⟨_, hs2⟩ := bigP_false Hb.out
    have ix : InI x.x := cx.x.in (by have := (hs2 x (List.mem_cons_self ..)).2; omega)
    have iy : InI y.x := cy.x.in (by have := (hs2 y (by simp)).2; omega)
    obtain ⟨E1, HE1⟩ : ∃ E, Hid (pathE z0 [x.t] = E) := ⟨_, hidk rfl⟩
    obtain ⟨E2, HE2⟩ : ∃ E, Hid (pathE z0 [y.t] = E) := ⟨_, hidk rfl⟩
    have VX : Hid (∀ W, Below w.heap.size w W → Calls Tryd.prog 12 #[.agg K, .slice (some ⟨W.heap.size, 0, none⟩) 1 1] (W.alloc (.cells LX 46)) fun e w' => e = .returned (.int .i64 E1) ∧ Below W.heap.size W w') := fun W hb => by
      have hbl : Below W.heap.size W (W.alloc (.cells LX 46)) := (Below.refl _ _).alloc (Nat.le_refl _) _
      refine (pc.verify z0 _ 1 1 [x] _ K HK w0 (InP.new (n := 1) rfl (by omega) (mem1 _ _ okx) (mem1 _ _ ⟨cx.i, ix, cx.h⟩) (mem1 _ _ (cx.p.keep hb)) (mem1 _ _ cx.n) LX HLX) (hT.keep (hb.trans (hbl.mono hb.size)))).mono ?_
      rintro e w' ⟨rfl, hb'⟩
      exact ⟨by rw [← HE1.out]; rfl, hbl.trans (hb'.mono hbl.size)⟩
    have VY : Hid (∀ W, Below w.heap.size w W → Calls Tryd.prog 12 #[.agg K, .slice (some ⟨W.heap.size, 0, none⟩) 1 1] (W.alloc (.cells LY 46)) fun e w' => e = .returned (.int .i64 E2) ∧ Below W.heap.size W w') := fun W hb => by
      have hbl : Below W.heap.size W (W.alloc (.cells LY 46)) := (Below.refl _ _).alloc (Nat.le_refl _) _
      refine (pc.verify z0 _ 1 1 [y] _ K HK w0 (InP.new (n := 1) rfl (by omega) (mem1 _ _ oky) (mem1 _ _ ⟨cy.i, iy, cy.h⟩) (mem1 _ _ (cy.p.keep hb)) (mem1 _ _ cy.n) LY HLY) (hT.keep (hb.trans (hbl.mono hb.size)))).mono ?_
      rintro e w' ⟨rfl, hb'⟩
      exact ⟨by rw [← HE2.out]; rfl, hbl.trans (hb'.mono hbl.size)⟩
    obtain ⟨S1, HS1, HSS1, H1S1, N69⟩ := sign_row x.h okx.d okx.g
    obtain ⟨S2, HS2, HSS2, H1S2, M69⟩ := sign_row y.h oky.d oky.g
    obtain ⟨I1, HI1, HSI1, H1I1, N110⟩ := item_row x.x okx.x
    obtain ⟨I2, HI2, HSI2, H1I2, M110⟩ := item_row y.x oky.x
    obtain ⟨D, HD, HSD, H1D, N32⟩ := dig_row' x.h.h.d okx.d
    have lf : ∀ z : ItT, (leafO z).length = 32 := fun z => by unfold leafO; split; exact sumD_length _; rfl
    obtain ⟨A1, HA1, HSA1, H1A1, NA1⟩ := dig_row' (leafO x.x) (lf _)
    obtain ⟨A2, HA2, HSA2, H1A2, NA2⟩ := dig_row' (leafO y.x) (lf _)
    obtain ⟨ZD, HZD, HAD, HSZ, H1Z, Z32⟩ := noughts27
    have HZ1 : Hid (ZD.size = A1.size) := by show _ = _; rw [Z32.out, NA1.out]
    have HZ2 : Hid (ZD.size = A2.size) := by show _ = _; rw [Z32.out, NA2.out]
    obtain ⟨hq, hhq⟩ : ∃ q, (!eqSB x.h y.h) = q := ⟨_, rfl⟩
    obtain ⟨xq, hxq⟩ : ∃ q, eqIB14 x.x y.x = q := ⟨_, rfl⟩
    obtain ⟨aq, haq⟩ : ∃ q, decide (leafO x.x = leafO y.x) = q := ⟨_, rfl⟩
    have nqs : ∀ W, (binOp .neq 33 (.agg S1) (.agg S2)).run Tryd.prog W = .ok (.bool hq) W := fun W => neqSigned _ _ okx.d oky.d okx.g oky.g S1 S2 HS1 HS2 hq (by rw [← hhq, Bool.not_eq_false', eqSB_iff]) W
    have eqi : ∀ W, (binOp .eql 43 (.agg I1) (.agg I2)).run Tryd.prog W = .ok (.bool xq) W := fun W => eqItem _ _ okx.x oky.x I1 I2 HI1 HI2 xq (by rw [← hxq, eqIB14_iff]) W
    have eqa : ∀ W, (binOp .eql 26 (.agg A1) (.agg A2)).run Tryd.prog W = .ok (.bool aq) W := fun W => eqDigV _ _ (lf _) (lf _) A1 A2 HA1 HA2 aq haq W
    obtain ⟨i1, Hi1⟩ : ∃ k, Hid (x.i = k) := ⟨_, hidk rfl⟩
    obtain ⟨i2, Hi2⟩ : ∃ k, Hid (y.i = k) := ⟨_, hidk rfl⟩
    obtain ⟨sz, Hsz⟩ : ∃ k, Hid (x.h.h.s = k) := ⟨_, hidk rfl⟩
    obtain ⟨l1, Hl1⟩ : ∃ k, Hid (iE x.x = k) := ⟨_, hidk rfl⟩
    obtain ⟨l2, Hl2⟩ : ∃ k, Hid (iE y.x = k) := ⟨_, hidk rfl⟩
    obtain ⟨a1, Ha1⟩ : ∃ k, Hid (x.a = k) := ⟨_, hidk rfl⟩
    obtain ⟨n1, Hn1⟩ : ∃ k, Hid (x.n = k) := ⟨_, hidk rfl⟩
    obtain ⟨c1, Hc1⟩ : ∃ k, Hid (x.c = k) := ⟨_, hidk rfl⟩
    obtain ⟨a2, Ha2⟩ : ∃ k, Hid (y.a = k) := ⟨_, hidk rfl⟩
    obtain ⟨n2, Hn2⟩ : ∃ k, Hid (y.n = k) := ⟨_, hidk rfl⟩
    obtain ⟨c2, Hc2⟩ : ∃ k, Hid (y.c = k) := ⟨_, hidk rfl⟩
    have L1 : Hid (∀ W, Below w.heap.size w W → Calls Tryd.prog 18 #[.agg I1] W fun e w' => e = .returned (.tuple #[.agg A1, .int .i64 l1]) ∧ Below W.heap.size W w') := fun W hb => by rw [← Hl1.out]; exact en.leaf x.x ix W I1 A1 HI1 (hT.keep hb) HA1
    have L2_ : Hid (∀ W, Below w.heap.size w W → Calls Tryd.prog 18 #[.agg I2] W fun e w' => e = .returned (.tuple #[.agg A2, .int .i64 l2]) ∧ Below W.heap.size W w') := fun W hb => by rw [← Hl2.out]; exact en.leaf y.x iy W I2 A2 HI2 (hT.keep hb) HA2
    have HCX : Hid (∀ (V : World), V.heap[w.heap.size + 1]? = some (.cells X 46 (0, 0)) → V.rangeAt (w.heap.size + 1) 112 S1.toList ∧ V.rangeAt (w.heap.size + 1) 1 I1.toList ∧ V.cell? ⟨w.heap.size + 1, 0, none⟩ = some (.int .i64 i1) ∧ V.cell? ⟨w.heap.size + 1, 111, none⟩ = some (.slice a1 n1 c1) ∧ V.cell? ⟨w.heap.size + 1, 114, none⟩ = some (.int .i64 sz) ∧ V.rangeAt (w.heap.size + 1) 115 D.toList) := fun V hv => by
      have r0 := st_row HX hv
      refine ⟨?_, ?_, ?_, ?_, ?_, ?_⟩
      · have := range_sth okx r0; rw [HS1.out]; simpa using this
      · have := range_stx r0; rw [HI1.out]; simpa using this
      · have := r0 0 _ (st_i x); rw [Hi1.out] at this; simpa using this
      · have := range_stp okx r0; rw [Ha1.out, Hn1.out, Hc1.out] at this; simpa using this
      · have := range_shP (range_sth okx r0) 2 (.int .i64 x.h.h.s) rfl; rw [Hsz.out] at this; simpa using this
      · have ra := range_shP (range_sth okx r0)
        intro j v hj
        rw [HD.out] at hj
        have := ra (3 + j) v (by
          unfold hcells
          rw [List.append_assoc, List.getElem?_append_right (by simp), List.getElem?_append_left (by simpa using (List.getElem?_eq_some_iff.1 hj).1)]
          simpa using hj)
        rw [← this]
        congr 2
        omega
    have HCY : Hid (∀ (V : World), V.heap[w.heap.size + 1 + 1]? = some (.cells Y 46 (0, 0)) → V.rangeAt (w.heap.size + 1 + 1) 112 S2.toList ∧ V.rangeAt (w.heap.size + 1 + 1) 1 I2.toList ∧ V.cell? ⟨w.heap.size + 1 + 1, 0, none⟩ = some (.int .i64 i2) ∧ V.cell? ⟨w.heap.size + 1 + 1, 111, none⟩ = some (.slice a2 n2 c2)) := fun V hv => by
      have r0 := st_row HY hv
      refine ⟨?_, ?_, ?_, ?_⟩
      · have := range_sth oky r0; rw [HS2.out]; simpa using this
      · have := range_stx r0; rw [HI2.out]; simpa using this
      · have := r0 0 _ (st_i y); rw [Hi2.out] at this; simpa using this
      · have := range_stp oky r0; rw [Ha2.out, Hn2.out, Hc2.out] at this; simpa using this
    have FIN : Hid (E1 = 0 → E2 = 0 → l1 = 0 ∧ l2 = 0 ∧ (hq = false → i1 = i2 → aq = false → ∃ (s t : ByteArray) (Q : Array Value), (s.toList == t.toList) = false ∧ (∀ W, (binOp .eql 26 (.agg Q) (.agg Q)).run Tryd.prog W = .ok (.bool true) W) ∧
        Hid (∀ W, Below w.heap.size w W → Calls Tryd.prog 19 #[.agg D, .int .i64 sz, .int .i64 i1, .agg A1, .slice a1 n1 c1, .agg A2, .slice a2 n2 c2] W fun e w' => e = .returned (.tuple #[.string s, .string t, .bool true]) ∧ Below W.heap.size W w') ∧
        Hid (∀ W, Below w.heap.size w W → Calls Tryd.prog 20 #[.slice (some ⟨W.heap.size, 0, none⟩) 1 1] (W.alloc (.cells #[.string s] 9)) fun e w' => e = .returned (.agg Q) ∧ Below W.heap.size W w') ∧
        Hid (∀ W, Below w.heap.size w W → Calls Tryd.prog 20 #[.slice (some ⟨W.heap.size, 0, none⟩) 1 1] (W.alloc (.cells #[.string t] 9)) fun e w' => e = .returned (.agg Q) ∧ Below W.heap.size W w'))) := fun h1 h2 => by
      obtain ⟨q1, q2, q3⟩ := wrgE_ok (path_one.1 (HE1.out.trans h1))
      obtain ⟨r1, r2, r3⟩ := wrgE_ok (path_one.1 (HE2.out.trans h2))
      have e1 : leafI x.x = leafO x.x := by unfold leafO; rw [if_pos (show rightI x.x = true from q2)]
      have e2 : leafI y.x = leafO y.x := by unfold leafO; rw [if_pos (show rightI y.x = true from r2)]
      refine ⟨by rw [← Hl1.out]; unfold iE; rw [if_pos (show rightI x.x = true from q2)], by rw [← Hl2.out]; unfold iE; rw [if_pos (show rightI y.x = true from r2)], fun hh hi ha => ?_⟩
      have eh : x.h = y.h := by rw [← hhq, Bool.not_eq_false', eqSB_iff] at hh; exact hh
      have ei : x.i = y.i := by rw [Hi1.out, Hi2.out, hi]
      have ne : leafO x.x ≠ leafO y.x := by rw [← haq, decide_eq_false_iff_not] at ha; exact ha
      have q3' : P5.incE x.h.h.d x.h.h.s x.i (leafO x.x) x.p = 0 := by rw [← e1]; exact q3
      have r3' : P5.incE x.h.h.d x.h.h.s x.i (leafO y.x) y.p = 0 := by rw [← e2, eh, ei]; exact r3
      have o1 := P5.incE_ok q3'
      have o2 := P5.incE_ok r3'
      have hcl : P5.claE x.h.h.d x.h.h.s x.i (leafO x.x) x.p (leafO y.x) y.p = P5.clashR x.p.reverse y.p.reverse x.h.h.s.toNat x.i.toNat (leafO x.x) (leafO y.x) := by unfold P5.claE; rw [if_pos ⟨q3', r3', ne⟩]
      have dp : Digs32 x.p.reverse := fun z hz => cx.p.2.1 z (List.mem_reverse.1 hz)
      have dq : Digs32 y.p.reverse := fun z hz => cy.p.2.1 z (List.mem_reverse.1 hz)
      obtain ⟨u, v, huv, hne, hsum, hlu, hlv⟩ := P5.clashR_binds sumD_length x.p.reverse y.p.reverse x.h.h.s.toNat x.i.toNat (leafO x.x) (leafO y.x) x.h.h.d (by omega) (by omega) (lf _) (lf _) ne o1.2.2.2.2 o2.2.2.2.2 dp dq
      obtain ⟨s, Hs⟩ : ∃ s : ByteArray, Hid (s = ⟨u.toArray⟩) := ⟨_, hidk rfl⟩
      obtain ⟨t, Ht⟩ : ∃ t : ByteArray, Hid (t = ⟨v.toArray⟩) := ⟨_, hidk rfl⟩
      obtain ⟨Q, HQ⟩ : ∃ D : Array Value, Hid (D = (cellsOf (sumD u)).toArray) := ⟨_, hidk rfl⟩
      have ss : s.size = 65 := by rw [Hs.out]; exact hlu
      have st : t.size = 65 := by rw [Ht.out]; exact hlv
      refine ⟨s, t, Q, text_ne (by rw [Hs.out, Ht.out]; exact fun e => hne (text_inj.1 e)), eqSelf Q (sumD u) (sumD_length _) HQ, fun W hb => ?_, fun W hb => ?_, fun W hb => ?_⟩
      · have := ck.clash x.h.h.d x.h.h.s x.i (leafO x.x) x.p (leafO y.x) y.p x.a y.a x.n x.c y.n y.c W D A1 A2 HD HA1 HA2 okx.d (lf _) (lf _) (by have := cx.h.h.s; unfold In64 at this; omega) (by have := cx.i; unfold In64 at this; omega) (cx.p.keep hb) (cy.p.keep hb) (hT.keep hb)
        rw [hcl, huv, Ha1.out, Hn1.out, Hc1.out, Ha2.out, Hn2.out, Hc2.out, Hi1.out, Hsz.out] at this
        rw [Hs.out, Ht.out]
        exact this
      · exact of_new [s] 9 W (by show s.size + 0 ≤ 1000000; omega) (by show 1 ≤ _; decide) (hT.keep hb) Q (by show _ = _; rw [HQ.out, Hs.out]; simp [joinL]) 1 1 _ rfl rfl _ rfl
      · exact of_new [t] 9 W (by show t.size + 0 ≤ 1000000; omega) (by show 1 ≤ _; decide) (hT.keep hb) Q (by show _ = _; rw [HQ.out, hsum, Ht.out]; simp [joinL]) 1 1 _ rfl rfl _ rfl
    clear hc hd en ck pc HK HX HY w0 cx cy hT okx oky HL2 HLX HLY ix iy hs2 HE1 HE2 HS1 HS2 HI1 HI2 HD HA1 HA2 HZD N69 M69 N110 M110 N32 NA1 NA2 Z32 lf hhq hxq haq Hi1 Hi2 Hsz Hl1 Hl2 Ha1 Hn1 Hc1 Ha2 Hn2 Hc2 Hb mem1 mem2 H1S1 H1S2 H1I1 H1I2 H1D HSZ H1Z
    go_enter Tryd.func5, Tryd.ntmps5
    go_wp2_with (first
      | ((with_reducible show wpList _ _ _ ({ dst := some 15, op := _, type := _, pos := _, after := _, guard := _ } :: _) _ _); obtain ⟨W0, HW0⟩ : ∃ W0, Hid (((w.alloc (.cells K 23)).alloc (.cells X 46)).alloc (.cells Y 46) = W0) := ⟨_, hidk rfl⟩; rw [HW0.out] at H0 ⊢; clear HW0; refine wpList_load_row_w (by rfl) 46 (.tmp 4) rfl (w.heap.size + 1) rfl 46 X (0, 0) _ H0.out.x Tryd.underlying46 rfl HSX.out ?_; try simp only [Act.put, List.setIfInBounds_toArray, List.set_cons_zero, List.set_cons_succ])
      | ((with_reducible show wpList _ _ _ ({ dst := some 16, op := _, type := _, pos := _, after := _, guard := _ } :: _) _ _); refine wpList_load_row_w (by rfl) 46 (.tmp 5) rfl (w.heap.size + 1 + 1) rfl 46 Y (0, 0) _ H0.out.y Tryd.underlying46 rfl HSY.out ?_; try simp only [Act.put, List.setIfInBounds_toArray, List.set_cons_zero, List.set_cons_succ])
      | ((with_reducible show wpList _ _ _ ({ dst := some 17, op := _, type := _, pos := _, after := _, guard := _ } :: _) _ _); refine wpList_build_run rfl 50 2 _ rfl #[(0, .agg X), (1, .agg Y)] rfl _ _ (BB.out _) ?_; try simp only [Act.put, List.setIfInBounds_toArray, List.set_cons_zero, List.set_cons_succ])
      | fail)
    refine (BG.out _ H0.out.b).mono ?_
    rintro e w1 ⟨rfl, hb1⟩
    have H1 := hidk (H0.out.keep hb1)
    clear hb1 H0 BG BB
    go_wp2_with (first
      | ((with_reducible show wpList _ _ _ ({ dst := some 19, op := _, type := _, pos := _, after := _, guard := _ } :: _) _ _); refine wpList_load_row_w (by rfl) 23 (.tmp 3) rfl w.heap.size rfl 23 K (0, 0) _ H1.out.k Tryd.underlying23 rfl HSK.out ?_; try simp only [Act.put, List.setIfInBounds_toArray, List.set_cons_zero, List.set_cons_succ])
      | ((with_reducible show wpList _ _ _ ({ dst := some 20, op := _, type := _, pos := _, after := _, guard := _ } :: _) _ _); refine wpList_load_row_w (by rfl) 46 (.tmp 4) rfl (w.heap.size + 1) rfl 46 X (0, 0) _ H1.out.x Tryd.underlying46 rfl HSX.out ?_; try simp only [Act.put, List.setIfInBounds_toArray, List.set_cons_zero, List.set_cons_succ])
      | ((with_reducible show wpList _ _ _ ({ dst := some 21, op := _, type := _, pos := _, after := _, guard := _ } :: _) _ _); refine wpList_build_run rfl 50 1 _ rfl #[(0, .agg X)] rfl _ _ (BX.out _) ?_; try simp only [Act.put, List.setIfInBounds_toArray, List.set_cons_zero, List.set_cons_succ])
      | fail)
    refine (VX.out _ H1.out.b).mono ?_
    rintro e w2 ⟨rfl, hb2⟩
    have H2 := hidk (H1.out.keep hb2)
    clear hb2 H1 VX BX
    by_cases hE1 : E1 = 0
    · subst hE1
      go_wp2_with (first
        | ((with_reducible show wpList _ _ _ ({ dst := some 25, op := _, type := _, pos := _, after := _, guard := _ } :: _) _ _); refine wpList_load_row_w (by rfl) 23 (.tmp 3) rfl w.heap.size rfl 23 K (0, 0) _ H2.out.k Tryd.underlying23 rfl HSK.out ?_; try simp only [Act.put, List.setIfInBounds_toArray, List.set_cons_zero, List.set_cons_succ])
        | ((with_reducible show wpList _ _ _ ({ dst := some 26, op := _, type := _, pos := _, after := _, guard := _ } :: _) _ _); refine wpList_load_row_w (by rfl) 46 (.tmp 5) rfl (w.heap.size + 1 + 1) rfl 46 Y (0, 0) _ H2.out.y Tryd.underlying46 rfl HSY.out ?_; try simp only [Act.put, List.setIfInBounds_toArray, List.set_cons_zero, List.set_cons_succ])
        | ((with_reducible show wpList _ _ _ ({ dst := some 27, op := _, type := _, pos := _, after := _, guard := _ } :: _) _ _); refine wpList_build_run_w (by rfl) 50 1 _ rfl #[(0, .agg Y)] rfl _ _ (BY.out _) ?_; try simp only [Act.put, List.setIfInBounds_toArray, List.set_cons_zero, List.set_cons_succ])
        | fail)
      refine (VY.out _ H2.out.b).mono ?_
      rintro e w3 ⟨rfl, hb3⟩
      have H3 := hidk (H2.out.keep hb3)
      clear hb3 H2 VY BY
      by_cases hE2 : E2 = 0
      · subst hE2
        obtain ⟨f1, f2, FN⟩ := FIN.out (by trivial) (by trivial)
        subst f1
        subst f2
        have HFN := hidk FN
        clear FN FIN
        obtain ⟨s1, x1, ci1, cp1, cs1, rd1⟩ := HCX.out _ H3.out.x
        obtain ⟨s2, x2, ci2, cp2⟩ := HCY.out _ H3.out.y
        have RS1 := hidk s1
        have RX1 := hidk x1
        have RS2 := hidk s2
        have RX2 := hidk x2
        clear s1 x1 s2 x2 cp1 cs1 rd1 cp2
        cases hq
        · by_cases hi : i1 = i2
          · subst hi
            cases xq
            · -- two leaves
              go_wp2_with (first
                | ((with_reducible show wpList _ _ _ ({ dst := some 35, op := _, type := _, pos := _, after := _, guard := _ } :: _) _ _); refine wpList_mid_w (by rfl) 33 (.tmp 34) rfl (w.heap.size + 1) 112 rfl S1 _ RS1.out Tryd.underlying33 rfl HSS1.out ?_; try simp only [Act.put, List.setIfInBounds_toArray, List.set_cons_zero, List.set_cons_succ])
                | ((with_reducible show wpList _ _ _ ({ dst := some 37, op := _, type := _, pos := _, after := _, guard := _ } :: _) _ _); refine wpList_mid_w (by rfl) 33 (.tmp 36) rfl (w.heap.size + 1 + 1) 112 rfl S2 _ RS2.out Tryd.underlying33 rfl HSS2.out ?_; try simp only [Act.put, List.setIfInBounds_toArray, List.set_cons_zero, List.set_cons_succ])
                | ((with_reducible show wpList _ _ _ ({ dst := some 49, op := _, type := _, pos := _, after := _, guard := _ } :: _) _ _); refine wpList_mid_w (by rfl) 43 (.tmp 48) rfl (w.heap.size + 1) 1 rfl I1 _ RX1.out Tryd.underlying43 rfl HSI1.out ?_; try simp only [Act.put, List.setIfInBounds_toArray, List.set_cons_zero, List.set_cons_succ])
                | ((with_reducible show wpList _ _ _ ({ dst := some 51, op := _, type := _, pos := _, after := _, guard := _ } :: _) _ _); refine wpList_mid_w (by rfl) 43 (.tmp 50) rfl (w.heap.size + 1 + 1) 1 rfl I2 _ RX2.out Tryd.underlying43 rfl HSI2.out ?_; try simp only [Act.put, List.setIfInBounds_toArray, List.set_cons_zero, List.set_cons_succ])
                | ((with_reducible show wpList _ _ _ ({ dst := some 57, op := _, type := _, pos := _, after := _, guard := _ } :: _) _ _); refine wpList_mid_w (by rfl) 43 (.tmp 56) rfl (w.heap.size + 1) 1 rfl I1 _ RX1.out Tryd.underlying43 rfl HSI1.out ?_; try simp only [Act.put, List.setIfInBounds_toArray, List.set_cons_zero, List.set_cons_succ])
                | fail)
              refine (L1.out _ H3.out.b).mono ?_
              rintro e w4 ⟨rfl, hb4⟩
              have H4 := hidk (H3.out.keep hb4)
              clear hb4 H3 L1 RS1 RS2 RX1 RX2 ci1 ci2
              go_wp2_with (first
                | ((with_reducible show wpList _ _ _ ({ dst := some 8, op := _, type := _, pos := _, after := _, guard := _ } :: _) _ _); refine wpList_new_var rfl 26 rfl ZD HAD.out ?_; intro g8 w5 HM8; have HN8 := hidk HM8.out.row; try simp only [Act.put, List.setIfInBounds_toArray, List.set_cons_zero, List.set_cons_succ])
                | (refine wpList_set_var rfl 26 (.tmp 8) (.tmp 59) rfl g8 A1 rfl rfl 26 ZD HN8.out HSA1.out HZ1.out H1A1.out ?_; intro w6 HW8; have hb8 : Below w4.heap.size w4 w6 := HW8.out.below _ _ HM8.out.below (by rw [HM8.out.new]; exact Nat.le_refl _); have H6 := hidk (H4.out.keep hb8); have HA6 := hidk HW8.out.row; obtain ⟨_, x2, _, _⟩ := HCY.out _ H6.out.y; have RX6 := hidk x2; clear hb8 x2; try simp only [Act.put, List.setIfInBounds_toArray, List.set_cons_zero, List.set_cons_succ])
                | ((with_reducible show wpList _ _ _ ({ dst := some 63, op := _, type := _, pos := _, after := _, guard := _ } :: _) _ _); refine wpList_mid_w (by rfl) 43 (.tmp 62) rfl (w.heap.size + 1 + 1) 1 rfl I2 _ RX6.out Tryd.underlying43 rfl HSI2.out ?_; try simp only [Act.put, List.setIfInBounds_toArray, List.set_cons_zero, List.set_cons_succ])
                | fail)
              refine (L2_.out _ H6.out.b).mono ?_
              rintro e w7 ⟨rfl, hb7⟩
              have H7 := hidk (H6.out.keep hb7)
              have HA7 := hidk ((hb7.block _ (heap_lt HA6.out)).trans HA6.out)
              clear hb7 H6 L2_ HA6 RX6 HM8 HN8 HW8 H4
              cases aq
              · obtain ⟨s, t, Q, hst, eqq, CL, O1, O2⟩ := HFN.out (by trivial) (by trivial) (by trivial)
                clear HFN
                go_wp2_with (first
                  | ((with_reducible show wpList _ _ _ ({ dst := some 10, op := _, type := _, pos := _, after := _, guard := _ } :: _) _ _); refine wpList_new_var rfl 26 rfl ZD HAD.out ?_; intro g10 w8 HM10; have HN10 := hidk HM10.out.row; try simp only [Act.put, List.setIfInBounds_toArray, List.set_cons_zero, List.set_cons_succ])
                  | (refine wpList_set_var rfl 26 (.tmp 10) (.tmp 65) rfl g10 A2 rfl rfl 26 ZD HN10.out HSA2.out HZ2.out H1A2.out ?_; intro w9 HW10; have hb10 : Below w7.heap.size w7 w9 := HW10.out.below _ _ HM10.out.below (by rw [HM10.out.new]; exact Nat.le_refl _); have H9 := hidk (H7.out.keep hb10); have HA9 := hidk ((hb10.block _ (heap_lt HA7.out)).trans HA7.out); have HB9 := hidk HW10.out.row; obtain ⟨_, _, ci9, cp9, cs9, rd9⟩ := HCX.out _ H9.out.x; obtain ⟨_, _, _, cq9⟩ := HCY.out _ H9.out.y; have RD9 := hidk rd9; clear hb10 rd9; try simp only [Act.put, List.setIfInBounds_toArray, List.set_cons_zero, List.set_cons_succ])
                  | ((with_reducible show wpList _ _ _ ({ dst := some 73, op := _, type := _, pos := _, after := _, guard := _ } :: _) _ _); refine wpList_load_row_w (by rfl) 26 (.tmp 8) rfl g8 rfl 26 A1 (0, 0) _ HA9.out Tryd.underlying26 rfl HSA1.out ?_; try simp only [Act.put, List.setIfInBounds_toArray, List.set_cons_zero, List.set_cons_succ])
                  | ((with_reducible show wpList _ _ _ ({ dst := some 74, op := _, type := _, pos := _, after := _, guard := _ } :: _) _ _); refine wpList_load_row_w (by rfl) 26 (.tmp 10) rfl g10 rfl 26 A2 (0, 0) _ HB9.out Tryd.underlying26 rfl HSA2.out ?_; try simp only [Act.put, List.setIfInBounds_toArray, List.set_cons_zero, List.set_cons_succ])
                  | ((with_reducible show wpList _ _ _ ({ dst := some 81, op := _, type := _, pos := _, after := _, guard := _ } :: _) _ _); refine wpList_mid_w (by rfl) 26 (.tmp 80) rfl (w.heap.size + 1) 115 rfl D _ RD9.out Tryd.underlying26 rfl HSD.out ?_; try simp only [Act.put, List.setIfInBounds_toArray, List.set_cons_zero, List.set_cons_succ])
                  | ((with_reducible show wpList _ _ _ ({ dst := some 88, op := _, type := _, pos := _, after := _, guard := _ } :: _) _ _); refine wpList_load_row_w (by rfl) 26 (.tmp 8) rfl g8 rfl 26 A1 (0, 0) _ HA9.out Tryd.underlying26 rfl HSA1.out ?_; try simp only [Act.put, List.setIfInBounds_toArray, List.set_cons_zero, List.set_cons_succ])
                  | ((with_reducible show wpList _ _ _ ({ dst := some 91, op := _, type := _, pos := _, after := _, guard := _ } :: _) _ _); refine wpList_load_row_w (by rfl) 26 (.tmp 10) rfl g10 rfl 26 A2 (0, 0) _ HB9.out Tryd.underlying26 rfl HSA2.out ?_; try simp only [Act.put, List.setIfInBounds_toArray, List.set_cons_zero, List.set_cons_succ])
                  | fail)
                refine (CL.out _ H9.out.b).mono ?_
                rintro e w10 ⟨rfl, hb⟩
                have H10 := hidk (H9.out.keep hb)
                clear hb H9 HA9 HB9 HM10 HN10 HW10 RD9 ci9 cp9 cs9 cq9 CL H7 HA7
                go_wp2_with fail
                refine (PT.out _ H10.out.b).mono ?_
                rintro e w11 ⟨rfl, hb⟩
                have H11 := hidk (H10.out.keep hb)
                clear hb H10 PT
                go_wp2_with fail
                refine (O1.out _ H11.out.b).mono ?_
                rintro e w12 ⟨rfl, hb⟩
                have H12 := hidk (H11.out.keep hb)
                clear hb H11 O1
                go_wp2_with fail
                refine (O2.out _ H12.out.b).mono ?_
                rintro e w13 ⟨rfl, hb⟩
                have H13 := hidk (H12.out.keep hb)
                clear hb H12 O2
                go_wp2
                go_ret
                exact ⟨rfl, H13.out.b⟩
              · clear HFN
                go_wp2_with (first
                  | ((with_reducible show wpList _ _ _ ({ dst := some 10, op := _, type := _, pos := _, after := _, guard := _ } :: _) _ _); refine wpList_new_var rfl 26 rfl ZD HAD.out ?_; intro g10 w8 HM10; have HN10 := hidk HM10.out.row; try simp only [Act.put, List.setIfInBounds_toArray, List.set_cons_zero, List.set_cons_succ])
                  | (refine wpList_set_var rfl 26 (.tmp 10) (.tmp 65) rfl g10 A2 rfl rfl 26 ZD HN10.out HSA2.out HZ2.out H1A2.out ?_; intro w9 HW10; have hb10 : Below w7.heap.size w7 w9 := HW10.out.below _ _ HM10.out.below (by rw [HM10.out.new]; exact Nat.le_refl _); have H9 := hidk (H7.out.keep hb10); have HA9 := hidk ((hb10.block _ (heap_lt HA7.out)).trans HA7.out); have HB9 := hidk HW10.out.row; obtain ⟨_, _, ci9, cp9, cs9, rd9⟩ := HCX.out _ H9.out.x; obtain ⟨_, _, _, cq9⟩ := HCY.out _ H9.out.y; have RD9 := hidk rd9; clear hb10 rd9; try simp only [Act.put, List.setIfInBounds_toArray, List.set_cons_zero, List.set_cons_succ])
                  | ((with_reducible show wpList _ _ _ ({ dst := some 73, op := _, type := _, pos := _, after := _, guard := _ } :: _) _ _); refine wpList_load_row_w (by rfl) 26 (.tmp 8) rfl g8 rfl 26 A1 (0, 0) _ HA9.out Tryd.underlying26 rfl HSA1.out ?_; try simp only [Act.put, List.setIfInBounds_toArray, List.set_cons_zero, List.set_cons_succ])
                  | ((with_reducible show wpList _ _ _ ({ dst := some 74, op := _, type := _, pos := _, after := _, guard := _ } :: _) _ _); refine wpList_load_row_w (by rfl) 26 (.tmp 10) rfl g10 rfl 26 A2 (0, 0) _ HB9.out Tryd.underlying26 rfl HSA2.out ?_; try simp only [Act.put, List.setIfInBounds_toArray, List.set_cons_zero, List.set_cons_succ])
                  | fail)
                clear HM10 HN10 HW10 HB9 HA9 ci9 cp9 cs9 cq9
                refine (PT.out _ H9.out.b).mono ?_
                rintro e w19 ⟨rfl, hb19⟩
                have HB19 := hidk (H9.out.keep hb19).b
                clear hb19
                go_wp2
                go_ret
                exact ⟨rfl, HB19.out⟩
            · clear HFN
              go_wp2_with (first
                | ((with_reducible show wpList _ _ _ ({ dst := some 35, op := _, type := _, pos := _, after := _, guard := _ } :: _) _ _); refine wpList_mid_w (by rfl) 33 (.tmp 34) rfl (w.heap.size + 1) 112 rfl S1 _ RS1.out Tryd.underlying33 rfl HSS1.out ?_; try simp only [Act.put, List.setIfInBounds_toArray, List.set_cons_zero, List.set_cons_succ])
                | ((with_reducible show wpList _ _ _ ({ dst := some 37, op := _, type := _, pos := _, after := _, guard := _ } :: _) _ _); refine wpList_mid_w (by rfl) 33 (.tmp 36) rfl (w.heap.size + 1 + 1) 112 rfl S2 _ RS2.out Tryd.underlying33 rfl HSS2.out ?_; try simp only [Act.put, List.setIfInBounds_toArray, List.set_cons_zero, List.set_cons_succ])
                | ((with_reducible show wpList _ _ _ ({ dst := some 49, op := _, type := _, pos := _, after := _, guard := _ } :: _) _ _); refine wpList_mid_w (by rfl) 43 (.tmp 48) rfl (w.heap.size + 1) 1 rfl I1 _ RX1.out Tryd.underlying43 rfl HSI1.out ?_; try simp only [Act.put, List.setIfInBounds_toArray, List.set_cons_zero, List.set_cons_succ])
                | ((with_reducible show wpList _ _ _ ({ dst := some 51, op := _, type := _, pos := _, after := _, guard := _ } :: _) _ _); refine wpList_mid_w (by rfl) 43 (.tmp 50) rfl (w.heap.size + 1 + 1) 1 rfl I2 _ RX2.out Tryd.underlying43 rfl HSI2.out ?_; try simp only [Act.put, List.setIfInBounds_toArray, List.set_cons_zero, List.set_cons_succ])
                | fail)
              refine (PT.out _ H3.out.b).mono ?_
              rintro e w9 ⟨rfl, hb9⟩
              have HB9 := hidk (H3.out.keep hb9).b
              clear hb9
              go_wp2
              go_ret
              exact ⟨rfl, HB9.out⟩
          · have bi : (i1 != i2) = true := by simp [hi]
            clear HFN hi
            go_wp2_with (first
              | ((with_reducible show wpList _ _ _ ({ dst := some 35, op := _, type := _, pos := _, after := _, guard := _ } :: _) _ _); refine wpList_mid_w (by rfl) 33 (.tmp 34) rfl (w.heap.size + 1) 112 rfl S1 _ RS1.out Tryd.underlying33 rfl HSS1.out ?_; try simp only [Act.put, List.setIfInBounds_toArray, List.set_cons_zero, List.set_cons_succ])
              | ((with_reducible show wpList _ _ _ ({ dst := some 37, op := _, type := _, pos := _, after := _, guard := _ } :: _) _ _); refine wpList_mid_w (by rfl) 33 (.tmp 36) rfl (w.heap.size + 1 + 1) 112 rfl S2 _ RS2.out Tryd.underlying33 rfl HSS2.out ?_; try simp only [Act.put, List.setIfInBounds_toArray, List.set_cons_zero, List.set_cons_succ])
              | ((with_reducible show wpList _ _ _ ({ dst := some 49, op := _, type := _, pos := _, after := _, guard := _ } :: _) _ _); refine wpList_mid_w (by rfl) 43 (.tmp 48) rfl (w.heap.size + 1) 1 rfl I1 _ RX1.out Tryd.underlying43 rfl HSI1.out ?_; try simp only [Act.put, List.setIfInBounds_toArray, List.set_cons_zero, List.set_cons_succ])
              | ((with_reducible show wpList _ _ _ ({ dst := some 51, op := _, type := _, pos := _, after := _, guard := _ } :: _) _ _); refine wpList_mid_w (by rfl) 43 (.tmp 50) rfl (w.heap.size + 1 + 1) 1 rfl I2 _ RX2.out Tryd.underlying43 rfl HSI2.out ?_; try simp only [Act.put, List.setIfInBounds_toArray, List.set_cons_zero, List.set_cons_succ])
              | fail)
            refine (PT.out _ H3.out.b).mono ?_
            rintro e w9 ⟨rfl, hb9⟩
            have HB9 := hidk (H3.out.keep hb9).b
            clear hb9
            go_wp2
            go_ret
            exact ⟨rfl, HB9.out⟩
        · clear HFN
          go_wp2_with (first
            | ((with_reducible show wpList _ _ _ ({ dst := some 35, op := _, type := _, pos := _, after := _, guard := _ } :: _) _ _); refine wpList_mid_w (by rfl) 33 (.tmp 34) rfl (w.heap.size + 1) 112 rfl S1 _ RS1.out Tryd.underlying33 rfl HSS1.out ?_; try simp only [Act.put, List.setIfInBounds_toArray, List.set_cons_zero, List.set_cons_succ])
            | ((with_reducible show wpList _ _ _ ({ dst := some 37, op := _, type := _, pos := _, after := _, guard := _ } :: _) _ _); refine wpList_mid_w (by rfl) 33 (.tmp 36) rfl (w.heap.size + 1 + 1) 112 rfl S2 _ RS2.out Tryd.underlying33 rfl HSS2.out ?_; try simp only [Act.put, List.setIfInBounds_toArray, List.set_cons_zero, List.set_cons_succ])
            | ((with_reducible show wpList _ _ _ ({ dst := some 49, op := _, type := _, pos := _, after := _, guard := _ } :: _) _ _); refine wpList_mid_w (by rfl) 43 (.tmp 48) rfl (w.heap.size + 1) 1 rfl I1 _ RX1.out Tryd.underlying43 rfl HSI1.out ?_; try simp only [Act.put, List.setIfInBounds_toArray, List.set_cons_zero, List.set_cons_succ])
            | ((with_reducible show wpList _ _ _ ({ dst := some 51, op := _, type := _, pos := _, after := _, guard := _ } :: _) _ _); refine wpList_mid_w (by rfl) 43 (.tmp 50) rfl (w.heap.size + 1 + 1) 1 rfl I2 _ RX2.out Tryd.underlying43 rfl HSI2.out ?_; try simp only [Act.put, List.setIfInBounds_toArray, List.set_cons_zero, List.set_cons_succ])
            | fail)
          refine (PT.out _ H3.out.b).mono ?_
          rintro e w9 ⟨rfl, hb9⟩
          have HB9 := hidk (H3.out.keep hb9).b
          clear hb9
          go_wp2
          go_ret
          exact ⟨rfl, HB9.out⟩
      · have bE : (E2 == 0) = false := by rw [beq_eq_false_iff_ne]; exact hE2
        clear FIN hE2
        go_wp2_with fail
        refine (PT.out _ H3.out.b).mono ?_
        rintro e w9 ⟨rfl, hb9⟩
        have HB9 := hidk (H3.out.keep hb9).b
        clear hb9
        go_wp2
        go_ret
        exact ⟨rfl, HB9.out⟩
    · have bE : (E1 == 0) = false := by rw [beq_eq_false_iff_ne]; exact hE1
      clear FIN hE1
      go_wp2_with fail
      refine (PT.out _ H2.out.b).mono ?_
      rintro e w9 ⟨rfl, hb9⟩
      have HB9 := hidk (H2.out.keep hb9).b
      clear hb9
      go_wp2
      go_ret
      exact ⟨rfl, HB9.out⟩
  · clear hc hd en ck pc HK HX HY cx cy hT Hb
    go_enter Tryd.func5, Tryd.ntmps5
    go_wp2_with (first
      | ((with_reducible show wpList _ _ _ ({ dst := some 15, op := _, type := _, pos := _, after := _, guard := _ } :: _) _ _); obtain ⟨W0, HW0⟩ : ∃ W0, Hid (((w.alloc (.cells K 23)).alloc (.cells X 46)).alloc (.cells Y 46) = W0) := ⟨_, hidk rfl⟩; rw [HW0.out] at H0 ⊢; clear HW0; refine wpList_load_row_w (by rfl) 46 (.tmp 4) rfl (w.heap.size + 1) rfl 46 X (0, 0) _ H0.out.x Tryd.underlying46 rfl HSX.out ?_; try simp only [Act.put, List.setIfInBounds_toArray, List.set_cons_zero, List.set_cons_succ])
      | ((with_reducible show wpList _ _ _ ({ dst := some 16, op := _, type := _, pos := _, after := _, guard := _ } :: _) _ _); refine wpList_load_row_w (by rfl) 46 (.tmp 5) rfl (w.heap.size + 1 + 1) rfl 46 Y (0, 0) _ H0.out.y Tryd.underlying46 rfl HSY.out ?_; try simp only [Act.put, List.setIfInBounds_toArray, List.set_cons_zero, List.set_cons_succ])
      | ((with_reducible show wpList _ _ _ ({ dst := some 17, op := _, type := _, pos := _, after := _, guard := _ } :: _) _ _); refine wpList_build_run rfl 50 2 _ rfl #[(0, .agg X), (1, .agg Y)] rfl _ _ (BB.out _) ?_; try simp only [Act.put, List.setIfInBounds_toArray, List.set_cons_zero, List.set_cons_succ])
      | fail)
    refine (BG.out _ H0.out.b).mono ?_
    rintro e w1 ⟨rfl, hb1⟩
    have H1 := hidk (H0.out.keep hb1)
    clear hb1
    go_wp2
    go_ret
    exact ⟨rfl, H1.out.b⟩
theorem pathBinds_in (hc : HistoryC) (hd : HeadC) (en : EntryC) (ck : P5.CheckC) (pc : PathC) (z0 : List UInt8) (z1 z2 : StV) (w : World) (w0 : z0.length = 32) (w1 : CmV w z1) (w2 : CmV w z2) (hT : TabH w) :
    Calls Tryd.prog 5 #[.agg (cellsOf z0).toArray, .agg (stcells z1).toArray, .agg (stcells z2).toArray] w fun e w' => e = .returned (.bool true) ∧ Below w.heap.size w w' :=
  pathBinds_of hc hd en ck pc z0 z1 z2 w _ _ _ (hidk rfl) (hidk rfl) (hidk rfl) w0 w1 w2 hT
end Go.Proofs.YtkmedlfbkddmoaaDoor
