/- Texts of our own that the row of PathCut leans on, part 34. -/
import Derived.Test.YtkmedlfbkddmoaaDoorPathCutJ25
import Derived.Test.YtkmedlfbkddmoaaDoorPathCutJ30
import Derived.Test.YtkmedlfbkddmoaaDoorPathCutJ31
import Derived.Test.YtkmedlfbkddmoaaDoorPathCutJ33
import Derived.Deep.Slices

/- Steps that came in. -/
namespace Go.Proofs.YtkmedlfbkddmoaaDoor
open Go.RowKit Sums Nums Go.ChangeShapes
set_option linter.unusedVariables false
set_option linter.unusedSimpArgs false
set_option maxRecDepth 100000
variable {H : Type} {enc : TypeId × Value → H} {W : World} {fuel : Nat} {x : DataW H × List MemPlace}
/-- A step that came in: its texts are as long as they are. -/
structure CmV (W : World) (v : StV) : Prop where
  i : In64 v.i
  x : CmI v.x
  h : InS v.h
  p : LReads W v.a v.n v.c v.p
  n : v.a = none → v.c = 0
theorem CmV.ok {v : StV} (h : CmV W v) : OkV v := ⟨h.x.ok, h.h.h.d, h.h.g⟩
theorem CmV.keep {W' : World} {v : StV} (h : CmV W v) (hb : Below W.heap.size W W') : CmV W' v := ⟨h.i, h.x, h.h, h.p.keep hb, h.n⟩
theorem open_digs_cells {cs : List Value} (hf : DataW.trod enc Tryd.prog W 0 (fun _ => true) true fuel 44 cs = some x) : ∃ a n c l, cs = [.slice a n c] ∧ LReads W a n c l ∧ (a = none → c = 0) := by
  rcases DataW.trod_slice Tryd.underlying44 hf with ⟨hcs, _⟩ | ⟨a', len', cap', elems, rest, n, _, hcs, _, hb, hl, hm, hlen, hel, _, _⟩
  · exact ⟨none, 0, 0, [], hcs, ⟨rfl, (fun d hd => by cases hd), Nat.le_refl _, Nat.zero_le _, .inl rfl⟩, fun _ => rfl⟩
  · subst hcs
    obtain ⟨l, hl⟩ := open_digs (a := some a') (len := len') (cap := cap') ⟨fuel, hf⟩
    exact ⟨some a', len', cap', l, rfl, hl, fun e => by cases e⟩
theorem open_step_cells {cs : List Value} (hf : DataW.trod enc Tryd.prog W 0 (fun _ => true) true fuel 46 cs = some x) : ∃ v : StV, CmV W v ∧ cs = stcells v := by
  obtain ⟨xs, m, rfl, _, hl, hx, hall⟩ := DataW.trod_struct Tryd.underlying46 hf
  have h110 : Tryd.prog.cellsOf 43 = 110 := by kernel_rfl
  have h1 : Tryd.prog.cellsOf 3 = 1 := by kernel_rfl
  have hL : Tryd.prog.cellsOf 44 = 1 := by kernel_rfl
  have h69 : Tryd.prog.cellsOf 33 = 69 := by kernel_rfl
  have hsz : Tryd.prog.cellsOf 46 = 181 := by kernel_rfl
  rw [hsz] at hl
  obtain ⟨y0, e0⟩ := part_some hx (i := 0) (by decide)
  obtain ⟨y1, e1⟩ := part_some hx (i := 1) (by decide)
  obtain ⟨y2, e2⟩ := part_some hx (i := 2) (by decide)
  obtain ⟨y3, e3⟩ := part_some hx (i := 3) (by decide)
  have f0 : DataW.trod enc Tryd.prog W 0 (fun _ => true) true m 3 ((cs.drop 0).take (Tryd.prog.cellsOf 3)) = some y0 := (hall 0 _ rfl).trans e0
  have f1 : DataW.trod enc Tryd.prog W 0 (fun _ => true) true m 43 ((cs.drop 1).take (Tryd.prog.cellsOf 43)) = some y1 := (hall 1 _ rfl).trans e1
  have f2 : DataW.trod enc Tryd.prog W 0 (fun _ => true) true m 44 ((cs.drop 111).take (Tryd.prog.cellsOf 44)) = some y2 := (hall 2 _ rfl).trans e2
  have f3 : DataW.trod enc Tryd.prog W 0 (fun _ => true) true m 33 ((cs.drop 112).take (Tryd.prog.cellsOf 33)) = some y3 := (hall 3 _ rfl).trans e3
  rw [h1] at f0
  rw [h110] at f1
  rw [hL] at f2
  rw [h69] at f3
  obtain ⟨i, ii, ci⟩ := open_int_cells f0
  obtain ⟨z, iz, cz⟩ := open_item_cells f1
  obtain ⟨a, n, c, p, cp', hp, hn⟩ := open_digs_cells f2
  obtain ⟨h, ih, ch⟩ := open_signed_cells f3
  refine ⟨⟨i, z, a, n, c, h, p⟩, ⟨ii, iz, ih, hp, hn⟩, ?_⟩
  unfold stcells
  show cs = [Value.int .i64 i] ++ icells z ++ [.slice a n c] ++ scells h
  have k0 : cs = ((cs.drop 0).take 1 ++ ((cs.drop 1).take 110 ++ ((cs.drop 111).take 1 ++ (cs.drop 112).take 69))) := by
    have q3 : (cs.drop 112).take 69 = cs.drop 112 := List.take_of_length_le (by rw [List.length_drop]; omega)
    have q2 : (cs.drop 111).take 1 ++ cs.drop 112 = cs.drop 111 := by
      have := List.take_append_drop 1 (cs.drop 111)
      rw [List.drop_drop] at this
      exact this
    have q1 : (cs.drop 1).take 110 ++ cs.drop 111 = cs.drop 1 := by
      have := List.take_append_drop 110 (cs.drop 1)
      rw [List.drop_drop] at this
      exact this
    rw [q3, q2, q1, List.drop_zero, List.take_append_drop]
  rw [ci, cz, cp', ch] at k0
  rw [k0]
  simp only [List.append_assoc]
theorem open_steps {a : Option Addr} {len cap : Nat} {d : DataW H} {p : List MemPlace} (h : DataW.Trod enc Tryd.prog W 0 (fun _ => true) true 50 (.slice a len cap) d p) : ∃ l, SReads W a len cap l ∧ (a = none → cap = 0) ∧ ∀ v ∈ l, CmV W v := by
  obtain ⟨fuel, hf⟩ := h
  have h181 : Tryd.prog.cellsOf 46 = 181 := by kernel_rfl
  rcases Deep.open_slice Tryd.underlying50 hf with ⟨hcs, _⟩ | ⟨ad, len', cap', m, n, D, Pl, hcs, _, hl, hm, hmm, _, hx⟩
  · simp [Value.cells] at hcs
    obtain ⟨rfl, rfl, rfl⟩ := hcs
    exact ⟨[], sreads_none W, fun _ => rfl, fun o ho => by cases ho⟩
  · simp [Value.cells] at hcs
    obtain ⟨rfl, rfl, rfl⟩ := hcs
    have hlm : len ≤ m := by rw [hmm]; split <;> omega
    have each : ∀ i, i < len → ∃ o : StV, CmV W o ∧ ∀ j v, (stcells o)[j]? = some v → W.cell? (ad.add (i * 181 + j)) = some v := by
      intro i hi
      obtain ⟨cs', c1, c2⟩ := hx i (by omega)
      rw [h181] at c1
      obtain ⟨_, hlen, hcell⟩ := World.cells?_some c1
      obtain ⟨o, ho, rfl⟩ := open_step_cells c2
      refine ⟨o, ho, fun j v hj => ?_⟩
      have hj' : j < (stcells o).length := (List.getElem?_eq_some_iff.1 hj).1
      have e0 := hcell j (by rw [stcells_length _ ho.ok] at hj'; omega)
      rw [Deep.add_add] at e0
      rw [e0]
      simpa using hj
    haveI : Inhabited StV := ⟨zeroV⟩
    obtain ⟨F, hF⟩ := Deep.choose_lt each
    refine ⟨(List.range len).map F, ⟨by simp, hl, by unfold maxLen at hm ⊢; omega, ?_, ?_⟩, (fun e => by cases e), ?_⟩
    · intro o ho
      obtain ⟨i, hi, rfl⟩ := List.mem_map.1 ho
      exact (hF i (List.mem_range.1 hi)).1.ok
    · by_cases h0 : len = 0
      · exact .inl h0
      · have hc := (hF 0 (by omega)).2 0 _ (st_i _)
        obtain ⟨b, off, spot⟩ := ad
        have hspot : spot = none := by simpa [Addr.add] using World.cell?_spot hc
        subst hspot
        refine .inr ⟨b, off, rfl, fun i hi j v hj => ?_⟩
        have hi' : i < len := by simpa using hi
        simp only [List.getElem_map, List.getElem_range] at hj
        have := (hF i hi').2 j v hj
        rw [add_plain] at this
        rw [← this]
        congr 2
        omega
    · intro o ho
      obtain ⟨i, hi, rfl⟩ := List.mem_map.1 ho
      exact (hF i (List.mem_range.1 hi)).1
end Go.Proofs.YtkmedlfbkddmoaaDoor

/- The document's Big of paths. -/
namespace Go.Proofs.YtkmedlfbkddmoaaDoor
open Go.RowKit Nums Sums
set_option linter.unusedVariables false
set_option linter.unusedSimpArgs false
set_option maxRecDepth 100000
def bigP (l : List StV) : Bool := decide (20 < l.length) || l.any fun v => decide (60 < v.n) || decide (1000 < v.x.e.t.size)
theorem bigP_yes {l : List StV} (i : Nat) (hi : i < l.length) (h : 60 < l[i].n ∨ 1000 < l[i].x.e.t.size) : bigP l = true := by
  unfold bigP
  rw [Bool.or_eq_true, List.any_eq_true]
  refine .inr ⟨l[i], List.getElem_mem hi, ?_⟩
  rw [Bool.or_eq_true, decide_eq_true_eq, decide_eq_true_eq]
  exact h
theorem bigP_no {l : List StV} (hl : l.length ≤ 20) (h : ∀ x ∈ l, x.n ≤ 60 ∧ x.x.e.t.size ≤ 1000) : bigP l = false := by
  unfold bigP
  rw [Bool.or_eq_false_iff, List.any_eq_false]
  refine ⟨decide_eq_false (by omega), fun x hx => ?_⟩
  have := h x hx
  rw [Bool.or_eq_true, decide_eq_true_eq, decide_eq_true_eq]
  omega
theorem bigP_false {l : List StV} (h : bigP l = false) : l.length ≤ 20 ∧ ∀ x ∈ l, x.n ≤ 60 ∧ x.x.e.t.size ≤ 1000 := by
  unfold bigP at h
  rw [Bool.or_eq_false_iff, List.any_eq_false] at h
  refine ⟨by have := h.1; rw [decide_eq_false_iff_not] at this; omega, fun x hx => ?_⟩
  have := h.2 x hx
  rw [Bool.or_eq_true, decide_eq_true_eq, decide_eq_true_eq] at this
  omega
theorem small_in {W : World} {a : Option Addr} {len cap : Nat} {l : List StV} (h : SReads W a len cap l) (hn : a = none → cap = 0) (hc : ∀ v ∈ l, CmV W v) (hb : bigP l = false) : InP W a len cap l := by
  obtain ⟨h1, h2⟩ := bigP_false hb
  have hln := h.ln
  refine ⟨h, hn, fun v hv => ⟨(hc v hv).i, (hc v hv).x.in (by have := (h2 v hv).2; omega), (hc v hv).h⟩, fun v hv => (hc v hv).p, fun v hv => (hc v hv).n, by omega⟩
set_option maxHeartbeats 4000000 in
theorem refBigP_any (a : Option Addr) (len cap : Nat) (l : List StV) (w : World) (h : SReads w a len cap l) (hc : ∀ v ∈ l, v.x.e.t.size ≤ maxLen ∧ v.n ≤ maxLen) :
    Calls Tryd.prog 17 #[.slice a len cap] w fun e w' => e = .returned (.bool (bigP l)) ∧ w = w' := by
  have H := hidk h
  have HL := hidk h.ln
  have HT := hidk hc
  have hmx : len ≤ 9223372036854775807 := by have := h.mx; unfold maxLen at this; omega
  by_cases h5 : len ≤ 20
  · have h5' : decide ((20 : Int) < (len : Int)) = false := by rw [decide_eq_false_iff_not]; omega
    clear h hc
    go_enter Tryd.func17, Tryd.ntmps17
    go_wp2
    go_loop [3] (fun i => ∃ k : Nat, k ≤ len ∧ i = .int .i64 k ∧ Hid (∀ s ∈ l.take k, s.n ≤ 60 ∧ s.x.e.t.size ≤ 1000)) (fun i => len - (intOf i).toNat)
    case atStart => exact ⟨0, by omega, rfl, fun s hs => by simp at hs⟩
    case round =>
      obtain ⟨k, hk, rfl, HA⟩ := hrel
      by_cases hlt : k < len
      · obtain ⟨g, o, rfl, hg⟩ := H.out.at (by omega)
        have hkl : k < l.length := by have := HL.out; omega
        obtain ⟨t, Ht⟩ : ∃ t, Hid (t = l[k].x.e.t) := ⟨_, hidk rfl⟩
        obtain ⟨n, Hn⟩ : ∃ n, Hid (n = l[k].n) := ⟨_, hidk rfl⟩
        have ok := H.out.ok _ (List.getElem_mem hkl)
        have hrg := H.out.range k hkl
        have hct : w.cell? ⟨g, o + 181 * k + 5, none⟩ = some (.string t) := by
          have := range_entry (range_stx hrg) 3 (.string t) (by rw [Ht.out]; rfl)
          rw [← this]
        have hcn : w.cell? ⟨g, o + 181 * k + 111, none⟩ = some (.slice l[k].a n l[k].c) := by
          have := range_stp ok hrg
          rw [Hn.out]
          exact this
        have hts : t.size ≤ maxLen := by rw [Ht.out]; exact (HT.out _ (List.getElem_mem hkl)).1
        have hns : n ≤ maxLen := by rw [Hn.out]; exact (HT.out _ (List.getElem_mem hkl)).2
        unfold maxLen at hts hns
        have ix := fun W => index_st W g o len cap k .i64 hlt
        have hd : decide ((k : Int) < (len : Int)) = true := by rw [decide_eq_true_eq]; omega
        have hw1 := wrap_int ((k : Int) + 1) (by omega) (by omega)
        have htm : t.size ≤ 9223372036854775807 := by omega
        have hnm : n ≤ 9223372036854775807 := by omega
        by_cases h6 : n ≤ 60
        · have h6' : decide ((60 : Int) < (n : Int)) = false := by rw [decide_eq_false_iff_not]; omega
          by_cases h4 : t.size ≤ 1000
          · have h4' : decide ((1000 : Int) < (t.size : Int)) = false := by rw [decide_eq_false_iff_not]; omega
            have HN : Hid (∀ s ∈ l.take (k + 1), s.n ≤ 60 ∧ s.x.e.t.size ≤ 1000) := take_mem_succ hkl HA.out (by rw [← Ht.out, ← Hn.out]; exact ⟨h6, h4⟩)
            clear Ht hrg ok Hn
            go_wp2
            go_round
            case rel => exact ⟨k + 1, by omega, by go_num, HN⟩
            case measure => simp [intOf]; omega
          · have h4' : decide ((1000 : Int) < (t.size : Int)) = true := by rw [decide_eq_true_eq]; omega
            have HN : Hid (bigP l = true) := bigP_yes k hkl (.inr (by rw [← Ht.out]; omega))
            clear Ht hrg ok Hn
            go_wp2
            go_ret
            exact ⟨by rw [HN.out]; rfl, rfl⟩
        · have h6' : decide ((60 : Int) < (n : Int)) = true := by rw [decide_eq_true_eq]; omega
          have HN : Hid (bigP l = true) := bigP_yes k hkl (.inl (by rw [← Hn.out]; omega))
          clear Ht hrg ok Hn
          go_wp2
          go_ret
          exact ⟨by rw [HN.out]; rfl, rfl⟩
      · obtain rfl : len = k := by omega
        have hd : decide ((len : Int) < (len : Int)) = false := by rw [decide_eq_false_iff_not]; omega
        have HN : Hid (bigP l = false) := bigP_no (by have := HL.out; omega) (by have := HA.out; rwa [List.take_of_length_le (by have := HL.out; omega)] at this)
        go_wp2
        go_ret
        exact ⟨by rw [HN.out]; rfl, rfl⟩
  · have h5' : decide ((20 : Int) < (len : Int)) = true := by rw [decide_eq_true_eq]; omega
    have HN : Hid (bigP l = true) := by show _ = _; unfold bigP; rw [HL.out, decide_eq_true (by omega), Bool.true_or]
    clear h hc
    go_enter Tryd.func17, Tryd.ntmps17
    go_wp2
    go_ret
    exact ⟨by rw [HN.out]; rfl, rfl⟩
end Go.Proofs.YtkmedlfbkddmoaaDoor

/- PathCut. -/
namespace Go.Proofs.YtkmedlfbkddmoaaDoor
open Go.RowKit Nums Sums
set_option linter.unusedVariables false
set_option linter.unusedSimpArgs false
set_option maxRecDepth 100000
theorem slice_sts_right (W : World) (g o len cap k : Nat) (hk : k ≤ len) (hc : len ≤ cap) (hlt : k < cap) : (Instr.sliceAt 50 (.slice (some ⟨g, o, none⟩) len cap) (some (.int .i64 k)) none none).run Tryd.prog W = .ok (.slice (some ⟨g, o + 181 * k, none⟩) (len - k) (cap - k)) W := by
  simp [Instr.sliceAt, Instr.slice, Instr.sliceBounds, Instr.sliceBound, asIntOf, run_underlying Tryd.underlying50, sizeOfSt, hk]
  rw [if_neg (by omega), add_plain]
  simp [Nat.mul_comm]
theorem InP.take {W : World} {a : Option Addr} {len cap : Nat} {l : List StV} (h : InP W a len cap l) (k : Nat) (hk : k ≤ len) : InP W a k cap (l.take k) :=
  ⟨h.rd.take k hk, h.nil, fun v hv => h.its v (List.mem_of_mem_take hv), fun v hv => h.prf v (List.mem_of_mem_take hv), fun v hv => h.pnil v (List.mem_of_mem_take hv), by have := h.le; omega⟩
theorem InP.drop {W : World} {g o len cap : Nat} {l : List StV} (h : InP W (some ⟨g, o, none⟩) len cap l) (k : Nat) (hk : k ≤ len) : InP W (some ⟨g, o + 181 * k, none⟩) (len - k) (cap - k) (l.drop k) := by
  have h1 := h.rd.ln
  have h2 := h.rd.cp
  have h3 := h.rd.mx
  refine ⟨⟨by rw [List.length_drop]; omega, by omega, by omega, fun v hv => h.rd.ok v (List.mem_of_mem_drop hv), ?_⟩, (fun e => by cases e), fun v hv => h.its v (List.mem_of_mem_drop hv), fun v hv => h.prf v (List.mem_of_mem_drop hv), fun v hv => h.pnil v (List.mem_of_mem_drop hv), by have := h.le; omega⟩
  refine .inr ⟨g, o + 181 * k, rfl, fun i hi => ?_⟩
  rw [List.length_drop] at hi
  rw [List.getElem_drop, show o + 181 * k + 181 * i = o + 181 * (k + i) by omega]
  exact h.rd.range (k + i) (by omega)
structure HeldU (w : World) (K : Array Value) (V : World) : Prop where
  b : Below w.heap.size w V
  k : V.heap[w.heap.size]? = some (.cells K 23 (0, 0))
theorem HeldU.keep {w : World} {K : Array Value} {V V' : World} (h : HeldU w K V) (hb : Below V.heap.size V V') : HeldU w K V' :=
  ⟨h.b.trans (hb.mono h.b.size), (hb.block _ (heap_lt h.k)).trans h.k⟩
set_option maxHeartbeats 16000000 in
theorem pathCut_of (hc : HistoryC) (hd : HeadC) (pc : PathC) (z0 : List UInt8) (a : Option Addr) (len cap : Nat) (l : List StV) (at_ : Int) (w : World) (K : Array Value) (HK : Hid (K = (cellsOf z0).toArray)) (w0 : z0.length = 32) (h : SReads w a len cap l) (hn : a = none → cap = 0) (hv : ∀ v ∈ l, CmV w v) (i64 : In64 at_) (hT : TabH w) :
    Calls Tryd.prog 6 #[.agg K, .slice a len cap, .int .i64 at_] w fun e w' => e = .returned (.bool true) ∧ Below w.heap.size w w' := by
  have HSK : Hid ((Tryd.prog.info? 23).map (·.size) = some K.size) := by show _ = _; rw [sizeY, HK.out]; simp [cellsOf_length, w0]
  have H0 : Hid (HeldU w K (w.alloc (.cells K 23))) := ⟨(Below.refl _ _).alloc (Nat.le_refl _) _, heap_alloc_new w _⟩
  have hmx : len ≤ 9223372036854775807 := by have := h.mx; unfold maxLen at this; omega
  have PT : Hid (∀ W, Below w.heap.size w W → Calls Tryd.prog 10 #[] W fun e w' => e = .returned (.bool true) ∧ Below W.heap.size W w') := fun W hb => paths_true hc hd pc W (hT.keep hb)
  obtain ⟨b, Hb⟩ : ∃ b, Hid (bigP l = b) := ⟨_, hidk rfl⟩
  have BG : Hid (∀ W, Below w.heap.size w W → Calls Tryd.prog 17 #[.slice a len cap] W fun e w' => e = .returned (.bool b) ∧ W = w') := fun W hb => by
    rw [← Hb.out]
    exact refBigP_any a len cap l W (h.keep hb) fun v hx => ⟨(hv v hx).x.e.t, (hv v hx).p.2.2.2.1⟩
  cases b
  · have hin := small_in h hn hv Hb.out
    have hln := h.ln
    have hcp := h.cp
    obtain ⟨E, HE⟩ : ∃ E, Hid (pathE z0 (l.map StV.t) = E) := ⟨_, hidk rfl⟩
    have VE : Hid (∀ W, Below w.heap.size w W → Calls Tryd.prog 12 #[.agg K, .slice a len cap] W fun e w' => e = .returned (.int .i64 E) ∧ Below W.heap.size W w') := fun W hb => by
      rw [← HE.out]
      exact pc.verify z0 a len cap l W K HK w0 (hin.keep hb) (hT.keep hb)
    by_cases h1 : at_ < 1
    · have d1 : decide (at_ < 1) = true := decide_eq_true h1
      clear HK h hn hv hT hc hd pc hin VE HE
      go_enter Tryd.func6, Tryd.ntmps6
      go_wp2_with fail
      refine (BG.out _ H0.out.b).mono ?_
      rintro e w1 ⟨rfl, rfl⟩
      go_wp2_with fail
      refine (PT.out _ H0.out.b).mono ?_
      rintro e w2 ⟨rfl, hb2⟩
      have HB2 := hidk (H0.out.keep hb2).b
      clear hb2
      go_wp2
      go_ret
      exact ⟨rfl, HB2.out⟩
    · have d1 : decide (at_ < 1) = false := decide_eq_false h1
      by_cases h2 : (len : Int) ≤ at_
      · have d2 : decide ((len : Int) ≤ at_) = true := decide_eq_true h2
        clear HK h hn hv hT hc hd pc hin VE HE
        go_enter Tryd.func6, Tryd.ntmps6
        go_wp2_with fail
        refine (BG.out _ H0.out.b).mono ?_
        rintro e w1 ⟨rfl, rfl⟩
        go_wp2_with fail
        refine (PT.out _ H0.out.b).mono ?_
        rintro e w2 ⟨rfl, hb2⟩
        have HB2 := hidk (H0.out.keep hb2).b
        clear hb2
        go_wp2
        go_ret
        exact ⟨rfl, HB2.out⟩
      · obtain ⟨k, HKK⟩ : ∃ k : Nat, Hid (at_ = k) := ⟨at_.toNat, by show _ = _; omega⟩
        have hk := HKK.out
        subst hk
        have hk1 : 1 ≤ k ∧ k < len := by omega
        have d2 : decide (len ≤ k) = false := decide_eq_false (by omega)
        have hkl : k < len := hk1.2
        have hk0 : 1 ≤ k := hk1.1
        by_cases hE : E = 0
        · obtain ⟨g, o, rfl, hg⟩ := h.at (by omega)
          obtain ⟨c1, c2⟩ := path_cut (k := k) (HE.out.trans hE) hk1.1 (by rw [List.length_map]; omega)
          have V1 : Hid (∀ W, Below w.heap.size w W → Calls Tryd.prog 12 #[.agg K, .slice (some ⟨g, o, none⟩) k cap] W fun e w' => e = .returned (.int .i64 0) ∧ Below W.heap.size W w') := fun W hb => by
            have := pc.verify z0 _ k cap _ W K HK w0 ((hin.take k (by omega)).keep hb) (hT.keep hb)
            rwa [List.map_take, c1] at this
          have V2 : Hid (∀ W, Below w.heap.size w W → Calls Tryd.prog 12 #[.agg K, .slice (some ⟨g, o + 181 * k, none⟩) (len - k) (cap - k)] W fun e w' => e = .returned (.int .i64 0) ∧ Below W.heap.size W w') := fun W hb => by
            have := pc.verify z0 _ (len - k) (cap - k) _ W K HK w0 ((hin.drop k (by omega)).keep hb) (hT.keep hb)
            rwa [List.map_drop, c2] at this
          have sl := fun W => slice_sts W g o len cap k (by omega)
          have sr := fun W => slice_sts_right W g o len cap k (by omega) hcp (by omega)
          obtain ⟨m, Hm⟩ : ∃ m, Hid (len - k = m) := ⟨_, hidk rfl⟩
          obtain ⟨c, Hc⟩ : ∃ m, Hid (cap - k = m) := ⟨_, hidk rfl⟩
          obtain ⟨p, Hp⟩ : ∃ m, Hid (o + 181 * k = m) := ⟨_, hidk rfl⟩
          rw [Hm.out, Hc.out, Hp.out] at V2
          simp only [Hm.out, Hc.out, Hp.out] at sr
          subst hE
          clear HK h hn hv hT hc hd pc hin HE c1 c2 hln hk1 h1 h2 Hm Hc Hp Hb i64 HKK w0 hg
          go_enter Tryd.func6, Tryd.ntmps6
          go_wp2_with fail
          refine (BG.out _ H0.out.b).mono ?_
          rintro e w1 ⟨rfl, rfl⟩
          clear BG
          go_wp2_with (first
            | ((with_reducible show wpList _ _ _ ({ dst := some 20, op := _, type := _, pos := _, after := _, guard := _ } :: _) _ _); refine wpList_load_row_w (by rfl) 23 (.tmp 3) rfl w.heap.size rfl 23 K (0, 0) _ H0.out.k Tryd.underlying23 rfl HSK.out ?_; try simp only [Act.put, List.setIfInBounds_toArray, List.set_cons_zero, List.set_cons_succ])
            | fail)
          refine (VE.out _ H0.out.b).mono ?_
          rintro e w2 ⟨rfl, hb2⟩
          have H2 := hidk (H0.out.keep hb2)
          clear hb2 H0 VE
          go_wp2_with fail
          refine wp_region_held_drew (S := (HeldU w K)) (by kernel_rfl) (H2.out.keep (Below.refl _ _).drew) (fun hHeld => ?_)
          refine wpAnyH_ready (rs := [0]) (by kernel_rfl) (by simp) ?_
          refine (AllReadyH.cons (o := { dst := some 26, op := Op.call { callee := Callee.value (Operand.func 10), args := #[], argTypes := #[] }, type := 4, pos := "law.go:149", after := #[], guard := none }) rfl (fun K hK => ?_) AllReadyH.nil)
          go_simp
          refine (PT.out _ hHeld.b).mono ?_
          rintro e w0 ⟨rfl, hb0⟩
          go_wp2_with fail
          refine hK.out _ _ (hHeld.keep hb0) (fun hHeld => ?_)
          clear hK K
          try simp only [Act.put, List.setIfInBounds_toArray, List.set_cons_zero, List.set_cons_succ]
          refine wpAnyH_take (i := 1) (oi := { dst := some 27, op := Op.move (Operand.tmp 26), type := 4, pos := "law.go:149", after := #[{ on := 0, ground := Ground.data }, { on := 0, ground := Ground.chain }], guard := none }) (v := .bool true) rfl (by kernel_rfl) (by kernel_rfl) (by kernel_rfl) (fun _ _ _ h => h) (Or.inl ⟨by rfl, by intro W hSw; go_simp⟩) hHeld ?_
          try simp only [Act.put, List.setIfInBounds_toArray, List.set_cons_zero, List.set_cons_succ]
          refine wpAnyH_take (i := 2) (oi := { dst := some 28, op := Op.load 23 (Operand.tmp 3), type := 23, pos := "law.go:149", after := #[{ on := 1, ground := Ground.guard }], guard := some (1, true) }) (v := .agg K) rfl (by kernel_rfl) (by kernel_rfl) (by kernel_rfl) (fun _ _ _ h => h) (yieldsIf_mid (by rfl) 23 (.tmp 3) rfl w.heap.size 0 rfl K _ (fun V hv => range_row (l := K.toList) (W := V) (g := w.heap.size) (by simpa using hv.k)) Tryd.underlying23 rfl HSK.out) hHeld ?_
          try simp only [Act.put, List.setIfInBounds_toArray, List.set_cons_zero, List.set_cons_succ]
          refine wpAnyH_take (i := 3) (oi := { dst := some 29, op := Op.move (Operand.tmp 1), type := 50, pos := "law.go:149", after := #[{ on := 1, ground := Ground.guard }], guard := some (1, true) }) (v := .slice (some ⟨g, o, none⟩) len cap) rfl (by kernel_rfl) (by kernel_rfl) (by kernel_rfl) (fun _ _ _ h => h) (Or.inl ⟨by rfl, by intro W hSw; go_simp⟩) hHeld ?_
          try simp only [Act.put, List.setIfInBounds_toArray, List.set_cons_zero, List.set_cons_succ]
          refine wpAnyH_take (i := 4) (oi := { dst := some 30, op := Op.move (Operand.tmp 2), type := 3, pos := "law.go:149", after := #[{ on := 1, ground := Ground.guard }], guard := some (1, true) }) (v := .int .i64 (k : Int)) rfl (by kernel_rfl) (by kernel_rfl) (by kernel_rfl) (fun _ _ _ h => h) (Or.inl ⟨by rfl, by intro W hSw; go_simp⟩) hHeld ?_
          try simp only [Act.put, List.setIfInBounds_toArray, List.set_cons_zero, List.set_cons_succ]
          refine wpAnyH_take (i := 5) (oi := { dst := some 31, op := Op.slice 50 (Operand.tmp 29) none (some (Operand.tmp 30)) none, type := 50, pos := "law.go:149", after := #[{ on := 3, ground := Ground.data }, { on := 4, ground := Ground.data }, { on := 1, ground := Ground.guard }], guard := some (1, true) }) (v := .slice (some ⟨g, o, none⟩) k cap) rfl (by kernel_rfl) (by kernel_rfl) (by kernel_rfl) (fun _ _ _ h => h) (Or.inl ⟨by rfl, by intro W hSw; have := sl W; go_simp⟩) hHeld ?_
          try simp only [Act.put, List.setIfInBounds_toArray, List.set_cons_zero, List.set_cons_succ]
          refine wpAnyH_ready (rs := [6]) (by kernel_rfl) (by simp) ?_
          refine (AllReadyH.cons (o := { dst := some 32, op := Op.call { callee := Callee.value (Operand.func 12), args := #[Operand.tmp 28, Operand.tmp 31], argTypes := #[23, 50] }, type := 29, pos := "law.go:149", after := #[{ on := 2, ground := Ground.data }, { on := 5, ground := Ground.data }, { on := 1, ground := Ground.chain }, { on := 1, ground := Ground.guard }], guard := some (1, true) }) rfl (fun K hK => ?_) AllReadyH.nil)
          go_simp
          refine (V1.out _ hHeld.b).mono ?_
          rintro e w6 ⟨rfl, hb6⟩
          go_wp2_with fail
          refine hK.out _ _ (hHeld.keep hb6) (fun hHeld => ?_)
          clear hK K
          try simp only [Act.put, List.setIfInBounds_toArray, List.set_cons_zero, List.set_cons_succ]
          refine wpAnyH_take (i := 7) (oi := { dst := some 33, op := Op.binOp BinOp.eql 29 (Operand.tmp 32) (Operand.const (Value.int IntKind.i64 0)) 29, type := 4, pos := "law.go:149", after := #[{ on := 6, ground := Ground.data }, { on := 1, ground := Ground.guard }], guard := some (1, true) }) (v := .bool true) rfl (by kernel_rfl) (by kernel_rfl) (by kernel_rfl) (fun _ _ _ h => h) (Or.inl ⟨by rfl, by intro W hSw; go_simp⟩) hHeld ?_
          try simp only [Act.put, List.setIfInBounds_toArray, List.set_cons_zero, List.set_cons_succ]
          refine wpAnyH_take (i := 8) (oi := { dst := some 34, op := Op.pick (Operand.tmp 27) (Operand.tmp 33) (Operand.const (Value.bool false)), type := 4, pos := "law.go:149", after := #[{ on := 1, ground := Ground.data }, { on := 7, ground := Ground.data }], guard := none }) (v := .bool true) rfl (by kernel_rfl) (by kernel_rfl) (by kernel_rfl) (fun _ _ _ h => h) (Or.inl ⟨by rfl, by intro W hSw; go_simp⟩) hHeld ?_
          try simp only [Act.put, List.setIfInBounds_toArray, List.set_cons_zero, List.set_cons_succ]
          refine wpAnyH_take (i := 9) (oi := { dst := some 35, op := Op.move (Operand.tmp 34), type := 4, pos := "law.go:149", after := #[{ on := 8, ground := Ground.data }, { on := 6, ground := Ground.chain }], guard := none }) (v := .bool true) rfl (by kernel_rfl) (by kernel_rfl) (by kernel_rfl) (fun _ _ _ h => h) (Or.inl ⟨by rfl, by intro W hSw; go_simp⟩) hHeld ?_
          try simp only [Act.put, List.setIfInBounds_toArray, List.set_cons_zero, List.set_cons_succ]
          refine wpAnyH_take (i := 10) (oi := { dst := some 36, op := Op.load 23 (Operand.tmp 3), type := 23, pos := "law.go:149", after := #[{ on := 9, ground := Ground.guard }], guard := some (9, true) }) (v := .agg K) rfl (by kernel_rfl) (by kernel_rfl) (by kernel_rfl) (fun _ _ _ h => h) (yieldsIf_mid (by rfl) 23 (.tmp 3) rfl w.heap.size 0 rfl K _ (fun V hv => range_row (l := K.toList) (W := V) (g := w.heap.size) (by simpa using hv.k)) Tryd.underlying23 rfl HSK.out) hHeld ?_
          try simp only [Act.put, List.setIfInBounds_toArray, List.set_cons_zero, List.set_cons_succ]
          refine wpAnyH_take (i := 11) (oi := { dst := some 37, op := Op.move (Operand.tmp 1), type := 50, pos := "law.go:149", after := #[{ on := 9, ground := Ground.guard }], guard := some (9, true) }) (v := .slice (some ⟨g, o, none⟩) len cap) rfl (by kernel_rfl) (by kernel_rfl) (by kernel_rfl) (fun _ _ _ h => h) (Or.inl ⟨by rfl, by intro W hSw; go_simp⟩) hHeld ?_
          try simp only [Act.put, List.setIfInBounds_toArray, List.set_cons_zero, List.set_cons_succ]
          refine wpAnyH_take (i := 12) (oi := { dst := some 38, op := Op.move (Operand.tmp 2), type := 3, pos := "law.go:149", after := #[{ on := 9, ground := Ground.guard }], guard := some (9, true) }) (v := .int .i64 (k : Int)) rfl (by kernel_rfl) (by kernel_rfl) (by kernel_rfl) (fun _ _ _ h => h) (Or.inl ⟨by rfl, by intro W hSw; go_simp⟩) hHeld ?_
          try simp only [Act.put, List.setIfInBounds_toArray, List.set_cons_zero, List.set_cons_succ]
          refine wpAnyH_take (i := 13) (oi := { dst := some 39, op := Op.slice 50 (Operand.tmp 37) (some (Operand.tmp 38)) none none, type := 50, pos := "law.go:149", after := #[{ on := 11, ground := Ground.data }, { on := 12, ground := Ground.data }, { on := 9, ground := Ground.guard }], guard := some (9, true) }) (v := .slice (some ⟨g, p, none⟩) m c) rfl (by kernel_rfl) (by kernel_rfl) (by kernel_rfl) (fun _ _ _ h => h) (Or.inl ⟨by rfl, by intro W hSw; have := sr W; go_simp⟩) hHeld ?_
          try simp only [Act.put, List.setIfInBounds_toArray, List.set_cons_zero, List.set_cons_succ]
          refine wpAnyH_ready (rs := [14]) (by kernel_rfl) (by simp) ?_
          refine (AllReadyH.cons (o := { dst := some 40, op := Op.call { callee := Callee.value (Operand.func 12), args := #[Operand.tmp 36, Operand.tmp 39], argTypes := #[23, 50] }, type := 29, pos := "law.go:149", after := #[{ on := 10, ground := Ground.data }, { on := 13, ground := Ground.data }, { on := 9, ground := Ground.chain }, { on := 9, ground := Ground.guard }], guard := some (9, true) }) rfl (fun K hK => ?_) AllReadyH.nil)
          go_simp
          refine (V2.out _ hHeld.b).mono ?_
          rintro e w14 ⟨rfl, hb14⟩
          go_wp2_with fail
          refine hK.out _ _ (hHeld.keep hb14) (fun hHeld => ?_)
          clear hK K
          try simp only [Act.put, List.setIfInBounds_toArray, List.set_cons_zero, List.set_cons_succ]
          refine wpAnyH_take (i := 15) (oi := { dst := some 41, op := Op.binOp BinOp.eql 29 (Operand.tmp 40) (Operand.const (Value.int IntKind.i64 0)) 29, type := 4, pos := "law.go:149", after := #[{ on := 14, ground := Ground.data }, { on := 9, ground := Ground.guard }], guard := some (9, true) }) (v := .bool true) rfl (by kernel_rfl) (by kernel_rfl) (by kernel_rfl) (fun _ _ _ h => h) (Or.inl ⟨by rfl, by intro W hSw; go_simp⟩) hHeld ?_
          try simp only [Act.put, List.setIfInBounds_toArray, List.set_cons_zero, List.set_cons_succ]
          refine wpAnyH_take (i := 16) (oi := { dst := some 42, op := Op.pick (Operand.tmp 35) (Operand.tmp 41) (Operand.const (Value.bool false)), type := 4, pos := "law.go:149", after := #[{ on := 9, ground := Ground.data }, { on := 15, ground := Ground.data }], guard := none }) (v := .bool true) rfl (by kernel_rfl) (by kernel_rfl) (by kernel_rfl) (fun _ _ _ h => h) (Or.inl ⟨by rfl, by intro W hSw; go_simp⟩) hHeld ?_
          try simp only [Act.put, List.setIfInBounds_toArray, List.set_cons_zero, List.set_cons_succ]
          refine wpAnyH_take (i := 17) (oi := { dst := some 6, op := Op.assign (Operand.tmp 42), type := 4, pos := "law.go:149", after := #[{ on := 16, ground := Ground.data }, { on := 14, ground := Ground.chain }, { on := 0, ground := Ground.phase }, { on := 1, ground := Ground.phase }, { on := 2, ground := Ground.phase }, { on := 3, ground := Ground.phase }, { on := 4, ground := Ground.phase }, { on := 5, ground := Ground.phase }, { on := 6, ground := Ground.phase }, { on := 7, ground := Ground.phase }, { on := 8, ground := Ground.phase }, { on := 9, ground := Ground.phase }, { on := 10, ground := Ground.phase }, { on := 11, ground := Ground.phase }, { on := 12, ground := Ground.phase }, { on := 13, ground := Ground.phase }, { on := 14, ground := Ground.phase }, { on := 15, ground := Ground.phase }, { on := 16, ground := Ground.phase }], guard := none }) (v := .bool true) rfl (by kernel_rfl) (by kernel_rfl) (by kernel_rfl) (fun _ _ _ h => h) (Or.inl ⟨by rfl, by intro W hSw; go_simp⟩) hHeld ?_
          try simp only [Act.put, List.setIfInBounds_toArray, List.set_cons_zero, List.set_cons_succ]
          refine wpAnyH_done (by kernel_rfl) ?_ _
          have HX := hidk hHeld.b
          clear hHeld
          go_wp2
          go_ret
          exact ⟨rfl, HX.out⟩
        · have bE : (E != 0) = true := by simp [hE]
          clear HK h hn hv hT hc hd pc hin HE h1 h2 Hb i64 HKK w0 hE hk1
          go_enter Tryd.func6, Tryd.ntmps6
          go_wp2_with fail
          refine (BG.out _ H0.out.b).mono ?_
          rintro e w1 ⟨rfl, rfl⟩
          clear BG
          go_wp2_with (first
            | ((with_reducible show wpList _ _ _ ({ dst := some 20, op := _, type := _, pos := _, after := _, guard := _ } :: _) _ _); refine wpList_load_row_w (by rfl) 23 (.tmp 3) rfl w.heap.size rfl 23 K (0, 0) _ H0.out.k Tryd.underlying23 rfl HSK.out ?_; try simp only [Act.put, List.setIfInBounds_toArray, List.set_cons_zero, List.set_cons_succ])
            | fail)
          refine (VE.out _ H0.out.b).mono ?_
          rintro e w2 ⟨rfl, hb2⟩
          have H2 := hidk (H0.out.keep hb2)
          clear hb2 H0 VE
          go_wp2_with fail
          refine (PT.out _ H2.out.b).mono ?_
          rintro e w3 ⟨rfl, hb3⟩
          have HB3 := hidk (H2.out.keep hb3).b
          clear hb3
          go_wp2
          go_ret
          exact ⟨rfl, HB3.out⟩
  · clear HK h hn hv hT hc hd pc Hb
    go_enter Tryd.func6, Tryd.ntmps6
    go_wp2_with fail
    refine (BG.out _ H0.out.b).mono ?_
    rintro e w1 ⟨rfl, rfl⟩
    go_wp2_with fail
    refine (PT.out _ H0.out.b).mono ?_
    rintro e w2 ⟨rfl, hb2⟩
    have HB2 := hidk (H0.out.keep hb2).b
    clear hb2
    go_wp2
    go_ret
    exact ⟨rfl, HB2.out⟩
theorem pathCut_in (hc : HistoryC) (hd : HeadC) (pc : PathC) (z0 : List UInt8) (a1 : Option Addr) (len1 cap1 : Nat) (z1 : List StV) (a2 : Int) (w : World) (w0 : z0.length = 32) (w1 : SReads w a1 len1 cap1 z1) (n1 : a1 = none → cap1 = 0) (m1 : ∀ v ∈ z1, CmV w v) (w2 : In64 a2) (hT : TabH w) :
    Calls Tryd.prog 6 #[.agg (cellsOf z0).toArray, .slice a1 len1 cap1, .int .i64 a2] w fun e w' => e = .returned (.bool true) ∧ Below w.heap.size w w' :=
  pathCut_of hc hd pc z0 a1 len1 cap1 z1 a2 w _ (hidk rfl) w0 w1 n1 m1 w2 hT
end Go.Proofs.YtkmedlfbkddmoaaDoor
