/- Texts of our own that the row of PathVerifies leans on, part 33. -/
import Derived.Test.YtkmedlfbkddmoaaGreatDoorPathVerifiesJ0
import Derived.Test.YtkmedlfbkddmoaaGreatDoorPathVerifiesJ24
import Derived.Test.YtkmedlfbkddmoaaGreatDoorPathVerifiesJ28
import Derived.Test.YtkmedlfbkddmoaaGreatDoorPathVerifiesJ29
import Derived.Test.YtkmedlfbkddmoaaGreatDoorPathVerifiesJ30
import Derived.Test.YtkmedlfbkddmoaaGreatDoorPathVerifiesJ32
import Derived.Deep.Slices
/- Steps that came in. -/
namespace Go.Proofs.YtkmedlfbkddmoaaGreatDoor
open Go.RowKit Sums Nums Go.ChangeShapes
set_option linter.unusedVariables false
set_option linter.unusedSimpArgs false
set_option maxRecDepth 100000
variable {H : Type} {enc : TypeId × Value → H} {W : World} {fuel : Nat} {x : DataW H × List MemPlace}
structure CmV (W : World) (v : StV) : Prop where
  i : In64 v.i
  x : CmI v.x
  h : InS v.h
  p : LReads W v.a v.n v.c v.p
  n : v.a = none → v.c = 0
theorem CmV.ok {v : StV} (h : CmV W v) : OkV v := ⟨h.x.ok, h.h.h.d, h.h.g⟩
theorem CmV.keep {W' : World} {v : StV} (h : CmV W v) (hb : Below W.heap.size W W') : CmV W' v := ⟨h.i, h.x, h.h, h.p.keep hb, h.n⟩
theorem open_digs_cells {cs : List Value} (hf : DataW.trod enc Tryz.prog W 0 (fun _ => true) true fuel 38 cs = some x) : ∃ a n c l, cs = [.slice a n c] ∧ LReads W a n c l ∧ (a = none → c = 0) := by
  rcases DataW.trod_slice Tryz.underlying38 hf with ⟨hcs, _⟩ | ⟨a', len', cap', elems, rest, n, _, hcs, _, hb, hl, hm, hlen, hel, _, _⟩
  · exact ⟨none, 0, 0, [], hcs, ⟨rfl, (fun d hd => by cases hd), Nat.le_refl _, Nat.zero_le _, .inl rfl⟩, fun _ => rfl⟩
  · subst hcs
    obtain ⟨l, hl⟩ := open_digs (a := some a') (len := len') (cap := cap') ⟨fuel, hf⟩
    exact ⟨some a', len', cap', l, rfl, hl, fun e => by cases e⟩
theorem open_step_cells {cs : List Value} (hf : DataW.trod enc Tryz.prog W 0 (fun _ => true) true fuel 40 cs = some x) : ∃ v : StV, CmV W v ∧ cs = stcells v := by
  obtain ⟨xs, m, rfl, _, hl, hx, hall⟩ := DataW.trod_struct Tryz.underlying40 hf
  have h110 : Tryz.prog.cellsOf 37 = 110 := by kernel_rfl
  have h1 : Tryz.prog.cellsOf 3 = 1 := by kernel_rfl
  have hL : Tryz.prog.cellsOf 38 = 1 := by kernel_rfl
  have h69 : Tryz.prog.cellsOf 28 = 69 := by kernel_rfl
  have hsz : Tryz.prog.cellsOf 40 = 181 := by kernel_rfl
  rw [hsz] at hl
  obtain ⟨y0, e0⟩ := part_some hx (i := 0) (by decide)
  obtain ⟨y1, e1⟩ := part_some hx (i := 1) (by decide)
  obtain ⟨y2, e2⟩ := part_some hx (i := 2) (by decide)
  obtain ⟨y3, e3⟩ := part_some hx (i := 3) (by decide)
  have f0 : DataW.trod enc Tryz.prog W 0 (fun _ => true) true m 3 ((cs.drop 0).take (Tryz.prog.cellsOf 3)) = some y0 := (hall 0 _ rfl).trans e0
  have f1 : DataW.trod enc Tryz.prog W 0 (fun _ => true) true m 37 ((cs.drop 1).take (Tryz.prog.cellsOf 37)) = some y1 := (hall 1 _ rfl).trans e1
  have f2 : DataW.trod enc Tryz.prog W 0 (fun _ => true) true m 38 ((cs.drop 111).take (Tryz.prog.cellsOf 38)) = some y2 := (hall 2 _ rfl).trans e2
  have f3 : DataW.trod enc Tryz.prog W 0 (fun _ => true) true m 28 ((cs.drop 112).take (Tryz.prog.cellsOf 28)) = some y3 := (hall 3 _ rfl).trans e3
  rw [h1] at f0
  rw [h110] at f1
  rw [hL] at f2
  rw [h69] at f3
  obtain ⟨i, ii, ci⟩ := open_int_cells f0
  obtain ⟨z, iz, cz⟩ := open_item_cells f1
  obtain ⟨a, n, c, p, cp', hp, hn⟩ := open_digs_cells f2
  obtain ⟨h, ih, ch⟩ := open_signed_cells f3
  refine ⟨⟨i, z, a, n, c, h, p⟩, ⟨ii, iz, ih, hp, hn⟩, ?_⟩
  unfold stcells
  show cs = [Value.int .i64 i] ++ icells z ++ [.slice a n c] ++ scells h
  have k0 : cs = ((cs.drop 0).take 1 ++ ((cs.drop 1).take 110 ++ ((cs.drop 111).take 1 ++ (cs.drop 112).take 69))) := by
    have q3 : (cs.drop 112).take 69 = cs.drop 112 := List.take_of_length_le (by rw [List.length_drop]; omega)
    have q2 : (cs.drop 111).take 1 ++ cs.drop 112 = cs.drop 111 := by
      have := List.take_append_drop 1 (cs.drop 111)
      rw [List.drop_drop] at this
      exact this
    have q1 : (cs.drop 1).take 110 ++ cs.drop 111 = cs.drop 1 := by
      have := List.take_append_drop 110 (cs.drop 1)
      rw [List.drop_drop] at this
      exact this
    rw [q3, q2, q1, List.drop_zero, List.take_append_drop]
  rw [ci, cz, cp', ch] at k0
  rw [k0]
  simp only [List.append_assoc]
theorem open_steps {a : Option Addr} {len cap : Nat} {d : DataW H} {p : List MemPlace} (h : DataW.Trod enc Tryz.prog W 0 (fun _ => true) true 49 (.slice a len cap) d p) : ∃ l, SReads W a len cap l ∧ (a = none → cap = 0) ∧ ∀ v ∈ l, CmV W v := by
  obtain ⟨fuel, hf⟩ := h
  have h181 : Tryz.prog.cellsOf 40 = 181 := by kernel_rfl
  rcases Deep.open_slice Tryz.underlying49 hf with ⟨hcs, _⟩ | ⟨ad, len', cap', m, n, D, Pl, hcs, _, hl, hm, hmm, _, hx⟩
  · simp [Value.cells] at hcs
    obtain ⟨rfl, rfl, rfl⟩ := hcs
    exact ⟨[], sreads_none W, fun _ => rfl, fun o ho => by cases ho⟩
  · simp [Value.cells] at hcs
    obtain ⟨rfl, rfl, rfl⟩ := hcs
    have hlm : len ≤ m := by rw [hmm]; split <;> omega
    have each : ∀ i, i < len → ∃ o : StV, CmV W o ∧ ∀ j v, (stcells o)[j]? = some v → W.cell? (ad.add (i * 181 + j)) = some v := by
      intro i hi
      obtain ⟨cs', c1, c2⟩ := hx i (by omega)
      rw [h181] at c1
      obtain ⟨_, hlen, hcell⟩ := World.cells?_some c1
      obtain ⟨o, ho, rfl⟩ := open_step_cells c2
      refine ⟨o, ho, fun j v hj => ?_⟩
      have hj' : j < (stcells o).length := (List.getElem?_eq_some_iff.1 hj).1
      have e0 := hcell j (by rw [stcells_length _ ho.ok] at hj'; omega)
      rw [Deep.add_add] at e0
      rw [e0]
      simpa using hj
    haveI : Inhabited StV := ⟨zeroV⟩
    obtain ⟨F, hF⟩ := Deep.choose_lt each
    refine ⟨(List.range len).map F, ⟨by simp, hl, by unfold maxLen at hm ⊢; omega, ?_, ?_⟩, (fun e => by cases e), ?_⟩
    · intro o ho
      obtain ⟨i, hi, rfl⟩ := List.mem_map.1 ho
      exact (hF i (List.mem_range.1 hi)).1.ok
    · by_cases h0 : len = 0
      · exact .inl h0
      · have hc := (hF 0 (by omega)).2 0 _ (st_i _)
        obtain ⟨b, off, spot⟩ := ad
        have hspot : spot = none := by simpa [Addr.add] using World.cell?_spot hc
        subst hspot
        refine .inr ⟨b, off, rfl, fun i hi j v hj => ?_⟩
        have hi' : i < len := by simpa using hi
        simp only [List.getElem_map, List.getElem_range] at hj
        have := (hF i hi').2 j v hj
        rw [add_plain] at this
        rw [← this]
        congr 2
        omega
    · intro o ho
      obtain ⟨i, hi, rfl⟩ := List.mem_map.1 ho
      exact (hF i (List.mem_range.1 hi)).1
end Go.Proofs.YtkmedlfbkddmoaaGreatDoor
/- The document's Big of paths. -/
namespace Go.Proofs.YtkmedlfbkddmoaaGreatDoor
open Go.RowKit Nums Sums
set_option linter.unusedVariables false
set_option linter.unusedSimpArgs false
set_option maxRecDepth 100000
def bigP (l : List StV) : Bool := decide (20 < l.length) || l.any fun v => decide (60 < v.n) || decide (1000 < v.x.e.t.size)
theorem bigP_yes {l : List StV} (i : Nat) (hi : i < l.length) (h : 60 < l[i].n ∨ 1000 < l[i].x.e.t.size) : bigP l = true := by
  unfold bigP
  rw [Bool.or_eq_true, List.any_eq_true]
  refine .inr ⟨l[i], List.getElem_mem hi, ?_⟩
  rw [Bool.or_eq_true, decide_eq_true_eq, decide_eq_true_eq]
  exact h
theorem bigP_no {l : List StV} (hl : l.length ≤ 20) (h : ∀ x ∈ l, x.n ≤ 60 ∧ x.x.e.t.size ≤ 1000) : bigP l = false := by
  unfold bigP
  rw [Bool.or_eq_false_iff, List.any_eq_false]
  refine ⟨decide_eq_false (by omega), fun x hx => ?_⟩
  have := h x hx
  rw [Bool.or_eq_true, decide_eq_true_eq, decide_eq_true_eq]
  omega
theorem bigP_false {l : List StV} (h : bigP l = false) : l.length ≤ 20 ∧ ∀ x ∈ l, x.n ≤ 60 ∧ x.x.e.t.size ≤ 1000 := by
  unfold bigP at h
  rw [Bool.or_eq_false_iff, List.any_eq_false] at h
  refine ⟨by have := h.1; rw [decide_eq_false_iff_not] at this; omega, fun x hx => ?_⟩
  have := h.2 x hx
  rw [Bool.or_eq_true, decide_eq_true_eq, decide_eq_true_eq] at this
  omega
theorem small_in {W : World} {a : Option Addr} {len cap : Nat} {l : List StV} (h : SReads W a len cap l) (hn : a = none → cap = 0) (hc : ∀ v ∈ l, CmV W v) (hb : bigP l = false) : InP W a len cap l := by
  obtain ⟨h1, h2⟩ := bigP_false hb
  have hln := h.ln
  refine ⟨h, hn, fun v hv => ⟨(hc v hv).i, (hc v hv).x.in (by have := (h2 v hv).2; omega), (hc v hv).h⟩, fun v hv => (hc v hv).p, fun v hv => (hc v hv).n, by omega⟩
set_option maxHeartbeats 4000000 in
theorem refBigP_any (a : Option Addr) (len cap : Nat) (l : List StV) (w : World) (h : SReads w a len cap l) (hc : ∀ v ∈ l, v.x.e.t.size ≤ maxLen ∧ v.n ≤ maxLen) :
    Calls Tryz.prog 12 #[.slice a len cap] w fun e w' => e = .returned (.bool (bigP l)) ∧ w = w' := by
  have H := hidk h
  have HL := hidk h.ln
  have HT := hidk hc
  have hmx : len ≤ 9223372036854775807 := by have := h.mx; unfold maxLen at this; omega
  by_cases h5 : len ≤ 20
  · have h5' : decide ((20 : Int) < (len : Int)) = false := by rw [decide_eq_false_iff_not]; omega
    clear h hc
    go_enter Tryz.func12, Tryz.ntmps12
    go_wp2
    go_loop [3] (fun i => ∃ k : Nat, k ≤ len ∧ i = .int .i64 k ∧ Hid (∀ s ∈ l.take k, s.n ≤ 60 ∧ s.x.e.t.size ≤ 1000)) (fun i => len - (intOf i).toNat)
    case atStart => exact ⟨0, by omega, rfl, fun s hs => by simp at hs⟩
    case round =>
      obtain ⟨k, hk, rfl, HA⟩ := hrel
      by_cases hlt : k < len
      · obtain ⟨g, o, rfl, hg⟩ := H.out.at (by omega)
        have hkl : k < l.length := by have := HL.out; omega
        obtain ⟨t, Ht⟩ : ∃ t, Hid (t = l[k].x.e.t) := ⟨_, hidk rfl⟩
        obtain ⟨n, Hn⟩ : ∃ n, Hid (n = l[k].n) := ⟨_, hidk rfl⟩
        have ok := H.out.ok _ (List.getElem_mem hkl)
        have hrg := H.out.range k hkl
        have hct : w.cell? ⟨g, o + 181 * k + 5, none⟩ = some (.string t) := by
          have := range_entry (range_stx hrg) 3 (.string t) (by rw [Ht.out]; rfl)
          rw [← this]
        have hcn : w.cell? ⟨g, o + 181 * k + 111, none⟩ = some (.slice l[k].a n l[k].c) := by
          have := range_stp ok hrg
          rw [Hn.out]
          exact this
        have hts : t.size ≤ maxLen := by rw [Ht.out]; exact (HT.out _ (List.getElem_mem hkl)).1
        have hns : n ≤ maxLen := by rw [Hn.out]; exact (HT.out _ (List.getElem_mem hkl)).2
        unfold maxLen at hts hns
        have ix := fun W => index_st W g o len cap k .i64 hlt
        have hd : decide ((k : Int) < (len : Int)) = true := by rw [decide_eq_true_eq]; omega
        have hw1 := wrap_int ((k : Int) + 1) (by omega) (by omega)
        have htm : t.size ≤ 9223372036854775807 := by omega
        have hnm : n ≤ 9223372036854775807 := by omega
        by_cases h6 : n ≤ 60
        · have h6' : decide ((60 : Int) < (n : Int)) = false := by rw [decide_eq_false_iff_not]; omega
          by_cases h4 : t.size ≤ 1000
          · have h4' : decide ((1000 : Int) < (t.size : Int)) = false := by rw [decide_eq_false_iff_not]; omega
            have HN : Hid (∀ s ∈ l.take (k + 1), s.n ≤ 60 ∧ s.x.e.t.size ≤ 1000) := take_mem_succ hkl HA.out (by rw [← Ht.out, ← Hn.out]; exact ⟨h6, h4⟩)
            clear Ht hrg ok Hn
            go_wp2
            go_round
            case rel => exact ⟨k + 1, by omega, by go_num, HN⟩
            case measure => simp [intOf]; omega
          · have h4' : decide ((1000 : Int) < (t.size : Int)) = true := by rw [decide_eq_true_eq]; omega
            have HN : Hid (bigP l = true) := bigP_yes k hkl (.inr (by rw [← Ht.out]; omega))
            clear Ht hrg ok Hn
            go_wp2
            go_ret
            exact ⟨by rw [HN.out]; rfl, rfl⟩
        · have h6' : decide ((60 : Int) < (n : Int)) = true := by rw [decide_eq_true_eq]; omega
          have HN : Hid (bigP l = true) := bigP_yes k hkl (.inl (by rw [← Hn.out]; omega))
          clear Ht hrg ok Hn
          go_wp2
          go_ret
          exact ⟨by rw [HN.out]; rfl, rfl⟩
      · obtain rfl : len = k := by omega
        have hd : decide ((len : Int) < (len : Int)) = false := by rw [decide_eq_false_iff_not]; omega
        have HN : Hid (bigP l = false) := bigP_no (by have := HL.out; omega) (by have := HA.out; rwa [List.take_of_length_le (by have := HL.out; omega)] at this)
        go_wp2
        go_ret
        exact ⟨by rw [HN.out]; rfl, rfl⟩
  · have h5' : decide ((20 : Int) < (len : Int)) = true := by rw [decide_eq_true_eq]; omega
    have HN : Hid (bigP l = true) := by show _ = _; unfold bigP; rw [HL.out, decide_eq_true (by omega), Bool.true_or]
    clear h hc
    go_enter Tryz.func12, Tryz.ntmps12
    go_wp2
    go_ret
    exact ⟨by rw [HN.out]; rfl, rfl⟩
structure HeldZ (w : World) (K I S : Array Value) (g7 g8 : Nat) (aa : Option Addr) (len ca : Nat) (l : List StV) (V : World) : Prop where
  w : HeldW w K V
  p : InP V aa len ca l
  i : V.heap[g7]? = some (.cells I 37 (0, 0))
  s : V.heap[g8]? = some (.cells S 28 (0, 0))
theorem HeldZ.keep {w : World} {K I S : Array Value} {g7 g8 : Nat} {aa : Option Addr} {len ca : Nat} {l : List StV} {V V' : World} (h : HeldZ w K I S g7 g8 aa len ca l V) (hb : Below V.heap.size V V') : HeldZ w K I S g7 g8 aa len ca l V' :=
  ⟨h.w.keep hb, h.p.keep hb, (hb.block _ (heap_lt h.i)).trans h.i, (hb.block _ (heap_lt h.s)).trans h.s⟩
theorem key_t {l m : List StV} (h : l.map keyV = m.map keyV) : l.map StV.t = m.map StV.t := by
  have := congrArg (List.map Prod.fst) h
  rw [List.map_map, List.map_map] at this
  exact this
theorem key_end {l m : List StV} (h : l.map keyV = m.map keyV) : l.length = m.length ∧ endX l = endX m ∧ endS l = endS m := by
  have hl : l.length = m.length := by have := congrArg List.length h; simpa using this
  have hg : ∀ i (h1 : i < l.length) (h2 : i < m.length), l[i].t = m[i].t := fun i h1 h2 => by
    have e1 : (l.map keyV)[i]? = (m.map keyV)[i]? := by rw [h]
    rw [List.getElem?_map, List.getElem?_map, List.getElem?_eq_getElem h1, List.getElem?_eq_getElem h2] at e1
    exact congrArg Prod.fst (Option.some.inj e1)
  refine ⟨hl, ?_, ?_⟩
  · unfold endX
    rw [hl]
    by_cases hc : 1 ≤ m.length ∧ m.length ≤ 5
    · rw [if_pos hc, if_pos hc, List.headD_eq_head?_getD, List.headD_eq_head?_getD, List.head?_eq_getElem?, List.head?_eq_getElem?, List.getElem?_eq_getElem (by omega), List.getElem?_eq_getElem (by omega)]
      exact congrArg StT.x (hg 0 (by omega) (by omega))
    · rw [if_neg hc, if_neg hc]
  · unfold endS
    rw [hl]
    by_cases hc : 1 ≤ m.length ∧ m.length ≤ 5
    · rw [if_pos hc, if_pos hc, List.getLastD_eq_getLast?, List.getLastD_eq_getLast?, List.getLast?_eq_getElem?, List.getLast?_eq_getElem?, hl, List.getElem?_eq_getElem (by omega), List.getElem?_eq_getElem (by omega)]
      exact congrArg StT.h (hg (m.length - 1) (by omega) (by omega))
    · rw [if_neg hc, if_neg hc]
set_option maxHeartbeats 32000000 in
theorem pathVerifies_of (hc : HistoryC) (hd : HeadC) (pc : PathC) (z0 : List UInt8) (a : Option Addr) (len cap : Nat) (l : List StV) (w : World) (K : Array Value) (HK : Hid (K = (cellsOf z0).toArray)) (w0 : z0.length = 32) (h : SReads w a len cap l) (hn : a = none → cap = 0) (hv : ∀ v ∈ l, CmV w v) (hT : TabH w) (hU : Table 0 w) :
    Calls Tryz.prog 4 #[.agg K, .slice a len cap] w fun e w' => e = .returned (.bool true) ∧ Below w.heap.size w w' := by
  have HSK : Hid ((Tryz.prog.info? 48).map (·.size) = some K.size) := by show _ = _; rw [sizeY, HK.out]; simp [cellsOf_length, w0]
  have H0 : Hid (HeldW w K (w.alloc (.cells K 48))) := ⟨(Below.refl _ _).alloc (Nat.le_refl _) _, heap_alloc_new w _⟩
  have hmx : len ≤ 9223372036854775807 := by have := h.mx; unfold maxLen at this; omega
  have PT : Hid (∀ W, Below w.heap.size w W → Calls Tryz.prog 10 #[] W fun e w' => e = .returned (.bool true) ∧ Below W.heap.size W w') := fun W hb => paths_true hc hd pc W (hT.keep hb)
  obtain ⟨b, Hb⟩ : ∃ b, Hid (bigP l = b) := ⟨_, hidk rfl⟩
  have BG : Hid (∀ W, Below w.heap.size w W → Calls Tryz.prog 12 #[.slice a len cap] W fun e w' => e = .returned (.bool b) ∧ W = w') := fun W hb => by
    rw [← Hb.out]
    exact refBigP_any a len cap l W (h.keep hb) fun v hx => ⟨(hv v hx).x.e.t, (hv v hx).p.2.2.2.1⟩
  cases b
  · have hin := small_in h hn hv Hb.out
    have hb60 : ∀ v ∈ l, v.n ≤ 60 := fun v hx => ((bigP_false Hb.out).2 v hx).1
    have hl20 := (bigP_false Hb.out).1
    have hln := h.ln
    obtain ⟨E, HE⟩ : ∃ E, Hid (pathE z0 (l.map StV.t) = E) := ⟨_, hidk rfl⟩
    obtain ⟨F, HF⟩ : ∃ E, Hid (endE l = E) := ⟨_, hidk rfl⟩
    have xok : OkE (endX l).e := by
      unfold endX
      split
      · cases l with
        | nil => exact zeroE_ok
        | cons v t => exact (h.ok v (List.mem_cons_self ..)).x
      · exact zeroE_ok
    have sok : (endS l).h.d.length = 32 ∧ (endS l).g.length = 32 := by
      unfold endS
      split
      · rename_i hcc
        rw [List.getLastD_eq_getLast?, List.getLast?_eq_getElem?, List.getElem?_eq_getElem (by omega)]
        have := h.ok _ (List.getElem_mem (show l.length - 1 < l.length by omega))
        exact ⟨this.d, this.g⟩
      · exact ⟨rfl, rfl⟩
    obtain ⟨I, HI, HSI, H1I, N110⟩ := item_row (endX l) xok
    obtain ⟨S, HS, HSS, H1S, N69⟩ := sign_row (endS l) sok.1 sok.2
    obtain ⟨ZI, HZI, HAI, HBI, Z110⟩ := noughtsI
    obtain ⟨ZS, HZS, HAS, HBS, Z69⟩ := noughtsS
    have HZII : Hid (ZI.size = I.size) := by show _ = _; rw [Z110.out, N110.out]
    have HZSS : Hid (ZS.size = S.size) := by show _ = _; rw [Z69.out, N69.out]
    have eqi : ∀ W, (binOp .eql 37 (.agg I) (.agg I)).run Tryz.prog W = .ok (.bool true) W := fun W => eqItem _ _ xok xok I I HI HI true (by simp) W
    have eqs : ∀ W, (binOp .eql 28 (.agg S) (.agg S)).run Tryz.prog W = .ok (.bool true) W := fun W => eqSigned _ _ sok.1 sok.1 sok.2 sok.2 S S HS HS true (by simp) W
    have OWN : Hid (∀ W, Below w.heap.size w W → Calls Tryz.prog 13 #[.slice a len cap] W fun e w' => ∃ aa ca l', e = .returned (.slice aa len ca) ∧ InP w' aa len ca l' ∧ l'.map keyV = l.map keyV ∧ Below W.heap.size W w') := fun W hb => rOwn a len cap l W (hin.keep hb) hb60
    have VE : Hid (∀ W, Below w.heap.size w W → Calls Tryz.prog 14 #[.agg K, .slice a len cap] W fun e w' => e = .returned (.int .i64 E) ∧ Below W.heap.size W w') := fun W hb => by
      rw [← HE.out]
      exact pc.verify z0 a len cap l W K HK w0 (hin.keep hb) (hT.keep hb)
    have EN : Hid (∀ W, Below w.heap.size w W → Calls Tryz.prog 15 #[.slice a len cap] W fun e w' => e = .returned (.tuple #[.agg I, .agg S, .int .i64 F]) ∧ Below W.heap.size W w') := fun W hb => by
      rw [← HF.out]
      exact pc.ends a len cap l W (hin.keep hb) I S HI HS
    have RVF : Hid (∀ W aa ca l', Below w.heap.size w W → InP W aa len ca l' → l'.map keyV = l.map keyV → Calls Tryz.prog 16 #[.agg K, .slice aa len ca] W fun e w' => e = .returned (.int .i64 E) ∧ Below W.heap.size W w') := fun W aa ca l' hb hi hk => by
      have := rVerify z0 aa len ca l' W K HK w0 hi (hU.keep hb)
      rwa [key_t hk, HE.out] at this
    have ALL : Hid (∀ W aa ca l', Below w.heap.size w W → InP W aa len ca l' → l'.map keyV = l.map keyV → Calls Tryz.prog 17 #[.slice a len cap, .slice aa len ca] W fun e w' => e = .returned (.bool true) ∧ Below W.heap.size W w') := fun W aa ca l' hb hi hk => rAll a len cap l aa ca l' W (hin.keep hb) hi hk
    -- the ends of the copy
    have END : Hid (∀ aa ca l' W, InP W aa len ca l' → l'.map keyV = l.map keyV → 1 ≤ len ∧ len ≤ 5 → F = 0 ∧ ∃ g o m, aa = some ⟨g, o, none⟩ ∧ len = m + 1 ∧ g < W.heap.size ∧ W.rangeAt g (o + 1) I.toList ∧ W.rangeAt g (o + 181 * m + 112) S.toList) := fun aa ca l' W hi hk hcc => by
      obtain ⟨e1, e2, e3⟩ := key_end hk
      have hl' := hi.rd.ln
      obtain ⟨m, hm⟩ : ∃ m, len = m + 1 := ⟨len - 1, by omega⟩
      obtain ⟨g, o, rfl, hg⟩ := hi.rd.at (by omega)
      have hc' : 1 ≤ l'.length ∧ l'.length ≤ 5 := by omega
      refine ⟨by rw [← HF.out]; unfold endE; rw [if_pos (by omega)], g, o, m, rfl, hm, hg, ?_, ?_⟩
      · have eX : endX l' = (l'[0]'(by omega)).x := by
          unfold endX
          rw [if_pos hc', List.headD_eq_head?_getD, List.head?_eq_getElem?, List.getElem?_eq_getElem (by omega)]
          rfl
        have := range_stx (hi.rd.range 0 (by omega))
        rw [HI.out, ← e2, eX]
        simpa using this
      · have eS : endS l' = (l'[m]'(by omega)).h := by
          unfold endS
          rw [if_pos hc', List.getLastD_eq_getLast?, List.getLast?_eq_getElem?, show l'.length - 1 = m by omega, List.getElem?_eq_getElem (by omega)]
          rfl
        have := range_sth (hi.rd.ok _ (List.getElem_mem (show m < l'.length by omega))) (hi.rd.range m (by omega))
        rw [HS.out, ← e3, eS]
        simpa using this
    have NOE : ¬ (1 ≤ len ∧ len ≤ 5) → F = 130 ∧ I = ZI ∧ S = ZS := fun hcc => by
      refine ⟨by rw [← HF.out]; unfold endE; rw [if_neg (by omega)], ?_, ?_⟩
      · rw [HI.out, HZI.out]; unfold endX; rw [if_neg (by omega)]
      · rw [HS.out, HZS.out]; unfold endS; rw [if_neg (by omega)]
    have HNOE := hidk NOE
    clear NOE
    clear HK h hn hv hT hU hc hd pc hin hb60 Hb HE HF HI HS HZI HZS xok sok hln N110 N69 Z110 Z69 w0
    go_enter Tryz.func4, Tryz.ntmps4
    go_wp2_with fail
    refine (BG.out _ H0.out.b).mono ?_
    rintro e w1 ⟨rfl, rfl⟩
    clear BG
    go_wp2_with fail
    refine (OWN.out _ H0.out.b).mono ?_
    rintro e w2 ⟨aa, ca, l', rfl, hi2, hk2, hb2⟩
    have H2 := hidk (H0.out.keep hb2)
    have HI2 := hidk hi2
    have HKY := hidk hk2
    clear hi2 hk2 hb2 H0 OWN
    go_wp2_with (first
      | ((with_reducible show aD 15 _ _ _ _ _ _ _ _ _ _ _); refine wpList_load_row_w (by rfl) 48 (.tmp 2) rfl w.heap.size rfl 48 K (0, 0) _ H2.out.k Tryz.underlying48 rfl HSK.out ?_; try simp only [Act.put, pS1, pS2, pS3])
      | fail)
    refine (VE.out _ H2.out.b).mono ?_
    rintro e w3 ⟨rfl, hb3⟩
    have H3 := hidk (H2.out.keep hb3)
    have HI3 := hidk (HI2.out.keep hb3)
    clear hb3 H2 HI2 VE
    go_wp2_with fail
    refine (EN.out _ H3.out.b).mono ?_
    rintro e w4 ⟨rfl, hb4⟩
    have H4 := hidk (H3.out.keep hb4)
    have HI4 := hidk (HI3.out.keep hb4)
    clear hb4 H3 HI3 EN
    by_cases hc5 : 1 ≤ len ∧ len ≤ 5
    · obtain ⟨hF, g, o, m, ea, hm, hg, _, _⟩ := END.out _ _ _ _ HI4.out HKY.out hc5
      subst hF
      subst ea
      have RX : Hid (∀ V, InP V (some ⟨g, o, none⟩) len ca l' → V.rangeAt g (o + 1) I.toList) := fun V hp => by
        obtain ⟨_, g', o', m', ea, hm', _, rx, _⟩ := END.out _ _ _ _ hp HKY.out hc5
        cases ea
        exact rx
      have RS : Hid (∀ V, InP V (some ⟨g, o, none⟩) len ca l' → V.rangeAt g (o + 181 * m + 112) S.toList) := fun V hp => by
        obtain ⟨_, g', o', m', ea, hm', _, _, rs⟩ := END.out _ _ _ _ hp HKY.out hc5
        cases ea
        obtain rfl : m' = m := by omega
        exact rs
      have p1 : 1 ≤ len := hc5.1
      have p5 : len ≤ 5 := hc5.2
      have d5 : decide ((len : Int) ≤ 5) = true := decide_eq_true (by omega)
      have ic0 : ∀ W, (Instr.indexAt 49 (.slice (some ⟨g, o, none⟩) len ca) (.int .i64 0)).run Tryz.prog W = .ok (.pointer (some ⟨g, o, none⟩)) W := fun W => by
        have := index_st W g o len ca 0 .i64 (by omega)
        simpa using this
      have icm : ∀ W, (Instr.indexAt 49 (.slice (some ⟨g, o, none⟩) len ca) (.int .i64 (m : Int))).run Tryz.prog W = .ok (.pointer (some ⟨g, o + 181 * m, none⟩)) W := fun W => index_st W g o len ca m .i64 (by omega)
      have hsub : IntKind.i64.wrap ((len : Int) - 1) = (m : Int) := by rw [wrap_int _ (by omega) (by omega)]; omega
      clear END HNOE hg hm hc5
      go_wp2_with (first
        | ((with_reducible show aD 7 _ _ _ _ _ _ _ _ _ _ _); refine wpList_new_var rfl 37 rfl ZI HAI.out ?_; intro g7 w5 HM7; skip; try simp only [Act.put, pS1, pS2, pS3])
        | ((with_reducible show aD 8 _ _ _ _ _ _ _ _ _ _ _); refine wpList_new_var rfl 28 rfl ZS HAS.out ?_; intro g8 w6 HM8; have hq2 : Below w4.heap.size w4 w6 := HM7.out.below.trans (HM8.out.below.mono HM7.out.below.size); have HR7 := hidk ((HM8.out.below.block _ (heap_lt HM7.out.row)).trans HM7.out.row); have HR8 := hidk HM8.out.row; have ne : g7 ≠ g8 := (by have := heap_lt HM7.out.row; rw [HM8.out.new]; omega); have l7 : w4.heap.size ≤ g7 := (by rw [HM7.out.new]; exact Nat.le_refl _); have l8 : w4.heap.size ≤ g8 := (by rw [HM8.out.new]; exact HM7.out.below.size); have HB6 := hidk hq2; clear hq2; try simp only [Act.put, pS1, pS2, pS3])
        | (refine wpList_set_var rfl 37 (.tmp 7) (.tmp 21) rfl g7 I rfl rfl 37 ZI HR7.out HSI.out HZII.out H1I.out ?_; intro w7 HW7; have HR7b := hidk HW7.out.row; have HR8b := hidk ((HW7.out.other _ ne.symm).trans HR8.out); have HB7 := hidk (HW7.out.below _ _ HB6.out l7); try simp only [Act.put, pS1, pS2, pS3])
        | (refine wpList_set_var rfl 28 (.tmp 8) (.tmp 22) rfl g8 S rfl rfl 28 ZS HR8b.out HSS.out HZSS.out H1S.out ?_; intro w8 HW8; have hb8 := HW8.out.below _ _ HB7.out l8; have H8 : Hid (HeldZ w K I S g7 g8 (some ⟨g, o, none⟩) len ca l' w8) := ⟨H4.out.keep hb8, HI4.out.keep hb8, (HW8.out.other _ ne).trans HR7b.out, HW8.out.row⟩; clear hb8; try simp only [Act.put, pS1, pS2, pS3])
        | fail)
      clear HM7 HM8 HW7 HW8 HR7 HR8 HR7b HR8b HB6 HB7 l7 l8 ne H4 HI4
      refine wp_region_held_drew (S := (HeldZ w K I S g7 g8 (some ⟨g, o, none⟩) len ca l')) (by kernel_rfl) (H8.out.keep (Below.refl _ _).drew) (fun hHeld => ?_)
      refine zX 0 (.int .i64 0) rfl hHeld ?_
      try simp only [Act.put, pS1, pS2, pS3]
      refine zX 1 (.bool true) rfl hHeld ?_
      try simp only [Act.put, pS1, pS2, pS3]
      refine zX 2 (.bool true) rfl hHeld ?_
      try simp only [Act.put, pS1, pS2, pS3]
      refine zW 3 (.agg I) rfl (yieldsIf_mid (by rfl) 37 (.tmp 7) rfl g7 0 rfl I _ (fun V hv => range_row (l := I.toList) (W := V) (g := g7) (by simpa using hv.i)) Tryz.underlying37 rfl HSI.out) hHeld ?_
      try simp only [Act.put, pS1, pS2, pS3]
      refine zX 4 (.slice (some ⟨g, o, none⟩) len ca) rfl hHeld ?_
      try simp only [Act.put, pS1, pS2, pS3]
      refine zW 5 (.pointer (some ⟨g, o, none⟩)) rfl (Or.inl ⟨by rfl, by intro W hSw; have := ic0 W; go_simp⟩) hHeld ?_
      try simp only [Act.put, pS1, pS2, pS3]
      refine zX 6 (.pointer (some ⟨g, o + 1, none⟩)) rfl hHeld ?_
      try simp only [Act.put, pS1, pS2, pS3]
      refine zW 7 (.agg I) rfl (yieldsIf_mid (by rfl) 37 (.tmp 50) rfl g (o + 1) rfl I _ (fun V hv => RX.out V hv.p) Tryz.underlying37 rfl HSI.out) hHeld ?_
      try simp only [Act.put, pS1, pS2, pS3]
      refine zW 8 (.bool true) rfl (Or.inl ⟨by rfl, by intro W hSw; have := eqi W; go_simp⟩) hHeld ?_
      try simp only [Act.put, pS1, pS2, pS3]
      refine zX 9 (.bool true) rfl hHeld ?_
      try simp only [Act.put, pS1, pS2, pS3]
      refine zX 10 (.bool true) rfl hHeld ?_
      try simp only [Act.put, pS1, pS2, pS3]
      refine zW 11 (.agg S) rfl (yieldsIf_mid (by rfl) 28 (.tmp 8) rfl g8 0 rfl S _ (fun V hv => range_row (l := S.toList) (W := V) (g := g8) (by simpa using hv.s)) Tryz.underlying28 rfl HSS.out) hHeld ?_
      try simp only [Act.put, pS1, pS2, pS3]
      refine zX 12 (.slice (some ⟨g, o, none⟩) len ca) rfl hHeld ?_
      try simp only [Act.put, pS1, pS2, pS3]
      refine zX 13 (.slice (some ⟨g, o, none⟩) len ca) rfl hHeld ?_
      try simp only [Act.put, pS1, pS2, pS3]
      refine zX 14 (.int .i64 (len : Int)) rfl hHeld ?_
      try simp only [Act.put, pS1, pS2, pS3]
      refine zX 15 (.int .i64 (m : Int)) rfl hHeld ?_
      try simp only [Act.put, pS1, pS2, pS3]
      refine zW 16 (.pointer (some ⟨g, o + 181 * m, none⟩)) rfl (Or.inl ⟨by rfl, by intro W hSw; have := icm W; go_simp⟩) hHeld ?_
      try simp only [Act.put, pS1, pS2, pS3]
      refine zX 17 (.pointer (some ⟨g, o + 181 * m + 112, none⟩)) rfl hHeld ?_
      try simp only [Act.put, pS1, pS2, pS3]
      refine zW 18 (.agg S) rfl (yieldsIf_mid (by rfl) 28 (.tmp 61) rfl g (o + 181 * m + 112) rfl S _ (fun V hv => RS.out V hv.p) Tryz.underlying28 rfl HSS.out) hHeld ?_
      try simp only [Act.put, pS1, pS2, pS3]
      refine zW 19 (.bool true) rfl (Or.inl ⟨by rfl, by intro W hSw; have := eqs W; go_simp⟩) hHeld ?_
      try simp only [Act.put, pS1, pS2, pS3]
      refine zX 20 (.bool true) rfl hHeld ?_
      try simp only [Act.put, pS1, pS2, pS3]
      refine zX 21 (.bool true) rfl hHeld ?_
      try simp only [Act.put, pS1, pS2, pS3]
      refine wpAnyH_done (by kernel_rfl) ?_ _
      have H9 := hidk hHeld
      clear hHeld H8
      go_wp2_with fail
      refine (PT.out _ H9.out.w.b).mono ?_
      rintro e y1 ⟨rfl, hy1⟩
      have G1 := hidk (H9.out.keep hy1)
      clear hy1 PT H9
      go_wp2_with (first
        | ((with_reducible show aD 68 _ _ _ _ _ _ _ _ _ _ _); refine wpList_load_row_w (by rfl) 48 (.tmp 2) rfl w.heap.size rfl 48 K (0, 0) _ G1.out.w.k Tryz.underlying48 rfl HSK.out ?_; try simp only [Act.put, pS1, pS2, pS3])
        | fail)
      refine (RVF.out _ _ _ _ G1.out.w.b G1.out.p HKY.out).mono ?_
      rintro e y2 ⟨rfl, hy2⟩
      have G2 := hidk (G1.out.keep hy2)
      clear hy2 G1 RVF
      go_wp2_with fail
      refine (ALL.out _ _ _ _ G2.out.w.b G2.out.p HKY.out).mono ?_
      rintro e y3 ⟨rfl, hy3⟩
      have G3 := hidk (G2.out.keep hy3)
      clear hy3 G2 ALL
      go_wp2
      go_ret
      exact ⟨rfl, G3.out.w.b⟩
    · obtain ⟨hF, hI, hS⟩ := HNOE.out hc5
      subst hF
      subst hI
      subst hS
      clear END HNOE HZII HZSS
      by_cases hl0 : len = 0
      · subst hl0
        clear hc5
        go_wp2_with (first
          | ((with_reducible show aD 7 _ _ _ _ _ _ _ _ _ _ _); refine wpList_new_var rfl 37 rfl I HAI.out ?_; intro g7 w5 HM7; skip; try simp only [Act.put, pS1, pS2, pS3])
          | ((with_reducible show aD 8 _ _ _ _ _ _ _ _ _ _ _); refine wpList_new_var rfl 28 rfl S HAS.out ?_; intro g8 w6 HM8; have hq2 : Below w4.heap.size w4 w6 := HM7.out.below.trans (HM8.out.below.mono HM7.out.below.size); have HR7 := hidk ((HM8.out.below.block _ (heap_lt HM7.out.row)).trans HM7.out.row); have HR8 := hidk HM8.out.row; have ne : g7 ≠ g8 := (by have := heap_lt HM7.out.row; rw [HM8.out.new]; omega); have l7 : w4.heap.size ≤ g7 := (by rw [HM7.out.new]; exact Nat.le_refl _); have l8 : w4.heap.size ≤ g8 := (by rw [HM8.out.new]; exact HM7.out.below.size); have HB6 := hidk hq2; clear hq2; try simp only [Act.put, pS1, pS2, pS3])
          | (refine wpList_set_var rfl 37 (.tmp 7) (.tmp 21) rfl g7 I rfl rfl 37 I HR7.out HSI.out rfl H1I.out ?_; intro w7 HW7; have HR7b := hidk HW7.out.row; have HR8b := hidk ((HW7.out.other _ ne.symm).trans HR8.out); have HB7 := hidk (HW7.out.below _ _ HB6.out l7); try simp only [Act.put, pS1, pS2, pS3])
          | (refine wpList_set_var rfl 28 (.tmp 8) (.tmp 22) rfl g8 S rfl rfl 28 S HR8b.out HSS.out rfl H1S.out ?_; intro w8 HW8; have hb8 := HW8.out.below _ _ HB7.out l8; have H8 : Hid (HeldZ w K I S g7 g8 aa _ ca l' w8) := ⟨H4.out.keep hb8, HI4.out.keep hb8, (HW8.out.other _ ne).trans HR7b.out, HW8.out.row⟩; clear hb8; try simp only [Act.put, pS1, pS2, pS3])
          | ((with_reducible show aD 27 _ _ _ _ _ _ _ _ _ _ _); refine wpList_load_row_w (by rfl) 37 (.tmp 7) rfl g7 rfl 37 I (0, 0) _ H8.out.i Tryz.underlying37 rfl HSI.out ?_; try simp only [Act.put, pS1, pS2, pS3])
          | ((with_reducible show aD 28 _ _ _ _ _ _ _ _ _ _ _); refine wpList_build_none_w (by rfl) 37 rfl I HBI.out ?_; try simp only [Act.put, pS1, pS2, pS3])
          | ((with_reducible show aD 32 _ _ _ _ _ _ _ _ _ _ _); refine wpList_load_row_w (by rfl) 28 (.tmp 8) rfl g8 rfl 28 S (0, 0) _ H8.out.s Tryz.underlying28 rfl HSS.out ?_; try simp only [Act.put, pS1, pS2, pS3])
          | ((with_reducible show aD 33 _ _ _ _ _ _ _ _ _ _ _); refine wpList_build_none_w (by rfl) 28 rfl S HBS.out ?_; try simp only [Act.put, pS1, pS2, pS3])
          | fail)
        clear HM7 HM8 HW7 HW8 HR7 HR8 HR7b HR8b HB6 HB7 l7 l8 ne H4 HI4
        refine (PT.out _ H8.out.w.b).mono ?_
        rintro e y1 ⟨rfl, hy1⟩
        have G1 := hidk (H8.out.keep hy1)
        clear hy1 PT H8
        go_wp2_with (first
          | ((with_reducible show aD 68 _ _ _ _ _ _ _ _ _ _ _); refine wpList_load_row_w (by rfl) 48 (.tmp 2) rfl w.heap.size rfl 48 K (0, 0) _ G1.out.w.k Tryz.underlying48 rfl HSK.out ?_; try simp only [Act.put, pS1, pS2, pS3])
          | fail)
        refine (RVF.out _ _ _ _ G1.out.w.b G1.out.p HKY.out).mono ?_
        rintro e y2 ⟨rfl, hy2⟩
        have G2 := hidk (G1.out.keep hy2)
        clear hy2 G1 RVF
        go_wp2_with fail
        refine (ALL.out _ _ _ _ G2.out.w.b G2.out.p HKY.out).mono ?_
        rintro e y3 ⟨rfl, hy3⟩
        have G3 := hidk (G2.out.keep hy3)
        clear hy3 G2 ALL
        go_wp2
        go_ret
        exact ⟨rfl, G3.out.w.b⟩
      · have p1 : 1 ≤ len := by omega
        have d5 : decide ((len : Int) ≤ 5) = false := decide_eq_false (by omega)
        clear hc5 hl0
        go_wp2_with (first
          | ((with_reducible show aD 7 _ _ _ _ _ _ _ _ _ _ _); refine wpList_new_var rfl 37 rfl I HAI.out ?_; intro g7 w5 HM7; skip; try simp only [Act.put, pS1, pS2, pS3])
          | ((with_reducible show aD 8 _ _ _ _ _ _ _ _ _ _ _); refine wpList_new_var rfl 28 rfl S HAS.out ?_; intro g8 w6 HM8; have hq2 : Below w4.heap.size w4 w6 := HM7.out.below.trans (HM8.out.below.mono HM7.out.below.size); have HR7 := hidk ((HM8.out.below.block _ (heap_lt HM7.out.row)).trans HM7.out.row); have HR8 := hidk HM8.out.row; have ne : g7 ≠ g8 := (by have := heap_lt HM7.out.row; rw [HM8.out.new]; omega); have l7 : w4.heap.size ≤ g7 := (by rw [HM7.out.new]; exact Nat.le_refl _); have l8 : w4.heap.size ≤ g8 := (by rw [HM8.out.new]; exact HM7.out.below.size); have HB6 := hidk hq2; clear hq2; try simp only [Act.put, pS1, pS2, pS3])
          | (refine wpList_set_var rfl 37 (.tmp 7) (.tmp 21) rfl g7 I rfl rfl 37 I HR7.out HSI.out rfl H1I.out ?_; intro w7 HW7; have HR7b := hidk HW7.out.row; have HR8b := hidk ((HW7.out.other _ ne.symm).trans HR8.out); have HB7 := hidk (HW7.out.below _ _ HB6.out l7); try simp only [Act.put, pS1, pS2, pS3])
          | (refine wpList_set_var rfl 28 (.tmp 8) (.tmp 22) rfl g8 S rfl rfl 28 S HR8b.out HSS.out rfl H1S.out ?_; intro w8 HW8; have hb8 := HW8.out.below _ _ HB7.out l8; have H8 : Hid (HeldZ w K I S g7 g8 aa _ ca l' w8) := ⟨H4.out.keep hb8, HI4.out.keep hb8, (HW8.out.other _ ne).trans HR7b.out, HW8.out.row⟩; clear hb8; try simp only [Act.put, pS1, pS2, pS3])
          | ((with_reducible show aD 27 _ _ _ _ _ _ _ _ _ _ _); refine wpList_load_row_w (by rfl) 37 (.tmp 7) rfl g7 rfl 37 I (0, 0) _ H8.out.i Tryz.underlying37 rfl HSI.out ?_; try simp only [Act.put, pS1, pS2, pS3])
          | ((with_reducible show aD 28 _ _ _ _ _ _ _ _ _ _ _); refine wpList_build_none_w (by rfl) 37 rfl I HBI.out ?_; try simp only [Act.put, pS1, pS2, pS3])
          | ((with_reducible show aD 32 _ _ _ _ _ _ _ _ _ _ _); refine wpList_load_row_w (by rfl) 28 (.tmp 8) rfl g8 rfl 28 S (0, 0) _ H8.out.s Tryz.underlying28 rfl HSS.out ?_; try simp only [Act.put, pS1, pS2, pS3])
          | ((with_reducible show aD 33 _ _ _ _ _ _ _ _ _ _ _); refine wpList_build_none_w (by rfl) 28 rfl S HBS.out ?_; try simp only [Act.put, pS1, pS2, pS3])
          | fail)
        clear HM7 HM8 HW7 HW8 HR7 HR8 HR7b HR8b HB6 HB7 l7 l8 ne H4 HI4
        refine (PT.out _ H8.out.w.b).mono ?_
        rintro e y1 ⟨rfl, hy1⟩
        have G1 := hidk (H8.out.keep hy1)
        clear hy1 PT H8
        go_wp2_with (first
          | ((with_reducible show aD 68 _ _ _ _ _ _ _ _ _ _ _); refine wpList_load_row_w (by rfl) 48 (.tmp 2) rfl w.heap.size rfl 48 K (0, 0) _ G1.out.w.k Tryz.underlying48 rfl HSK.out ?_; try simp only [Act.put, pS1, pS2, pS3])
          | fail)
        refine (RVF.out _ _ _ _ G1.out.w.b G1.out.p HKY.out).mono ?_
        rintro e y2 ⟨rfl, hy2⟩
        have G2 := hidk (G1.out.keep hy2)
        clear hy2 G1 RVF
        go_wp2_with fail
        refine (ALL.out _ _ _ _ G2.out.w.b G2.out.p HKY.out).mono ?_
        rintro e y3 ⟨rfl, hy3⟩
        have G3 := hidk (G2.out.keep hy3)
        clear hy3 G2 ALL
        go_wp2
        go_ret
        exact ⟨rfl, G3.out.w.b⟩
  · clear HK h hn hv hT hU hc hd pc Hb
    go_enter Tryz.func4, Tryz.ntmps4
    go_wp2_with fail
    refine (BG.out _ H0.out.b).mono ?_
    rintro e w1 ⟨rfl, rfl⟩
    go_wp2
    go_ret
    exact ⟨rfl, H0.out.b⟩
theorem pathVerifies_in (hc : HistoryC) (hd : HeadC) (pc : PathC) (z0 : List UInt8) (a1 : Option Addr) (len1 cap1 : Nat) (z1 : List StV) (w : World) (w0 : z0.length = 32) (w1 : SReads w a1 len1 cap1 z1) (n1 : a1 = none → cap1 = 0) (m1 : ∀ v ∈ z1, CmV w v) (hT : TabH w) (hU : Table 0 w) :
    Calls Tryz.prog 4 #[.agg (cellsOf z0).toArray, .slice a1 len1 cap1] w fun e w' => e = .returned (.bool true) ∧ Below w.heap.size w w' :=
  pathVerifies_of hc hd pc z0 a1 len1 cap1 z1 w _ (hidk rfl) w0 w1 n1 m1 hT hU
end Go.Proofs.YtkmedlfbkddmoaaGreatDoor
