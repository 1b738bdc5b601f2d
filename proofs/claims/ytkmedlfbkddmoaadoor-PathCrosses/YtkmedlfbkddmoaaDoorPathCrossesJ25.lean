/- Texts of our own that the row of PathCrosses leans on, part 25. -/
import Derived.Test.YtkmedlfbkddmoaaDoorPathCrossesJ0
import Derived.Test.YtkmedlfbkddmoaaDoorPathCrossesJ15
import Derived.Test.YtkmedlfbkddmoaaDoorPathCrossesJ17
import Derived.Test.YtkmedlfbkddmoaaDoorPathCrossesJ20
import Derived.Test.YtkmedlfbkddmoaaDoorPathCrossesJ22
import Derived.Test.YtkmedlfbkddmoaaDoorPathCrossesJ24
import Derived.Deep.RegionHeld3
/- Slices of items in memory. -/
namespace Go.Proofs.YtkmedlfbkddmoaaDoor
open Go.RowKit Nums Sums
set_option linter.unusedVariables false
set_option linter.unusedSimpArgs false
set_option maxRecDepth 100000
structure IReads (w : World) (a : Option Addr) (len cap : Nat) (l : List ItT) : Prop where
  ln : l.length = len
  cp : len ≤ cap
  mx : len ≤ maxLen
  ok : ∀ x ∈ l, OkE x.e
  lies : len = 0 ∨ ∃ g o, a = some ⟨g, o, none⟩ ∧ ∀ (i : Nat) (h : i < l.length), w.rangeAt g (o + 110 * i) (icells l[i])
theorem range_lt {w : World} {g o : Nat} {l : List Value} (h : w.rangeAt g o l) (hl : 0 < l.length) : g < w.heap.size := by
  have := h 0 l[0] (List.getElem?_eq_getElem hl)
  exact World.block_lt_of_cell? _ _ this
theorem range_below {B : Nat} {w w' : World} {g o : Nat} {l : List Value} (h : w.rangeAt g o l) (hb : Below B w w') (hg : g < B) : w'.rangeAt g o l := fun j v hj => by
  rw [hb.cell hg]; exact h j v hj
theorem IReads.at {w : World} {a : Option Addr} {len cap : Nat} {l : List ItT} (h : IReads w a len cap l) (h0 : 0 < len) : ∃ g o, a = some ⟨g, o, none⟩ ∧ g < w.heap.size := by
  rcases h.lies with h5 | ⟨g, o, ha, hl⟩
  · omega
  · have h1 := h.ln
    refine ⟨g, o, ha, range_lt (hl 0 (by omega)) ?_⟩
    rw [icells_length _ (h.ok _ (List.getElem_mem (by omega)))]
    omega
theorem IReads.below {w w' : World} {a : Option Addr} {len cap B : Nat} {l : List ItT} (h : IReads w a len cap l) (hb : Below B w w') (hB : ∀ g o, a = some ⟨g, o, none⟩ → 0 < len → g < B) : IReads w' a len cap l := by
  refine ⟨h.ln, h.cp, h.mx, h.ok, ?_⟩
  by_cases h0 : len = 0
  · exact .inl h0
  · rcases h.lies with h5 | ⟨g, o, ha, hl⟩
    · exact .inl h5
    · exact .inr ⟨g, o, ha, fun i hi => range_below (hl i hi) hb (hB g o ha (by omega))⟩
theorem IReads.keep {w w' : World} {a : Option Addr} {len cap : Nat} {l : List ItT} (h : IReads w a len cap l) (hb : Below w.heap.size w w') : IReads w' a len cap l := by
  refine h.below hb fun g o ha h0 => ?_
  obtain ⟨g', o', ha', hl⟩ := h.at h0
  rw [ha] at ha'
  cases ha'
  exact hl
theorem IReads.range {w : World} {g o len cap : Nat} {l : List ItT} (h : IReads w (some ⟨g, o, none⟩) len cap l) (i : Nat) (hi : i < l.length) : w.rangeAt g (o + 110 * i) (icells l[i]) := by
  have h1 := h.ln
  rcases h.lies with h5 | ⟨g', o', ha, hl⟩
  · omega
  · cases ha
    exact hl i hi
theorem IReads.cell {w : World} {g o len cap : Nat} {l : List ItT} (h : IReads w (some ⟨g, o, none⟩) len cap l) (i : Nat) (hi : i < l.length) (j : Nat) (v : Value) (hj : (icells l[i])[j]? = some v) : w.cell? ⟨g, o + 110 * i + j, none⟩ = some v := h.range i hi j v hj
theorem IReads.take {w : World} {a : Option Addr} {len cap : Nat} {l : List ItT} (h : IReads w a len cap l) (k : Nat) (hk : k ≤ len) : IReads w a k cap (l.take k) := by
  have h1 := h.ln
  have h2 := h.cp
  have h3 := h.mx
  refine ⟨by rw [List.length_take]; omega, by omega, by omega, fun x hx => h.ok x (List.mem_of_mem_take hx), ?_⟩
  rcases h.lies with h5 | ⟨g, o, ha, hl⟩
  · exact .inl (by omega)
  · refine .inr ⟨g, o, ha, fun i hi => ?_⟩
    rw [List.length_take] at hi
    rw [List.getElem_take]
    exact hl i (by omega)
theorem ireads_none (w : World) : IReads w none 0 0 [] := ⟨rfl, Nat.le_refl _, Nat.zero_le _, (fun x hx => by cases hx), .inl rfl⟩
theorem icells_p (x : ItT) : (icells x)[0]? = some (.int .i64 x.p) := rfl
theorem range_entry {w : World} {g o : Nat} {x : ItT} (h : w.rangeAt g o (icells x)) : w.rangeAt g (o + 1) (ecells x.e) := fun j v hj => by
  have := h (j + 1) v (by show ([Value.int .i64 x.p] ++ ecells x.e)[j + 1]? = _; simpa using hj)
  rw [← this]
  congr 2
  omega
theorem sizeOfI (w : World) : (sizeOf 43).run Tryd.prog w = .ok 110 w := by
  have hz : (Tryd.prog.info? 43).map (·.size) = some 110 := by kernel_rfl
  cases hq : Tryd.prog.info? 43 with
  | none => simp [hq] at hz
  | some i => simp [hq] at hz; simp [sizeOf, typeInfo, hq, hz]
theorem slice_items (W : World) (g o len cap k : Nat) (hk : k ≤ cap) : (Instr.sliceAt 24 (.slice (some ⟨g, o, none⟩) len cap) none (some (.int .i64 k)) none).run Tryd.prog W = .ok (.slice (some ⟨g, o, none⟩) k cap) W := by
  simp [Instr.sliceAt, Instr.slice, Instr.sliceBounds, Instr.sliceBound, asIntOf, run_underlying Tryd.underlying24, sizeOfI, hk]
  rw [add_plain]
  simp
theorem slice_items_none (W : World) : (Instr.sliceAt 24 (.slice none 0 0) none (some (.int .i64 0)) none).run Tryd.prog W = .ok (.slice none 0 0) W := by
  simp [Instr.sliceAt, Instr.slice, Instr.sliceBounds, Instr.sliceBound, asIntOf, run_underlying Tryd.underlying24, sizeOfI]
theorem index_item (W : World) (g o len cap i : Nat) (k : IntKind) (hi : i < len) : (Instr.indexAt 24 (.slice (some ⟨g, o, none⟩) len cap) (.int k i)).run Tryd.prog W = .ok (.pointer (some ⟨g, o + 110 * i, none⟩)) W := by
  simp [Instr.indexAt, asIntOf, run_underlying Tryd.underlying24, sizeOfI, hi]
  rw [add_plain, Nat.mul_comm]
def icL (l : List ItT) : List Value := l.flatMap icells
theorem icL_nil : icL [] = [] := rfl
theorem icL_cons (x : ItT) (l : List ItT) : icL (x :: l) = icells x ++ icL l := by unfold icL; rw [List.flatMap_cons]
theorem icL_append (l r : List ItT) : icL (l ++ r) = icL l ++ icL r := by unfold icL; rw [List.flatMap_append]
theorem icL_length : ∀ (l : List ItT), (∀ x ∈ l, OkE x.e) → (icL l).length = l.length * 110
  | [], _ => rfl
  | x :: l, h => by
    rw [icL_cons, List.length_append, icells_length _ (h x (by simp)), icL_length l fun y hy => h y (by simp [hy]), List.length_cons]
    omega
theorem icL_at : ∀ (l : List ItT), (∀ x ∈ l, OkE x.e) → ∀ (i : Nat) (hi : i < l.length) (j : Nat) (v : Value), (icells l[i])[j]? = some v → (icL l)[110 * i + j]? = some v
  | [], _, i, hi, _, _, _ => by cases hi
  | x :: l, h, i, hi, j, v, hj => by
    have hx := icells_length _ (h x (by simp))
    rw [icL_cons]
    cases i with
    | zero =>
      have hj' : (icells x)[j]? = some v := hj
      have : j < (icells x).length := (List.getElem?_eq_some_iff.1 hj').1
      rw [List.getElem?_append_left (by omega)]
      simpa using hj'
    | succ i =>
      rw [List.getElem?_append_right (by omega), hx]
      have := icL_at l (fun y hy => h y (by simp [hy])) i (by simpa using hi) j v (by simpa using hj)
      rw [← this]
      congr 1
      omega
theorem icL_back : ∀ (l : List ItT), (∀ x ∈ l, OkE x.e) → ∀ (j : Nat) (v : Value), (icL l)[j]? = some v → ∃ i, ∃ hi : i < l.length, ∃ k, j = 110 * i + k ∧ (icells l[i])[k]? = some v
  | [], _, j, v, hj => by simp [icL_nil] at hj
  | x :: l, h, j, v, hj => by
    have hx := icells_length _ (h x (by simp))
    rw [icL_cons] at hj
    by_cases hlt : j < 110
    · rw [List.getElem?_append_left (by omega)] at hj
      exact ⟨0, by simp, j, by omega, hj⟩
    · rw [List.getElem?_append_right (by omega), hx] at hj
      obtain ⟨i, hi, k, e, hk⟩ := icL_back l (fun y hy => h y (by simp [hy])) _ v hj
      exact ⟨i + 1, by simpa using hi, k, by omega, by simpa using hk⟩
theorem icells_one (x : ItT) : ∀ v ∈ icells x, v.oneCell' = true := by
  intro v hv
  have h := one_cellsI x
  rw [List.all_toArray, List.all_eq_true] at h
  exact h v hv
theorem icL_one (l : List ItT) : ∀ v ∈ icL l, v.oneCell' = true := by
  intro v hv
  obtain ⟨x, _, hv⟩ := List.mem_flatMap.1 hv
  exact icells_one x v hv
theorem IReads.puts {w : World} {ad : Addr} {len cap : Nat} {l : List ItT} (h : IReads w (some ad) len cap l) : ∀ j u, (icL l)[j]? = some u → w.cell? (ad.add j) = some u := fun j u hj => by
  obtain ⟨i, hi, k, rfl, hk⟩ := icL_back l h.ok j u hj
  have h1 := h.ln
  rcases h.lies with h5 | ⟨g, o, ha, hl⟩
  · omega
  · cases ha
    rw [add_plain, ← Nat.add_assoc]
    exact hl i hi k u hk
theorem infoIt : (Tryd.prog.info? 43).map (fun i => (i.zero, i.size, i.bytes)) = some (some (.agg (icells ⟨0, zeroE⟩).toArray), 110, 216) := by kernel_rfl
theorem run_append_items {w : World} {a : Option Addr} {len cap : Nat} {l : List ItT} (h : IReads w a len cap l) (hc0 : a = none → cap = 0) (B n : Nat) (v : Value) (xs : List ItT)
    (hown : w.ownsRow B 43 110 v n (icL xs)) (hB : B ≤ w.heap.size) (hb : n + len ≤ 1000000) :
    ∃ v' w', (Builtin.append_ #[24, 24] 24 #[v, .slice a len cap]).run Tryd.prog w = .ok v' w' ∧
      w'.ownsRow B 43 110 v' (n + len) (icL (xs ++ l)) ∧ w.grownBy w' v.ownBlock := by
  obtain ⟨i0, hi, hz0, hz1, hz2⟩ := info_parts infoIt
  have h1 := h.ln
  cases a with
  | none =>
    obtain rfl : cap = 0 := hc0 rfl
    have hl0 : len = 0 := by have := h.cp; omega
    subst hl0
    obtain rfl : l = [] := List.eq_nil_of_length_eq_zero h1
    refine ⟨v, w, run_append_owned_none (P := Tryd.prog) w B 24 24 43 i0 110 Tryd.underlying24 hi _ n _ hown, ?_, World.grownBy.refl _ _⟩
    simpa using hown
  | some ad =>
    obtain ⟨v', w', hr, ho, hg, _⟩ := run_append_own (P := Tryd.prog) w B 24 24 43 i0 _ 110 216 Tryd.underlying24 hi hz0 hz1 hz2 (by rfl) (by decide) v n _ hown ad len cap (icL l) (by rw [icL_length l h.ok, h1]) h.puts (icL_one l) (by unfold maxLen; omega) (by omega) hB
    refine ⟨v', w', hr, ?_, hg⟩
    rw [icL_append]
    exact ho
theorem IReads.own {w : World} {B n : Nat} {v : Value} {l : List ItT} (h : w.ownsRow B 43 110 v n (icL l)) (hok : ∀ x ∈ l, OkE x.e) : ∃ a cap, v = .slice a n cap ∧ IReads w a n cap l ∧ (a = none → cap = 0) ∧ (∀ g o, a = some ⟨g, o, none⟩ → B ≤ g ∧ v.ownBlock = some g) := by
  have hl : l.length = n := by have := h.1; rw [icL_length l hok] at this; omega
  rcases h.2 with ⟨rfl, h0⟩ | ⟨g, cap, cur, rfl, hb, hg, hc, hm, hs, ht⟩
  · subst h0
    exact ⟨none, 0, rfl, ⟨hl, Nat.le_refl _, Nat.zero_le _, hok, .inl rfl⟩, fun _ => rfl, fun g o e => by cases e⟩
  · refine ⟨some ⟨g, 0, none⟩, cap, rfl, ⟨hl, hc, by omega, hok, .inr ⟨g, 0, rfl, fun i hi j v hj => ?_⟩⟩, (fun e => by cases e), fun g' o' e => by cases e; exact ⟨hb, rfl⟩⟩
    have := h.cells (g := g) rfl _ _ (icL_at l hok i hi j v hj)
    rw [add_plain] at this
    rw [Nat.zero_add]
    simpa using this
def bigL (l : List ItT) : Bool := decide (60 < l.length) || l.any fun x => decide (1000 < x.e.t.size)
theorem bigL_yes {l : List ItT} (i : Nat) (hi : i < l.length) (h : 1000 < l[i].e.t.size) : bigL l = true := by
  unfold bigL
  rw [Bool.or_eq_true, List.any_eq_true]
  exact .inr ⟨l[i], List.getElem_mem hi, by simpa using h⟩
theorem bigL_no {l : List ItT} (hl : l.length ≤ 60) (h : ∀ x ∈ l, x.e.t.size ≤ 1000) : bigL l = false := by
  unfold bigL
  rw [Bool.or_eq_false_iff, List.any_eq_false]
  exact ⟨decide_eq_false (by omega), fun x hx => by have := h x hx; simp; omega⟩
theorem bigL_false {l : List ItT} (h : bigL l = false) : l.length ≤ 60 ∧ ∀ x ∈ l, x.e.t.size ≤ 1000 := by
  unfold bigL at h
  rw [Bool.or_eq_false_iff, List.any_eq_false] at h
  refine ⟨by have := h.1; simp at this; omega, fun x hx => by have := h.2 x hx; simp at this; omega⟩
theorem take_mem_succ {α : Type} {l : List α} {k : Nat} (hk : k < l.length) {P : α → Prop} (h : ∀ x ∈ l.take k, P x) (h1 : P l[k]) : ∀ x ∈ l.take (k + 1), P x := by
  intro x hx
  rw [List.take_succ_eq_append_getElem hk] at hx
  rcases List.mem_append.1 hx with hx | hx
  · exact h x hx
  · obtain rfl : x = l[k] := by simpa using hx
    exact h1
set_option maxHeartbeats 2000000 in
theorem refBig_any (a : Option Addr) (len cap : Nat) (l : List ItT) (w : World) (h : IReads w a len cap l) (ht : ∀ x ∈ l, x.e.t.size ≤ maxLen) :
    Calls Tryd.prog 7 #[.slice a len cap] w fun e w' => e = .returned (.bool (bigL l)) ∧ w = w' := by
  have H := hidk h
  have HL := hidk h.ln
  have HT := hidk ht
  have hmx : len ≤ 9223372036854775807 := by have := h.mx; unfold maxLen at this; omega
  by_cases h5 : len ≤ 60
  · have h5' : decide ((60 : Int) < (len : Int)) = false := by rw [decide_eq_false_iff_not]; omega
    clear h ht
    go_enter Tryd.func7, Tryd.ntmps7
    go_wp2
    go_loop [3] (fun i => ∃ k : Nat, k ≤ len ∧ i = .int .i64 k ∧ Hid (∀ s ∈ l.take k, s.e.t.size ≤ 1000)) (fun i => len - (intOf i).toNat)
    case atStart => exact ⟨0, by omega, rfl, fun s hs => by simp at hs⟩
    case round =>
      obtain ⟨k, hk, rfl, HA⟩ := hrel
      by_cases hlt : k < len
      · obtain ⟨g, o, rfl, hg⟩ := H.out.at (by omega)
        have hkl : k < l.length := by have := HL.out; omega
        obtain ⟨t, Ht⟩ : ∃ t, Hid (t = l[k].e.t) := ⟨_, hidk rfl⟩
        have hc := H.out.cell k hkl 4 (.string t) (by rw [Ht.out]; rfl)
        have hts : t.size ≤ maxLen := by rw [Ht.out]; exact HT.out _ (List.getElem_mem hkl)
        unfold maxLen at hts
        have ix := fun W => index_item W g o len cap k .i64 hlt
        have hd : decide ((k : Int) < (len : Int)) = true := by rw [decide_eq_true_eq]; omega
        have hw1 := wrap_int ((k : Int) + 1) (by omega) (by omega)
        have htm : t.size ≤ 9223372036854775807 := by omega
        by_cases h4 : t.size ≤ 1000
        · have h4' : decide ((1000 : Int) < (t.size : Int)) = false := by rw [decide_eq_false_iff_not]; omega
          have HN : Hid (∀ s ∈ l.take (k + 1), s.e.t.size ≤ 1000) := take_mem_succ hkl HA.out (by rw [← Ht.out]; exact h4)
          clear Ht hkl
          go_wp2
          go_round
          case rel => exact ⟨k + 1, by omega, by go_num, HN⟩
          case measure => simp [intOf]; omega
        · have h4' : decide ((1000 : Int) < (t.size : Int)) = true := by rw [decide_eq_true_eq]; omega
          have HN : Hid (bigL l = true) := bigL_yes k hkl (by rw [← Ht.out]; omega)
          clear Ht hkl
          go_wp2
          go_ret
          exact ⟨by rw [HN.out]; rfl, rfl⟩
      · obtain rfl : len = k := by omega
        have hd : decide ((len : Int) < (len : Int)) = false := by rw [decide_eq_false_iff_not]; omega
        have HN : Hid (bigL l = false) := bigL_no (by have := HL.out; omega) (by have := HA.out; rwa [List.take_of_length_le (by have := HL.out; omega)] at this)
        go_wp2
        go_ret
        exact ⟨by rw [HN.out]; rfl, rfl⟩
  · have h5' : decide ((60 : Int) < (len : Int)) = true := by rw [decide_eq_true_eq]; omega
    have HN : Hid (bigL l = true) := by show _ = _; unfold bigL; rw [HL.out]; simp; left; omega
    clear h ht
    go_enter Tryd.func7, Tryd.ntmps7
    go_wp2
    go_ret
    exact ⟨by rw [HN.out]; rfl, rfl⟩
theorem right_yes {l : List ItT} (hl : l.length ≤ 2000) (h : rightK l l.length = true) : rightL l = true := by
  unfold rightL; rw [h, decide_eq_true hl]; rfl
theorem right_no {l : List ItT} {k : Nat} (hk : k < l.length) (h : okAt l k = false) : rightL l = false := by
  rw [Bool.eq_false_iff]
  intro hr
  have := ((rightL_iff l).1 hr).2 k hk
  rw [h] at this
  cases this
end Go.Proofs.YtkmedlfbkddmoaaDoor
/- A head that is admitted (chapter 13). -/
namespace Go.Proofs.YtkmedlfbkddmoaaDoor
open Nums Sums
set_option linter.unusedVariables false
set_option maxRecDepth 100000
end Go.Proofs.YtkmedlfbkddmoaaDoor
/- The document's Find and Old of logs. -/
namespace Go.Proofs.YtkmedlfbkddmoaaDoor
open Go.RowKit Nums Sums
set_option linter.unusedVariables false
set_option linter.unusedSimpArgs false
set_option maxRecDepth 100000
theorem builtS2 (h : HdT) (n : Int) (hd : h.d.length = 32) (C R : Array Value) (HC : Hid (C = (hcells h).toArray)) (HR : Hid (R = (scells ⟨h, n, List.replicate 32 0⟩).toArray)) : Tryd.prog.built 33 [(0, .agg C), (1, .int .i64 n)] = some R := by
  have hi := infoS
  have hzl := hcells_length zeroH rfl
  cases hq : Tryd.prog.info? 33 with
  | none => rw [hq] at hi; cases hi
  | some i =>
    rw [hq] at hi
    simp only [Option.map_some, Option.some.injEq, Prod.mk.injEq] at hi
    have hH := sizeH
    have hD := size23
    have h3 : (Tryd.prog.info? 3).map (·.size) = some 1 := by kernel_rfl
    cases hqH : Tryd.prog.info? 28 with
    | none => rw [hqH] at hH; cases hH
    | some iH =>
      cases hqD : Tryd.prog.info? 26 with
      | none => rw [hqD] at hD; cases hD
      | some iD =>
        cases hq3 : Tryd.prog.info? 3 with
        | none => rw [hq3] at h3; cases h3
        | some i3 =>
          rw [hqH] at hH
          rw [hqD] at hD
          rw [hq3] at h3
          simp only [Option.map_some, Option.some.injEq] at hH hD h3
          unfold Program.built
          simp only [hq, Tryd.underlying33, hi.1, List.mapM_cons, List.mapM_nil, hqH, hqD, hq3, hH, hD, h3, Option.map_some, Option.bind_eq_bind, Option.bind_some, Option.pure_def]
          show Instr.fill _ (scells zeroS).toArray _ = some R
          have hc36 : C.size = 36 := by rw [HC.out]; simp [hcells_length h hd]
          refine (fill_val _ 0 0 36 (.agg C) C _ [] (hcells zeroH) ([.int .i64 0] ++ cellsOf (List.replicate 32 0)) _ rfl rfl hc36 (by simp [scells, zeroS]) rfl hzl).trans ?_
          refine (fill_val _ 1 36 1 (.int .i64 n) #[.int .i64 n] _ C.toList [.int .i64 0] (cellsOf (List.replicate 32 0)) _ rfl rfl rfl (by simp) (by simpa using hc36) rfl).trans ?_
          simp only [Instr.fill, List.append_nil, Option.some.injEq]
          rw [HR.out, HC.out]
          rfl
theorem step_set_mid {P : Program} {ops : Array Oper} {o : Oper} {a : Act} {w : World} {K : Act → World → Prop} {Q : Exit → Act → World → Prop} {E : Prop} (hw : Region.wanted o (yielded ops a.tmps) = true) (ty : TypeId) (x y : Operand) (ho : o.op = .store ty x y)
    (g k : Nat) (D : Array Value) (hx : a.eval x = .pointer (some ⟨g, k, none⟩)) (hy : a.eval y = .agg D) (t' : TypeId) (Z : Array Value) (hg : w.heap[g]? = some (.cells Z t' (0, 0))) (hk : k + D.size ≤ Z.size) (hi : (P.info? ty).map (·.size) = some D.size) (h1 : D.all (·.oneCell') = true)
    (h : ∀ w', Hid (Wrote g (Z.toList.take k ++ D.toList ++ Z.toList.drop (k + D.size)).toArray t' w w') → K (a.put o.dst undef) w') : if Region.wanted o (yielded ops a.tmps) = true then Oper.wp P o a w K Q else E := by
  rw [if_pos hw]
  have hkk := h _ (wrote_row hg)
  have h1' : ∀ v ∈ D.toList, v.oneCell' = true := by
    intro v hv
    rw [Array.all_eq_true'] at h1
    exact h1 v (by simpa using hv)
  have hst := run_storeCells_at P g k t' D.toList 0 Z w hg (by simpa using hk) h1'
  cases hq : P.info? ty with
  | none => simp [hq] at hi
  | some i =>
    have hs : i.size = D.size := by simpa [hq] using hi
    unfold Oper.wp execOp
    simp only [ho, hx, hy, Instr.storeAt, Instr.sureAddr, Sem.run_bind, Sem.run_pure, Result.andThen_ok]
    simp only [Nat.add_zero, Nat.zero_add] at hst
    simp [storeVar, sizeOf, typeInfo, hq, Value.cells, hs, hst]
    simp only [List.append_assoc] at hkk ⊢
    exact hkk
theorem scells_sign (h : HdT) (n : Int) (t d : List UInt8) (hd : h.d.length = 32) (ht : t.length = 32) : ((scells ⟨h, n, t⟩).toArray.toList.take 37 ++ cellsOf d ++ (scells ⟨h, n, t⟩).toArray.toList.drop (37 + 32)).toArray = (scells ⟨h, n, d⟩).toArray := by
  unfold scells
  congr 1
  have e : ∀ l : List Value, l.toArray.toList = l := fun _ => rfl
  simp only [e, List.drop_append, List.take_append, List.length_append, hcells_length h hd, cellsOf_length, ht, List.length_singleton]
  rw [List.take_of_length_le (l := hcells h) (by rw [hcells_length h hd]; omega), List.drop_of_length_le (l := hcells h) (by rw [hcells_length h hd]; omega), List.drop_of_length_le (l := cellsOf t) (by rw [cellsOf_length, ht]; omega)]
  simp
theorem signsO_may (h : HdT) (n : Int) (g : List UInt8) : mayS ⟨h, n, g⟩ = signsO h n := by
  unfold mayS signsO
  rw [Bool.and_assoc]
set_option maxHeartbeats 8000000 in
theorem hSign_any (master : List UInt8) (h : HdT) (n : Int) (w : World) (M C R : Array Value) (HM : Hid (M = (cellsOf master).toArray)) (HC : Hid (C = (hcells h).toArray)) (hm : master.length = 32) (hd : h.d.length = 32) (hT : TabT w) (HR : Hid (R = (scells (signO master h n)).toArray)) :
    Calls Tryd.prog 9 #[.agg M, .agg C, .int .i64 n] w fun e w' => e = .returned (.tuple #[.agg R, .int .i64 (signE h n)]) ∧ Below w.heap.size w w' := by
  have hnot : ∀ (x : Bool) (w : World), (Op.unary .not (.bool x)).run Tryd.prog w = .ok (.bool (!x)) w := fun _ _ => rfl
  obtain ⟨Z, HZ, HA, HBZ, H69⟩ := noughtsS
  obtain ⟨ZY, HZY, HAY, HY32⟩ := noughtsY
  have HSZ : Hid ((Tryd.prog.info? 33).map (·.size) = some Z.size) := by show _ = _; rw [sizeS, H69.out]
  have H1Z : Hid (Z.all (·.oneCell') = true) := by show _ = _; rw [HZ.out]; exact one_cellsS _
  have HSM : Hid ((Tryd.prog.info? 23).map (·.size) = some M.size) := by show _ = _; rw [sizeY, HM.out]; simp [cellsOf_length, hm]
  have HSC : Hid ((Tryd.prog.info? 28).map (·.size) = some C.size) := by show _ = _; rw [sizeH, HC.out]; simp [hcells_length h hd]
  obtain ⟨S0, HS0, HSS, H1S, HS69⟩ := sign_row ⟨h, n, List.replicate 32 0⟩ hd rfl
  have HZS : Hid (Z.size = S0.size) := by show _ = _; rw [H69.out, HS69.out]
  have HBS : Hid (Tryd.prog.built 33 [(0, .agg C), (1, .int .i64 n)] = some S0) := builtS2 h n hd C S0 HC HS0
  obtain ⟨b, hb⟩ : ∃ b, b = signsO h n := ⟨_, rfl⟩
  have K1 : Hid (∀ W, Calls Tryd.prog 23 #[.agg S0] W fun e w' => e = .returned (.bool b) ∧ Below W.heap.size W w') := fun W => by rw [hb, ← signsO_may h n (List.replicate 32 0)]; exact hMay_any ⟨h, n, List.replicate 32 0⟩ hd W S0 HS0
  have HW0 := hidk (came2 w M C 23 28)
  cases b
  · have HRZ : Hid (R = Z) := by
      show _ = _
      rw [HR.out, HZ.out]; unfold signO; rw [← hb]; rfl
    rw [show signE h n = 70 by unfold signE; rw [← hb]; rfl, HRZ.out]
    clear HM HC hm hT HR HS0 hb HRZ HZ H69 HZY HAY HY32
    go_enter Tryd.func9, Tryd.ntmps9
    go_wp2_with (first
      | (show aD 6 _ _ _ _ _ _ _ _ _ _ _; refine wpList_new_var rfl 33 rfl Z HA.out ?_; intro g6 w1 HM6; try simp only [Act.put, pS1, pS2, pS3])
      | (show aD 11 _ _ _ _ _ _ _ _ _ _ _; refine wpList_load_row rfl 28 (.tmp 4) rfl (w.heap.size + 1) rfl 28 C (0, 0) _ ((HM6.out.below.block _ (heap_lt HW0.out.2.2)).trans HW0.out.2.2) Tryd.underlying28 rfl HSC.out ?_; try simp only [Act.put, pS1, pS2, pS3])
      | (show aD 13 _ _ _ _ _ _ _ _ _ _ _; refine wpList_build_two rfl 33 0 1 (.tmp 11) (.tmp 12) rfl S0 (.agg C) (.int .i64 n) rfl rfl HBS.out ?_; try simp only [Act.put, pS1, pS2, pS3])
      | (show aD 8 _ _ _ _ _ _ _ _ _ _ _; refine wpList_new_var rfl 33 rfl Z HA.out ?_; intro g8 w2 HM8; try simp only [Act.put, pS1, pS2, pS3])
      | (refine wpList_set_var rfl 33 (.tmp 8) (.tmp 13) rfl g8 S0 rfl rfl 33 Z HM8.out.row HSS.out HZS.out H1S.out ?_; intro w3 HW8; try simp only [Act.put, pS1, pS2, pS3])
      | (show aD 14 _ _ _ _ _ _ _ _ _ _ _; refine wpList_load_row rfl 33 (.tmp 8) rfl g8 rfl 33 S0 (0, 0) _ HW8.out.row Tryd.underlying33 rfl HSS.out ?_; try simp only [Act.put, pS1, pS2, pS3])
      | fail)
    have HB1 := hidk (HW0.out.1.trans (HM6.out.below.mono HW0.out.1.size))
    have h6 : w.heap.size ≤ g6 := by rw [HM6.out.new]; exact HW0.out.1.size
    have h8 : g6 < g8 := by rw [HM8.out.new]; exact heap_lt HM6.out.row
    have HB3 := hidk (HW8.out.below _ _ (HB1.out.trans (HM8.out.below.mono HB1.out.size)) (by omega))
    have HR6 := hidk ((HW8.out.other g6 (by omega)).trans ((HM8.out.below.block _ (heap_lt HM6.out.row)).trans HM6.out.row))
    clear HM6 HM8 HW8 HB1 HW0
    refine (K1.out _).mono ?_
    rintro e w4 ⟨rfl, hb4⟩
    have HB4 := hidk (HB3.out.trans (hb4.mono HB3.out.size))
    have HR64 := hidk ((hb4.block _ (heap_lt HR6.out)).trans HR6.out)
    clear hb4 HB3 HR6 K1
    go_wp2_with (first
      | (show aD 17 _ _ _ _ _ _ _ _ _ _ _; refine wpList_build_none rfl 33 rfl Z HBZ.out ?_; try simp only [Act.put, pS1, pS2, pS3])
      | (refine wpList_set_var rfl 33 (.tmp 6) (.tmp 17) rfl g6 Z rfl rfl 33 Z HR64.out HSZ.out rfl H1Z.out ?_; intro w5 HW6; try simp only [Act.put, pS1, pS2, pS3])
      | fail)
    refine bodyPost_ret (v := .tuple #[.agg Z, .int .i64 70]) ?_ rfl ⟨rfl, HW6.out.below w.heap.size w HB4.out h6⟩
    exact results_row_tmp (p := 6) (q := 7) (ty := 33) rfl _ _ g6 33 Z (0, 0) _ rfl HW6.out.row Tryd.underlying33 rfl HSZ.out
  · have ho := signsO_owner h n hb.symm
    have hrt : rightH h = true := by
      have := hb.symm
      unfold signsO at this
      simp only [Bool.and_eq_true] at this
      exact this.1
    have hR2 : R = (scells ⟨h, n, tagD master h n⟩).toArray := by rw [HR.out]; unfold signO; rw [← hb]; rfl
    rw [show signE h n = 0 by unfold signE; rw [← hb]; rfl]
    obtain ⟨r, Hr⟩ : ∃ r, Hid (r = h.r) := ⟨h.r, hidk rfl⟩
    obtain ⟨Ky, HK, HSK, H1K, H32K⟩ := key_row (keyD master r n) (keyD_length sumD_length _ _ _)
    obtain ⟨u, HU⟩ : ∃ u, Hid (u = signT h) := ⟨_, hidk rfl⟩
    obtain ⟨D, HD, HSD, H1D, H32D⟩ := dig_row' (tagD master h n) (tagD_length sumD_length _ _ _)
    have HZK : Hid (ZY.size = Ky.size) := by show _ = _; rw [HY32.out, H32K.out]
    have C1 : Hid (∀ W, Below w.heap.size w W → Calls Tryd.prog 24 #[.agg M, .int .i64 r, .int .i64 n] W fun e w' => e = .returned (.tuple #[.agg Ky, .int .i64 0]) ∧ Below W.heap.size W w') := fun W hbw => by
      have := key_any master r n W M Ky HM hm (hT.keep hbw) (by show _ = _; rw [HK.out, keyO_in _ _ _ (by rw [Hr.out]; exact ho)])
      rwa [show keyE r n = 0 by unfold keyE; rw [if_pos (by rw [Hr.out]; exact ho)]] at this
    have T1 : Hid (∀ W, Calls Tryd.prog 26 #[.agg C] W fun e w' => e = .returned (.string u) ∧ Below W.heap.size W w') := fun W => by rw [HU.out]; exact hText_any h hd W C HC
    have C2 : Hid (∀ W, Below w.heap.size w W → Calls Tryd.prog 25 #[.agg Ky, .string u] W fun e w' => e = .returned (.agg D) ∧ Below W.heap.size W w') := fun W hbw =>
      mac_any (keyD master r n) u W Ky D HK (keyD_length sumD_length _ _ _) (by rw [HU.out]; exact signT_size h hd) (hT.keep hbw) (by show _ = _; rw [HD.out, HU.out, signT_right h hrt, Hr.out]; rfl)
    have HSR : Hid ((Tryd.prog.info? 33).map (·.size) = some R.size) := by show _ = _; rw [sizeS, hR2, List.size_toArray]; exact congrArg some (scells_length _ hd (tagD_length sumD_length _ _ _)).symm
    have H1R : Hid (R.all (·.oneCell') = true) := by show _ = _; rw [hR2]; exact one_cellsS _
    have HZR : Hid (Z.size = R.size) := by show _ = _; rw [H69.out, hR2, List.size_toArray]; exact (scells_length _ hd (tagD_length sumD_length _ _ _)).symm
    have HRR : Hid ((S0.toList.take 37 ++ D.toList ++ S0.toList.drop (37 + D.size)).toArray = R) := by
      show _ = _
      rw [H32D.out, HS0.out, HD.out, hR2]
      exact scells_sign h n (List.replicate 32 0) (tagD master h n) hd rfl
    have HOO : Hid (37 + D.size ≤ S0.size) := by show _ ≤ _; rw [H32D.out, HS69.out]; omega
    have HCr : Hid (∀ (W : World) (g : Nat), W.heap[g]? = some (.cells C 28 (0, 0)) → W.cell? ⟨g, 0, none⟩ = some (.int .i64 r)) := fun W g hh => by
      rw [cell_of_row W g 0 _ _ (0, 0) hh, HC.out, Hr.out]; rfl
    clear HM HC hm hT HR HS0 hb HZ H69 HZY HY32 HK HU HD hR2 ho hrt H32D HS69 H32K Hr
    go_enter Tryd.func9, Tryd.ntmps9
    go_wp2_with (first
      | (show aD 6 _ _ _ _ _ _ _ _ _ _ _; refine wpList_new_var rfl 33 rfl Z HA.out ?_; intro g6 w1 HM6; try simp only [Act.put, pS1, pS2, pS3])
      | (show aD 11 _ _ _ _ _ _ _ _ _ _ _; refine wpList_load_row rfl 28 (.tmp 4) rfl (w.heap.size + 1) rfl 28 C (0, 0) _ ((HM6.out.below.block _ (heap_lt HW0.out.2.2)).trans HW0.out.2.2) Tryd.underlying28 rfl HSC.out ?_; try simp only [Act.put, pS1, pS2, pS3])
      | (show aD 13 _ _ _ _ _ _ _ _ _ _ _; refine wpList_build_two rfl 33 0 1 (.tmp 11) (.tmp 12) rfl S0 (.agg C) (.int .i64 n) rfl rfl HBS.out ?_; try simp only [Act.put, pS1, pS2, pS3])
      | (show aD 8 _ _ _ _ _ _ _ _ _ _ _; refine wpList_new_var rfl 33 rfl Z HA.out ?_; intro g8 w2 HM8; try simp only [Act.put, pS1, pS2, pS3])
      | (refine wpList_set_var rfl 33 (.tmp 8) (.tmp 13) rfl g8 S0 rfl rfl 33 Z HM8.out.row HSS.out HZS.out H1S.out ?_; intro w3 HW8; try simp only [Act.put, pS1, pS2, pS3])
      | (show aD 14 _ _ _ _ _ _ _ _ _ _ _; refine wpList_load_row rfl 33 (.tmp 8) rfl g8 rfl 33 S0 (0, 0) _ HW8.out.row Tryd.underlying33 rfl HSS.out ?_; try simp only [Act.put, pS1, pS2, pS3])
      | fail)
    have HB1 := hidk (HW0.out.1.trans (HM6.out.below.mono HW0.out.1.size))
    have h6 : w.heap.size + 1 < g6 := by rw [HM6.out.new]; exact heap_lt HW0.out.2.2
    have h8 : g6 < g8 := by rw [HM8.out.new]; exact heap_lt HM6.out.row
    have HBa := hidk (HM6.out.below.trans (HM8.out.below.mono HM6.out.below.size))
    have HB3 := hidk (HW8.out.below _ _ (HB1.out.trans (HM8.out.below.mono HB1.out.size)) (by omega))
    have HR6 := hidk ((HW8.out.other g6 (by omega)).trans ((HM8.out.below.block _ (heap_lt HM6.out.row)).trans HM6.out.row))
    have HR8 := hidk HW8.out.row
    have HRM := hidk ((HW8.out.other w.heap.size (by omega)).trans ((HBa.out.block _ (heap_lt HW0.out.2.1)).trans HW0.out.2.1))
    have HRC := hidk ((HW8.out.other (w.heap.size + 1) (by omega)).trans ((HBa.out.block _ (heap_lt HW0.out.2.2)).trans HW0.out.2.2))
    clear HM6 HM8 HW8 HB1 HW0 HBa
    refine (K1.out _).mono ?_
    rintro e w4 ⟨rfl, hb4⟩
    replace HB3 := hidk (HB3.out.trans (hb4.mono HB3.out.size))
    replace HR6 := hidk ((hb4.block _ (heap_lt HR6.out)).trans HR6.out)
    replace HR8 := hidk ((hb4.block _ (heap_lt HR8.out)).trans HR8.out)
    replace HRM := hidk ((hb4.block _ (heap_lt HRM.out)).trans HRM.out)
    replace HRC := hidk ((hb4.block _ (heap_lt HRC.out)).trans HRC.out)
    have hcr := HCr.out w4 _ HRC.out
    clear hb4 K1
    go_wp2_with (first
      | (show aD 19 _ _ _ _ _ _ _ _ _ _ _; refine wpList_load_row rfl 23 (.tmp 3) rfl w.heap.size rfl 23 M (0, 0) _ HRM.out Tryd.underlying23 rfl HSM.out ?_; try simp only [Act.put, pS1, pS2, pS3])
      | fail)
    refine (C1.out _ HB3.out).mono ?_
    rintro e w5 ⟨rfl, hb5⟩
    replace HB3 := hidk (HB3.out.trans (hb5.mono HB3.out.size))
    replace HR6 := hidk ((hb5.block _ (heap_lt HR6.out)).trans HR6.out)
    replace HR8 := hidk ((hb5.block _ (heap_lt HR8.out)).trans HR8.out)
    replace HRC := hidk ((hb5.block _ (heap_lt HRC.out)).trans HRC.out)
    clear hb5 C1 hcr HRM HCr
    go_wp2_with (first
      | (show aD 9 _ _ _ _ _ _ _ _ _ _ _; refine wpList_new_var rfl 23 rfl ZY HAY.out ?_; intro g9 w6 HM9; try simp only [Act.put, pS1, pS2, pS3])
      | (refine wpList_set_var rfl 23 (.tmp 9) (.tmp 24) rfl g9 Ky rfl rfl 23 ZY HM9.out.row HSK.out HZK.out H1K.out ?_; intro w7 HW9; try simp only [Act.put, pS1, pS2, pS3])
      | fail)
    have h9 : g8 < g9 := by rw [HM9.out.new]; exact heap_lt HR8.out
    have HBc : Hid (Below w.heap.size w w7.drew) := (HW9.out.below _ _ (HB3.out.trans (HM9.out.below.mono HB3.out.size)) (by omega)).drew
    replace HR6 := hidk ((HW9.out.other g6 (by omega)).trans ((HM9.out.below.block _ (heap_lt HR6.out)).trans HR6.out))
    replace HR8 := hidk ((HW9.out.other g8 (by omega)).trans ((HM9.out.below.block _ (heap_lt HR8.out)).trans HR8.out))
    replace HRC := hidk ((HW9.out.other (w.heap.size + 1) (by omega)).trans ((HM9.out.below.block _ (heap_lt HRC.out)).trans HRC.out))
    have HR9 := hidk HW9.out.row
    clear HM9 HW9 HB3
    refine wp_region_held_drew (S := (fun W => W.heap[g9]? = some (.cells Ky 23 (0, 0)) ∧ W.heap[w.heap.size + 1]? = some (.cells C 28 (0, 0)))) (by kernel_rfl) ⟨HR9.out, HRC.out⟩ (fun hHeld => ?_)
    refine zW 0 (.agg Ky) rfl (yieldsIf_row (by rfl) 23 (.tmp 9) rfl g9 rfl 23 Ky (0, 0) _ (fun _ h => h.1) Tryd.underlying23 rfl HSK.out) hHeld ?_
    try simp only [Act.put, pS1, pS2, pS3]
    refine zW 1 (.agg C) rfl (yieldsIf_row (by rfl) 28 (.tmp 4) rfl (w.heap.size + 1) rfl 28 C (0, 0) _ (fun _ h => h.2) Tryd.underlying28 rfl HSC.out) hHeld ?_
    try simp only [Act.put, pS1, pS2, pS3]
    refine wpAnyH_ready (rs := [2]) (by kernel_rfl) (by simp) ?_
    refine (AllReadyH.cons (o := { dst := some 28, op := .call { callee := .value (.func 26), args := #[.tmp 27], argTypes := #[28] }, type := 9, pos := "head.go:79", after := #[zD 1], guard := none }) rfl (fun K hK => ?_) AllReadyH.nil)
    go_simp
    refine (T1.out _).mono ?_
    rintro e v2 ⟨rfl, hb2⟩
    replace HBc := hidk (HBc.out.trans (hb2.mono HBc.out.size))
    replace HR6 := hidk ((hb2.block _ (heap_lt HR6.out)).trans HR6.out)
    replace HR8 := hidk ((hb2.block _ (heap_lt HR8.out)).trans HR8.out)
    go_wp2_with fail
    refine hK.out _ _ ⟨(hb2.block _ (heap_lt hHeld.1)).trans hHeld.1, (hb2.block _ (heap_lt hHeld.2)).trans hHeld.2⟩ (fun hHeld => ?_)
    clear hK K
    try simp only [Act.put, pS1, pS2, pS3]
    refine wpAnyH_ready (rs := [3]) (by kernel_rfl) (by simp) ?_
    refine (AllReadyH.cons (o := { dst := some 29, op := .call { callee := .value (.func 25), args := #[.tmp 26, .tmp 28], argTypes := #[23, 9] }, type := 26, pos := "head.go:79", after := #[zD 0, zD 2, zC 2], guard := none }) rfl (fun K hK => ?_) AllReadyH.nil)
    go_simp
    refine (C2.out _ HBc.out).mono ?_
    rintro e v3 ⟨rfl, hb3⟩
    replace HBc := hidk (HBc.out.trans (hb3.mono HBc.out.size))
    replace HR6 := hidk ((hb3.block _ (heap_lt HR6.out)).trans HR6.out)
    replace HR8 := hidk ((hb3.block _ (heap_lt HR8.out)).trans HR8.out)
    go_wp2_with fail
    refine hK.out _ _ ⟨(hb3.block _ (heap_lt hHeld.1)).trans hHeld.1, (hb3.block _ (heap_lt hHeld.2)).trans hHeld.2⟩ (fun hHeld => ?_)
    clear hK K
    try simp only [Act.put, pS1, pS2, pS3]
    refine zX 4 (.pointer (some ⟨g8, 37, none⟩)) rfl hHeld ?_
    try simp only [Act.put, pS1, pS2, pS3]
    refine wpAnyH_ready (rs := [5]) (by kernel_rfl) (by simp) ?_
    refine (AllReadyH.cons (o := { dst := none, op := .store 26 (.tmp 30) (.tmp 29), type := 0, pos := "head.go:79", after := #[zD 4, zD 3, zC 3, zP 0, zP 1, zP 2, zP 3], guard := none }) rfl (fun K hK => ?_) AllReadyH.nil)
    refine step_set_mid (by rfl) 26 (.tmp 30) (.tmp 29) rfl g8 37 D rfl rfl 33 S0 HR8.out HOO.out HSD.out H1D.out ?_
    intro v5 HW8
    refine hK.out _ _ ⟨(HW8.out.other g9 (by omega)).trans hHeld.1, (HW8.out.other (w.heap.size + 1) (by omega)).trans hHeld.2⟩ (fun hHeld => ?_)
    clear hK K
    try simp only [Act.put, pS1, pS2, pS3]
    refine wpAnyH_done (by kernel_rfl) ?_ _
    have HB8 := hidk (HW8.out.below w.heap.size w HBc.out (by omega))
    have HR68 := hidk ((HW8.out.other g6 (by omega)).trans HR6.out)
    have HR88 := hidk HW8.out.row
    rw [HRR.out] at HR88
    clear HW8 HBc HR6 HR8
    go_wp2_with (first
      | (show aD 31 _ _ _ _ _ _ _ _ _ _ _; refine wpList_load_row rfl 33 (.tmp 8) rfl g8 rfl 33 R (0, 0) _ HR88.out Tryd.underlying33 rfl HSR.out ?_; try simp only [Act.put, pS1, pS2, pS3])
      | (refine wpList_set_var rfl 33 (.tmp 6) (.tmp 31) rfl g6 R rfl rfl 33 Z HR68.out HSR.out HZR.out H1R.out ?_; intro w9 HW6; try simp only [Act.put, pS1, pS2, pS3])
      | fail)
    refine bodyPost_ret (v := .tuple #[.agg R, .int .i64 0]) ?_ rfl ⟨rfl, HW6.out.below w.heap.size w HB8.out (by omega)⟩
    exact results_row_tmp (p := 6) (q := 7) (ty := 33) rfl _ _ g6 33 R (0, 0) _ rfl HW6.out.row Tryd.underlying33 rfl HSR.out
def hV (tag : Int) (fs : List (Int × ByteArray)) : HdT := getHO (tkD tag fs).data.toList
def hB (tag : Int) (fs : List (Int × ByteArray)) : Bool := tkB tag fs && (getO (tkD tag fs).data.toList).isSome
theorem irow_row {W : World} {g : Nat} {x : ItT} {X : Array Value} (HX : Hid (X = (icells x).toArray)) {t : TypeId} (h : W.heap[g]? = some (.cells X t (0, 0))) : W.cell? ⟨g, 0, none⟩ = some (.int .i64 x.p) ∧ W.rangeAt g 1 (ecells x.e) := by
  constructor
  · rw [cell_of_row W g 0 X t (0, 0) h, HX.out]; rfl
  · intro j v hj
    rw [cell_of_row W g (1 + j) X t (0, 0) h, HX.out]
    have : (icells x)[1 + j]? = some v := by
      unfold icells
      rw [List.getElem?_append_right (by simp)]
      simpa using hj
    simpa using this
set_option maxHeartbeats 8000000 in
theorem ePutI_any (x : ItT) (hin : InI x) (w : World) (X : Array Value) (HX : Hid (X = (icells x).toArray)) :
    Calls Tryd.prog 34 #[.agg X] w fun e w' => BytesE (iB x) (iE x) e w' ∧ Below w.heap.size w w' := by
  have hnot : ∀ (x : Bool) (w : World), (Op.unary .not (.bool x)).run Tryd.prog w = .ok (.bool (!x)) w := fun _ _ => rfl
  have ok := hin.e.ok
  have HX0 : Hid ((w.alloc (.cells X 43)).heap[w.heap.size]? = some (.cells X 43 (0, 0))) := heap_alloc_new w _
  have HB : Hid (Below w.heap.size w (w.alloc (.cells X 43))) := (Below.refl _ _).alloc (Nat.le_refl _) _
  obtain ⟨Q, HQ, HSQ, H1Q, HNQ⟩ := entry_row x.e ok
  obtain ⟨k, Hk⟩ : ∃ k, Hid (k = x.p) := ⟨_, hidk rfl⟩
  have KP : Hid (∀ W : World, W.heap[w.heap.size]? = some (.cells X 43 (0, 0)) → W.cell? ⟨w.heap.size, 0, none⟩ = some (.int .i64 k)) := fun W h => by rw [Hk.out]; exact (irow_row HX h).1
  have KQ : Hid (∀ W : World, W.heap[w.heap.size]? = some (.cells X 43 (0, 0)) → W.rangeAt w.heap.size 1 Q.toList) := fun W h => by rw [HQ.out]; exact (irow_row HX h).2
  obtain ⟨l, Hl⟩ : ∃ l, Hid (l = eB x.e) := ⟨_, hidk rfl⟩
  obtain ⟨E, HE⟩ : ∃ l, Hid (l = eE x.e) := ⟨_, hidk rfl⟩
  have P1 : Hid (∀ W, Calls Tryd.prog 51 #[.agg Q] W fun e w' => (∃ a c, e = .returned (.tuple #[.slice a l.length c, .int .i64 E]) ∧ Reads w' a l.length c l) ∧ Below W.heap.size W w') := fun W => by rw [Hl.out, HE.out]; exact ePutE_any x.e hin.e W Q HQ
  obtain ⟨u, hu⟩ : ∃ u, (decide (1 ≤ k) && decide (k ≤ 900000000)) = u := ⟨_, rfl⟩
  have W1 : Hid (∀ W, Calls Tryd.prog 52 #[.int .i64 k, .int .i64 1, .int .i64 900000000] W fun e w' => e = .returned (.bool u) ∧ w' = W) := fun W => by rw [← hu]; exact eWithin_any k 1 900000000 W
  obtain ⟨n1, Hn1⟩ : ∃ n, Hid (n = nOf k) := ⟨_, hidk rfl⟩
  obtain ⟨y, Hy⟩ : ∃ y : ByteArray, Hid (y = bA l) := ⟨_, hidk rfl⟩
  have N1 : Hid (∀ W, Calls Tryd.prog 54 #[.int .i64 1, .int .i64 k] W fun e w' => e = .returned (.agg #[.int .i64 1, .string n1]) ∧ Below W.heap.size W w') := fun W => by rw [Hn1.out]; exact eNum_any 1 k W
  have hri : rightI x = (u && rightE x.e) := by unfold rightI; rw [← hu, Hk.out]
  obtain ⟨L, HL⟩ : ∃ l, Hid (l = iB x) := ⟨_, hidk rfl⟩
  obtain ⟨K, HK⟩ : ∃ l, Hid (l = iE x) := ⟨_, hidk rfl⟩
  have HNO : Hid (u = false ∨ E = 60 → L = [] ∧ K = 60) := fun h => by
    have hr : rightI x = false := by
      rw [hri]
      rcases h with h | h
      · rw [h]; rfl
      · rcases eE_two x.e with h2 | h2
        · rw [HE.out, h2.1] at h; cases h
        · rw [h2.2]; simp
    rw [HL.out, HK.out]
    unfold iB iE
    rw [hr]
    exact ⟨rfl, rfl⟩
  have HYES : Hid (u = true → E = 0 → L = itemB x ∧ K = 0 ∧ rightI x = true ∧ l = entryB x.e) := fun h0 h => by
    have hre : rightE x.e = true := by
      rcases eE_two x.e with h2 | h2
      · exact h2.2
      · rw [HE.out, h2.1] at h; cases h
    have hr : rightI x = true := by rw [hri, h0, hre]; rfl
    rw [HL.out, HK.out, Hl.out]
    unfold iB iE eB
    rw [if_pos hr, if_pos hr, if_pos hre]
    exact ⟨rfl, rfl, hr, rfl⟩
  have LY : Hid (u = true → E = 0 → ∀ W, Calls Tryd.prog 53 #[.slice (some ⟨W.heap.size, 0, none⟩) 2 2] (W.alloc (.cells #[.int .i64 1, .string n1, .int .i64 2, .string y] 110)) fun e w' => ∃ a c, e = .returned (.tuple #[.slice a L.length c, .int .i64 0]) ∧ Reads w' a L.length c L ∧ Below W.heap.size W w') := fun h0 h W => by
    obtain ⟨e1, _, hr, e4⟩ := HYES.out h0 h
    have hk := layE_iL hr ok
    have hL2 : fieldsN (iL x) = [(1, n1), (2, y)] := by rw [Hn1.out, Hy.out, e4, Hk.out]; rfl
    rw [hL2] at hk
    refine eLay_lit W _ [((1 : Int), n1), (2, y)] 2 L rfl rfl (by omega) (fun z hz => ?_) hk (by rw [e1, ← hL2]; rfl)
    simp only [List.mem_cons, List.not_mem_nil, or_false] at hz
    unfold maxLen
    rcases hz with rfl | rfl
    · have := nOf_size k; rw [← Hn1.out] at this; show n1.size ≤ _; omega
    · have h5 := bA_size l; rw [← Hy.out] at h5; have := eB_length x.e ok; rw [← Hl.out] at this; show y.size ≤ _; omega
  have hE2 : E = 0 ∨ E = 60 := by
    rw [HE.out]
    rcases eE_two x.e with h | h
    · exact .inl h.1
    · exact .inr h.1
  rw [← HL.out, ← HK.out]
  clear HX HQ Hk Hl HE hu Hn1 hri HL HK ok hin H1Q HNQ
  rcases hE2 with rfl | rfl
  · cases u
    · obtain ⟨rfl, rfl⟩ := HNO.out (.inl rfl)
      clear HNO HYES LY N1
      go_enter Tryd.func34, Tryd.ntmps34
      go_wp2_with (first
        | (show aD 8 _ _ _ _ _ _ _ _ _ _ _; refine wpList_mid rfl 41 (.tmp 7) rfl w.heap.size 1 rfl Q _ (KQ.out _ HX0.out) Tryd.underlying41 rfl HSQ.out ?_; try simp only [Act.put, pS1, pS2, pS3])
        | fail)
      refine (P1.out _).mono ?_
      rintro e w1 ⟨⟨a1, c1, rfl, hr1⟩, hb1⟩
      have HB1 := hidk (HB.out.trans (hb1.mono HB.out.size))
      have c0 := KP.out w1 ((hb1.block _ (heap_lt HX0.out)).trans HX0.out)
      clear hb1 hr1
      go_wp2_with fail
      refine (W1.out _).mono ?_
      rintro e w2 ⟨rfl, rfl⟩
      go_wp2
      go_ret2
      exact ⟨eBytes_no _ _, HB1.out⟩
    · obtain rfl : K = 0 := (HYES.out rfl rfl).2.1
      have LY2 := hidk (LY.out rfl rfl)
      clear HNO HYES LY
      go_enter Tryd.func34, Tryd.ntmps34
      go_wp2_with (first
        | (show aD 8 _ _ _ _ _ _ _ _ _ _ _; refine wpList_mid rfl 41 (.tmp 7) rfl w.heap.size 1 rfl Q _ (KQ.out _ HX0.out) Tryd.underlying41 rfl HSQ.out ?_; try simp only [Act.put, pS1, pS2, pS3])
        | fail)
      refine (P1.out _).mono ?_
      rintro e w1 ⟨⟨a1, c1, rfl, hr1⟩, hb1⟩
      have HB1 := hidk (HB.out.trans (hb1.mono HB.out.size))
      have HX1 := hidk ((hb1.block _ (heap_lt HX0.out)).trans HX0.out)
      have c0 := KP.out w1 HX1.out
      have CV : Hid (∀ W, Below w1.heap.size w1 W → Sem.run Tryd.prog (convert 81 9 (.slice a1 l.length c1)) W = .ok (.string y) W) := fun W h => by rw [Hy.out]; exact conv_reads (hr1.below h)
      clear hb1 hr1
      go_wp2_with fail
      refine (W1.out _).mono ?_
      rintro e w2 ⟨rfl, rfl⟩
      go_wp2
      refine wp_region_held_drew (S := (fun W => W.heap[w.heap.size]? = some (.cells X 43 (0, 0)) ∧ Below w2.heap.size w2 W)) (by kernel_rfl) ⟨HX1.out, (Below.refl _ _).drew⟩ (fun hHeld => ?_)
      refine zX 0 (.pointer (some ⟨w.heap.size, 0, none⟩)) rfl hHeld ?_
      try simp only [Act.put, pS1, pS2, pS3]
      refine zW 1 (.int .i64 k) rfl (Or.inl ⟨by rfl, by intro W hSw; have h1 := KP.out W hSw.1; go_simp⟩) hHeld ?_
      try simp only [Act.put, pS1, pS2, pS3]
      refine zX 3 (.slice a1 l.length c1) rfl hHeld ?_
      try simp only [Act.put, pS1, pS2, pS3]
      refine zW 4 (.string y) rfl (Or.inl ⟨by rfl, by intro W hSw; have h1 := CV.out W hSw.2; go_simp⟩) hHeld ?_
      try simp only [Act.put, pS1, pS2, pS3]
      refine zX 5 (.agg #[.int .i64 2, .string y]) rfl hHeld ?_
      try simp only [Act.put, pS1, pS2, pS3]
      refine wpAnyH_ready (rs := [2]) (by kernel_rfl) (by simp) ?_
      refine (AllReadyH.cons (o := { dst := some 22, op := .call { callee := .value (.func 54), args := #[.const (.int .i64 1), .tmp 21], argTypes := #[3, 3] }, type := 110, pos := "entry.go:97", after := #[zD 1], guard := none }) rfl (fun K hK => ?_) AllReadyH.nil)
      go_simp
      refine (N1.out _).mono ?_
      rintro e w3 ⟨rfl, hb3⟩
      have HBc := hidk (HB1.out.drew.trans (hb3.mono HB1.out.size))
      go_wp2_with fail
      refine hK.out _ _ ⟨(hb3.block _ (heap_lt HX1.out)).trans HX1.out, hHeld.2.trans (hb3.mono hHeld.2.size)⟩ (fun hHeld => ?_)
      clear hK K
      try simp only [Act.put, pS1, pS2, pS3]
      refine wpAnyH_ready (rs := [6]) (by kernel_rfl) (by simp) ?_
      refine (AllReadyH.cons (o := { dst := some 26, op := .buildSlice 112 2 #[(0, .tmp 22), (1, .tmp 25)], type := 112, pos := "entry.go:96", after := #[zD 2, zD 5], guard := none }) rfl (fun K hK => ?_) AllReadyH.nil)
      have HHc := hidk hHeld
      go_simp
      refine hK.out _ _ ⟨heap_keep hHeld.1, hHeld.2.alloc hHeld.2.size _⟩ (fun hHeld => ?_)
      clear hK K
      try simp only [Act.put, pS1, pS2, pS3]
      refine wpAnyH_ready (rs := [7]) (by kernel_rfl) (by simp) ?_
      refine (AllReadyH.cons (o := { dst := some 27, op := .call { callee := .value (.func 53), args := #[.tmp 26], argTypes := #[112] }, type := 82, pos := "entry.go:96", after := #[zD 6, zC 2], guard := none }) rfl (fun K hK => ?_) AllReadyH.nil)
      go_simp
      refine (LY2.out _).mono ?_
      rintro e w7 ⟨a7, c7, rfl, hrd, hb7⟩
      have HRD := hidk hrd
      have HBF := hidk (HBc.out.trans (hb7.mono HBc.out.size))
      go_wp2_with fail
      refine hK.out _ _ ⟨(hb7.block _ (heap_lt HHc.out.1)).trans HHc.out.1, HHc.out.2.trans (hb7.mono HHc.out.2.size)⟩ (fun hHeld => ?_)
      clear hK K
      try simp only [Act.put, pS1, pS2, pS3]
      refine zX 8 (.slice a7 L.length c7) rfl hHeld ?_
      try simp only [Act.put, pS1, pS2, pS3]
      refine zX 9 (.int .i64 0) rfl hHeld ?_
      try simp only [Act.put, pS1, pS2, pS3]
      refine zX 10 (.slice a7 L.length c7) rfl hHeld ?_
      try simp only [Act.put, pS1, pS2, pS3]
      refine zX 11 (.int .i64 0) rfl hHeld ?_
      try simp only [Act.put, pS1, pS2, pS3]
      refine wpAnyH_done (by kernel_rfl) ?_ _
      go_wp2
      go_ret2
      exact ⟨⟨_, _, rfl, HRD.out⟩, HBF.out⟩
  · obtain ⟨rfl, rfl⟩ := HNO.out (.inr rfl)
    clear HNO HYES LY N1
    go_enter Tryd.func34, Tryd.ntmps34
    go_wp2_with (first
      | (show aD 8 _ _ _ _ _ _ _ _ _ _ _; refine wpList_mid rfl 41 (.tmp 7) rfl w.heap.size 1 rfl Q _ (KQ.out _ HX0.out) Tryd.underlying41 rfl HSQ.out ?_; try simp only [Act.put, pS1, pS2, pS3])
      | fail)
    refine (P1.out _).mono ?_
    rintro e w1 ⟨⟨a1, c1, rfl, hr1⟩, hb1⟩
    have HB1 := hidk (HB.out.trans (hb1.mono HB.out.size))
    clear hb1 hr1
    go_wp2
    go_ret2
    exact ⟨eBytes_no _ _, HB1.out⟩
set_option maxHeartbeats 4000000 in
theorem eLeaf_any (x : ItT) (hin : InI x) (w : World) (X D : Array Value) (HX : Hid (X = (icells x).toArray)) (hT : TabH w) (HD : Hid (D = (cellsOf (leafO x)).toArray)) :
    Calls Tryd.prog 18 #[.agg X] w fun e w' => e = .returned (.tuple #[.agg D, .int .i64 (iE x)]) ∧ Below w.heap.size w w' := by
  have ok := hin.e.ok
  obtain ⟨Z, HZ, HA, HS, H1, H32⟩ := noughts27
  have HSX : Hid ((Tryd.prog.info? 43).map (·.size) = some X.size) := by show _ = _; rw [sizeI, HX.out]; simp [icells_length _ ok]
  have hd : (leafO x).length = 32 := by
    unfold leafO
    split
    · exact sumD_length _
    · rfl
  have HSD : Hid ((Tryd.prog.info? 26).map (·.size) = some D.size) := by show _ = _; rw [size23, HD.out]; simp [cellsOf_length, hd]
  have H1D : Hid (D.all (·.oneCell') = true) := by show _ = _; rw [HD.out]; exact cellsOf_all _
  have HZD : Hid (Z.size = D.size) := by show _ = _; rw [H32.out, HD.out]; simp [cellsOf_length, hd]
  have HX0 : Hid ((w.alloc (.cells X 43)).heap[w.heap.size]? = some (.cells X 43 (0, 0))) := heap_alloc_new w _
  have HB : Hid (Below w.heap.size w (w.alloc (.cells X 43))) := (Below.refl _ _).alloc (Nat.le_refl _) _
  have HBN : Hid (Tryd.prog.built 26 [] = some Z) := by show _ = _; rw [HZ.out]; kernel_rfl
  obtain ⟨l, Hl⟩ : ∃ l, Hid (l = iB x) := ⟨_, hidk rfl⟩
  obtain ⟨E, HE⟩ : ∃ l, Hid (l = iE x) := ⟨_, hidk rfl⟩
  have P1 : Hid (∀ W, Calls Tryd.prog 34 #[.agg X] W fun e w' => (∃ a c, e = .returned (.tuple #[.slice a l.length c, .int .i64 E]) ∧ Reads w' a l.length c l) ∧ Below W.heap.size W w') := fun W => by rw [Hl.out, HE.out]; exact ePutI_any x hin W X HX
  obtain ⟨y, Hy⟩ : ∃ y : ByteArray, Hid (y = bA l) := ⟨_, hidk rfl⟩
  have hE2 : E = 0 ∧ rightI x = true ∨ E = 60 ∧ rightI x = false := by rw [HE.out]; exact iE_two x
  rw [← HE.out]
  have LF : Hid (rightI x = true → ∀ W, Below w.heap.size w W → Calls Tryd.prog 35 #[.string y] W fun e w' => e = .returned (.agg D) ∧ Below W.heap.size W w') := fun h W hb => by
    have hl : l = itemB x := by rw [Hl.out]; unfold iB; rw [if_pos h]
    have hz := itemB_length h ok
    exact leaf_any y W (by rw [Hy.out, bA_size, hl]; omega) (hT.keep hb) D (by
      show _ = _
      rw [HD.out]
      unfold leafO leafI
      rw [if_pos h, Hy.out, bA_list, hl])
  have HNO : Hid (rightI x = false → D = Z) := fun h => by
    rw [HD.out, HZ.out]
    unfold leafO
    rw [if_neg (by rw [h]; simp)]
  clear HX HD HE hT ok hin hd HZ
  rcases hE2 with ⟨rfl, hr⟩ | ⟨rfl, hr⟩
  · have LF2 := hidk (LF.out hr)
    clear LF HNO hr
    go_enter Tryd.func18, Tryd.ntmps18
    go_wp2_with (first
      | (show aD 2 _ _ _ _ _ _ _ _ _ _ _; refine wpList_new_var rfl 26 rfl Z HA.out ?_; intro g2 w1 HM2; try simp only [Act.put, pS1, pS2, pS3])
      | (show aD 7 _ _ _ _ _ _ _ _ _ _ _; refine wpList_load_row rfl 43 (.tmp 1) rfl w.heap.size rfl 43 X (0, 0) _ ((HM2.out.below.block _ (heap_lt HX0.out)).trans HX0.out) Tryd.underlying43 rfl HSX.out ?_; try simp only [Act.put, pS1, pS2, pS3])
      | fail)
    have h2 : w.heap.size ≤ g2 := by rw [HM2.out.new]; exact HB.out.size
    have HB1 := hidk (HB.out.trans (HM2.out.below.mono HB.out.size))
    have HR2 := hidk HM2.out.row
    clear HM2 HB HX0
    refine (P1.out _).mono ?_
    rintro e w2 ⟨⟨a2, c2, rfl, hr2⟩, hb2⟩
    have HB2 := hidk (HB1.out.trans (hb2.mono HB1.out.size))
    replace HR2 := hidk ((hb2.block _ (heap_lt HR2.out)).trans HR2.out)
    have hcv := conv_reads hr2
    rw [show (⟨l.toArray⟩ : ByteArray) = y from Hy.out.symm] at hcv
    clear hb2 hr2 HB1 P1
    go_wp2_with fail
    refine (LF2.out _ HB2.out).mono ?_
    rintro e w3 ⟨rfl, hb3⟩
    have HB3 := hidk (HB2.out.trans (hb3.mono HB2.out.size))
    replace HR2 := hidk ((hb3.block _ (heap_lt HR2.out)).trans HR2.out)
    clear hb3 HB2 LF2 hcv
    go_wp2_with (first
      | (refine wpList_set_var rfl 26 (.tmp 2) (.tmp 17) rfl g2 D rfl rfl 26 Z HR2.out HSD.out HZD.out H1D.out ?_; intro wl HW2; try simp only [Act.put, pS1, pS2, pS3])
      | fail)
    refine bodyPost_ret (v := .tuple #[.agg D, .int .i64 0]) ?_ rfl ⟨rfl, HW2.out.below _ _ HB3.out h2⟩
    exact results_row_tmp (p := 2) (q := 3) (ty := 26) rfl _ _ g2 26 D (0, 0) _ rfl HW2.out.row Tryd.underlying26 rfl HSD.out
  · obtain rfl := HNO.out hr
    clear LF HNO hr
    go_enter Tryd.func18, Tryd.ntmps18
    go_wp2_with (first
      | (show aD 2 _ _ _ _ _ _ _ _ _ _ _; refine wpList_new_var rfl 26 rfl D HA.out ?_; intro g2 w1 HM2; try simp only [Act.put, pS1, pS2, pS3])
      | (show aD 7 _ _ _ _ _ _ _ _ _ _ _; refine wpList_load_row rfl 43 (.tmp 1) rfl w.heap.size rfl 43 X (0, 0) _ ((HM2.out.below.block _ (heap_lt HX0.out)).trans HX0.out) Tryd.underlying43 rfl HSX.out ?_; try simp only [Act.put, pS1, pS2, pS3])
      | fail)
    have h2 : w.heap.size ≤ g2 := by rw [HM2.out.new]; exact HB.out.size
    have HB1 := hidk (HB.out.trans (HM2.out.below.mono HB.out.size))
    have HR2 := hidk HM2.out.row
    clear HM2 HB HX0
    refine (P1.out _).mono ?_
    rintro e w2 ⟨⟨a2, c2, rfl, hr2⟩, hb2⟩
    have HB2 := hidk (HB1.out.trans (hb2.mono HB1.out.size))
    replace HR2 := hidk ((hb2.block _ (heap_lt HR2.out)).trans HR2.out)
    clear hb2 hr2 HB1 P1
    go_wp2_with (first
      | (show aD 13 _ _ _ _ _ _ _ _ _ _ _; refine wpList_build_none rfl 26 rfl D HBN.out ?_; try simp only [Act.put, pS1, pS2, pS3])
      | (refine wpList_set_var rfl 26 (.tmp 2) (.tmp 13) rfl g2 D rfl rfl 26 D HR2.out HSD.out rfl H1D.out ?_; intro wl HW2; try simp only [Act.put, pS1, pS2, pS3])
      | fail)
    refine bodyPost_ret (v := .tuple #[.agg D, .int .i64 60]) ?_ rfl ⟨rfl, HW2.out.below _ _ HB2.out h2⟩
    exact results_row_tmp (p := 2) (q := 3) (ty := 26) rfl _ _ g2 26 D (0, 0) _ rfl HW2.out.row Tryd.underlying26 rfl HSD.out
end Go.Proofs.YtkmedlfbkddmoaaDoor
/- What the calls of package entry answer, all together. -/
namespace Go.Proofs.YtkmedlfbkddmoaaDoor
open Go.RowKit Sums Nums
set_option maxRecDepth 100000
set_option linter.unusedVariables false
theorem entryC : EntryC where
  checkC := fun c hc w C HC => eCheckC_any c w C HC
  putC := fun c hc w C HC => ePutC_any c hc.d w C HC
  check := fun x hx w X HX => eCheck_any x hx.ok w X HX
  put := fun x hx w X HX => ePutE_any x hx w X HX
  putI := fun x hx w X HX => ePutI_any x hx w X HX
  leaf := fun x hx w X D HX hT HD => eLeaf_any x hx w X D HX hT HD
theorem headC : HeadC where
  check := fun h hh w C HC => hCheck_any h hh.d w C HC
  put := fun h hh w C HC => hPut_any h hh.d w C HC
  sign := fun master h n w M C R HM HC hm hh hn hT HR => hSign_any master h n w M C R HM HC hm hh.d hT HR
  verify := fun master s w M C HM HC hm hs hT => hVerify_any master s w M C HM HC hm hs hT
  putS := fun s hs w C HC => hPutS_any s hs w C HC
end Go.Proofs.YtkmedlfbkddmoaaDoor
