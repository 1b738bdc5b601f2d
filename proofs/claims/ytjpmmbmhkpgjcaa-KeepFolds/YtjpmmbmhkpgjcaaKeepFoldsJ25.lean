/- Texts of our own that the row of KeepFolds leans on, part 25. -/
import Derived.Test.YtjpmmbmhkpgjcaaKeepFoldsJ0
import Derived.Test.YtjpmmbmhkpgjcaaKeepFoldsJ1
import Derived.Test.YtjpmmbmhkpgjcaaKeepFoldsJ15
import Derived.Test.YtjpmmbmhkpgjcaaKeepFoldsJ17
import Derived.Test.YtjpmmbmhkpgjcaaKeepFoldsJ20
import Derived.Test.YtjpmmbmhkpgjcaaKeepFoldsJ22
import Derived.Test.YtjpmmbmhkpgjcaaKeepFoldsJ24
import Derived.Deep.RegionHeld3
/- Slices of items in memory. -/
namespace Go.Proofs.Ytjpmmbmhkpgjcaa
open Go.RowKit Nums Sums
set_option linter.unusedVariables false
set_option linter.unusedSimpArgs false
set_option maxRecDepth 100000
structure IReads (w : World) (a : Option Addr) (len cap : Nat) (l : List ItT) : Prop where
  ln : l.length = len
  cp : len ≤ cap
  mx : len ≤ maxLen
  ok : ∀ x ∈ l, OkE x.e
  lies : len = 0 ∨ ∃ g o, a = some ⟨g, o, none⟩ ∧ ∀ (i : Nat) (h : i < l.length), w.rangeAt g (o + 110 * i) (icells l[i])
theorem range_lt {w : World} {g o : Nat} {l : List Value} (h : w.rangeAt g o l) (hl : 0 < l.length) : g < w.heap.size := by
  have := h 0 l[0] (List.getElem?_eq_getElem hl)
  exact World.block_lt_of_cell? _ _ this
theorem range_below {B : Nat} {w w' : World} {g o : Nat} {l : List Value} (h : w.rangeAt g o l) (hb : Below B w w') (hg : g < B) : w'.rangeAt g o l := fun j v hj => by
  rw [hb.cell hg]; exact h j v hj
theorem IReads.at {w : World} {a : Option Addr} {len cap : Nat} {l : List ItT} (h : IReads w a len cap l) (h0 : 0 < len) : ∃ g o, a = some ⟨g, o, none⟩ ∧ g < w.heap.size := by
  rcases h.lies with h5 | ⟨g, o, ha, hl⟩
  · omega
  · have h1 := h.ln
    refine ⟨g, o, ha, range_lt (hl 0 (by omega)) ?_⟩
    rw [icells_length _ (h.ok _ (List.getElem_mem (by omega)))]
    omega
theorem IReads.below {w w' : World} {a : Option Addr} {len cap B : Nat} {l : List ItT} (h : IReads w a len cap l) (hb : Below B w w') (hB : ∀ g o, a = some ⟨g, o, none⟩ → 0 < len → g < B) : IReads w' a len cap l := by
  refine ⟨h.ln, h.cp, h.mx, h.ok, ?_⟩
  by_cases h0 : len = 0
  · exact .inl h0
  · rcases h.lies with h5 | ⟨g, o, ha, hl⟩
    · exact .inl h5
    · exact .inr ⟨g, o, ha, fun i hi => range_below (hl i hi) hb (hB g o ha (by omega))⟩
theorem IReads.keep {w w' : World} {a : Option Addr} {len cap : Nat} {l : List ItT} (h : IReads w a len cap l) (hb : Below w.heap.size w w') : IReads w' a len cap l := by
  refine h.below hb fun g o ha h0 => ?_
  obtain ⟨g', o', ha', hl⟩ := h.at h0
  rw [ha] at ha'
  cases ha'
  exact hl
theorem IReads.range {w : World} {g o len cap : Nat} {l : List ItT} (h : IReads w (some ⟨g, o, none⟩) len cap l) (i : Nat) (hi : i < l.length) : w.rangeAt g (o + 110 * i) (icells l[i]) := by
  have h1 := h.ln
  rcases h.lies with h5 | ⟨g', o', ha, hl⟩
  · omega
  · cases ha
    exact hl i hi
theorem IReads.cell {w : World} {g o len cap : Nat} {l : List ItT} (h : IReads w (some ⟨g, o, none⟩) len cap l) (i : Nat) (hi : i < l.length) (j : Nat) (v : Value) (hj : (icells l[i])[j]? = some v) : w.cell? ⟨g, o + 110 * i + j, none⟩ = some v := h.range i hi j v hj
theorem IReads.take {w : World} {a : Option Addr} {len cap : Nat} {l : List ItT} (h : IReads w a len cap l) (k : Nat) (hk : k ≤ len) : IReads w a k cap (l.take k) := by
  have h1 := h.ln
  have h2 := h.cp
  have h3 := h.mx
  refine ⟨by rw [List.length_take]; omega, by omega, by omega, fun x hx => h.ok x (List.mem_of_mem_take hx), ?_⟩
  rcases h.lies with h5 | ⟨g, o, ha, hl⟩
  · exact .inl (by omega)
  · refine .inr ⟨g, o, ha, fun i hi => ?_⟩
    rw [List.length_take] at hi
    rw [List.getElem_take]
    exact hl i (by omega)
theorem ireads_none (w : World) : IReads w none 0 0 [] := ⟨rfl, Nat.le_refl _, Nat.zero_le _, (fun x hx => by cases hx), .inl rfl⟩
theorem icells_p (x : ItT) : (icells x)[0]? = some (.int .i64 x.p) := rfl
theorem icells_k (x : ItT) : (icells x)[1]? = some (.int .i64 x.e.k) := rfl
theorem icells_c (x : ItT) : (icells x)[2]? = some (.int .i64 x.e.c) := rfl
theorem range_entry {w : World} {g o : Nat} {x : ItT} (h : w.rangeAt g o (icells x)) : w.rangeAt g (o + 1) (ecells x.e) := fun j v hj => by
  have := h (j + 1) v (by show ([Value.int .i64 x.p] ++ ecells x.e)[j + 1]? = _; simpa using hj)
  rw [← this]
  congr 2
  omega
theorem sizeOfI (w : World) : (sizeOf 40).run Try.prog w = .ok 110 w := by
  have hz : (Try.prog.info? 40).map (·.size) = some 110 := by kernel_rfl
  cases hq : Try.prog.info? 40 with
  | none => simp [hq] at hz
  | some i => simp [hq] at hz; simp [sizeOf, typeInfo, hq, hz]
theorem slice_items (W : World) (g o len cap k : Nat) (hk : k ≤ cap) : (Instr.sliceAt 22 (.slice (some ⟨g, o, none⟩) len cap) none (some (.int .i64 k)) none).run Try.prog W = .ok (.slice (some ⟨g, o, none⟩) k cap) W := by
  simp [Instr.sliceAt, Instr.slice, Instr.sliceBounds, Instr.sliceBound, asIntOf, run_underlying Try.underlying22, sizeOfI, hk]
  rw [add_plain]
  simp
theorem slice_items_none (W : World) : (Instr.sliceAt 22 (.slice none 0 0) none (some (.int .i64 0)) none).run Try.prog W = .ok (.slice none 0 0) W := by
  simp [Instr.sliceAt, Instr.slice, Instr.sliceBounds, Instr.sliceBound, asIntOf, run_underlying Try.underlying22, sizeOfI]
theorem index_item (W : World) (g o len cap i : Nat) (k : IntKind) (hi : i < len) : (Instr.indexAt 22 (.slice (some ⟨g, o, none⟩) len cap) (.int k i)).run Try.prog W = .ok (.pointer (some ⟨g, o + 110 * i, none⟩)) W := by
  simp [Instr.indexAt, asIntOf, run_underlying Try.underlying22, sizeOfI, hi]
  rw [add_plain, Nat.mul_comm]
def icL (l : List ItT) : List Value := l.flatMap icells
theorem icL_nil : icL [] = [] := rfl
theorem icL_cons (x : ItT) (l : List ItT) : icL (x :: l) = icells x ++ icL l := by unfold icL; rw [List.flatMap_cons]
theorem icL_append (l r : List ItT) : icL (l ++ r) = icL l ++ icL r := by unfold icL; rw [List.flatMap_append]
theorem icL_length : ∀ (l : List ItT), (∀ x ∈ l, OkE x.e) → (icL l).length = l.length * 110
  | [], _ => rfl
  | x :: l, h => by
    rw [icL_cons, List.length_append, icells_length _ (h x (by simp)), icL_length l fun y hy => h y (by simp [hy]), List.length_cons]
    omega
theorem icL_at : ∀ (l : List ItT), (∀ x ∈ l, OkE x.e) → ∀ (i : Nat) (hi : i < l.length) (j : Nat) (v : Value), (icells l[i])[j]? = some v → (icL l)[110 * i + j]? = some v
  | [], _, i, hi, _, _, _ => by cases hi
  | x :: l, h, i, hi, j, v, hj => by
    have hx := icells_length _ (h x (by simp))
    rw [icL_cons]
    cases i with
    | zero =>
      have hj' : (icells x)[j]? = some v := hj
      have : j < (icells x).length := (List.getElem?_eq_some_iff.1 hj').1
      rw [List.getElem?_append_left (by omega)]
      simpa using hj'
    | succ i =>
      rw [List.getElem?_append_right (by omega), hx]
      have := icL_at l (fun y hy => h y (by simp [hy])) i (by simpa using hi) j v (by simpa using hj)
      rw [← this]
      congr 1
      omega
theorem icL_back : ∀ (l : List ItT), (∀ x ∈ l, OkE x.e) → ∀ (j : Nat) (v : Value), (icL l)[j]? = some v → ∃ i, ∃ hi : i < l.length, ∃ k, j = 110 * i + k ∧ (icells l[i])[k]? = some v
  | [], _, j, v, hj => by simp [icL_nil] at hj
  | x :: l, h, j, v, hj => by
    have hx := icells_length _ (h x (by simp))
    rw [icL_cons] at hj
    by_cases hlt : j < 110
    · rw [List.getElem?_append_left (by omega)] at hj
      exact ⟨0, by simp, j, by omega, hj⟩
    · rw [List.getElem?_append_right (by omega), hx] at hj
      obtain ⟨i, hi, k, e, hk⟩ := icL_back l (fun y hy => h y (by simp [hy])) _ v hj
      exact ⟨i + 1, by simpa using hi, k, by omega, by simpa using hk⟩
theorem icells_one (x : ItT) : ∀ v ∈ icells x, v.oneCell' = true := by
  intro v hv
  have h := one_cellsI x
  rw [List.all_toArray, List.all_eq_true] at h
  exact h v hv
theorem icL_one (l : List ItT) : ∀ v ∈ icL l, v.oneCell' = true := by
  intro v hv
  obtain ⟨x, _, hv⟩ := List.mem_flatMap.1 hv
  exact icells_one x v hv
theorem IReads.puts {w : World} {ad : Addr} {len cap : Nat} {l : List ItT} (h : IReads w (some ad) len cap l) : ∀ j u, (icL l)[j]? = some u → w.cell? (ad.add j) = some u := fun j u hj => by
  obtain ⟨i, hi, k, rfl, hk⟩ := icL_back l h.ok j u hj
  have h1 := h.ln
  rcases h.lies with h5 | ⟨g, o, ha, hl⟩
  · omega
  · cases ha
    rw [add_plain, ← Nat.add_assoc]
    exact hl i hi k u hk
theorem infoIt : (Try.prog.info? 40).map (fun i => (i.zero, i.size, i.bytes)) = some (some (.agg (icells ⟨0, zeroE⟩).toArray), 110, 216) := by kernel_rfl
theorem run_append_items {w : World} {a : Option Addr} {len cap : Nat} {l : List ItT} (h : IReads w a len cap l) (hc0 : a = none → cap = 0) (B n : Nat) (v : Value) (xs : List ItT)
    (hown : w.ownsRow B 40 110 v n (icL xs)) (hB : B ≤ w.heap.size) (hb : n + len ≤ 1000000) :
    ∃ v' w', (Builtin.append_ #[22, 22] 22 #[v, .slice a len cap]).run Try.prog w = .ok v' w' ∧
      w'.ownsRow B 40 110 v' (n + len) (icL (xs ++ l)) ∧ w.grownBy w' v.ownBlock := by
  obtain ⟨i0, hi, hz0, hz1, hz2⟩ := info_parts infoIt
  have h1 := h.ln
  cases a with
  | none =>
    obtain rfl : cap = 0 := hc0 rfl
    have hl0 : len = 0 := by have := h.cp; omega
    subst hl0
    obtain rfl : l = [] := List.eq_nil_of_length_eq_zero h1
    refine ⟨v, w, run_append_owned_none (P := Try.prog) w B 22 22 40 i0 110 Try.underlying22 hi _ n _ hown, ?_, World.grownBy.refl _ _⟩
    simpa using hown
  | some ad =>
    obtain ⟨v', w', hr, ho, hg, _⟩ := run_append_own (P := Try.prog) w B 22 22 40 i0 _ 110 216 Try.underlying22 hi hz0 hz1 hz2 (by rfl) (by decide) v n _ hown ad len cap (icL l) (by rw [icL_length l h.ok, h1]) h.puts (icL_one l) (by unfold maxLen; omega) (by omega) hB
    refine ⟨v', w', hr, ?_, hg⟩
    rw [icL_append]
    exact ho
theorem IReads.own {w : World} {B n : Nat} {v : Value} {l : List ItT} (h : w.ownsRow B 40 110 v n (icL l)) (hok : ∀ x ∈ l, OkE x.e) : ∃ a cap, v = .slice a n cap ∧ IReads w a n cap l ∧ (a = none → cap = 0) ∧ (∀ g o, a = some ⟨g, o, none⟩ → B ≤ g ∧ v.ownBlock = some g) := by
  have hl : l.length = n := by have := h.1; rw [icL_length l hok] at this; omega
  rcases h.2 with ⟨rfl, h0⟩ | ⟨g, cap, cur, rfl, hb, hg, hc, hm, hs, ht⟩
  · subst h0
    exact ⟨none, 0, rfl, ⟨hl, Nat.le_refl _, Nat.zero_le _, hok, .inl rfl⟩, fun _ => rfl, fun g o e => by cases e⟩
  · refine ⟨some ⟨g, 0, none⟩, cap, rfl, ⟨hl, hc, by omega, hok, .inr ⟨g, 0, rfl, fun i hi j v hj => ?_⟩⟩, (fun e => by cases e), fun g' o' e => by cases e; exact ⟨hb, rfl⟩⟩
    have := h.cells (g := g) rfl _ _ (icL_at l hok i hi j v hj)
    rw [add_plain] at this
    rw [Nat.zero_add]
    simpa using this
def bigL (l : List ItT) : Bool := decide (60 < l.length) || l.any fun x => decide (1000 < x.e.t.size)
theorem bigL_yes {l : List ItT} (i : Nat) (hi : i < l.length) (h : 1000 < l[i].e.t.size) : bigL l = true := by
  unfold bigL
  rw [Bool.or_eq_true, List.any_eq_true]
  exact .inr ⟨l[i], List.getElem_mem hi, by simpa using h⟩
theorem bigL_no {l : List ItT} (hl : l.length ≤ 60) (h : ∀ x ∈ l, x.e.t.size ≤ 1000) : bigL l = false := by
  unfold bigL
  rw [Bool.or_eq_false_iff, List.any_eq_false]
  exact ⟨decide_eq_false (by omega), fun x hx => by have := h x hx; simp; omega⟩
theorem take_mem_succ {α : Type} {l : List α} {k : Nat} (hk : k < l.length) {P : α → Prop} (h : ∀ x ∈ l.take k, P x) (h1 : P l[k]) : ∀ x ∈ l.take (k + 1), P x := by
  intro x hx
  rw [List.take_succ_eq_append_getElem hk] at hx
  rcases List.mem_append.1 hx with hx | hx
  · exact h x hx
  · obtain rfl : x = l[k] := by simpa using hx
    exact h1
set_option maxHeartbeats 2000000 in
theorem refBig_any (a : Option Addr) (len cap : Nat) (l : List ItT) (w : World) (h : IReads w a len cap l) (ht : ∀ x ∈ l, x.e.t.size ≤ maxLen) :
    Calls Try.prog 29 #[.slice a len cap] w fun e w' => e = .returned (.bool (bigL l)) ∧ w = w' := by
  have H := hidk h
  have HL := hidk h.ln
  have HT := hidk ht
  have hmx : len ≤ 9223372036854775807 := by have := h.mx; unfold maxLen at this; omega
  by_cases h5 : len ≤ 60
  · have h5' : decide ((60 : Int) < (len : Int)) = false := by rw [decide_eq_false_iff_not]; omega
    clear h ht
    go_enter Try.func29, Try.ntmps29
    go_wp2
    go_loop [3] (fun i => ∃ k : Nat, k ≤ len ∧ i = .int .i64 k ∧ Hid (∀ s ∈ l.take k, s.e.t.size ≤ 1000)) (fun i => len - (intOf i).toNat)
    case atStart => exact ⟨0, by omega, rfl, fun s hs => by simp at hs⟩
    case round =>
      obtain ⟨k, hk, rfl, HA⟩ := hrel
      by_cases hlt : k < len
      · obtain ⟨g, o, rfl, hg⟩ := H.out.at (by omega)
        have hkl : k < l.length := by have := HL.out; omega
        obtain ⟨t, Ht⟩ : ∃ t, Hid (t = l[k].e.t) := ⟨_, hidk rfl⟩
        have hc := H.out.cell k hkl 4 (.string t) (by rw [Ht.out]; rfl)
        have hts : t.size ≤ maxLen := by rw [Ht.out]; exact HT.out _ (List.getElem_mem hkl)
        unfold maxLen at hts
        have ix := fun W => index_item W g o len cap k .i64 hlt
        have hd : decide ((k : Int) < (len : Int)) = true := by rw [decide_eq_true_eq]; omega
        have hw1 := wrap_int ((k : Int) + 1) (by omega) (by omega)
        have htm : t.size ≤ 9223372036854775807 := by omega
        by_cases h4 : t.size ≤ 1000
        · have h4' : decide ((1000 : Int) < (t.size : Int)) = false := by rw [decide_eq_false_iff_not]; omega
          have HN : Hid (∀ s ∈ l.take (k + 1), s.e.t.size ≤ 1000) := take_mem_succ hkl HA.out (by rw [← Ht.out]; exact h4)
          clear Ht hkl
          go_wp2
          go_round
          case rel => exact ⟨k + 1, by omega, by go_num, HN⟩
          case measure => simp [intOf]; omega
        · have h4' : decide ((1000 : Int) < (t.size : Int)) = true := by rw [decide_eq_true_eq]; omega
          have HN : Hid (bigL l = true) := bigL_yes k hkl (by rw [← Ht.out]; omega)
          clear Ht hkl
          go_wp2
          go_ret
          exact ⟨by rw [HN.out]; rfl, rfl⟩
      · obtain rfl : len = k := by omega
        have hd : decide ((len : Int) < (len : Int)) = false := by rw [decide_eq_false_iff_not]; omega
        have HN : Hid (bigL l = false) := bigL_no (by have := HL.out; omega) (by have := HA.out; rwa [List.take_of_length_le (by have := HL.out; omega)] at this)
        go_wp2
        go_ret
        exact ⟨by rw [HN.out]; rfl, rfl⟩
  · have h5' : decide ((60 : Int) < (len : Int)) = true := by rw [decide_eq_true_eq]; omega
    have HN : Hid (bigL l = true) := by show _ = _; unfold bigL; rw [HL.out]; simp; left; omega
    clear h ht
    go_enter Try.func29, Try.ntmps29
    go_wp2
    go_ret
    exact ⟨by rw [HN.out]; rfl, rfl⟩
set_option maxHeartbeats 2000000 in
theorem refOwn_any (a : Option Addr) (len cap : Nat) (l : List ItT) (w : World) (h : IReads w a len cap l) (hc0 : a = none → cap = 0) (hlen : len ≤ 1000000) :
    Calls Try.prog 30 #[.slice a len cap] w fun e w' => ∃ v, e = .returned v ∧ w'.ownsRow w.heap.size 40 110 v len (icL l) ∧ Below w.heap.size w w' := by
  obtain ⟨v, w', hr, ho, hg⟩ := run_append_items h hc0 w.heap.size 0 (.slice none 0 0) [] ⟨rfl, .inl ⟨rfl, rfl⟩⟩ (Nat.le_refl _) (by omega)
  have HB : Hid (Below w.heap.size w w') := (Below.refl _ _).grown hg (Nat.le_refl _) (fun k e => by cases e)
  rw [List.nil_append, Nat.zero_add] at ho
  have HO := hidk ho
  clear ho hg h
  go_enter Try.func30, Try.ntmps30
  go_wp2_with (first
    | (show aD 6 _ _ _ _ _ _ _ _ _ _ _; refine wpList_append_run rfl (.tmp 4) (.tmp 5) 22 22 rfl (.slice none 0 0) (.slice a len cap) v w' rfl rfl hr ?_; try simp only [Act.put, pS1, pS2, pS3])
    | fail)
  go_ret
  exact ⟨v, rfl, HO.out, HB.out⟩
theorem isU_iff (x : ItT) (c : Int) : isU x c = true ↔ x.e.k = 1 ∧ x.e.c = c := by
  unfold isU; rw [Bool.and_eq_true, decide_eq_true_eq, decide_eq_true_eq]
theorem isO_iff (x : ItT) (c s : Int) : isO x c s = true ↔ x.e.k = 1 ∧ x.e.c = c ∧ s ≤ x.e.s := by
  unfold isO; rw [Bool.and_eq_true, isU_iff, decide_eq_true_eq, and_assoc]
theorem old_yes {l : List ItT} {c s : Int} (k : Nat) (hk : k < l.length) (h1 : isO l[k] c s = true) : oldL l c s = true := by
  unfold oldL
  rw [List.any_eq_true]
  exact ⟨_, List.getElem_mem hk, h1⟩
theorem old_no {l : List ItT} {c s : Int} (h0 : ∀ x ∈ l, isO x c s = false) : oldL l c s = false := by
  unfold oldL
  rw [List.any_eq_false]
  intro x hx
  rw [h0 x hx]
  decide
theorem entry_new {w : World} {E : Array Value} {x : EnT} (HE : Hid (E = (ecells x).toArray)) (g : Nat) (t : TypeId) (f : Nat × Nat) (h : w.heap[g]? = some (.cells E t f)) : w.cell? ⟨g, 0, none⟩ = some (.int .i64 x.k) ∧ w.cell? ⟨g, 1, none⟩ = some (.int .i64 x.c) ∧ w.cell? ⟨g, 2, none⟩ = some (.int .i64 x.s) := by
  have hE := HE.out
  subst hE
  refine ⟨?_, ?_, ?_⟩ <;> (rw [cell_of_row _ _ _ _ _ f h]; rfl)
def enA (x : EnT) : Array Value := (ecells x).toArray
theorem enA_fit (x : EnT) (ok : OkE x) : Fit Try.prog 38 (enA x) := ⟨by rw [sizeE]; simp [enA, ecells_length x ok], one_cellsE x⟩
theorem enA_k (x : EnT) : (enA x)[0]? = some (.int .i64 x.k) := rfl
theorem enA_m {x : EnT} (ok : OkE x) (j : Nat) (v : Value) (hj : (ccells x.m)[j]? = some v) : (enA x)[73 + j]? = some v := by
  unfold enA ecells
  rw [List.getElem?_toArray, List.getElem?_append_right (by simp [scells_length _ ok.h ok.g]), show 73 + j - _ = j by simp [scells_length _ ok.h ok.g]]
  exact hj
theorem lead_yes {g : Int} {l : List ItT} (hg : g ≠ 1) (k : Nat) (hk : k < l.length) (hn : ∀ y ∈ l.take k, isLd g y = false) (hy : isLd g l[k] = true) : leadL g l = l[k].e.m.n := by
  unfold leadL
  rw [if_neg hg]
  have : l.find? (isLd g) = some l[k] := by
    rw [List.find?_eq_some_iff_append]
    refine ⟨hy, l.take k, l.drop (k + 1), ?_, fun a ha => by simpa using hn a ha⟩
    rw [← List.drop_eq_getElem_cons hk, List.take_append_drop]
  rw [this]; rfl
theorem lead_none {g : Int} {l : List ItT} (hg : g ≠ 1) (hn : ∀ y ∈ l, isLd g y = false) : leadL g l = 0 := by
  unfold leadL
  rw [if_neg hg]
  have : l.find? (isLd g) = none := by
    rw [List.find?_eq_none]
    intro x hx
    simpa using hn x hx
  rw [this]; rfl
set_option maxHeartbeats 8000000 in
theorem refLead_any (g : Int) (a : Option Addr) (len cap : Nat) (l : List ItT) (w : World) (h : IReads w a len cap l) (hlen : len ≤ 1000000) :
    Calls Try.prog 37 #[.int .i64 g, .slice a len cap] w fun e w' => e = .returned (.int .i64 (leadL g l)) ∧ Below w.heap.size w w' := by
  have HI := hidk h
  have HL := hidk h.ln
  have hmx : len ≤ 9223372036854775807 := by omega
  clear h
  by_cases hg1 : g = 1
  · subst hg1
    go_enter Try.func37, Try.ntmps37
    go_wp2
    go_ret
    exact ⟨rfl, Below.refl _ _⟩
  have hgb : (g == (1 : Int)) = false := by rw [beq_eq_false_iff_ne]; exact hg1
  have HG := hidk hg1
  clear hg1
  go_enter Try.func37, Try.ntmps37
  go_wp2
  go_loopw [5] (fun v wr => ∃ k : Nat, k ≤ len ∧ v = .int .i64 k ∧ Hid (Below w.heap.size w wr) ∧ Hid (∀ x ∈ l.take k, isLd g x = false)) (fun v _ => len - (intOf v).toNat)
  case atStart => exact ⟨0, by omega, rfl, Below.refl _ _, fun x hx => by simp at hx⟩
  case round =>
    obtain ⟨k, hk, rfl, HB, HN⟩ := hrel
    by_cases hlt : k < len
    · have hd : decide ((k : Int) < (len : Int)) = true := by rw [decide_eq_true_eq]; omega
      have hw1 := wrap_int ((k : Int) + 1) (by omega) (by omega)
      obtain ⟨gb, o, rfl, hgb'⟩ := HI.out.at (by omega)
      have hkl : k < l.length := by have := HL.out; omega
      obtain ⟨x, HX⟩ : ∃ x, Hid (x = l[k]) := ⟨_, hidk rfl⟩
      have hok : OkE x.e := by rw [HX.out]; exact HI.out.ok _ (List.getElem_mem hkl)
      have HR : Hid (wr.rangeAt gb (o + 110 * k + 1) (enA x.e).toList) := by
        show World.rangeAt _ _ _ _
        rw [HX.out]
        have h0 := (HI.out.keep HB.out).range k hkl
        simpa [enA] using range_entry h0
      have HRP : Hid (wr.cell? ⟨gb, o + 110 * k, none⟩ = some (.int .i64 x.p)) := by
        show _ = _
        rw [HX.out]
        have := (HI.out.keep HB.out).cell k hkl 0 _ (icells_p _)
        simpa using this
      have FE : Hid (Fit Try.prog 38 (enA x.e)) := enA_fit x.e hok
      have ix := fun W => index_item W gb o len cap k .i64 hlt
      have f74 := hidk (enA_m hok 1 _ rfl)
      have f75 := hidk (enA_m hok 2 _ rfl)
      have HIN : Hid (isLd g x = false → ∀ y ∈ l.take (k + 1), isLd g y = false) := fun hh => take_mem_succ hkl HN.out (by rw [← HX.out]; exact hh)
      have HYE : Hid (isLd g x = true → leadL g l = x.e.m.n) := fun hh => by rw [HX.out] at hh ⊢; exact lead_yes HG.out k hkl HN.out hh
      obtain ⟨b1, hb1⟩ : ∃ b, (x.p == g) = b := ⟨_, rfl⟩
      obtain ⟨b2, hb2⟩ : ∃ b, (x.e.k == (3 : Int)) = b := ⟨_, rfl⟩
      obtain ⟨b3, hb3⟩ : ∃ b, (x.e.m.e == g) = b := ⟨_, rfl⟩
      have HLD : Hid (isLd g x = (b1 && b2 && b3)) := by
        show _ = _
        unfold isLd
        rw [← hb1, ← hb2, ← hb3]
        rfl
      clear HX hkl hok HN HL
      have H := hidk (Sep.start Try.prog wr)
      cases b1
      all_goals try cases b2
      all_goals try cases b3
      all_goals
        go_wp2_with (first
          | ((with_reducible show wpList _ _ _ (⟨_, .alloc _, _, _, _, _⟩ :: _) _ _); refine newS (by rfl) (by kernel_rfl) H ?_; clear H; intro gq W hq H; clear hq; try simp only [Act.put, pS1, pS2, pS3])
          | ((with_reducible show wpList _ _ _ (⟨_, .store _ _ _, _, _, _, _⟩ :: _) _ _); refine setS (by rfl) (by rfl) (by rfl) H (by assumption) (by repeat first | exact uH .. | refine uT _ ?_) ?_; clear H; intro W H; try simp only [Act.put, pS1, pS2, pS3])
          | ((with_reducible show wpList _ _ _ (⟨_, .load _ _, _, _, _, _⟩ :: _) _ _); refine outR (by rfl) (by rfl) (by kernel_rfl) H (by assumption) (by assumption) ?_; try simp only [Act.put, pS1, pS2, pS3])
          | ((with_reducible show wpList _ _ _ (⟨_, .load _ _, _, _, _, _⟩ :: _) _ _); refine outS (by rfl) (by rfl) (by kernel_rfl) H (by assumption) ?_; try simp only [Act.put, pS1, pS2, pS3])
          | ((with_reducible show wpList _ _ _ (⟨_, .load _ _, _, _, _, _⟩ :: _) _ _); refine fldS (by rfl) (by rfl) (by kernel_rfl) H (by repeat constructor) (by first | exact enA_k _ | exact f74.out | exact f75.out) ?_; try simp only [Act.put, pS1, pS2, pS3])
          | fail)
      all_goals try (go_ret; exact ⟨by rw [HYE.out HLD.out]; rfl, HB.out.trans (H.out.b.mono HB.out.size)⟩)
      all_goals go_roundw
      all_goals first
        | exact ⟨k + 1, by omega, by go_num, HB.out.trans (H.out.b.mono HB.out.size), HIN.out HLD.out⟩
        | (simp [intOf]; omega)
    · obtain rfl : len = k := by omega
      have hd : decide ((len : Int) < (len : Int)) = false := by rw [decide_eq_false_iff_not]; omega
      go_wp2
      go_ret
      exact ⟨by rw [lead_none HG.out (fun y hy => HN.out y (by rw [List.take_of_length_le (by have := HL.out; omega)]; exact hy))]; rfl, HB.out⟩
def acells (a : AdT) : List Value := [.int .i64 a.r, .int .i64 a.n]
def OkA (_ : AdT) : Prop := True
theorem acells_length (a : AdT) (_ : OkA a) : (acells a).length = 2 := rfl
structure AReads (w : World) (a : Option Addr) (len cap : Nat) (l : List AdT) : Prop where
  ln : l.length = len
  cp : len ≤ cap
  mx : len ≤ maxLen
  ok : ∀ x ∈ l, OkA x
  lies : len = 0 ∨ ∃ g o, a = some ⟨g, o, none⟩ ∧ ∀ (i : Nat) (h : i < l.length), w.rangeAt g (o + 2 * i) (acells l[i])
theorem rngA_lt {w : World} {g o : Nat} {l : List Value} (h : w.rangeAt g o l) (hl : 0 < l.length) : g < w.heap.size := by
  have := h 0 l[0] (List.getElem?_eq_getElem hl)
  exact World.block_lt_of_cell? _ _ this
theorem rngA_below {B : Nat} {w w' : World} {g o : Nat} {l : List Value} (h : w.rangeAt g o l) (hb : Below B w w') (hg : g < B) : w'.rangeAt g o l := fun j v hj => by
  rw [hb.cell hg]; exact h j v hj
theorem AReads.at {w : World} {a : Option Addr} {len cap : Nat} {l : List AdT} (h : AReads w a len cap l) (h0 : 0 < len) : ∃ g o, a = some ⟨g, o, none⟩ ∧ g < w.heap.size := by
  rcases h.lies with h5 | ⟨g, o, ha, hl⟩
  · omega
  · have h1 := h.ln
    refine ⟨g, o, ha, rngA_lt (hl 0 (by omega)) ?_⟩
    rw [acells_length _ (h.ok _ (List.getElem_mem (by omega)))]
    omega
theorem AReads.below {w w' : World} {a : Option Addr} {len cap B : Nat} {l : List AdT} (h : AReads w a len cap l) (hb : Below B w w') (hB : ∀ g o, a = some ⟨g, o, none⟩ → 0 < len → g < B) : AReads w' a len cap l := by
  refine ⟨h.ln, h.cp, h.mx, h.ok, ?_⟩
  by_cases h0 : len = 0
  · exact .inl h0
  · rcases h.lies with h5 | ⟨g, o, ha, hl⟩
    · exact .inl h5
    · exact .inr ⟨g, o, ha, fun i hi => rngA_below (hl i hi) hb (hB g o ha (by omega))⟩
theorem AReads.keep {w w' : World} {a : Option Addr} {len cap : Nat} {l : List AdT} (h : AReads w a len cap l) (hb : Below w.heap.size w w') : AReads w' a len cap l := by
  refine h.below hb fun g o ha h0 => ?_
  obtain ⟨g', o', ha', hl⟩ := h.at h0
  rw [ha] at ha'
  cases ha'
  exact hl
theorem AReads.range {w : World} {g o len cap : Nat} {l : List AdT} (h : AReads w (some ⟨g, o, none⟩) len cap l) (i : Nat) (hi : i < l.length) : w.rangeAt g (o + 2 * i) (acells l[i]) := by
  have h1 := h.ln
  rcases h.lies with h5 | ⟨g', o', ha, hl⟩
  · omega
  · cases ha
    exact hl i hi
theorem AReads.cell {w : World} {g o len cap : Nat} {l : List AdT} (h : AReads w (some ⟨g, o, none⟩) len cap l) (i : Nat) (hi : i < l.length) (j : Nat) (v : Value) (hj : (acells l[i])[j]? = some v) : w.cell? ⟨g, o + 2 * i + j, none⟩ = some v := h.range i hi j v hj
theorem AReads.take {w : World} {a : Option Addr} {len cap : Nat} {l : List AdT} (h : AReads w a len cap l) (k : Nat) (hk : k ≤ len) : AReads w a k cap (l.take k) := by
  have h1 := h.ln
  have h2 := h.cp
  have h3 := h.mx
  refine ⟨by rw [List.length_take]; omega, by omega, by omega, fun x hx => h.ok x (List.mem_of_mem_take hx), ?_⟩
  rcases h.lies with h5 | ⟨g, o, ha, hl⟩
  · exact .inl (by omega)
  · refine .inr ⟨g, o, ha, fun i hi => ?_⟩
    rw [List.length_take] at hi
    rw [List.getElem_take]
    exact hl i (by omega)
def adcL (l : List AdT) : List Value := l.flatMap acells
theorem adcL_nil : adcL [] = [] := rfl
theorem adcL_cons (x : AdT) (l : List AdT) : adcL (x :: l) = acells x ++ adcL l := by unfold adcL; rw [List.flatMap_cons]
theorem adcL_back : ∀ (l : List AdT), (∀ x ∈ l, OkA x) → ∀ (j : Nat) (v : Value), (adcL l)[j]? = some v → ∃ i, ∃ hi : i < l.length, ∃ k, j = 2 * i + k ∧ (acells l[i])[k]? = some v
  | [], _, j, v, hj => by simp [adcL_nil] at hj
  | x :: l, h, j, v, hj => by
    have hx := acells_length _ (h x (by simp))
    rw [adcL_cons] at hj
    by_cases hlt : j < 2
    · rw [List.getElem?_append_left (by omega)] at hj
      exact ⟨0, by simp, j, by omega, hj⟩
    · rw [List.getElem?_append_right (by omega), hx] at hj
      obtain ⟨i, hi, k, e, hk⟩ := adcL_back l (fun y hy => h y (by simp [hy])) _ v hj
      exact ⟨i + 1, by simpa using hi, k, by omega, by simpa using hk⟩
theorem AReads.puts {w : World} {ad : Addr} {len cap : Nat} {l : List AdT} (h : AReads w (some ad) len cap l) : ∀ j u, (adcL l)[j]? = some u → w.cell? (ad.add j) = some u := fun j u hj => by
  obtain ⟨i, hi, k, rfl, hk⟩ := adcL_back l h.ok j u hj
  have h1 := h.ln
  rcases h.lies with h5 | ⟨g, o, ha, hl⟩
  · omega
  · cases ha
    rw [add_plain, ← Nat.add_assoc]
    exact hl i hi k u hk
def OkC (c : ClT) : Prop := c.d.length = 32
structure CReads (w : World) (a : Option Addr) (len cap : Nat) (l : List ClT) : Prop where
  ln : l.length = len
  cp : len ≤ cap
  mx : len ≤ maxLen
  ok : ∀ x ∈ l, OkC x
  lies : len = 0 ∨ ∃ g o, a = some ⟨g, o, none⟩ ∧ ∀ (i : Nat) (h : i < l.length), w.rangeAt g (o + 36 * i) (ccells l[i])
theorem CReads.at {w : World} {a : Option Addr} {len cap : Nat} {l : List ClT} (h : CReads w a len cap l) (h0 : 0 < len) : ∃ g o, a = some ⟨g, o, none⟩ ∧ g < w.heap.size := by
  rcases h.lies with h5 | ⟨g, o, ha, hl⟩
  · omega
  · have h1 := h.ln
    refine ⟨g, o, ha, rngA_lt (hl 0 (by omega)) ?_⟩
    rw [ccells_length _ (h.ok _ (List.getElem_mem (by omega)))]
    omega
theorem CReads.below {w w' : World} {a : Option Addr} {len cap B : Nat} {l : List ClT} (h : CReads w a len cap l) (hb : Below B w w') (hB : ∀ g o, a = some ⟨g, o, none⟩ → 0 < len → g < B) : CReads w' a len cap l := by
  refine ⟨h.ln, h.cp, h.mx, h.ok, ?_⟩
  by_cases h0 : len = 0
  · exact .inl h0
  · rcases h.lies with h5 | ⟨g, o, ha, hl⟩
    · exact .inl h5
    · exact .inr ⟨g, o, ha, fun i hi => rngA_below (hl i hi) hb (hB g o ha (by omega))⟩
theorem CReads.keep {w w' : World} {a : Option Addr} {len cap : Nat} {l : List ClT} (h : CReads w a len cap l) (hb : Below w.heap.size w w') : CReads w' a len cap l := by
  refine h.below hb fun g o ha h0 => ?_
  obtain ⟨g', o', ha', hl⟩ := h.at h0
  rw [ha] at ha'
  cases ha'
  exact hl
theorem CReads.range {w : World} {g o len cap : Nat} {l : List ClT} (h : CReads w (some ⟨g, o, none⟩) len cap l) (i : Nat) (hi : i < l.length) : w.rangeAt g (o + 36 * i) (ccells l[i]) := by
  have h1 := h.ln
  rcases h.lies with h5 | ⟨g', o', ha, hl⟩
  · omega
  · cases ha
    exact hl i hi
theorem CReads.cell {w : World} {g o len cap : Nat} {l : List ClT} (h : CReads w (some ⟨g, o, none⟩) len cap l) (i : Nat) (hi : i < l.length) (j : Nat) (v : Value) (hj : (ccells l[i])[j]? = some v) : w.cell? ⟨g, o + 36 * i + j, none⟩ = some v := h.range i hi j v hj
theorem CReads.take {w : World} {a : Option Addr} {len cap : Nat} {l : List ClT} (h : CReads w a len cap l) (k : Nat) (hk : k ≤ len) : CReads w a k cap (l.take k) := by
  have h1 := h.ln
  have h2 := h.cp
  have h3 := h.mx
  refine ⟨by rw [List.length_take]; omega, by omega, by omega, fun x hx => h.ok x (List.mem_of_mem_take hx), ?_⟩
  rcases h.lies with h5 | ⟨g, o, ha, hl⟩
  · exact .inl (by omega)
  · refine .inr ⟨g, o, ha, fun i hi => ?_⟩
    rw [List.length_take] at hi
    rw [List.getElem_take]
    exact hl i (by omega)
theorem clreads_none (w : World) : CReads w none 0 0 [] := ⟨rfl, Nat.le_refl _, Nat.zero_le _, (fun x hx => by cases hx), .inl rfl⟩
theorem sizeOfClis (w : World) : (sizeOf 36).run Try.prog w = .ok 36 w := by
  have hz : (Try.prog.info? 36).map (·.size) = some 36 := by kernel_rfl
  cases hq : Try.prog.info? 36 with
  | none => simp [hq] at hz
  | some i => simp [hq] at hz; simp [sizeOf, typeInfo, hq, hz]
theorem slice_cls (W : World) (g o len cap k : Nat) (hk : k ≤ cap) : (Instr.sliceAt 23 (.slice (some ⟨g, o, none⟩) len cap) none (some (.int .i64 k)) none).run Try.prog W = .ok (.slice (some ⟨g, o, none⟩) k cap) W := by
  simp [Instr.sliceAt, Instr.slice, Instr.sliceBounds, Instr.sliceBound, asIntOf, run_underlying Try.underlying23, sizeOfClis, hk]
  rw [add_plain]
  simp
theorem slice_cls_none (W : World) : (Instr.sliceAt 23 (.slice none 0 0) none (some (.int .i64 0)) none).run Try.prog W = .ok (.slice none 0 0) W := by
  simp [Instr.sliceAt, Instr.slice, Instr.sliceBounds, Instr.sliceBound, asIntOf, run_underlying Try.underlying23, sizeOfClis]
theorem index_cl (W : World) (g o len cap i : Nat) (k : IntKind) (hi : i < len) : (Instr.indexAt 23 (.slice (some ⟨g, o, none⟩) len cap) (.int k i)).run Try.prog W = .ok (.pointer (some ⟨g, o + 36 * i, none⟩)) W := by
  simp [Instr.indexAt, asIntOf, run_underlying Try.underlying23, sizeOfClis, hi]
  rw [add_plain, Nat.mul_comm]
def clcL (l : List ClT) : List Value := l.flatMap ccells
theorem clcL_nil : clcL [] = [] := rfl
theorem clcL_cons (x : ClT) (l : List ClT) : clcL (x :: l) = ccells x ++ clcL l := by unfold clcL; rw [List.flatMap_cons]
theorem clcL_append (l r : List ClT) : clcL (l ++ r) = clcL l ++ clcL r := by unfold clcL; rw [List.flatMap_append]
theorem clcL_length : ∀ (l : List ClT), (∀ x ∈ l, OkC x) → (clcL l).length = l.length * 36
  | [], _ => rfl
  | x :: l, h => by
    rw [clcL_cons, List.length_append, ccells_length _ (h x (by simp)), clcL_length l fun y hy => h y (by simp [hy]), List.length_cons]
    omega
theorem clcL_at : ∀ (l : List ClT), (∀ x ∈ l, OkC x) → ∀ (i : Nat) (hi : i < l.length) (j : Nat) (v : Value), (ccells l[i])[j]? = some v → (clcL l)[36 * i + j]? = some v
  | [], _, i, hi, _, _, _ => by cases hi
  | x :: l, h, i, hi, j, v, hj => by
    have hx := ccells_length _ (h x (by simp))
    rw [clcL_cons]
    cases i with
    | zero =>
      have hj' : (ccells x)[j]? = some v := hj
      have : j < (ccells x).length := (List.getElem?_eq_some_iff.1 hj').1
      rw [List.getElem?_append_left (by omega)]
      simpa using hj'
    | succ i =>
      rw [List.getElem?_append_right (by omega), hx]
      have := clcL_at l (fun y hy => h y (by simp [hy])) i (by simpa using hi) j v (by simpa using hj)
      rw [← this]
      congr 1
      omega
theorem clcL_back : ∀ (l : List ClT), (∀ x ∈ l, OkC x) → ∀ (j : Nat) (v : Value), (clcL l)[j]? = some v → ∃ i, ∃ hi : i < l.length, ∃ k, j = 36 * i + k ∧ (ccells l[i])[k]? = some v
  | [], _, j, v, hj => by simp [clcL_nil] at hj
  | x :: l, h, j, v, hj => by
    have hx := ccells_length _ (h x (by simp))
    rw [clcL_cons] at hj
    by_cases hlt : j < 36
    · rw [List.getElem?_append_left (by omega)] at hj
      exact ⟨0, by simp, j, by omega, hj⟩
    · rw [List.getElem?_append_right (by omega), hx] at hj
      obtain ⟨i, hi, k, e, hk⟩ := clcL_back l (fun y hy => h y (by simp [hy])) _ v hj
      exact ⟨i + 1, by simpa using hi, k, by omega, by simpa using hk⟩
theorem ccells_one (x : ClT) : ∀ v ∈ ccells x, v.oneCell' = true := by
  intro v hv
  unfold ccells at hv
  rcases List.mem_append.1 hv with h | h
  · simp at h
    rcases h with rfl | rfl | rfl | rfl <;> rfl
  · unfold cellsOf at h
    obtain ⟨b, _, rfl⟩ := List.mem_map.1 h
    rfl
theorem clcL_one (l : List ClT) : ∀ v ∈ clcL l, v.oneCell' = true := by
  intro v hv
  obtain ⟨x, _, hv⟩ := List.mem_flatMap.1 hv
  exact ccells_one x v hv
theorem CReads.puts {w : World} {ad : Addr} {len cap : Nat} {l : List ClT} (h : CReads w (some ad) len cap l) : ∀ j u, (clcL l)[j]? = some u → w.cell? (ad.add j) = some u := fun j u hj => by
  obtain ⟨i, hi, k, rfl, hk⟩ := clcL_back l h.ok j u hj
  have h1 := h.ln
  rcases h.lies with h5 | ⟨g, o, ha, hl⟩
  · omega
  · cases ha
    rw [add_plain, ← Nat.add_assoc]
    exact hl i hi k u hk
theorem infoClis : (Try.prog.info? 36).map (fun i => (i.zero, i.size, i.bytes)) = some (some (.agg (ccells ⟨0, 0, 0, 0, List.replicate 32 0⟩).toArray), 36, 64) := by kernel_rfl
theorem run_append_cls {w : World} {a : Option Addr} {len cap : Nat} {l : List ClT} (h : CReads w a len cap l) (hc0 : a = none → cap = 0) (B n : Nat) (v : Value) (xs : List ClT)
    (hown : w.ownsRow B 36 36 v n (clcL xs)) (hB : B ≤ w.heap.size) (hb : n + len ≤ 1000000) :
    ∃ v' w', (Builtin.append_ #[23, 23] 23 #[v, .slice a len cap]).run Try.prog w = .ok v' w' ∧
      w'.ownsRow B 36 36 v' (n + len) (clcL (xs ++ l)) ∧ w.grownBy w' v.ownBlock := by
  obtain ⟨i0, hi, hz0, hz1, hz2⟩ := info_parts infoClis
  have h1 := h.ln
  cases a with
  | none =>
    obtain rfl : cap = 0 := hc0 rfl
    have hl0 : len = 0 := by have := h.cp; omega
    subst hl0
    obtain rfl : l = [] := List.eq_nil_of_length_eq_zero h1
    refine ⟨v, w, run_append_owned_none (P := Try.prog) w B 23 23 36 i0 36 Try.underlying23 hi _ n _ hown, ?_, World.grownBy.refl _ _⟩
    simpa using hown
  | some ad =>
    obtain ⟨v', w', hr, ho, hg, _⟩ := run_append_own (P := Try.prog) w B 23 23 36 i0 _ 36 64 Try.underlying23 hi hz0 hz1 hz2 (by rfl) (by decide) v n _ hown ad len cap (clcL l) (by rw [clcL_length l h.ok, h1]) h.puts (clcL_one l) (by unfold maxLen; omega) (by omega) hB
    refine ⟨v', w', hr, ?_, hg⟩
    rw [clcL_append]
    exact ho
theorem CReads.own {w : World} {B n : Nat} {v : Value} {l : List ClT} (h : w.ownsRow B 36 36 v n (clcL l)) (hok : ∀ x ∈ l, OkC x) : ∃ a cap, v = .slice a n cap ∧ CReads w a n cap l ∧ (a = none → cap = 0) ∧ (∀ g o, a = some ⟨g, o, none⟩ → B ≤ g ∧ v.ownBlock = some g) := by
  have hl : l.length = n := by have := h.1; rw [clcL_length l hok] at this; omega
  rcases h.2 with ⟨rfl, h0⟩ | ⟨g, cap, cur, rfl, hb, hg, hc, hm, hs, ht⟩
  · subst h0
    exact ⟨none, 0, rfl, ⟨hl, Nat.le_refl _, Nat.zero_le _, hok, .inl rfl⟩, fun _ => rfl, fun g o e => by cases e⟩
  · refine ⟨some ⟨g, 0, none⟩, cap, rfl, ⟨hl, hc, by omega, hok, .inr ⟨g, 0, rfl, fun i hi j v hj => ?_⟩⟩, (fun e => by cases e), fun g' o' e => by cases e; exact ⟨hb, rfl⟩⟩
    have := h.cells (g := g) rfl _ _ (clcL_at l hok i hi j v hj)
    rw [add_plain] at this
    rw [Nat.zero_add]
    simpa using this
set_option maxHeartbeats 2000000 in
theorem refSame_any (a1 a2 : Option Addr) (len c1 c2 : Nat) (l : List ItT) (w : World) (h1 : IReads w a1 len c1 l) (h2 : IReads w a2 len c2 l) :
    Calls Try.prog 23 #[.slice a1 len c1, .slice a2 len c2] w fun e w' => e = .returned (.bool true) ∧ Below w.heap.size w w' := by
  have hlen := h1.ln
  have hmx : len ≤ 9223372036854775807 := by have := h1.mx; unfold maxLen at this; omega
  have H1 := hidk h1
  have H2 := hidk h2
  clear h1 h2
  have hdn : (!((len : Int) == (len : Int))) = false := by simp
  go_enter Try.func23, Try.ntmps23
  go_wp2
  go_loopw [5] (fun v wr => ∃ i : Nat, i ≤ len ∧ v = .int .i64 i ∧ Below w.heap.size w wr) (fun v _ => len - (intOf v).toNat)
  case atStart => exact ⟨0, by omega, rfl, Below.refl _ _⟩
  case round =>
    obtain ⟨i, hi, rfl, hB⟩ := hrel
    by_cases hlt : i < len
    · have hdi : decide ((i : Int) < (len : Int)) = true := by rw [decide_eq_true_eq]; omega
      have hw := wrap_int ((i : Int) + 1) (by omega) (by omega)
      obtain ⟨g1, o1, rfl, hg1⟩ := H1.out.at (by omega)
      obtain ⟨g2, o2, rfl, hg2⟩ := H2.out.at (by omega)
      have hil : i < l.length := by omega
      obtain ⟨A, HA⟩ : ∃ A, Hid (A = icells l[i]) := ⟨_, hidk rfl⟩
      have hok := H1.out.ok _ (List.getElem_mem hil)
      have z0 : (Try.prog.info? 40).map (·.size) = some A.length := by rw [sizeI, HA.out, icells_length _ hok]
      have hne := fun W => neqItem l[i] l[i] hok hok A.toArray A.toArray (by show _ = _; rw [HA.out]) (by show _ = _; rw [HA.out]) false (by simp) W
      have hS : wr.rangeAt g1 (o1 + 110 * i) A ∧ wr.rangeAt g2 (o2 + 110 * i) A := by
        rw [HA.out]
        exact ⟨(H1.out.keep hB).range i hil, (H2.out.keep hB).range i hil⟩
      have ix1 := fun W => index_item W g1 o1 len c1 i .i64 hlt
      have ix2 := fun W => index_item W g2 o2 len c2 i .i64 hlt
      clear HA hok hil
      go_wp2
      refine wp_region_held_drew (S := (fun W => W.rangeAt g1 (o1 + 110 * i) A ∧ W.rangeAt g2 (o2 + 110 * i) A)) (by kernel_rfl) hS (fun hHeld => ?_)
      refine zW 0 (.slice (some ⟨g1, o1, none⟩) len c1) rfl (Or.inl ⟨by rfl, by intro w hSw; go_simp⟩) hHeld ?_
      try simp only [Act.put, pS1, pS2, pS3]
      refine zW 1 (.int .i64 i) rfl (Or.inl ⟨by rfl, by intro w hSw; go_simp⟩) hHeld ?_
      try simp only [Act.put, pS1, pS2, pS3]
      refine zW 2 (.pointer (some ⟨g1, o1 + 110 * i, none⟩)) rfl (Or.inl ⟨by rfl, by intro W hSw; have := ix1 W; go_simp⟩) hHeld ?_
      try simp only [Act.put, pS1, pS2, pS3]
      refine zW 3 (.agg A.toArray) rfl (yieldsIf_load_mid (by rfl) 40 (.tmp 19) rfl _ _ rfl A _ (fun _ h => h.1) Try.underlying40 rfl z0) hHeld ?_
      try simp only [Act.put, pS1, pS2, pS3]
      refine zW 4 (.slice (some ⟨g2, o2, none⟩) len c2) rfl (Or.inl ⟨by rfl, by intro w hSw; go_simp⟩) hHeld ?_
      try simp only [Act.put, pS1, pS2, pS3]
      refine zW 5 (.int .i64 i) rfl (Or.inl ⟨by rfl, by intro w hSw; go_simp⟩) hHeld ?_
      try simp only [Act.put, pS1, pS2, pS3]
      refine zW 6 (.pointer (some ⟨g2, o2 + 110 * i, none⟩)) rfl (Or.inl ⟨by rfl, by intro W hSw; have := ix2 W; go_simp⟩) hHeld ?_
      try simp only [Act.put, pS1, pS2, pS3]
      refine zW 7 (.agg A.toArray) rfl (yieldsIf_load_mid (by rfl) 40 (.tmp 23) rfl _ _ rfl A _ (fun _ h => h.2) Try.underlying40 rfl z0) hHeld ?_
      try simp only [Act.put, pS1, pS2, pS3]
      refine zW 8 (.bool false) rfl (Or.inl ⟨by rfl, by intro W hSw; have := hne W; go_simp⟩) hHeld ?_
      try simp only [Act.put, pS1, pS2, pS3]
      refine wpAnyH_done (by kernel_rfl) ?_ _
      go_wp2
      go_roundw
      case rel => exact ⟨i + 1, by omega, by go_num, hB.drew⟩
      case measure => simp [intOf]; omega
    · obtain rfl : len = i := by omega
      go_wp2
      go_ret
      exact ⟨rfl, hB⟩
theorem right_yes {l : List ItT} (hl : l.length ≤ 2000) (h : rightK l l.length = true) : rightL l = true := by
  unfold rightL; rw [h, decide_eq_true hl]; rfl
theorem right_no {l : List ItT} {k : Nat} (hk : k < l.length) (h : okAt l k = false) : rightL l = false := by
  rw [Bool.eq_false_iff]
  intro hr
  have := ((rightL_iff l).1 hr).2 k hk
  rw [h] at this
  cases this
theorem right_long {l : List ItT} (h : 2000 < l.length) : rightL l = false := by
  unfold rightL; rw [decide_eq_false (by omega)]; rfl
theorem okAt_zero {l : List ItT} (h : 0 < l.length) : okAt l 0 = rightI l[0] := by
  unfold okAt; rw [List.getElem?_eq_getElem h]; simp
theorem okAt_succ {l : List ItT} {j : Nat} (h : j + 1 < l.length) : okAt l (j + 1) = (rightI l[j + 1] && decide (l[j].p ≤ l[j + 1].p)) := by
  unfold okAt
  rw [List.getElem?_eq_getElem h, Nat.add_sub_cancel, List.getElem?_eq_getElem (show j < l.length by omega)]
  simp
theorem keepR {W W' : World} {g o q r : Nat} {X : List Value} {v u : Value} (hb : Below W.heap.size W W') (h : W.rangeAt g o X ∧ W.cell? ⟨g, q, none⟩ = some v ∧ W.cell? ⟨g, r, none⟩ = some u) :
    W'.rangeAt g o X ∧ W'.cell? ⟨g, q, none⟩ = some v ∧ W'.cell? ⟨g, r, none⟩ = some u := by
  have hg : g < W.heap.size := World.block_lt_of_cell? _ _ h.2.1
  exact ⟨range_below h.1 hb hg, by rw [hb.cell hg]; exact h.2.1, by rw [hb.cell hg]; exact h.2.2⟩
set_option maxHeartbeats 8000000 in
theorem refRightL_any (a : Option Addr) (len cap : Nat) (l : List ItT) (w : World) (h : IReads w a len cap l) :
    Calls Try.prog 35 #[.slice a len cap] w fun e w' => e = .returned (.bool (rightL l)) ∧ Below w.heap.size w w' := by
  have H := hidk h
  have HL := hidk h.ln
  have hmx : len ≤ 9223372036854775807 := by have := h.mx; unfold maxLen at this; omega
  clear h
  by_cases h5 : len ≤ 2000
  · have h5' : decide ((2000 : Int) < (len : Int)) = false := by rw [decide_eq_false_iff_not]; omega
    go_enter Try.func35, Try.ntmps35
    go_wp2
    go_loopw [3] (fun v wr => ∃ k : Nat, k ≤ len ∧ v = .int .i64 k ∧ Hid (Below w.heap.size w wr) ∧ Hid (rightK l k = true)) (fun v _ => len - (intOf v).toNat)
    case atStart => exact ⟨0, by omega, rfl, Below.refl _ _, hidk rfl⟩
    case round =>
      obtain ⟨k, hk, rfl, HB, HN⟩ := hrel
      by_cases hlt : k < len
      · have hd : decide ((k : Int) < (len : Int)) = true := by rw [decide_eq_true_eq]; omega
        have hw1 := wrap_int ((k : Int) + 1) (by omega) (by omega)
        obtain ⟨g, o, rfl, hg⟩ := H.out.at (by omega)
        have hkl : k < l.length := by have := HL.out; omega
        obtain ⟨j, HJ, hj2⟩ : ∃ j, Hid (j = k - 1) ∧ j < len := ⟨_, hidk rfl, by omega⟩
        have hjl : j < l.length := by have := HL.out; omega
        obtain ⟨X, HX⟩ : ∃ X, Hid (X = icells l[k]) := ⟨_, hidk rfl⟩
        obtain ⟨px, hpx⟩ : ∃ p, l[k].p = p := ⟨_, rfl⟩
        obtain ⟨py, hpy⟩ : ∃ p, l[j].p = p := ⟨_, rfl⟩
        obtain ⟨ri, hri⟩ : ∃ b, rightI l[k] = b := ⟨_, rfl⟩
        have hok := H.out.ok _ (List.getElem_mem hkl)
        have z0 : (Try.prog.info? 40).map (·.size) = some X.length := by rw [sizeI, HX.out, icells_length _ hok]
        have hS : wr.rangeAt g (o + 110 * k) X ∧ wr.cell? ⟨g, o + 110 * k, none⟩ = some (.int .i64 px) ∧ wr.cell? ⟨g, o + 110 * j, none⟩ = some (.int .i64 py) := by
          rw [HX.out, ← hpx, ← hpy]
          have hr := H.out.keep HB.out
          exact ⟨hr.range k hkl, hr.cell k hkl 0 _ rfl, hr.cell j hjl 0 _ rfl⟩
        have RI : Hid (∀ W, Calls Try.prog 49 #[.agg X.toArray] W fun e w' => e = .returned (.bool ri) ∧ Below W.heap.size W w') := fun W => by rw [← hri]; exact refRightI_any l[k] hok W X.toArray (by show _ = _; rw [HX.out])
        have ix1 := fun W => index_item W g o len cap k .i64 hlt
        have ix2 := fun W => index_item W g o len cap j .i64 hj2
        have HF : Hid ((k = 0 → okAt l k = ri) ∧ (0 < k → okAt l k = (ri && decide (py ≤ px)))) := by
          refine ⟨fun h0 => ?_, fun h0 => ?_⟩
          · subst h0; rw [okAt_zero hkl, hri]
          · obtain ⟨i, rfl⟩ : ∃ i, k = i + 1 := ⟨k - 1, by omega⟩
            obtain rfl : j = i := by have := HJ.out; omega
            rw [okAt_succ hkl, hri, hpx, hpy]
        have HNO : Hid (okAt l k = false → rightL l = false) := right_no hkl
        have HYE : Hid (okAt l k = true → rightK l (k + 1) = true) := fun hh => by rw [rightK_succ, HN.out, hh]; rfl
        clear hri hpx hpy HX HN hok hkl hjl
        cases ri
        · have hko : okAt l k = false := by
            by_cases h0 : k = 0
            · exact HF.out.1 h0
            · exact HF.out.2 (by omega)
          clear HF
          go_wp2
          refine wp_region_held_drew (S := (fun W => W.rangeAt g (o + 110 * k) X ∧ W.cell? ⟨g, o + 110 * k, none⟩ = some (.int .i64 px) ∧ W.cell? ⟨g, o + 110 * j, none⟩ = some (.int .i64 py))) (by kernel_rfl) hS (fun hHeld => ?_)
          refine zW 0 (.slice (some ⟨g, o, none⟩) len cap) rfl (Or.inl ⟨by rfl, by intro w hSw; go_simp⟩) hHeld ?_
          try simp only [Act.put, pS1, pS2, pS3]
          refine zW 1 (.int .i64 k) rfl (Or.inl ⟨by rfl, by intro w hSw; go_simp⟩) hHeld ?_
          try simp only [Act.put, pS1, pS2, pS3]
          refine zW 2 (.pointer (some ⟨g, o + 110 * k, none⟩)) rfl (Or.inl ⟨by rfl, by intro W hSw; have := ix1 W; go_simp⟩) hHeld ?_
          try simp only [Act.put, pS1, pS2, pS3]
          refine zW 3 (.agg X.toArray) rfl (yieldsIf_load_mid (by rfl) 40 (.tmp 15) rfl _ _ rfl X _ (fun _ h => h.1) Try.underlying40 rfl z0) hHeld ?_
          try simp only [Act.put, pS1, pS2, pS3]
          refine wpAnyH_ready (rs := [4]) (by kernel_rfl) (by simp) ?_
          refine AllReadyH.cons (o := { dst := some 17, op := .call { callee := .value (.func 49), args := #[.tmp 16], argTypes := #[40] }, type := 4, pos := "ref.go:17", after := #[zD 3], guard := none }) rfl (fun K hK => ?_) AllReadyH.nil
          go_simp
          refine (RI.out _).mono ?_
          rintro e w1 ⟨rfl, hb1⟩
          go_wp2_with fail
          refine hK.out _ _ (keepR (Below.trans (Below.refl _ _).drew hb1) hS) (fun hHeld => ?_)
          clear hK K
          try simp only [Act.put, pS1, pS2, pS3]
          refine zW 5 (.bool true) rfl (Or.inl ⟨by rfl, by intro w hSw; go_simp⟩) hHeld ?_
          try simp only [Act.put, pS1, pS2, pS3]
          refine zW 6 (.bool true) rfl (Or.inl ⟨by rfl, by intro w hSw; go_simp⟩) hHeld ?_
          try simp only [Act.put, pS1, pS2, pS3]
          refine zW 7 (undef) rfl (Or.inr ⟨by rfl, rfl⟩) hHeld ?_
          try simp only [Act.put, pS1, pS2, pS3]
          refine zW 8 (undef) rfl (Or.inr ⟨by rfl, rfl⟩) hHeld ?_
          try simp only [Act.put, pS1, pS2, pS3]
          refine zW 9 (undef) rfl (Or.inr ⟨by rfl, rfl⟩) hHeld ?_
          try simp only [Act.put, pS1, pS2, pS3]
          refine zW 10 (undef) rfl (Or.inr ⟨by rfl, rfl⟩) hHeld ?_
          try simp only [Act.put, pS1, pS2, pS3]
          refine zW 11 (undef) rfl (Or.inr ⟨by rfl, rfl⟩) hHeld ?_
          try simp only [Act.put, pS1, pS2, pS3]
          refine zW 12 (undef) rfl (Or.inr ⟨by rfl, rfl⟩) hHeld ?_
          try simp only [Act.put, pS1, pS2, pS3]
          refine zW 13 (undef) rfl (Or.inr ⟨by rfl, rfl⟩) hHeld ?_
          try simp only [Act.put, pS1, pS2, pS3]
          refine zW 14 (undef) rfl (Or.inr ⟨by rfl, rfl⟩) hHeld ?_
          try simp only [Act.put, pS1, pS2, pS3]
          refine zW 15 (undef) rfl (Or.inr ⟨by rfl, rfl⟩) hHeld ?_
          try simp only [Act.put, pS1, pS2, pS3]
          refine zW 16 (undef) rfl (Or.inr ⟨by rfl, rfl⟩) hHeld ?_
          try simp only [Act.put, pS1, pS2, pS3]
          refine zW 17 (undef) rfl (Or.inr ⟨by rfl, rfl⟩) hHeld ?_
          try simp only [Act.put, pS1, pS2, pS3]
          refine zW 18 (undef) rfl (Or.inr ⟨by rfl, rfl⟩) hHeld ?_
          try simp only [Act.put, pS1, pS2, pS3]
          refine zW 19 (undef) rfl (Or.inr ⟨by rfl, rfl⟩) hHeld ?_
          try simp only [Act.put, pS1, pS2, pS3]
          refine zW 20 (undef) rfl (Or.inr ⟨by rfl, rfl⟩) hHeld ?_
          try simp only [Act.put, pS1, pS2, pS3]
          refine zW 21 (undef) rfl (Or.inr ⟨by rfl, rfl⟩) hHeld ?_
          try simp only [Act.put, pS1, pS2, pS3]
          refine zW 22 (undef) rfl (Or.inr ⟨by rfl, rfl⟩) hHeld ?_
          try simp only [Act.put, pS1, pS2, pS3]
          refine zW 23 (.bool true) rfl (Or.inl ⟨by rfl, by intro w hSw; go_simp⟩) hHeld ?_
          try simp only [Act.put, pS1, pS2, pS3]
          refine wpAnyH_done (by kernel_rfl) ?_ _
          go_wp2
          go_ret
          exact ⟨by rw [HNO.out hko]; rfl, HB.out.trans ((Below.trans (Below.refl _ _).drew hb1).mono HB.out.size)⟩
        · by_cases h0 : k = 0
          · have h0' : decide ((0 : Int) < (k : Int)) = false := by rw [decide_eq_false_iff_not]; omega
            have hko : okAt l k = true := HF.out.1 h0
            clear HF
            go_wp2
            refine wp_region_held_drew (S := (fun W => W.rangeAt g (o + 110 * k) X ∧ W.cell? ⟨g, o + 110 * k, none⟩ = some (.int .i64 px) ∧ W.cell? ⟨g, o + 110 * j, none⟩ = some (.int .i64 py))) (by kernel_rfl) hS (fun hHeld => ?_)
            refine zW 0 (.slice (some ⟨g, o, none⟩) len cap) rfl (Or.inl ⟨by rfl, by intro w hSw; go_simp⟩) hHeld ?_
            try simp only [Act.put, pS1, pS2, pS3]
            refine zW 1 (.int .i64 k) rfl (Or.inl ⟨by rfl, by intro w hSw; go_simp⟩) hHeld ?_
            try simp only [Act.put, pS1, pS2, pS3]
            refine zW 2 (.pointer (some ⟨g, o + 110 * k, none⟩)) rfl (Or.inl ⟨by rfl, by intro W hSw; have := ix1 W; go_simp⟩) hHeld ?_
            try simp only [Act.put, pS1, pS2, pS3]
            refine zW 3 (.agg X.toArray) rfl (yieldsIf_load_mid (by rfl) 40 (.tmp 15) rfl _ _ rfl X _ (fun _ h => h.1) Try.underlying40 rfl z0) hHeld ?_
            try simp only [Act.put, pS1, pS2, pS3]
            refine wpAnyH_ready (rs := [4]) (by kernel_rfl) (by simp) ?_
            refine AllReadyH.cons (o := { dst := some 17, op := .call { callee := .value (.func 49), args := #[.tmp 16], argTypes := #[40] }, type := 4, pos := "ref.go:17", after := #[zD 3], guard := none }) rfl (fun K hK => ?_) AllReadyH.nil
            go_simp
            refine (RI.out _).mono ?_
            rintro e w1 ⟨rfl, hb1⟩
            go_wp2_with fail
            refine hK.out _ _ (keepR (Below.trans (Below.refl _ _).drew hb1) hS) (fun hHeld => ?_)
            clear hK K
            try simp only [Act.put, pS1, pS2, pS3]
            refine zW 5 (.bool false) rfl (Or.inl ⟨by rfl, by intro w hSw; go_simp⟩) hHeld ?_
            try simp only [Act.put, pS1, pS2, pS3]
            refine zW 6 (.bool false) rfl (Or.inl ⟨by rfl, by intro w hSw; go_simp⟩) hHeld ?_
            try simp only [Act.put, pS1, pS2, pS3]
            refine zW 7 (.int .i64 k) rfl (Or.inl ⟨by rfl, by intro w hSw; go_simp⟩) hHeld ?_
            try simp only [Act.put, pS1, pS2, pS3]
            refine zW 8 (.bool false) rfl (Or.inl ⟨by rfl, by intro w hSw; go_simp⟩) hHeld ?_
            try simp only [Act.put, pS1, pS2, pS3]
            refine zW 9 (.bool false) rfl (Or.inl ⟨by rfl, by intro w hSw; go_simp⟩) hHeld ?_
            try simp only [Act.put, pS1, pS2, pS3]
            refine zW 10 (undef) rfl (Or.inr ⟨by rfl, rfl⟩) hHeld ?_
            try simp only [Act.put, pS1, pS2, pS3]
            refine zW 11 (undef) rfl (Or.inr ⟨by rfl, rfl⟩) hHeld ?_
            try simp only [Act.put, pS1, pS2, pS3]
            refine zW 12 (undef) rfl (Or.inr ⟨by rfl, rfl⟩) hHeld ?_
            try simp only [Act.put, pS1, pS2, pS3]
            refine zW 13 (undef) rfl (Or.inr ⟨by rfl, rfl⟩) hHeld ?_
            try simp only [Act.put, pS1, pS2, pS3]
            refine zW 14 (undef) rfl (Or.inr ⟨by rfl, rfl⟩) hHeld ?_
            try simp only [Act.put, pS1, pS2, pS3]
            refine zW 15 (undef) rfl (Or.inr ⟨by rfl, rfl⟩) hHeld ?_
            try simp only [Act.put, pS1, pS2, pS3]
            refine zW 16 (undef) rfl (Or.inr ⟨by rfl, rfl⟩) hHeld ?_
            try simp only [Act.put, pS1, pS2, pS3]
            refine zW 17 (undef) rfl (Or.inr ⟨by rfl, rfl⟩) hHeld ?_
            try simp only [Act.put, pS1, pS2, pS3]
            refine zW 18 (undef) rfl (Or.inr ⟨by rfl, rfl⟩) hHeld ?_
            try simp only [Act.put, pS1, pS2, pS3]
            refine zW 19 (undef) rfl (Or.inr ⟨by rfl, rfl⟩) hHeld ?_
            try simp only [Act.put, pS1, pS2, pS3]
            refine zW 20 (undef) rfl (Or.inr ⟨by rfl, rfl⟩) hHeld ?_
            try simp only [Act.put, pS1, pS2, pS3]
            refine zW 21 (undef) rfl (Or.inr ⟨by rfl, rfl⟩) hHeld ?_
            try simp only [Act.put, pS1, pS2, pS3]
            refine zW 22 (.bool false) rfl (Or.inl ⟨by rfl, by intro w hSw; go_simp⟩) hHeld ?_
            try simp only [Act.put, pS1, pS2, pS3]
            refine zW 23 (.bool false) rfl (Or.inl ⟨by rfl, by intro w hSw; go_simp⟩) hHeld ?_
            try simp only [Act.put, pS1, pS2, pS3]
            refine wpAnyH_done (by kernel_rfl) ?_ _
            go_wp2
            go_roundw
            case rel => exact ⟨k + 1, by omega, by go_num, HB.out.trans ((Below.trans (Below.refl _ _).drew hb1).mono HB.out.size), HYE.out hko⟩
            case measure => simp [intOf]; omega
          · have h0' : decide ((0 : Int) < (k : Int)) = true := by rw [decide_eq_true_eq]; omega
            have hsub : IntKind.i64.wrap ((k : Int) - 1) = (j : Int) := by rw [wrap_int _ (by omega) (by omega)]; have := HJ.out; omega
            have h0n : 0 < k := by omega
            by_cases hlow : py ≤ px
            · have hl' : decide (px < py) = false := by rw [decide_eq_false_iff_not]; omega
              have hko : okAt l k = true := by rw [HF.out.2 (by omega), decide_eq_true hlow]; rfl
              clear HF
              go_wp2
              refine wp_region_held_drew (S := (fun W => W.rangeAt g (o + 110 * k) X ∧ W.cell? ⟨g, o + 110 * k, none⟩ = some (.int .i64 px) ∧ W.cell? ⟨g, o + 110 * j, none⟩ = some (.int .i64 py))) (by kernel_rfl) hS (fun hHeld => ?_)
              refine zW 0 (.slice (some ⟨g, o, none⟩) len cap) rfl (Or.inl ⟨by rfl, by intro w hSw; go_simp⟩) hHeld ?_
              try simp only [Act.put, pS1, pS2, pS3]
              refine zW 1 (.int .i64 k) rfl (Or.inl ⟨by rfl, by intro w hSw; go_simp⟩) hHeld ?_
              try simp only [Act.put, pS1, pS2, pS3]
              refine zW 2 (.pointer (some ⟨g, o + 110 * k, none⟩)) rfl (Or.inl ⟨by rfl, by intro W hSw; have := ix1 W; go_simp⟩) hHeld ?_
              try simp only [Act.put, pS1, pS2, pS3]
              refine zW 3 (.agg X.toArray) rfl (yieldsIf_load_mid (by rfl) 40 (.tmp 15) rfl _ _ rfl X _ (fun _ h => h.1) Try.underlying40 rfl z0) hHeld ?_
              try simp only [Act.put, pS1, pS2, pS3]
              refine wpAnyH_ready (rs := [4]) (by kernel_rfl) (by simp) ?_
              refine AllReadyH.cons (o := { dst := some 17, op := .call { callee := .value (.func 49), args := #[.tmp 16], argTypes := #[40] }, type := 4, pos := "ref.go:17", after := #[zD 3], guard := none }) rfl (fun K hK => ?_) AllReadyH.nil
              go_simp
              refine (RI.out _).mono ?_
              rintro e w1 ⟨rfl, hb1⟩
              go_wp2_with fail
              refine hK.out _ _ (keepR (Below.trans (Below.refl _ _).drew hb1) hS) (fun hHeld => ?_)
              clear hK K
              try simp only [Act.put, pS1, pS2, pS3]
              refine zW 5 (.bool false) rfl (Or.inl ⟨by rfl, by intro w hSw; go_simp⟩) hHeld ?_
              try simp only [Act.put, pS1, pS2, pS3]
              refine zW 6 (.bool false) rfl (Or.inl ⟨by rfl, by intro w hSw; go_simp⟩) hHeld ?_
              try simp only [Act.put, pS1, pS2, pS3]
              refine zW 7 (.int .i64 k) rfl (Or.inl ⟨by rfl, by intro w hSw; go_simp⟩) hHeld ?_
              try simp only [Act.put, pS1, pS2, pS3]
              refine zW 8 (.bool true) rfl (Or.inl ⟨by rfl, by intro w hSw; go_simp⟩) hHeld ?_
              try simp only [Act.put, pS1, pS2, pS3]
              refine zW 9 (.bool true) rfl (Or.inl ⟨by rfl, by intro w hSw; go_simp⟩) hHeld ?_
              try simp only [Act.put, pS1, pS2, pS3]
              refine zW 10 (.slice (some ⟨g, o, none⟩) len cap) rfl (Or.inl ⟨by rfl, by intro w hSw; go_simp⟩) hHeld ?_
              try simp only [Act.put, pS1, pS2, pS3]
              refine zW 11 (.int .i64 k) rfl (Or.inl ⟨by rfl, by intro w hSw; go_simp⟩) hHeld ?_
              try simp only [Act.put, pS1, pS2, pS3]
              refine zW 12 (.int .i64 j) rfl (Or.inl ⟨by rfl, by intro W hSw; have := hsub; go_simp⟩) hHeld ?_
              try simp only [Act.put, pS1, pS2, pS3]
              refine zW 13 (.pointer (some ⟨g, o + 110 * j, none⟩)) rfl (Or.inl ⟨by rfl, by intro W hSw; have := ix2 W; go_simp⟩) hHeld ?_
              try simp only [Act.put, pS1, pS2, pS3]
              refine zW 14 (.pointer (some ⟨g, o + 110 * j, none⟩)) rfl (Or.inl ⟨by rfl, by intro w hSw; go_simp⟩) hHeld ?_
              try simp only [Act.put, pS1, pS2, pS3]
              refine zW 15 (.int .i64 py) rfl (Or.inl ⟨by rfl, by intro W hSw; have h1 := hSw.2.2; go_simp⟩) hHeld ?_
              try simp only [Act.put, pS1, pS2, pS3]
              refine zW 16 (.slice (some ⟨g, o, none⟩) len cap) rfl (Or.inl ⟨by rfl, by intro w hSw; go_simp⟩) hHeld ?_
              try simp only [Act.put, pS1, pS2, pS3]
              refine zW 17 (.int .i64 k) rfl (Or.inl ⟨by rfl, by intro w hSw; go_simp⟩) hHeld ?_
              try simp only [Act.put, pS1, pS2, pS3]
              refine zW 18 (.pointer (some ⟨g, o + 110 * k, none⟩)) rfl (Or.inl ⟨by rfl, by intro W hSw; have := ix1 W; go_simp⟩) hHeld ?_
              try simp only [Act.put, pS1, pS2, pS3]
              refine zW 19 (.pointer (some ⟨g, o + 110 * k, none⟩)) rfl (Or.inl ⟨by rfl, by intro w hSw; go_simp⟩) hHeld ?_
              try simp only [Act.put, pS1, pS2, pS3]
              refine zW 20 (.int .i64 px) rfl (Or.inl ⟨by rfl, by intro W hSw; have h1 := hSw.2.1; go_simp⟩) hHeld ?_
              try simp only [Act.put, pS1, pS2, pS3]
              refine zW 21 (.bool false) rfl (Or.inl ⟨by rfl, by intro w hSw; go_simp⟩) hHeld ?_
              try simp only [Act.put, pS1, pS2, pS3]
              refine zW 22 (.bool false) rfl (Or.inl ⟨by rfl, by intro w hSw; go_simp⟩) hHeld ?_
              try simp only [Act.put, pS1, pS2, pS3]
              refine zW 23 (.bool false) rfl (Or.inl ⟨by rfl, by intro w hSw; go_simp⟩) hHeld ?_
              try simp only [Act.put, pS1, pS2, pS3]
              refine wpAnyH_done (by kernel_rfl) ?_ _
              go_wp2
              go_roundw
              case rel => exact ⟨k + 1, by omega, by go_num, HB.out.trans ((Below.trans (Below.refl _ _).drew hb1).mono HB.out.size), HYE.out hko⟩
              case measure => simp [intOf]; omega
            · have hl' : decide (px < py) = true := by rw [decide_eq_true_eq]; omega
              have hko : okAt l k = false := by rw [HF.out.2 (by omega), decide_eq_false hlow]; rfl
              clear HF
              go_wp2
              refine wp_region_held_drew (S := (fun W => W.rangeAt g (o + 110 * k) X ∧ W.cell? ⟨g, o + 110 * k, none⟩ = some (.int .i64 px) ∧ W.cell? ⟨g, o + 110 * j, none⟩ = some (.int .i64 py))) (by kernel_rfl) hS (fun hHeld => ?_)
              refine zW 0 (.slice (some ⟨g, o, none⟩) len cap) rfl (Or.inl ⟨by rfl, by intro w hSw; go_simp⟩) hHeld ?_
              try simp only [Act.put, pS1, pS2, pS3]
              refine zW 1 (.int .i64 k) rfl (Or.inl ⟨by rfl, by intro w hSw; go_simp⟩) hHeld ?_
              try simp only [Act.put, pS1, pS2, pS3]
              refine zW 2 (.pointer (some ⟨g, o + 110 * k, none⟩)) rfl (Or.inl ⟨by rfl, by intro W hSw; have := ix1 W; go_simp⟩) hHeld ?_
              try simp only [Act.put, pS1, pS2, pS3]
              refine zW 3 (.agg X.toArray) rfl (yieldsIf_load_mid (by rfl) 40 (.tmp 15) rfl _ _ rfl X _ (fun _ h => h.1) Try.underlying40 rfl z0) hHeld ?_
              try simp only [Act.put, pS1, pS2, pS3]
              refine wpAnyH_ready (rs := [4]) (by kernel_rfl) (by simp) ?_
              refine AllReadyH.cons (o := { dst := some 17, op := .call { callee := .value (.func 49), args := #[.tmp 16], argTypes := #[40] }, type := 4, pos := "ref.go:17", after := #[zD 3], guard := none }) rfl (fun K hK => ?_) AllReadyH.nil
              go_simp
              refine (RI.out _).mono ?_
              rintro e w1 ⟨rfl, hb1⟩
              go_wp2_with fail
              refine hK.out _ _ (keepR (Below.trans (Below.refl _ _).drew hb1) hS) (fun hHeld => ?_)
              clear hK K
              try simp only [Act.put, pS1, pS2, pS3]
              refine zW 5 (.bool false) rfl (Or.inl ⟨by rfl, by intro w hSw; go_simp⟩) hHeld ?_
              try simp only [Act.put, pS1, pS2, pS3]
              refine zW 6 (.bool false) rfl (Or.inl ⟨by rfl, by intro w hSw; go_simp⟩) hHeld ?_
              try simp only [Act.put, pS1, pS2, pS3]
              refine zW 7 (.int .i64 k) rfl (Or.inl ⟨by rfl, by intro w hSw; go_simp⟩) hHeld ?_
              try simp only [Act.put, pS1, pS2, pS3]
              refine zW 8 (.bool true) rfl (Or.inl ⟨by rfl, by intro w hSw; go_simp⟩) hHeld ?_
              try simp only [Act.put, pS1, pS2, pS3]
              refine zW 9 (.bool true) rfl (Or.inl ⟨by rfl, by intro w hSw; go_simp⟩) hHeld ?_
              try simp only [Act.put, pS1, pS2, pS3]
              refine zW 10 (.slice (some ⟨g, o, none⟩) len cap) rfl (Or.inl ⟨by rfl, by intro w hSw; go_simp⟩) hHeld ?_
              try simp only [Act.put, pS1, pS2, pS3]
              refine zW 11 (.int .i64 k) rfl (Or.inl ⟨by rfl, by intro w hSw; go_simp⟩) hHeld ?_
              try simp only [Act.put, pS1, pS2, pS3]
              refine zW 12 (.int .i64 j) rfl (Or.inl ⟨by rfl, by intro W hSw; have := hsub; go_simp⟩) hHeld ?_
              try simp only [Act.put, pS1, pS2, pS3]
              refine zW 13 (.pointer (some ⟨g, o + 110 * j, none⟩)) rfl (Or.inl ⟨by rfl, by intro W hSw; have := ix2 W; go_simp⟩) hHeld ?_
              try simp only [Act.put, pS1, pS2, pS3]
              refine zW 14 (.pointer (some ⟨g, o + 110 * j, none⟩)) rfl (Or.inl ⟨by rfl, by intro w hSw; go_simp⟩) hHeld ?_
              try simp only [Act.put, pS1, pS2, pS3]
              refine zW 15 (.int .i64 py) rfl (Or.inl ⟨by rfl, by intro W hSw; have h1 := hSw.2.2; go_simp⟩) hHeld ?_
              try simp only [Act.put, pS1, pS2, pS3]
              refine zW 16 (.slice (some ⟨g, o, none⟩) len cap) rfl (Or.inl ⟨by rfl, by intro w hSw; go_simp⟩) hHeld ?_
              try simp only [Act.put, pS1, pS2, pS3]
              refine zW 17 (.int .i64 k) rfl (Or.inl ⟨by rfl, by intro w hSw; go_simp⟩) hHeld ?_
              try simp only [Act.put, pS1, pS2, pS3]
              refine zW 18 (.pointer (some ⟨g, o + 110 * k, none⟩)) rfl (Or.inl ⟨by rfl, by intro W hSw; have := ix1 W; go_simp⟩) hHeld ?_
              try simp only [Act.put, pS1, pS2, pS3]
              refine zW 19 (.pointer (some ⟨g, o + 110 * k, none⟩)) rfl (Or.inl ⟨by rfl, by intro w hSw; go_simp⟩) hHeld ?_
              try simp only [Act.put, pS1, pS2, pS3]
              refine zW 20 (.int .i64 px) rfl (Or.inl ⟨by rfl, by intro W hSw; have h1 := hSw.2.1; go_simp⟩) hHeld ?_
              try simp only [Act.put, pS1, pS2, pS3]
              refine zW 21 (.bool true) rfl (Or.inl ⟨by rfl, by intro w hSw; go_simp⟩) hHeld ?_
              try simp only [Act.put, pS1, pS2, pS3]
              refine zW 22 (.bool true) rfl (Or.inl ⟨by rfl, by intro w hSw; go_simp⟩) hHeld ?_
              try simp only [Act.put, pS1, pS2, pS3]
              refine zW 23 (.bool true) rfl (Or.inl ⟨by rfl, by intro w hSw; go_simp⟩) hHeld ?_
              try simp only [Act.put, pS1, pS2, pS3]
              refine wpAnyH_done (by kernel_rfl) ?_ _
              go_wp2
              go_ret
              exact ⟨by rw [HNO.out hko]; rfl, HB.out.trans ((Below.trans (Below.refl _ _).drew hb1).mono HB.out.size)⟩
      · obtain rfl : len = k := by omega
        have hd : decide ((len : Int) < (len : Int)) = false := by rw [decide_eq_false_iff_not]; omega
        have HE : Hid (rightL l = true) := right_yes (by have := HL.out; omega) (by rw [HL.out]; exact HN.out)
        go_wp2
        go_ret
        exact ⟨by rw [HE.out]; rfl, HB.out⟩
  · have h5' : decide ((2000 : Int) < (len : Int)) = true := by rw [decide_eq_true_eq]; omega
    have HE : Hid (rightL l = false) := right_long (by have := HL.out; omega)
    go_enter Try.func35, Try.ntmps35
    go_wp2
    go_ret
    exact ⟨by rw [HE.out]; rfl, Below.refl _ _⟩
theorem range_two_new (w : World) (x y : Value) (t : TypeId) : (w.alloc (.cells #[x, y] t)).rangeAt w.heap.size 0 [x, y] := fun j v hj => by
  rw [cell_of_row _ _ _ _ t (0, 0) (heap_alloc_new w _)]
  simpa using hj
set_option maxHeartbeats 2000000 in
theorem refSameC_any (a1 a2 : Option Addr) (len c1 c2 : Nat) (l : List ClT) (w : World) (h1 : CReads w a1 len c1 l) (h2 : CReads w a2 len c2 l) :
    Calls Try.prog 39 #[.slice a1 len c1, .slice a2 len c2] w fun e w' => e = .returned (.bool true) ∧ Below w.heap.size w w' := by
  have hlen := h1.ln
  have hmx : len ≤ 9223372036854775807 := by have := h1.mx; unfold maxLen at this; omega
  have H1 := hidk h1
  have H2 := hidk h2
  clear h1 h2
  have hdn : (!((len : Int) == (len : Int))) = false := by simp
  go_enter Try.func39, Try.ntmps39
  go_wp2
  go_loopw [5] (fun v wr => ∃ i : Nat, i ≤ len ∧ v = .int .i64 i ∧ Below w.heap.size w wr) (fun v _ => len - (intOf v).toNat)
  case atStart => exact ⟨0, by omega, rfl, Below.refl _ _⟩
  case round =>
    obtain ⟨i, hi, rfl, hB⟩ := hrel
    by_cases hlt : i < len
    · have hdi : decide ((i : Int) < (len : Int)) = true := by rw [decide_eq_true_eq]; omega
      have hw := wrap_int ((i : Int) + 1) (by omega) (by omega)
      obtain ⟨g1, o1, rfl, hg1⟩ := H1.out.at (by omega)
      obtain ⟨g2, o2, rfl, hg2⟩ := H2.out.at (by omega)
      have hil : i < l.length := by omega
      obtain ⟨A, HA⟩ : ∃ A, Hid (A = ccells l[i]) := ⟨_, hidk rfl⟩
      have hok := H1.out.ok _ (List.getElem_mem hil)
      have z0 : (Try.prog.info? 36).map (·.size) = some A.length := by rw [sizeC, HA.out, ccells_length _ hok]
      have hne := fun W => neqClaim l[i] l[i] hok hok A.toArray A.toArray (by show _ = _; rw [HA.out]) (by show _ = _; rw [HA.out]) false (by simp) W
      have hS : wr.rangeAt g1 (o1 + 36 * i) A ∧ wr.rangeAt g2 (o2 + 36 * i) A := by
        rw [HA.out]
        exact ⟨(H1.out.keep hB).range i hil, (H2.out.keep hB).range i hil⟩
      have ix1 := fun W => index_cl W g1 o1 len c1 i .i64 hlt
      have ix2 := fun W => index_cl W g2 o2 len c2 i .i64 hlt
      clear HA hok hil
      go_wp2
      refine wp_region_held_drew (S := (fun W => W.rangeAt g1 (o1 + 36 * i) A ∧ W.rangeAt g2 (o2 + 36 * i) A)) (by kernel_rfl) hS (fun hHeld => ?_)
      refine zW 0 (.slice (some ⟨g1, o1, none⟩) len c1) rfl (Or.inl ⟨by rfl, by intro w hSw; go_simp⟩) hHeld ?_
      try simp only [Act.put, pS1, pS2, pS3]
      refine zW 1 (.int .i64 i) rfl (Or.inl ⟨by rfl, by intro w hSw; go_simp⟩) hHeld ?_
      try simp only [Act.put, pS1, pS2, pS3]
      refine zW 2 (.pointer (some ⟨g1, o1 + 36 * i, none⟩)) rfl (Or.inl ⟨by rfl, by intro W hSw; have := ix1 W; go_simp⟩) hHeld ?_
      try simp only [Act.put, pS1, pS2, pS3]
      refine zW 3 (.agg A.toArray) rfl (yieldsIf_load_mid (by rfl) 36 (.tmp 19) rfl _ _ rfl A _ (fun _ h => h.1) Try.underlying36 rfl z0) hHeld ?_
      try simp only [Act.put, pS1, pS2, pS3]
      refine zW 4 (.slice (some ⟨g2, o2, none⟩) len c2) rfl (Or.inl ⟨by rfl, by intro w hSw; go_simp⟩) hHeld ?_
      try simp only [Act.put, pS1, pS2, pS3]
      refine zW 5 (.int .i64 i) rfl (Or.inl ⟨by rfl, by intro w hSw; go_simp⟩) hHeld ?_
      try simp only [Act.put, pS1, pS2, pS3]
      refine zW 6 (.pointer (some ⟨g2, o2 + 36 * i, none⟩)) rfl (Or.inl ⟨by rfl, by intro W hSw; have := ix2 W; go_simp⟩) hHeld ?_
      try simp only [Act.put, pS1, pS2, pS3]
      refine zW 7 (.agg A.toArray) rfl (yieldsIf_load_mid (by rfl) 36 (.tmp 23) rfl _ _ rfl A _ (fun _ h => h.2) Try.underlying36 rfl z0) hHeld ?_
      try simp only [Act.put, pS1, pS2, pS3]
      refine zW 8 (.bool false) rfl (Or.inl ⟨by rfl, by intro W hSw; have := hne W; go_simp⟩) hHeld ?_
      try simp only [Act.put, pS1, pS2, pS3]
      refine wpAnyH_done (by kernel_rfl) ?_ _
      go_wp2
      go_roundw
      case rel => exact ⟨i + 1, by omega, by go_num, hB.drew⟩
      case measure => simp [intOf]; omega
    · obtain rfl : len = i := by omega
      go_wp2
      go_ret
      exact ⟨rfl, hB⟩
set_option maxHeartbeats 2000000 in
theorem refOwnC_any (a : Option Addr) (len cap : Nat) (l : List ClT) (w : World) (h : CReads w a len cap l) (hc0 : a = none → cap = 0) (hlen : len ≤ 1000000) :
    Calls Try.prog 31 #[.slice a len cap] w fun e w' => ∃ v, e = .returned v ∧ w'.ownsRow w.heap.size 36 36 v len (clcL l) ∧ Below w.heap.size w w' := by
  obtain ⟨v, w', hr, ho, hg⟩ := run_append_cls h hc0 w.heap.size 0 (.slice none 0 0) [] ⟨rfl, .inl ⟨rfl, rfl⟩⟩ (Nat.le_refl _) (by omega)
  have HB : Hid (Below w.heap.size w w') := (Below.refl _ _).grown hg (Nat.le_refl _) (fun k e => by cases e)
  rw [List.nil_append, Nat.zero_add] at ho
  have HO := hidk ho
  clear ho hg h
  go_enter Try.func31, Try.ntmps31
  go_wp2_with (first
    | (show aD 6 _ _ _ _ _ _ _ _ _ _ _; refine wpList_append_run rfl (.tmp 4) (.tmp 5) 23 23 rfl (.slice none 0 0) (.slice a len cap) v w' rfl rfl hr ?_; try simp only [Act.put, pS1, pS2, pS3])
    | fail)
  go_ret
  exact ⟨v, rfl, HO.out, HB.out⟩
theorem ahead_iff (a b : ClT) : aheadC a b = (decide (a.r < b.r) || (a.r == b.r) && decide (a.e < b.e)) := by
  unfold aheadC
  rw [Bool.eq_iff_iff]
  simp
set_option maxHeartbeats 8000000 in
theorem refAhead_any (a b : ClT) (X Y : Array Value) (HX : Hid (X = (ccells a).toArray)) (HY : Hid (Y = (ccells b).toArray)) (w : World) :
    Calls Try.prog 57 #[.agg X, .agg Y] w fun e w' => e = .returned (.bool (aheadC a b)) ∧ Below w.heap.size w w' := by
  rw [ahead_iff]
  have h1 := (crow_new w a X HX 36).keep ((Below.refl _ _).alloc (Nat.le_refl _) (.cells Y 36))
  have h2 := crow_new (w.alloc (.cells X 36)) b Y HY 36
  have c1 := h1.r
  have c2 := h1.e
  have c3 := h2.r
  have c4 := h2.e
  simp only [Nat.zero_add, World.size_alloc] at c1 c2 c3 c4
  clear h1 h2 HX HY
  obtain ⟨ar, hq1⟩ : ∃ x, a.r = x := ⟨_, rfl⟩
  obtain ⟨ae, hq2⟩ : ∃ x, a.e = x := ⟨_, rfl⟩
  obtain ⟨br, hq3⟩ : ∃ x, b.r = x := ⟨_, rfl⟩
  obtain ⟨be, hq4⟩ : ∃ x, b.e = x := ⟨_, rfl⟩
  rw [hq1] at c1
  rw [hq2] at c2
  rw [hq3] at c3
  rw [hq4] at c4
  rw [hq1, hq2, hq3, hq4]
  clear hq1 hq2 hq3 hq4
  obtain ⟨P, hP⟩ : ∃ x, decide (ar < br) = x := ⟨_, rfl⟩
  obtain ⟨Q, hQ⟩ : ∃ x, (ar == br) = x := ⟨_, rfl⟩
  obtain ⟨R, hR⟩ : ∃ x, decide (ae < be) = x := ⟨_, rfl⟩
  rw [hP, hQ, hR]
  cases P <;> cases Q <;> cases R
  all_goals
    go_enter Try.func57, Try.ntmps57
    go_wp2
    go_ret
    exact ⟨rfl, ((Below.refl _ _).alloc (Nat.le_refl _) _).alloc (by simp) _⟩
def cmpI (x y : Int) : Int := if x < y then -1 else if y < x then 1 else 0
def orI (a b : Int) : Int := if a = 0 then b else a
theorem isNaN_any (x : Int) (w : World) : Calls Try.prog 116 #[.int .i64 x] w fun e w' => e = .returned (.bool false) ∧ w = w' := by
  have h : (!(x == x)) = false := by simp
  go_enter Try.func116, Try.ntmps116
  go_wp2
  go_ret
  exact ⟨rfl, rfl⟩
theorem compare_any (x y : Int) (w : World) : Calls Try.prog 99 #[.int .i64 x, .int .i64 y] w fun e w' => e = .returned (.int .i64 (cmpI x y)) ∧ w = w' := by
  have N1 := hidk (isNaN_any x w)
  have N2 := hidk (isNaN_any y w)
  obtain ⟨P, hP⟩ : ∃ b, decide (x < y) = b := ⟨_, rfl⟩
  obtain ⟨Q, hQ⟩ : ∃ b, decide (y < x) = b := ⟨_, rfl⟩
  have HE : Hid (cmpI x y = if P = true then -1 else if Q = true then 1 else 0) := by
    show _ = _
    unfold cmpI
    rw [← hP, ← hQ]
    simp only [decide_eq_true_eq]
  go_enter Try.func99, Try.ntmps99
  go_wp2_with fail
  refine N1.out.mono ?_
  rintro e w1 ⟨rfl, rfl⟩
  go_wp2_with fail
  refine N2.out.mono ?_
  rintro e w1 ⟨rfl, rfl⟩
  cases P
  · cases Q
    · go_wp2
      go_ret
      exact ⟨by rw [HE.out]; rfl, rfl⟩
    · go_wp2
      go_ret
      exact ⟨by rw [HE.out]; rfl, rfl⟩
  · go_wp2
    go_ret
    exact ⟨by rw [HE.out]; rfl, rfl⟩
theorem or_any (g : Nat) (a b : Int) (w : World) (h0 : w.cell? ⟨g, 0, none⟩ = some (.int .i64 a)) (h1 : w.cell? ⟨g, 1, none⟩ = some (.int .i64 b)) :
    Calls Try.prog 98 #[.slice (some ⟨g, 0, none⟩) 2 2] w fun e w' => e = .returned (.int .i64 (orI a b)) ∧ w = w' := by
  by_cases ha : a = 0
  · by_cases hb : b = 0
    · have HE : Hid (orI a b = 0) := by show _ = _; unfold orI; rw [if_pos ha, hb]
      subst ha
      subst hb
      go_enter Try.func98, Try.ntmps98
      go_wp2
      go_loop [5, 8] (fun x i => ∃ k : Nat, k ≤ 2 ∧ i = .int .i64 k) (fun _ i => 2 - (intOf i).toNat)
      case atStart => exact ⟨0, by omega, rfl⟩
      case round =>
        obtain ⟨k, hk, rfl⟩ := hrel
        obtain rfl | rfl | rfl : k = 0 ∨ k = 1 ∨ k = 2 := by omega
        · go_wp2
          go_round
          case rel => exact ⟨1, by omega, rfl⟩
          case measure => simp [intOf]
        · go_wp2
          go_round
          case rel => exact ⟨2, by omega, rfl⟩
          case measure => simp [intOf]
        · go_wp2
          go_ret
          exact ⟨by rw [HE.out]; rfl, rfl⟩
    · have HE : Hid (orI a b = b) := by show _ = _; unfold orI; rw [if_pos ha]
      have hn : (!(b == 0)) = true := by simp [hb]
      subst ha
      go_enter Try.func98, Try.ntmps98
      go_wp2
      go_loop [5, 8] (fun x i => ∃ k : Nat, k ≤ 1 ∧ i = .int .i64 k) (fun _ i => 2 - (intOf i).toNat)
      case atStart => exact ⟨0, by omega, rfl⟩
      case round =>
        obtain ⟨k, hk, rfl⟩ := hrel
        obtain rfl | rfl : k = 0 ∨ k = 1 := by omega
        · go_wp2
          go_round
          case rel => exact ⟨1, by omega, rfl⟩
          case measure => simp [intOf]
        · go_wp2
          go_ret
          exact ⟨by rw [HE.out]; rfl, rfl⟩
  · have HE : Hid (orI a b = a) := by show _ = _; unfold orI; rw [if_neg ha]
    have hn : (!(a == 0)) = true := by simp [ha]
    go_enter Try.func98, Try.ntmps98
    go_wp2
    go_loop [5, 8] (fun x i => i = .int .i64 0) (fun _ i => 2 - (intOf i).toNat)
    case atStart => exact rfl
    case round =>
      obtain rfl := hrel
      go_wp2
      go_ret
      exact ⟨by rw [HE.out]; rfl, rfl⟩
def foundC (l : List ClT) (r e : Int) : ClT := (findC l r e).getD zeroC
theorem findC_yes {l : List ClT} {r e : Int} (k : Nat) (hk : k < l.length) (h0 : ∀ x ∈ l.take k, isC x r e = false) (h1 : isC l[k] r e = true) : findC l r e = some l[k] := by
  obtain ⟨x, hx⟩ : ∃ x, l[k] = x := ⟨_, rfl⟩
  have e0 : l = l.take k ++ (x :: l.drop (k + 1)) := by rw [← hx, ← List.drop_eq_getElem_cons hk, List.take_append_drop]
  rw [hx] at h1 ⊢
  unfold findC
  rw [e0, List.find?_append, List.find?_eq_none.2 (fun x hx => by rw [h0 x hx]; simp), Option.none_or]
  exact List.find?_cons_of_pos h1
theorem findC_no {l : List ClT} {r e : Int} (h0 : ∀ x ∈ l, isC x r e = false) : findC l r e = none := by
  unfold findC
  exact List.find?_eq_none.2 fun x hx => by rw [h0 x hx]; simp
theorem take_isC {l : List ClT} {r e : Int} {k : Nat} (hk : k < l.length) (h : ∀ x ∈ l.take k, isC x r e = false) (hx : isC l[k] r e = false) : ∀ x ∈ l.take (k + 1), isC x r e = false := by
  rw [List.take_succ_eq_append_getElem hk]
  intro x h2
  rcases List.mem_append.1 h2 with h3 | h3
  · exact h x h3
  · rw [List.mem_singleton.1 h3]; exact hx
theorem isC_eq (x : ClT) (r e : Int) : isC x r e = ((x.r == r) && (x.e == e)) := by
  rw [Bool.eq_iff_iff, isC_iff]
  simp
set_option maxHeartbeats 8000000 in
theorem refFindC_any (ad : Option Addr) (len cap : Nat) (l : List ClT) (r e : Int) (w : World) (h : CReads w ad len cap l) (hlen : len ≤ 1000000) (R : Array Value) (HR : Hid (R = (ccells (foundC l r e)).toArray)) :
    Calls Try.prog 70 #[.slice ad len cap, .int .i64 r, .int .i64 e] w fun x w' => x = .returned (.tuple #[.agg R, .bool (findC l r e).isSome]) ∧ Below w.heap.size w w' := by
  have H := hidk h
  have HL := hidk h.ln
  have hmx : len ≤ 9223372036854775807 := by omega
  obtain ⟨Z, HZ, HA, HBZ, H36⟩ := noughtsC
  clear h
  go_enter Try.func70, Try.ntmps70
  go_wp2_with (first
    | (show aD 6 _ _ _ _ _ _ _ _ _ _ _; refine wpList_new_var rfl 36 rfl Z HA.out ?_; intro g6 w1 HM; have HG := hidk HM.out.row; have HB1 := hidk HM.out.below; have hn6 : w.heap.size ≤ g6 := (by rw [HM.out.new]; exact Nat.le_refl _); try simp only [Act.put, pS1, pS2, pS3])
    | fail)
  clear HM
  go_loopw [8] (fun v wr => ∃ k : Nat, k ≤ len ∧ v = .int .i64 k ∧ w1 = wr ∧ Hid (∀ x ∈ l.take k, isC x r e = false)) (fun v _ => len - (intOf v).toNat)
  case atStart => exact ⟨0, by omega, rfl, rfl, fun x hx => by simp at hx⟩
  case round =>
    obtain ⟨k, hk, rfl, rfl, HN⟩ := hrel
    by_cases hlt : k < len
    · have hd : decide ((k : Int) < (len : Int)) = true := by rw [decide_eq_true_eq]; omega
      have hw1 := wrap_int ((k : Int) + 1) (by omega) (by omega)
      obtain ⟨g, o, rfl, hg⟩ := H.out.at (by omega)
      have hkl : k < l.length := by have := HL.out; omega
      obtain ⟨x, HX⟩ : ∃ x, Hid (x = l[k]) := ⟨_, hidk rfl⟩
      have hok : x.d.length = 32 := by rw [HX.out]; exact H.out.ok _ (List.getElem_mem hkl)
      have HRX : Hid (w1.rangeAt g (o + 36 * k) (ccells x)) := by
        show World.rangeAt _ _ _ _
        rw [HX.out]
        exact (H.out.keep HB1.out).range k hkl
      have c0 : w1.cell? ⟨g, o + 36 * k, none⟩ = some (.int .i64 x.r) := HRX.out 0 _ rfl
      have c1 : w1.cell? ⟨g, o + 36 * k + 1, none⟩ = some (.int .i64 x.e) := HRX.out 1 _ rfl
      have ix := fun W => index_cl W g o len cap k .i64 hlt
      have HF := hidk (isC_eq x r e)
      have HIN : Hid (isC x r e = false → ∀ y ∈ l.take (k + 1), isC y r e = false) := fun hh => take_isC hkl HN.out (by rw [← HX.out]; exact hh)
      have HYE : Hid (isC x r e = true → findC l r e = some x) := fun hh => by rw [HX.out]; exact findC_yes k hkl HN.out (by rw [← HX.out]; exact hh)
      clear HX hkl HN
      obtain ⟨xr, hxr⟩ : ∃ y, x.r = y := ⟨_, rfl⟩
      obtain ⟨xe, hxe⟩ : ∃ y, x.e = y := ⟨_, rfl⟩
      rw [hxr] at c0 HF
      rw [hxe] at c1 HF
      obtain ⟨P, hP⟩ : ∃ b, (xr == r) = b := ⟨_, rfl⟩
      obtain ⟨Q, hQ⟩ : ∃ b, (xe == e) = b := ⟨_, rfl⟩
      rw [hP, hQ] at HF
      clear hxr hxe
      cases P
      · go_wp2
        go_roundw
        case rel => exact ⟨k + 1, by omega, by go_num, by trivial, HIN.out HF.out⟩
        case measure => simp [intOf]; omega
      · cases Q
        · go_wp2
          go_roundw
          case rel => exact ⟨k + 1, by omega, by go_num, by trivial, HIN.out HF.out⟩
          case measure => simp [intOf]; omega
        · have HY := hidk (HYE.out HF.out)
          have HRx : Hid (R = (ccells x).toArray) := by show _ = _; rw [HR.out]; unfold foundC; rw [HY.out]; rfl
          have HRR : Hid (w1.rangeAt g (o + 36 * k) R.toList) := by show World.rangeAt _ _ _ _; rw [HRx.out]; exact HRX.out
          have HSR : Hid ((Try.prog.info? 36).map (·.size) = some R.size) := by show _ = _; rw [sizeC, HRx.out]; simp [ccells_length x hok]
          have HZR : Hid (Z.size = R.size) := by show _ = _; rw [H36.out, HRx.out]; simp [ccells_length x hok]
          have H1R : Hid (R.all (·.oneCell') = true) := by show _ = _; rw [HRx.out]; exact one_cellsC _
          clear HRx HRX HR HYE HIN
          go_wp2_with (first
            | (show aD 34 _ _ _ _ _ _ _ _ _ _ _; refine wpList_mid_w (by rfl) 36 (.tmp 33) rfl g (o + 36 * k) rfl R _ HRR.out Try.underlying36 rfl HSR.out ?_; try simp only [Act.put, pS1, pS2, pS3])
            | (refine wpList_set_var rfl 36 (.tmp 6) (.tmp 34) rfl g6 R rfl rfl 36 Z HG.out HSR.out HZR.out H1R.out ?_; intro w5 HW; try simp only [Act.put, pS1, pS2, pS3])
            | fail)
          refine bodyPost_ret (v := .tuple #[.agg R, .bool true]) ?_ rfl ⟨by rw [HY.out]; rfl, HW.out.below w.heap.size w HB1.out hn6⟩
          exact results_row_tmp (p := 6) (q := 7) (ty := 36) rfl _ _ g6 36 R (0, 0) _ rfl HW.out.row Try.underlying36 rfl HSR.out
    · obtain rfl : len = k := by omega
      have hd : decide ((len : Int) < (len : Int)) = false := by rw [decide_eq_false_iff_not]; omega
      have HE : Hid (findC l r e = none) := findC_no (by have := HN.out; rwa [List.take_of_length_le (by have := HL.out; omega)] at this)
      have hRZ : R = Z := by rw [HR.out, HZ.out]; unfold foundC; rw [HE.out]; rfl
      subst hRZ
      have HSR : Hid ((Try.prog.info? 36).map (·.size) = some R.size) := by show _ = _; rw [sizeC, H36.out]
      have H1R : Hid (R.all (·.oneCell') = true) := by show _ = _; rw [HZ.out]; exact one_cellsC _
      clear HR HZ
      go_wp2_with (first
        | (show aD 35 _ _ _ _ _ _ _ _ _ _ _; refine wpList_build_none rfl 36 rfl R HBZ.out ?_; try simp only [Act.put, pS1, pS2, pS3])
        | (refine wpList_set_var rfl 36 (.tmp 6) (.tmp 35) rfl g6 R rfl rfl 36 R HG.out HSR.out rfl H1R.out ?_; intro w5 HW; try simp only [Act.put, pS1, pS2, pS3])
        | fail)
      refine bodyPost_ret (v := .tuple #[.agg R, .bool false]) ?_ rfl ⟨by rw [HE.out]; rfl, HW.out.below w.heap.size w HB1.out hn6⟩
      exact results_row_tmp (p := 6) (q := 7) (ty := 36) rfl _ _ g6 36 R (0, 0) _ rfl HW.out.row Try.underlying36 rfl HSR.out
set_option maxHeartbeats 8000000 in
theorem refOld_any (a : Option Addr) (len cap : Nat) (l : List ItT) (c s : Int) (w : World) (h : IReads w a len cap l) (hlen : len ≤ 1000000) :
    Calls Try.prog 69 #[.slice a len cap, .int .i64 c, .int .i64 s] w fun e w' => e = .returned (.bool (oldL l c s)) ∧ Below w.heap.size w w' := by
  have H := hidk h
  have HL := hidk h.ln
  have hmx : len ≤ 9223372036854775807 := by omega
  obtain ⟨Z, HZ, HA, HBZ, H109⟩ := noughtsE
  clear h HZ HBZ
  go_enter Try.func69, Try.ntmps69
  go_wp2
  go_loopw [7] (fun v wr => ∃ k : Nat, k ≤ len ∧ v = .int .i64 k ∧ Hid (Below w.heap.size w wr) ∧ Hid (∀ x ∈ l.take k, isO x c s = false)) (fun v _ => len - (intOf v).toNat)
  case atStart => exact ⟨0, by omega, rfl, Below.refl _ _, fun x hx => by simp at hx⟩
  case round =>
    obtain ⟨k, hk, rfl, HB, HN⟩ := hrel
    by_cases hlt : k < len
    · have hd : decide ((k : Int) < (len : Int)) = true := by rw [decide_eq_true_eq]; omega
      have hw1 := wrap_int ((k : Int) + 1) (by omega) (by omega)
      obtain ⟨g, o, rfl, hg⟩ := H.out.at (by omega)
      have hkl : k < l.length := by have := HL.out; omega
      obtain ⟨x, HX⟩ : ∃ x, Hid (x = l[k]) := ⟨_, hidk rfl⟩
      have hok : OkE x.e := by rw [HX.out]; exact H.out.ok _ (List.getElem_mem hkl)
      obtain ⟨E, HE⟩ : ∃ E : Array Value, Hid (E = (ecells x.e).toArray) := ⟨_, hidk rfl⟩
      have HR : Hid (wr.rangeAt g (o + 110 * k + 1) E.toList) := by
        show World.rangeAt _ _ _ _
        rw [HE.out, HX.out]
        have h0 := (H.out.keep HB.out).range k hkl
        simpa using range_entry h0
      have HSE : Hid ((Try.prog.info? 38).map (·.size) = some E.size) := by show _ = _; rw [sizeE, HE.out]; simp [ecells_length x.e hok]
      have HZE : Hid (Z.size = E.size) := by show _ = _; rw [H109.out, HE.out]; simp [ecells_length x.e hok]
      have H1E : Hid (E.all (·.oneCell') = true) := by show _ = _; rw [HE.out]; exact one_cellsE _
      have ix := fun W => index_item W g o len cap k .i64 hlt
      have HCE : Hid (∀ (W : World) (b : Nat) (t : TypeId) (f : Nat × Nat), W.heap[b]? = some (.cells E t f) → W.cell? ⟨b, 0, none⟩ = some (.int .i64 x.e.k) ∧ W.cell? ⟨b, 1, none⟩ = some (.int .i64 x.e.c) ∧ W.cell? ⟨b, 2, none⟩ = some (.int .i64 x.e.s)) := fun W b t f hh => entry_new HE b t f hh
      have HF := hidk (isO_iff x c s)
      have HIN : Hid (isO x c s = false → ∀ y ∈ l.take (k + 1), isO y c s = false) := fun hh => take_mem_succ hkl HN.out (by rw [← HX.out]; exact hh)
      have HYE : Hid (isO x c s = true → oldL l c s = true) := fun hh => old_yes k hkl (by rw [← HX.out]; exact hh)
      clear HX hkl hok HE HN
      obtain ⟨kk, hkk⟩ : ∃ kk, x.e.k = kk := ⟨_, rfl⟩
      obtain ⟨cc, hcc⟩ : ∃ kk, x.e.c = kk := ⟨_, rfl⟩
      obtain ⟨ss, hss⟩ : ∃ kk, x.e.s = kk := ⟨_, rfl⟩
      rw [hkk, hcc, hss] at HF HCE
      by_cases hk1 : kk = 1
      · by_cases hc1 : cc = c
        · by_cases hs1 : s ≤ ss
          · have bhk1 : (kk == (1 : Int)) = true := by rw [beq_iff_eq]; exact hk1
            have dhk1 : decide (kk = (1 : Int)) = true := decide_eq_true hk1
            have bhc1 : (cc == c) = true := by rw [beq_iff_eq]; exact hc1
            have dhc1 : decide (cc = c) = true := decide_eq_true hc1
            have dhs1 : decide (s ≤ ss) = true := decide_eq_true hs1
            go_wp2_with (first
              | (show aD 19 _ _ _ _ _ _ _ _ _ _ _; refine wpList_mid_w (by rfl) 38 (.tmp 18) rfl g (o + 110 * k + 1) rfl E _ HR.out Try.underlying38 rfl HSE.out ?_; try simp only [Act.put, pS1, pS2, pS3])
              | (show aD 8 _ _ _ _ _ _ _ _ _ _ _; refine wpList_new_var rfl 38 rfl Z HA.out ?_; intro g9 w1 HM; have HG := hidk HM.out.row; try simp only [Act.put, pS1, pS2, pS3])
              | (refine wpList_set_var rfl 38 (.tmp 8) (.tmp 19) rfl g9 E rfl rfl 38 Z HG.out HSE.out HZE.out H1E.out ?_; intro w2 HW; obtain ⟨c0, c1, c2⟩ := HCE.out _ _ _ _ HW.out.row; have HB2 : Hid (Below w.heap.size w w2) := HW.out.below w.heap.size w (HB.out.trans (HM.out.below.mono HB.out.size)) (by rw [HM.out.new]; exact HB.out.size); try simp only [Act.put, pS1, pS2, pS3])
              | fail)
            go_ret
            exact ⟨by rw [HYE.out (HF.out.2 ⟨hk1, hc1, hs1⟩)]; rfl, HB2.out⟩
          · have bhk1 : (kk == (1 : Int)) = true := by rw [beq_iff_eq]; exact hk1
            have dhk1 : decide (kk = (1 : Int)) = true := decide_eq_true hk1
            have bhc1 : (cc == c) = true := by rw [beq_iff_eq]; exact hc1
            have dhc1 : decide (cc = c) = true := decide_eq_true hc1
            have dhs1 : decide (s ≤ ss) = false := decide_eq_false hs1
            go_wp2_with (first
              | (show aD 19 _ _ _ _ _ _ _ _ _ _ _; refine wpList_mid_w (by rfl) 38 (.tmp 18) rfl g (o + 110 * k + 1) rfl E _ HR.out Try.underlying38 rfl HSE.out ?_; try simp only [Act.put, pS1, pS2, pS3])
              | (show aD 8 _ _ _ _ _ _ _ _ _ _ _; refine wpList_new_var rfl 38 rfl Z HA.out ?_; intro g9 w1 HM; have HG := hidk HM.out.row; try simp only [Act.put, pS1, pS2, pS3])
              | (refine wpList_set_var rfl 38 (.tmp 8) (.tmp 19) rfl g9 E rfl rfl 38 Z HG.out HSE.out HZE.out H1E.out ?_; intro w2 HW; obtain ⟨c0, c1, c2⟩ := HCE.out _ _ _ _ HW.out.row; have HB2 : Hid (Below w.heap.size w w2) := HW.out.below w.heap.size w (HB.out.trans (HM.out.below.mono HB.out.size)) (by rw [HM.out.new]; exact HB.out.size); try simp only [Act.put, pS1, pS2, pS3])
              | fail)
            go_roundw
            case rel => exact ⟨k + 1, by omega, by go_num, HB2, HIN.out (by rw [Bool.eq_false_iff]; intro hh; have hh := HF.out.1 hh; omega)⟩
            case measure => simp [intOf]; omega
        · have bhk1 : (kk == (1 : Int)) = true := by rw [beq_iff_eq]; exact hk1
          have dhk1 : decide (kk = (1 : Int)) = true := decide_eq_true hk1
          have bhc1 : (cc == c) = false := by rw [beq_eq_false_iff_ne]; exact hc1
          have dhc1 : decide (cc = c) = false := decide_eq_false hc1
          go_wp2_with (first
            | (show aD 19 _ _ _ _ _ _ _ _ _ _ _; refine wpList_mid_w (by rfl) 38 (.tmp 18) rfl g (o + 110 * k + 1) rfl E _ HR.out Try.underlying38 rfl HSE.out ?_; try simp only [Act.put, pS1, pS2, pS3])
            | (show aD 8 _ _ _ _ _ _ _ _ _ _ _; refine wpList_new_var rfl 38 rfl Z HA.out ?_; intro g9 w1 HM; have HG := hidk HM.out.row; try simp only [Act.put, pS1, pS2, pS3])
            | (refine wpList_set_var rfl 38 (.tmp 8) (.tmp 19) rfl g9 E rfl rfl 38 Z HG.out HSE.out HZE.out H1E.out ?_; intro w2 HW; obtain ⟨c0, c1, c2⟩ := HCE.out _ _ _ _ HW.out.row; have HB2 : Hid (Below w.heap.size w w2) := HW.out.below w.heap.size w (HB.out.trans (HM.out.below.mono HB.out.size)) (by rw [HM.out.new]; exact HB.out.size); try simp only [Act.put, pS1, pS2, pS3])
            | fail)
          go_roundw
          case rel => exact ⟨k + 1, by omega, by go_num, HB2, HIN.out (by rw [Bool.eq_false_iff]; intro hh; have hh := HF.out.1 hh; omega)⟩
          case measure => simp [intOf]; omega
      · have bhk1 : (kk == (1 : Int)) = false := by rw [beq_eq_false_iff_ne]; exact hk1
        have dhk1 : decide (kk = (1 : Int)) = false := decide_eq_false hk1
        go_wp2_with (first
          | (show aD 19 _ _ _ _ _ _ _ _ _ _ _; refine wpList_mid_w (by rfl) 38 (.tmp 18) rfl g (o + 110 * k + 1) rfl E _ HR.out Try.underlying38 rfl HSE.out ?_; try simp only [Act.put, pS1, pS2, pS3])
          | (show aD 8 _ _ _ _ _ _ _ _ _ _ _; refine wpList_new_var rfl 38 rfl Z HA.out ?_; intro g9 w1 HM; have HG := hidk HM.out.row; try simp only [Act.put, pS1, pS2, pS3])
          | (refine wpList_set_var rfl 38 (.tmp 8) (.tmp 19) rfl g9 E rfl rfl 38 Z HG.out HSE.out HZE.out H1E.out ?_; intro w2 HW; obtain ⟨c0, c1, c2⟩ := HCE.out _ _ _ _ HW.out.row; have HB2 : Hid (Below w.heap.size w w2) := HW.out.below w.heap.size w (HB.out.trans (HM.out.below.mono HB.out.size)) (by rw [HM.out.new]; exact HB.out.size); try simp only [Act.put, pS1, pS2, pS3])
          | fail)
        go_roundw
        case rel => exact ⟨k + 1, by omega, by go_num, HB2, HIN.out (by rw [Bool.eq_false_iff]; intro hh; have hh := HF.out.1 hh; omega)⟩
        case measure => simp [intOf]; omega
    · obtain rfl : len = k := by omega
      have hd : decide ((len : Int) < (len : Int)) = false := by rw [decide_eq_false_iff_not]; omega
      have HE : Hid (oldL l c s = false) := old_no (by have := HN.out; rwa [List.take_of_length_le (by have := HL.out; omega)] at this)
      go_wp2
      go_ret
      exact ⟨by rw [HE.out]; rfl, HB.out⟩
theorem mayE_form {l : List ItT} {x : ItT} (h : rightL l = false ∨ rightI x = false) : mayE l x = 100 := by unfold mayE; rw [if_pos h]
theorem mayE_low {l : List ItT} {x : ItT} (h1 : rightL l = true) (h2 : rightI x = true) (h : lowB l x.p = true) : mayE l x = 102 := by unfold mayE; rw [if_neg (by rw [h1, h2]; decide), if_pos h]
theorem mayE_full {l : List ItT} {x : ItT} (h1 : rightL l = true) (h2 : rightI x = true) (h : lowB l x.p = false) (h3 : l.length = 2000) : mayE l x = 2 := by unfold mayE; rw [if_neg (by rw [h1, h2]; decide), if_neg (by rw [h]; decide), if_pos h3]
theorem mayE_last {l : List ItT} {x : ItT} (h1 : rightL l = true) (h2 : rightI x = true) (h : lowB l x.p = false) (h3 : l.length ≠ 2000) : mayE l x = if x.e.k = 1 ∧ oldL l x.e.c x.e.s = true then 101 else 0 := by unfold mayE; rw [if_neg (by rw [h1, h2]; decide), if_neg (by rw [h]; decide), if_neg h3]
theorem lowB_none {l : List ItT} {p : Int} (h : l.length = 0) : lowB l p = false := by
  obtain rfl : l = [] := List.eq_nil_of_length_eq_zero h
  rfl
theorem lowB_some {l : List ItT} {p : Int} {j : Nat} (h : j + 1 = l.length) : lowB l p = decide (p < (l[j]'(by omega)).p) := by
  unfold lowB
  have : l.getLast? = some (l[j]'(by omega)) := by rw [List.getLast?_eq_getElem?, show l.length - 1 = j by omega]; exact List.getElem?_eq_getElem _
  rw [this]
set_option maxHeartbeats 16000000 in
theorem refMayL_any (a : Option Addr) (len cap : Nat) (l : List ItT) (x : ItT) (ok : OkE x.e) (w : World) (h : IReads w a len cap l) (X : Array Value) (HX : Hid (X = (icells x).toArray)) :
    Calls Try.prog 43 #[.slice a len cap, .agg X] w fun e w' => e = .returned (.int .i64 (mayE l x)) ∧ Below w.heap.size w w' := by
  have hmx : len ≤ 9223372036854775807 := by have := h.mx; unfold maxLen at this; omega
  have HSX : Hid ((Try.prog.info? 40).map (·.size) = some X.size) := by show _ = _; rw [sizeI, HX.out]; simp [icells_length _ ok]
  have HB : Hid (Below w.heap.size w (w.alloc (.cells X 40))) := (Below.refl _ _).alloc (Nat.le_refl _) _
  have HG := hidk (heap_alloc_new w (.cells X 40))
  have HRL : Hid (∀ W, Below w.heap.size w W → Calls Try.prog 35 #[.slice a len cap] W fun e w' => e = .returned (.bool (rightL l)) ∧ Below W.heap.size W w') := fun W hb => refRightL_any a len cap l W (h.keep hb)
  have HRI : Hid (∀ W, Calls Try.prog 49 #[.agg X] W fun e w' => e = .returned (.bool (rightI x)) ∧ Below W.heap.size W w') := fun W => refRightI_any x ok W X HX
  have HCL : Hid (∀ (W : World) (b : Nat), W.heap[b]? = some (.cells X 40 (0, 0)) → W.cell? ⟨b, 0, none⟩ = some (.int .i64 x.p) ∧ W.cell? ⟨b, 1, none⟩ = some (.int .i64 x.e.k) ∧ W.cell? ⟨b, 2, none⟩ = some (.int .i64 x.e.c) ∧ W.cell? ⟨b, 3, none⟩ = some (.int .i64 x.e.s)) := fun W b hh => by
    have hX := HX.out
    subst hX
    refine ⟨?_, ?_, ?_, ?_⟩ <;> (rw [cell_of_row _ _ _ _ _ (0, 0) hh]; rfl)
  have HLN := hidk h.ln
  have HIR := hidk h
  obtain ⟨b1, H1⟩ : ∃ b, Hid (rightL l = b) := ⟨_, hidk rfl⟩
  obtain ⟨b2, H2⟩ : ∃ b, Hid (rightI x = b) := ⟨_, hidk rfl⟩
  rw [H1.out] at HRL
  rw [H2.out] at HRI
  clear HX ok h
  cases b1
  · have HE := hidk (mayE_form (x := x) (.inl H1.out))
    go_enter Try.func43, Try.ntmps43
    go_wp2_with fail
    refine (HRL.out _ HB.out).mono ?_
    rintro e w1 ⟨rfl, hb1⟩
    have HB1 := hidk (HB.out.trans (hb1.mono HB.out.size))
    have HG1 := hidk ((hb1.block _ (heap_lt HG.out)).trans HG.out)
    clear hb1
    go_wp2
    go_ret
    exact ⟨by rw [HE.out]; rfl, HB1.out⟩
  · cases b2
    · have HE := hidk (mayE_form (l := l) (.inr H2.out))
      go_enter Try.func43, Try.ntmps43
      go_wp2_with fail
      refine (HRL.out _ HB.out).mono ?_
      rintro e w1 ⟨rfl, hb1⟩
      have HB1 := hidk (HB.out.trans (hb1.mono HB.out.size))
      have HG1 := hidk ((hb1.block _ (heap_lt HG.out)).trans HG.out)
      clear hb1
      go_wp2_with (first
        | (show aD 10 _ _ _ _ _ _ _ _ _ _ _; refine wpList_load_row_w (by rfl) 40 (.tmp 3) rfl w.heap.size rfl 40 X (0, 0) _ HG1.out Try.underlying40 rfl HSX.out ?_; try simp only [Act.put, pS1, pS2, pS3])
        | fail)
      refine (HRI.out _).mono ?_
      rintro e w2 ⟨rfl, hb2⟩
      have HB2 := hidk (HB1.out.trans (hb2.mono HB1.out.size))
      have HG2 := hidk ((hb2.block _ (heap_lt HG1.out)).trans HG1.out)
      clear hb2
      go_wp2
      go_ret
      exact ⟨by rw [HE.out]; rfl, HB2.out⟩
    · obtain ⟨px, Hpx⟩ : ∃ p, Hid (x.p = p) := ⟨_, hidk rfl⟩
      obtain ⟨kx, Hkx⟩ : ∃ p, Hid (x.e.k = p) := ⟨_, hidk rfl⟩
      obtain ⟨cx, Hcx⟩ : ∃ p, Hid (x.e.c = p) := ⟨_, hidk rfl⟩
      obtain ⟨sx, Hsx⟩ : ∃ p, Hid (x.e.s = p) := ⟨_, hidk rfl⟩
      rw [Hpx.out, Hkx.out, Hcx.out, Hsx.out] at HCL
      have HLF : Hid (lowB l px = true → mayE l x = 102) := fun hh => mayE_low H1.out H2.out (by rw [Hpx.out]; exact hh)
      have HFU : Hid (lowB l px = false → len = 2000 → mayE l x = 2) := fun hh h3 => mayE_full H1.out H2.out (by rw [Hpx.out]; exact hh) (by rw [HLN.out]; exact h3)
      have HLA : Hid (lowB l px = false → len ≠ 2000 → mayE l x = if kx = 1 ∧ oldL l cx sx = true then 101 else 0) := fun hh h3 => by rw [mayE_last H1.out H2.out (by rw [Hpx.out]; exact hh) (by rw [HLN.out]; exact h3), Hkx.out, Hcx.out, Hsx.out]
      have hlen : len ≤ 2000 := by rw [← HLN.out]; exact ((rightL_iff l).1 H1.out).1
      have HOL : Hid (∀ W, Below w.heap.size w W → Calls Try.prog 69 #[.slice a len cap, .int .i64 cx, .int .i64 sx] W fun e w' => e = .returned (.bool (oldL l cx sx)) ∧ Below W.heap.size W w') := fun W hb => refOld_any a len cap l cx sx W (HIR.out.keep hb) (by omega)
      clear Hpx Hkx Hcx Hsx H1 H2
      by_cases h0 : len = 0
      · subst h0
        have hlow : lowB l px = false := lowB_none HLN.out
        have hfull : ¬ (0 : Nat) = 2000 := by decide
        by_cases hk : kx = 1
        · have bk : (kx == 1) = true := by simp [hk]
          obtain ⟨b3, H3⟩ : ∃ b, Hid (oldL l cx sx = b) := ⟨_, hidk rfl⟩
          rw [H3.out] at HOL HLA
          have HE := hidk (HLA.out hlow hfull)
          cases b3
          · have HE2 : Hid (mayE l x = 0) := by show _ = _; rw [HE.out]; simp [hk]
            go_enter Try.func43, Try.ntmps43
            go_wp2_with fail
            refine (HRL.out _ HB.out).mono ?_
            rintro e w1 ⟨rfl, hb1⟩
            have HB1 := hidk (HB.out.trans (hb1.mono HB.out.size))
            have HG1 := hidk ((hb1.block _ (heap_lt HG.out)).trans HG.out)
            clear hb1
            go_wp2_with (first
              | (show aD 10 _ _ _ _ _ _ _ _ _ _ _; refine wpList_load_row_w (by rfl) 40 (.tmp 3) rfl w.heap.size rfl 40 X (0, 0) _ HG1.out Try.underlying40 rfl HSX.out ?_; try simp only [Act.put, pS1, pS2, pS3])
              | fail)
            refine (HRI.out _).mono ?_
            rintro e w2 ⟨rfl, hb2⟩
            have HB2 := hidk (HB1.out.trans (hb2.mono HB1.out.size))
            have HG2 := hidk ((hb2.block _ (heap_lt HG1.out)).trans HG1.out)
            clear hb2
            obtain ⟨c0, c1, c2, c3⟩ := HCL.out _ _ HG2.out
            go_wp2
            refine wp_region_held_drew (S := (fun _ => True)) (by kernel_rfl) trivial (fun hHeld => ?_)
            refine zW 0 (.slice a 0 cap) rfl (Or.inl ⟨by rfl, by intro w hSw; go_simp⟩) hHeld ?_
            try simp only [Act.put, pS1, pS2, pS3]
            refine zW 1 (.int .i64 0) rfl (Or.inl ⟨by rfl, by intro w hSw; go_simp⟩) hHeld ?_
            try simp only [Act.put, pS1, pS2, pS3]
            refine zW 2 (.bool false) rfl (Or.inl ⟨by rfl, by intro w hSw; go_simp⟩) hHeld ?_
            try simp only [Act.put, pS1, pS2, pS3]
            refine zW 3 (.bool false) rfl (Or.inl ⟨by rfl, by intro w hSw; go_simp⟩) hHeld ?_
            try simp only [Act.put, pS1, pS2, pS3]
            refine zW 4 (undef) rfl (Or.inr ⟨by rfl, rfl⟩) hHeld ?_
            try simp only [Act.put, pS1, pS2, pS3]
            refine zW 5 (undef) rfl (Or.inr ⟨by rfl, rfl⟩) hHeld ?_
            try simp only [Act.put, pS1, pS2, pS3]
            refine zW 6 (undef) rfl (Or.inr ⟨by rfl, rfl⟩) hHeld ?_
            try simp only [Act.put, pS1, pS2, pS3]
            refine zW 7 (undef) rfl (Or.inr ⟨by rfl, rfl⟩) hHeld ?_
            try simp only [Act.put, pS1, pS2, pS3]
            refine zW 8 (undef) rfl (Or.inr ⟨by rfl, rfl⟩) hHeld ?_
            try simp only [Act.put, pS1, pS2, pS3]
            refine zW 9 (undef) rfl (Or.inr ⟨by rfl, rfl⟩) hHeld ?_
            try simp only [Act.put, pS1, pS2, pS3]
            refine zW 10 (undef) rfl (Or.inr ⟨by rfl, rfl⟩) hHeld ?_
            try simp only [Act.put, pS1, pS2, pS3]
            refine zW 11 (undef) rfl (Or.inr ⟨by rfl, rfl⟩) hHeld ?_
            try simp only [Act.put, pS1, pS2, pS3]
            refine zW 12 (undef) rfl (Or.inr ⟨by rfl, rfl⟩) hHeld ?_
            try simp only [Act.put, pS1, pS2, pS3]
            refine zW 13 (undef) rfl (Or.inr ⟨by rfl, rfl⟩) hHeld ?_
            try simp only [Act.put, pS1, pS2, pS3]
            refine zW 14 (.bool false) rfl (Or.inl ⟨by rfl, by intro w hSw; go_simp⟩) hHeld ?_
            try simp only [Act.put, pS1, pS2, pS3]
            refine zW 15 (.bool false) rfl (Or.inl ⟨by rfl, by intro w hSw; go_simp⟩) hHeld ?_
            try simp only [Act.put, pS1, pS2, pS3]
            refine wpAnyH_done (by kernel_rfl) ?_ _
            have HBD := hidk HB2.out.drew
            go_wp2_with fail
            refine (HOL.out _ HBD.out).mono ?_
            rintro e w3 ⟨rfl, hb3⟩
            have HB3 := hidk (HBD.out.trans (hb3.mono HBD.out.size))
            clear hb3
            go_wp2
            go_ret
            exact ⟨by rw [HE2.out]; rfl, HB3.out⟩
          · have HE2 : Hid (mayE l x = 101) := by show _ = _; rw [HE.out]; simp [hk]
            go_enter Try.func43, Try.ntmps43
            go_wp2_with fail
            refine (HRL.out _ HB.out).mono ?_
            rintro e w1 ⟨rfl, hb1⟩
            have HB1 := hidk (HB.out.trans (hb1.mono HB.out.size))
            have HG1 := hidk ((hb1.block _ (heap_lt HG.out)).trans HG.out)
            clear hb1
            go_wp2_with (first
              | (show aD 10 _ _ _ _ _ _ _ _ _ _ _; refine wpList_load_row_w (by rfl) 40 (.tmp 3) rfl w.heap.size rfl 40 X (0, 0) _ HG1.out Try.underlying40 rfl HSX.out ?_; try simp only [Act.put, pS1, pS2, pS3])
              | fail)
            refine (HRI.out _).mono ?_
            rintro e w2 ⟨rfl, hb2⟩
            have HB2 := hidk (HB1.out.trans (hb2.mono HB1.out.size))
            have HG2 := hidk ((hb2.block _ (heap_lt HG1.out)).trans HG1.out)
            clear hb2
            obtain ⟨c0, c1, c2, c3⟩ := HCL.out _ _ HG2.out
            go_wp2
            refine wp_region_held_drew (S := (fun _ => True)) (by kernel_rfl) trivial (fun hHeld => ?_)
            refine zW 0 (.slice a 0 cap) rfl (Or.inl ⟨by rfl, by intro w hSw; go_simp⟩) hHeld ?_
            try simp only [Act.put, pS1, pS2, pS3]
            refine zW 1 (.int .i64 0) rfl (Or.inl ⟨by rfl, by intro w hSw; go_simp⟩) hHeld ?_
            try simp only [Act.put, pS1, pS2, pS3]
            refine zW 2 (.bool false) rfl (Or.inl ⟨by rfl, by intro w hSw; go_simp⟩) hHeld ?_
            try simp only [Act.put, pS1, pS2, pS3]
            refine zW 3 (.bool false) rfl (Or.inl ⟨by rfl, by intro w hSw; go_simp⟩) hHeld ?_
            try simp only [Act.put, pS1, pS2, pS3]
            refine zW 4 (undef) rfl (Or.inr ⟨by rfl, rfl⟩) hHeld ?_
            try simp only [Act.put, pS1, pS2, pS3]
            refine zW 5 (undef) rfl (Or.inr ⟨by rfl, rfl⟩) hHeld ?_
            try simp only [Act.put, pS1, pS2, pS3]
            refine zW 6 (undef) rfl (Or.inr ⟨by rfl, rfl⟩) hHeld ?_
            try simp only [Act.put, pS1, pS2, pS3]
            refine zW 7 (undef) rfl (Or.inr ⟨by rfl, rfl⟩) hHeld ?_
            try simp only [Act.put, pS1, pS2, pS3]
            refine zW 8 (undef) rfl (Or.inr ⟨by rfl, rfl⟩) hHeld ?_
            try simp only [Act.put, pS1, pS2, pS3]
            refine zW 9 (undef) rfl (Or.inr ⟨by rfl, rfl⟩) hHeld ?_
            try simp only [Act.put, pS1, pS2, pS3]
            refine zW 10 (undef) rfl (Or.inr ⟨by rfl, rfl⟩) hHeld ?_
            try simp only [Act.put, pS1, pS2, pS3]
            refine zW 11 (undef) rfl (Or.inr ⟨by rfl, rfl⟩) hHeld ?_
            try simp only [Act.put, pS1, pS2, pS3]
            refine zW 12 (undef) rfl (Or.inr ⟨by rfl, rfl⟩) hHeld ?_
            try simp only [Act.put, pS1, pS2, pS3]
            refine zW 13 (undef) rfl (Or.inr ⟨by rfl, rfl⟩) hHeld ?_
            try simp only [Act.put, pS1, pS2, pS3]
            refine zW 14 (.bool false) rfl (Or.inl ⟨by rfl, by intro w hSw; go_simp⟩) hHeld ?_
            try simp only [Act.put, pS1, pS2, pS3]
            refine zW 15 (.bool false) rfl (Or.inl ⟨by rfl, by intro w hSw; go_simp⟩) hHeld ?_
            try simp only [Act.put, pS1, pS2, pS3]
            refine wpAnyH_done (by kernel_rfl) ?_ _
            have HBD := hidk HB2.out.drew
            go_wp2_with fail
            refine (HOL.out _ HBD.out).mono ?_
            rintro e w3 ⟨rfl, hb3⟩
            have HB3 := hidk (HBD.out.trans (hb3.mono HBD.out.size))
            clear hb3
            go_wp2
            go_ret
            exact ⟨by rw [HE2.out]; rfl, HB3.out⟩
        · have bk : (kx == 1) = false := by simp [hk]
          have HE2 : Hid (mayE l x = 0) := by show _ = _; rw [HLA.out hlow hfull]; simp [hk]
          go_enter Try.func43, Try.ntmps43
          go_wp2_with fail
          refine (HRL.out _ HB.out).mono ?_
          rintro e w1 ⟨rfl, hb1⟩
          have HB1 := hidk (HB.out.trans (hb1.mono HB.out.size))
          have HG1 := hidk ((hb1.block _ (heap_lt HG.out)).trans HG.out)
          clear hb1
          go_wp2_with (first
            | (show aD 10 _ _ _ _ _ _ _ _ _ _ _; refine wpList_load_row_w (by rfl) 40 (.tmp 3) rfl w.heap.size rfl 40 X (0, 0) _ HG1.out Try.underlying40 rfl HSX.out ?_; try simp only [Act.put, pS1, pS2, pS3])
            | fail)
          refine (HRI.out _).mono ?_
          rintro e w2 ⟨rfl, hb2⟩
          have HB2 := hidk (HB1.out.trans (hb2.mono HB1.out.size))
          have HG2 := hidk ((hb2.block _ (heap_lt HG1.out)).trans HG1.out)
          clear hb2
          obtain ⟨c0, c1, c2, c3⟩ := HCL.out _ _ HG2.out
          go_wp2
          refine wp_region_held_drew (S := (fun _ => True)) (by kernel_rfl) trivial (fun hHeld => ?_)
          refine zW 0 (.slice a 0 cap) rfl (Or.inl ⟨by rfl, by intro w hSw; go_simp⟩) hHeld ?_
          try simp only [Act.put, pS1, pS2, pS3]
          refine zW 1 (.int .i64 0) rfl (Or.inl ⟨by rfl, by intro w hSw; go_simp⟩) hHeld ?_
          try simp only [Act.put, pS1, pS2, pS3]
          refine zW 2 (.bool false) rfl (Or.inl ⟨by rfl, by intro w hSw; go_simp⟩) hHeld ?_
          try simp only [Act.put, pS1, pS2, pS3]
          refine zW 3 (.bool false) rfl (Or.inl ⟨by rfl, by intro w hSw; go_simp⟩) hHeld ?_
          try simp only [Act.put, pS1, pS2, pS3]
          refine zW 4 (undef) rfl (Or.inr ⟨by rfl, rfl⟩) hHeld ?_
          try simp only [Act.put, pS1, pS2, pS3]
          refine zW 5 (undef) rfl (Or.inr ⟨by rfl, rfl⟩) hHeld ?_
          try simp only [Act.put, pS1, pS2, pS3]
          refine zW 6 (undef) rfl (Or.inr ⟨by rfl, rfl⟩) hHeld ?_
          try simp only [Act.put, pS1, pS2, pS3]
          refine zW 7 (undef) rfl (Or.inr ⟨by rfl, rfl⟩) hHeld ?_
          try simp only [Act.put, pS1, pS2, pS3]
          refine zW 8 (undef) rfl (Or.inr ⟨by rfl, rfl⟩) hHeld ?_
          try simp only [Act.put, pS1, pS2, pS3]
          refine zW 9 (undef) rfl (Or.inr ⟨by rfl, rfl⟩) hHeld ?_
          try simp only [Act.put, pS1, pS2, pS3]
          refine zW 10 (undef) rfl (Or.inr ⟨by rfl, rfl⟩) hHeld ?_
          try simp only [Act.put, pS1, pS2, pS3]
          refine zW 11 (undef) rfl (Or.inr ⟨by rfl, rfl⟩) hHeld ?_
          try simp only [Act.put, pS1, pS2, pS3]
          refine zW 12 (undef) rfl (Or.inr ⟨by rfl, rfl⟩) hHeld ?_
          try simp only [Act.put, pS1, pS2, pS3]
          refine zW 13 (undef) rfl (Or.inr ⟨by rfl, rfl⟩) hHeld ?_
          try simp only [Act.put, pS1, pS2, pS3]
          refine zW 14 (.bool false) rfl (Or.inl ⟨by rfl, by intro w hSw; go_simp⟩) hHeld ?_
          try simp only [Act.put, pS1, pS2, pS3]
          refine zW 15 (.bool false) rfl (Or.inl ⟨by rfl, by intro w hSw; go_simp⟩) hHeld ?_
          try simp only [Act.put, pS1, pS2, pS3]
          refine wpAnyH_done (by kernel_rfl) ?_ _
          have HBD := hidk HB2.out.drew
          go_wp2
          go_ret
          exact ⟨by rw [HE2.out]; rfl, HBD.out⟩
      · obtain ⟨j, HJ, hj⟩ : ∃ j, Hid (j + 1 = len) ∧ j < len := ⟨len - 1, by show _ = _; omega, by omega⟩
        have hsub : IntKind.i64.wrap ((len : Int) - 1) = (j : Int) := by rw [wrap_int _ (by omega) (by omega)]; have := HJ.out; omega
        have h0n : 0 < len := by omega
        have h0' : decide ((0 : Int) < (len : Int)) = true := by rw [decide_eq_true_eq]; omega
        obtain ⟨g, o, rfl, hg⟩ := HIR.out.at h0n
        have hjl : j < l.length := by rw [HLN.out]; exact hj
        obtain ⟨py, Hpy⟩ : ∃ p, Hid (l[j].p = p) := ⟨_, hidk rfl⟩
        have ix := fun W => index_item W g o len cap j .i64 hj
        have HLO : Hid (lowB l px = decide (px < py)) := by show _ = _; rw [lowB_some (j := j) (by rw [HLN.out]; exact HJ.out), Hpy.out]
        have HCJ : Hid (∀ W, Below w.heap.size w W → W.cell? ⟨g, o + 110 * j, none⟩ = some (.int .i64 py)) := fun W hb => by rw [← Hpy.out]; exact (HIR.out.keep hb).cell j hjl 0 _ rfl
        clear Hpy hjl
        by_cases hp : px < py
        · have d1 : decide (px < py) = true := decide_eq_true hp
          have HE := hidk (HLF.out (HLO.out.trans d1))
          go_enter Try.func43, Try.ntmps43
          go_wp2_with fail
          refine (HRL.out _ HB.out).mono ?_
          rintro e w1 ⟨rfl, hb1⟩
          have HB1 := hidk (HB.out.trans (hb1.mono HB.out.size))
          have HG1 := hidk ((hb1.block _ (heap_lt HG.out)).trans HG.out)
          clear hb1
          go_wp2_with (first
            | (show aD 10 _ _ _ _ _ _ _ _ _ _ _; refine wpList_load_row_w (by rfl) 40 (.tmp 3) rfl w.heap.size rfl 40 X (0, 0) _ HG1.out Try.underlying40 rfl HSX.out ?_; try simp only [Act.put, pS1, pS2, pS3])
            | fail)
          refine (HRI.out _).mono ?_
          rintro e w2 ⟨rfl, hb2⟩
          have HB2 := hidk (HB1.out.trans (hb2.mono HB1.out.size))
          have HG2 := hidk ((hb2.block _ (heap_lt HG1.out)).trans HG1.out)
          clear hb2
          obtain ⟨c0, c1, c2, c3⟩ := HCL.out _ _ HG2.out
          have hS : w2.cell? ⟨w.heap.size, 0, none⟩ = some (.int .i64 px) ∧ w2.cell? ⟨g, o + 110 * j, none⟩ = some (.int .i64 py) := ⟨c0, HCJ.out _ HB2.out⟩
          go_wp2
          refine wp_region_held_drew (S := (fun V => V.cell? ⟨w.heap.size, 0, none⟩ = some (.int .i64 px) ∧ V.cell? ⟨g, o + 110 * j, none⟩ = some (.int .i64 py))) (by kernel_rfl) hS (fun hHeld => ?_)
          refine zW 0 (.slice (some ⟨g, o, none⟩) len cap) rfl (Or.inl ⟨by rfl, by intro w hSw; go_simp⟩) hHeld ?_
          try simp only [Act.put, pS1, pS2, pS3]
          refine zW 1 (.int .i64 len) rfl (Or.inl ⟨by rfl, by intro w hSw; go_simp⟩) hHeld ?_
          try simp only [Act.put, pS1, pS2, pS3]
          refine zW 2 (.bool true) rfl (Or.inl ⟨by rfl, by intro w hSw; go_simp⟩) hHeld ?_
          try simp only [Act.put, pS1, pS2, pS3]
          refine zW 3 (.bool true) rfl (Or.inl ⟨by rfl, by intro w hSw; go_simp⟩) hHeld ?_
          try simp only [Act.put, pS1, pS2, pS3]
          refine zW 4 (.pointer (some ⟨w.heap.size, 0, none⟩)) rfl (Or.inl ⟨by rfl, by intro w hSw; go_simp⟩) hHeld ?_
          try simp only [Act.put, pS1, pS2, pS3]
          refine zW 5 (.int .i64 px) rfl (Or.inl ⟨by rfl, by intro W hSw; have h1 := hSw.1; go_simp⟩) hHeld ?_
          try simp only [Act.put, pS1, pS2, pS3]
          refine zW 6 (.slice (some ⟨g, o, none⟩) len cap) rfl (Or.inl ⟨by rfl, by intro w hSw; go_simp⟩) hHeld ?_
          try simp only [Act.put, pS1, pS2, pS3]
          refine zW 7 (.slice (some ⟨g, o, none⟩) len cap) rfl (Or.inl ⟨by rfl, by intro w hSw; go_simp⟩) hHeld ?_
          try simp only [Act.put, pS1, pS2, pS3]
          refine zW 8 (.int .i64 len) rfl (Or.inl ⟨by rfl, by intro w hSw; go_simp⟩) hHeld ?_
          try simp only [Act.put, pS1, pS2, pS3]
          refine zW 9 (.int .i64 j) rfl (Or.inl ⟨by rfl, by intro W hSw; have := hsub; go_simp⟩) hHeld ?_
          try simp only [Act.put, pS1, pS2, pS3]
          refine zW 10 (.pointer (some ⟨g, o + 110 * j, none⟩)) rfl (Or.inl ⟨by rfl, by intro W hSw; have := ix W; go_simp⟩) hHeld ?_
          try simp only [Act.put, pS1, pS2, pS3]
          refine zW 11 (.pointer (some ⟨g, o + 110 * j, none⟩)) rfl (Or.inl ⟨by rfl, by intro w hSw; go_simp⟩) hHeld ?_
          try simp only [Act.put, pS1, pS2, pS3]
          refine zW 12 (.int .i64 py) rfl (Or.inl ⟨by rfl, by intro W hSw; have h1 := hSw.2; go_simp⟩) hHeld ?_
          try simp only [Act.put, pS1, pS2, pS3]
          refine zW 13 (.bool true) rfl (Or.inl ⟨by rfl, by intro w hSw; go_simp⟩) hHeld ?_
          try simp only [Act.put, pS1, pS2, pS3]
          refine zW 14 (.bool true) rfl (Or.inl ⟨by rfl, by intro w hSw; go_simp⟩) hHeld ?_
          try simp only [Act.put, pS1, pS2, pS3]
          refine zW 15 (.bool true) rfl (Or.inl ⟨by rfl, by intro w hSw; go_simp⟩) hHeld ?_
          try simp only [Act.put, pS1, pS2, pS3]
          refine wpAnyH_done (by kernel_rfl) ?_ _
          go_wp2
          go_ret
          exact ⟨by rw [HE.out]; rfl, HB2.out.drew⟩
        · have d1 : decide (px < py) = false := decide_eq_false hp
          have hlow : lowB l px = false := HLO.out.trans d1
          by_cases hfull : len = 2000
          · have HE := hidk (HFU.out hlow hfull)
            have bf : ((len : Int) == 2000) = true := by rw [beq_iff_eq]; omega
            clear hfull
            go_enter Try.func43, Try.ntmps43
            go_wp2_with fail
            refine (HRL.out _ HB.out).mono ?_
            rintro e w1 ⟨rfl, hb1⟩
            have HB1 := hidk (HB.out.trans (hb1.mono HB.out.size))
            have HG1 := hidk ((hb1.block _ (heap_lt HG.out)).trans HG.out)
            clear hb1
            go_wp2_with (first
              | (show aD 10 _ _ _ _ _ _ _ _ _ _ _; refine wpList_load_row_w (by rfl) 40 (.tmp 3) rfl w.heap.size rfl 40 X (0, 0) _ HG1.out Try.underlying40 rfl HSX.out ?_; try simp only [Act.put, pS1, pS2, pS3])
              | fail)
            refine (HRI.out _).mono ?_
            rintro e w2 ⟨rfl, hb2⟩
            have HB2 := hidk (HB1.out.trans (hb2.mono HB1.out.size))
            have HG2 := hidk ((hb2.block _ (heap_lt HG1.out)).trans HG1.out)
            clear hb2
            obtain ⟨c0, c1, c2, c3⟩ := HCL.out _ _ HG2.out
            have hS : w2.cell? ⟨w.heap.size, 0, none⟩ = some (.int .i64 px) ∧ w2.cell? ⟨g, o + 110 * j, none⟩ = some (.int .i64 py) := ⟨c0, HCJ.out _ HB2.out⟩
            go_wp2
            refine wp_region_held_drew (S := (fun V => V.cell? ⟨w.heap.size, 0, none⟩ = some (.int .i64 px) ∧ V.cell? ⟨g, o + 110 * j, none⟩ = some (.int .i64 py))) (by kernel_rfl) hS (fun hHeld => ?_)
            refine zW 0 (.slice (some ⟨g, o, none⟩) len cap) rfl (Or.inl ⟨by rfl, by intro w hSw; go_simp⟩) hHeld ?_
            try simp only [Act.put, pS1, pS2, pS3]
            refine zW 1 (.int .i64 len) rfl (Or.inl ⟨by rfl, by intro w hSw; go_simp⟩) hHeld ?_
            try simp only [Act.put, pS1, pS2, pS3]
            refine zW 2 (.bool true) rfl (Or.inl ⟨by rfl, by intro w hSw; go_simp⟩) hHeld ?_
            try simp only [Act.put, pS1, pS2, pS3]
            refine zW 3 (.bool true) rfl (Or.inl ⟨by rfl, by intro w hSw; go_simp⟩) hHeld ?_
            try simp only [Act.put, pS1, pS2, pS3]
            refine zW 4 (.pointer (some ⟨w.heap.size, 0, none⟩)) rfl (Or.inl ⟨by rfl, by intro w hSw; go_simp⟩) hHeld ?_
            try simp only [Act.put, pS1, pS2, pS3]
            refine zW 5 (.int .i64 px) rfl (Or.inl ⟨by rfl, by intro W hSw; have h1 := hSw.1; go_simp⟩) hHeld ?_
            try simp only [Act.put, pS1, pS2, pS3]
            refine zW 6 (.slice (some ⟨g, o, none⟩) len cap) rfl (Or.inl ⟨by rfl, by intro w hSw; go_simp⟩) hHeld ?_
            try simp only [Act.put, pS1, pS2, pS3]
            refine zW 7 (.slice (some ⟨g, o, none⟩) len cap) rfl (Or.inl ⟨by rfl, by intro w hSw; go_simp⟩) hHeld ?_
            try simp only [Act.put, pS1, pS2, pS3]
            refine zW 8 (.int .i64 len) rfl (Or.inl ⟨by rfl, by intro w hSw; go_simp⟩) hHeld ?_
            try simp only [Act.put, pS1, pS2, pS3]
            refine zW 9 (.int .i64 j) rfl (Or.inl ⟨by rfl, by intro W hSw; have := hsub; go_simp⟩) hHeld ?_
            try simp only [Act.put, pS1, pS2, pS3]
            refine zW 10 (.pointer (some ⟨g, o + 110 * j, none⟩)) rfl (Or.inl ⟨by rfl, by intro W hSw; have := ix W; go_simp⟩) hHeld ?_
            try simp only [Act.put, pS1, pS2, pS3]
            refine zW 11 (.pointer (some ⟨g, o + 110 * j, none⟩)) rfl (Or.inl ⟨by rfl, by intro w hSw; go_simp⟩) hHeld ?_
            try simp only [Act.put, pS1, pS2, pS3]
            refine zW 12 (.int .i64 py) rfl (Or.inl ⟨by rfl, by intro W hSw; have h1 := hSw.2; go_simp⟩) hHeld ?_
            try simp only [Act.put, pS1, pS2, pS3]
            refine zW 13 (.bool false) rfl (Or.inl ⟨by rfl, by intro w hSw; go_simp⟩) hHeld ?_
            try simp only [Act.put, pS1, pS2, pS3]
            refine zW 14 (.bool false) rfl (Or.inl ⟨by rfl, by intro w hSw; go_simp⟩) hHeld ?_
            try simp only [Act.put, pS1, pS2, pS3]
            refine zW 15 (.bool false) rfl (Or.inl ⟨by rfl, by intro w hSw; go_simp⟩) hHeld ?_
            try simp only [Act.put, pS1, pS2, pS3]
            refine wpAnyH_done (by kernel_rfl) ?_ _
            go_wp2
            go_ret
            exact ⟨by rw [HE.out]; rfl, HB2.out.drew⟩
          · have bf : ((len : Int) == 2000) = false := by rw [beq_eq_false_iff_ne]; omega
            by_cases hk : kx = 1
            · have bk : (kx == 1) = true := by simp [hk]
              obtain ⟨b3, H3⟩ : ∃ b, Hid (oldL l cx sx = b) := ⟨_, hidk rfl⟩
              rw [H3.out] at HOL HLA
              have HE := hidk (HLA.out hlow hfull)
              cases b3
              · have HE2 : Hid (mayE l x = 0) := by show _ = _; rw [HE.out]; simp [hk]
                go_enter Try.func43, Try.ntmps43
                go_wp2_with fail
                refine (HRL.out _ HB.out).mono ?_
                rintro e w1 ⟨rfl, hb1⟩
                have HB1 := hidk (HB.out.trans (hb1.mono HB.out.size))
                have HG1 := hidk ((hb1.block _ (heap_lt HG.out)).trans HG.out)
                clear hb1
                go_wp2_with (first
                  | (show aD 10 _ _ _ _ _ _ _ _ _ _ _; refine wpList_load_row_w (by rfl) 40 (.tmp 3) rfl w.heap.size rfl 40 X (0, 0) _ HG1.out Try.underlying40 rfl HSX.out ?_; try simp only [Act.put, pS1, pS2, pS3])
                  | fail)
                refine (HRI.out _).mono ?_
                rintro e w2 ⟨rfl, hb2⟩
                have HB2 := hidk (HB1.out.trans (hb2.mono HB1.out.size))
                have HG2 := hidk ((hb2.block _ (heap_lt HG1.out)).trans HG1.out)
                clear hb2
                obtain ⟨c0, c1, c2, c3⟩ := HCL.out _ _ HG2.out
                have hS : w2.cell? ⟨w.heap.size, 0, none⟩ = some (.int .i64 px) ∧ w2.cell? ⟨g, o + 110 * j, none⟩ = some (.int .i64 py) := ⟨c0, HCJ.out _ HB2.out⟩
                go_wp2
                refine wp_region_held_drew (S := (fun V => V.cell? ⟨w.heap.size, 0, none⟩ = some (.int .i64 px) ∧ V.cell? ⟨g, o + 110 * j, none⟩ = some (.int .i64 py))) (by kernel_rfl) hS (fun hHeld => ?_)
                refine zW 0 (.slice (some ⟨g, o, none⟩) len cap) rfl (Or.inl ⟨by rfl, by intro w hSw; go_simp⟩) hHeld ?_
                try simp only [Act.put, pS1, pS2, pS3]
                refine zW 1 (.int .i64 len) rfl (Or.inl ⟨by rfl, by intro w hSw; go_simp⟩) hHeld ?_
                try simp only [Act.put, pS1, pS2, pS3]
                refine zW 2 (.bool true) rfl (Or.inl ⟨by rfl, by intro w hSw; go_simp⟩) hHeld ?_
                try simp only [Act.put, pS1, pS2, pS3]
                refine zW 3 (.bool true) rfl (Or.inl ⟨by rfl, by intro w hSw; go_simp⟩) hHeld ?_
                try simp only [Act.put, pS1, pS2, pS3]
                refine zW 4 (.pointer (some ⟨w.heap.size, 0, none⟩)) rfl (Or.inl ⟨by rfl, by intro w hSw; go_simp⟩) hHeld ?_
                try simp only [Act.put, pS1, pS2, pS3]
                refine zW 5 (.int .i64 px) rfl (Or.inl ⟨by rfl, by intro W hSw; have h1 := hSw.1; go_simp⟩) hHeld ?_
                try simp only [Act.put, pS1, pS2, pS3]
                refine zW 6 (.slice (some ⟨g, o, none⟩) len cap) rfl (Or.inl ⟨by rfl, by intro w hSw; go_simp⟩) hHeld ?_
                try simp only [Act.put, pS1, pS2, pS3]
                refine zW 7 (.slice (some ⟨g, o, none⟩) len cap) rfl (Or.inl ⟨by rfl, by intro w hSw; go_simp⟩) hHeld ?_
                try simp only [Act.put, pS1, pS2, pS3]
                refine zW 8 (.int .i64 len) rfl (Or.inl ⟨by rfl, by intro w hSw; go_simp⟩) hHeld ?_
                try simp only [Act.put, pS1, pS2, pS3]
                refine zW 9 (.int .i64 j) rfl (Or.inl ⟨by rfl, by intro W hSw; have := hsub; go_simp⟩) hHeld ?_
                try simp only [Act.put, pS1, pS2, pS3]
                refine zW 10 (.pointer (some ⟨g, o + 110 * j, none⟩)) rfl (Or.inl ⟨by rfl, by intro W hSw; have := ix W; go_simp⟩) hHeld ?_
                try simp only [Act.put, pS1, pS2, pS3]
                refine zW 11 (.pointer (some ⟨g, o + 110 * j, none⟩)) rfl (Or.inl ⟨by rfl, by intro w hSw; go_simp⟩) hHeld ?_
                try simp only [Act.put, pS1, pS2, pS3]
                refine zW 12 (.int .i64 py) rfl (Or.inl ⟨by rfl, by intro W hSw; have h1 := hSw.2; go_simp⟩) hHeld ?_
                try simp only [Act.put, pS1, pS2, pS3]
                refine zW 13 (.bool false) rfl (Or.inl ⟨by rfl, by intro w hSw; go_simp⟩) hHeld ?_
                try simp only [Act.put, pS1, pS2, pS3]
                refine zW 14 (.bool false) rfl (Or.inl ⟨by rfl, by intro w hSw; go_simp⟩) hHeld ?_
                try simp only [Act.put, pS1, pS2, pS3]
                refine zW 15 (.bool false) rfl (Or.inl ⟨by rfl, by intro w hSw; go_simp⟩) hHeld ?_
                try simp only [Act.put, pS1, pS2, pS3]
                refine wpAnyH_done (by kernel_rfl) ?_ _
                have HBD := hidk HB2.out.drew
                go_wp2_with fail
                refine (HOL.out _ HBD.out).mono ?_
                rintro e w3 ⟨rfl, hb3⟩
                have HB3 := hidk (HBD.out.trans (hb3.mono HBD.out.size))
                clear hb3
                go_wp2
                go_ret
                exact ⟨by rw [HE2.out]; rfl, HB3.out⟩
              · have HE2 : Hid (mayE l x = 101) := by show _ = _; rw [HE.out]; simp [hk]
                go_enter Try.func43, Try.ntmps43
                go_wp2_with fail
                refine (HRL.out _ HB.out).mono ?_
                rintro e w1 ⟨rfl, hb1⟩
                have HB1 := hidk (HB.out.trans (hb1.mono HB.out.size))
                have HG1 := hidk ((hb1.block _ (heap_lt HG.out)).trans HG.out)
                clear hb1
                go_wp2_with (first
                  | (show aD 10 _ _ _ _ _ _ _ _ _ _ _; refine wpList_load_row_w (by rfl) 40 (.tmp 3) rfl w.heap.size rfl 40 X (0, 0) _ HG1.out Try.underlying40 rfl HSX.out ?_; try simp only [Act.put, pS1, pS2, pS3])
                  | fail)
                refine (HRI.out _).mono ?_
                rintro e w2 ⟨rfl, hb2⟩
                have HB2 := hidk (HB1.out.trans (hb2.mono HB1.out.size))
                have HG2 := hidk ((hb2.block _ (heap_lt HG1.out)).trans HG1.out)
                clear hb2
                obtain ⟨c0, c1, c2, c3⟩ := HCL.out _ _ HG2.out
                have hS : w2.cell? ⟨w.heap.size, 0, none⟩ = some (.int .i64 px) ∧ w2.cell? ⟨g, o + 110 * j, none⟩ = some (.int .i64 py) := ⟨c0, HCJ.out _ HB2.out⟩
                go_wp2
                refine wp_region_held_drew (S := (fun V => V.cell? ⟨w.heap.size, 0, none⟩ = some (.int .i64 px) ∧ V.cell? ⟨g, o + 110 * j, none⟩ = some (.int .i64 py))) (by kernel_rfl) hS (fun hHeld => ?_)
                refine zW 0 (.slice (some ⟨g, o, none⟩) len cap) rfl (Or.inl ⟨by rfl, by intro w hSw; go_simp⟩) hHeld ?_
                try simp only [Act.put, pS1, pS2, pS3]
                refine zW 1 (.int .i64 len) rfl (Or.inl ⟨by rfl, by intro w hSw; go_simp⟩) hHeld ?_
                try simp only [Act.put, pS1, pS2, pS3]
                refine zW 2 (.bool true) rfl (Or.inl ⟨by rfl, by intro w hSw; go_simp⟩) hHeld ?_
                try simp only [Act.put, pS1, pS2, pS3]
                refine zW 3 (.bool true) rfl (Or.inl ⟨by rfl, by intro w hSw; go_simp⟩) hHeld ?_
                try simp only [Act.put, pS1, pS2, pS3]
                refine zW 4 (.pointer (some ⟨w.heap.size, 0, none⟩)) rfl (Or.inl ⟨by rfl, by intro w hSw; go_simp⟩) hHeld ?_
                try simp only [Act.put, pS1, pS2, pS3]
                refine zW 5 (.int .i64 px) rfl (Or.inl ⟨by rfl, by intro W hSw; have h1 := hSw.1; go_simp⟩) hHeld ?_
                try simp only [Act.put, pS1, pS2, pS3]
                refine zW 6 (.slice (some ⟨g, o, none⟩) len cap) rfl (Or.inl ⟨by rfl, by intro w hSw; go_simp⟩) hHeld ?_
                try simp only [Act.put, pS1, pS2, pS3]
                refine zW 7 (.slice (some ⟨g, o, none⟩) len cap) rfl (Or.inl ⟨by rfl, by intro w hSw; go_simp⟩) hHeld ?_
                try simp only [Act.put, pS1, pS2, pS3]
                refine zW 8 (.int .i64 len) rfl (Or.inl ⟨by rfl, by intro w hSw; go_simp⟩) hHeld ?_
                try simp only [Act.put, pS1, pS2, pS3]
                refine zW 9 (.int .i64 j) rfl (Or.inl ⟨by rfl, by intro W hSw; have := hsub; go_simp⟩) hHeld ?_
                try simp only [Act.put, pS1, pS2, pS3]
                refine zW 10 (.pointer (some ⟨g, o + 110 * j, none⟩)) rfl (Or.inl ⟨by rfl, by intro W hSw; have := ix W; go_simp⟩) hHeld ?_
                try simp only [Act.put, pS1, pS2, pS3]
                refine zW 11 (.pointer (some ⟨g, o + 110 * j, none⟩)) rfl (Or.inl ⟨by rfl, by intro w hSw; go_simp⟩) hHeld ?_
                try simp only [Act.put, pS1, pS2, pS3]
                refine zW 12 (.int .i64 py) rfl (Or.inl ⟨by rfl, by intro W hSw; have h1 := hSw.2; go_simp⟩) hHeld ?_
                try simp only [Act.put, pS1, pS2, pS3]
                refine zW 13 (.bool false) rfl (Or.inl ⟨by rfl, by intro w hSw; go_simp⟩) hHeld ?_
                try simp only [Act.put, pS1, pS2, pS3]
                refine zW 14 (.bool false) rfl (Or.inl ⟨by rfl, by intro w hSw; go_simp⟩) hHeld ?_
                try simp only [Act.put, pS1, pS2, pS3]
                refine zW 15 (.bool false) rfl (Or.inl ⟨by rfl, by intro w hSw; go_simp⟩) hHeld ?_
                try simp only [Act.put, pS1, pS2, pS3]
                refine wpAnyH_done (by kernel_rfl) ?_ _
                have HBD := hidk HB2.out.drew
                go_wp2_with fail
                refine (HOL.out _ HBD.out).mono ?_
                rintro e w3 ⟨rfl, hb3⟩
                have HB3 := hidk (HBD.out.trans (hb3.mono HBD.out.size))
                clear hb3
                go_wp2
                go_ret
                exact ⟨by rw [HE2.out]; rfl, HB3.out⟩
            · have bk : (kx == 1) = false := by simp [hk]
              have HE2 : Hid (mayE l x = 0) := by show _ = _; rw [HLA.out hlow hfull]; simp [hk]
              go_enter Try.func43, Try.ntmps43
              go_wp2_with fail
              refine (HRL.out _ HB.out).mono ?_
              rintro e w1 ⟨rfl, hb1⟩
              have HB1 := hidk (HB.out.trans (hb1.mono HB.out.size))
              have HG1 := hidk ((hb1.block _ (heap_lt HG.out)).trans HG.out)
              clear hb1
              go_wp2_with (first
                | (show aD 10 _ _ _ _ _ _ _ _ _ _ _; refine wpList_load_row_w (by rfl) 40 (.tmp 3) rfl w.heap.size rfl 40 X (0, 0) _ HG1.out Try.underlying40 rfl HSX.out ?_; try simp only [Act.put, pS1, pS2, pS3])
                | fail)
              refine (HRI.out _).mono ?_
              rintro e w2 ⟨rfl, hb2⟩
              have HB2 := hidk (HB1.out.trans (hb2.mono HB1.out.size))
              have HG2 := hidk ((hb2.block _ (heap_lt HG1.out)).trans HG1.out)
              clear hb2
              obtain ⟨c0, c1, c2, c3⟩ := HCL.out _ _ HG2.out
              have hS : w2.cell? ⟨w.heap.size, 0, none⟩ = some (.int .i64 px) ∧ w2.cell? ⟨g, o + 110 * j, none⟩ = some (.int .i64 py) := ⟨c0, HCJ.out _ HB2.out⟩
              go_wp2
              refine wp_region_held_drew (S := (fun V => V.cell? ⟨w.heap.size, 0, none⟩ = some (.int .i64 px) ∧ V.cell? ⟨g, o + 110 * j, none⟩ = some (.int .i64 py))) (by kernel_rfl) hS (fun hHeld => ?_)
              refine zW 0 (.slice (some ⟨g, o, none⟩) len cap) rfl (Or.inl ⟨by rfl, by intro w hSw; go_simp⟩) hHeld ?_
              try simp only [Act.put, pS1, pS2, pS3]
              refine zW 1 (.int .i64 len) rfl (Or.inl ⟨by rfl, by intro w hSw; go_simp⟩) hHeld ?_
              try simp only [Act.put, pS1, pS2, pS3]
              refine zW 2 (.bool true) rfl (Or.inl ⟨by rfl, by intro w hSw; go_simp⟩) hHeld ?_
              try simp only [Act.put, pS1, pS2, pS3]
              refine zW 3 (.bool true) rfl (Or.inl ⟨by rfl, by intro w hSw; go_simp⟩) hHeld ?_
              try simp only [Act.put, pS1, pS2, pS3]
              refine zW 4 (.pointer (some ⟨w.heap.size, 0, none⟩)) rfl (Or.inl ⟨by rfl, by intro w hSw; go_simp⟩) hHeld ?_
              try simp only [Act.put, pS1, pS2, pS3]
              refine zW 5 (.int .i64 px) rfl (Or.inl ⟨by rfl, by intro W hSw; have h1 := hSw.1; go_simp⟩) hHeld ?_
              try simp only [Act.put, pS1, pS2, pS3]
              refine zW 6 (.slice (some ⟨g, o, none⟩) len cap) rfl (Or.inl ⟨by rfl, by intro w hSw; go_simp⟩) hHeld ?_
              try simp only [Act.put, pS1, pS2, pS3]
              refine zW 7 (.slice (some ⟨g, o, none⟩) len cap) rfl (Or.inl ⟨by rfl, by intro w hSw; go_simp⟩) hHeld ?_
              try simp only [Act.put, pS1, pS2, pS3]
              refine zW 8 (.int .i64 len) rfl (Or.inl ⟨by rfl, by intro w hSw; go_simp⟩) hHeld ?_
              try simp only [Act.put, pS1, pS2, pS3]
              refine zW 9 (.int .i64 j) rfl (Or.inl ⟨by rfl, by intro W hSw; have := hsub; go_simp⟩) hHeld ?_
              try simp only [Act.put, pS1, pS2, pS3]
              refine zW 10 (.pointer (some ⟨g, o + 110 * j, none⟩)) rfl (Or.inl ⟨by rfl, by intro W hSw; have := ix W; go_simp⟩) hHeld ?_
              try simp only [Act.put, pS1, pS2, pS3]
              refine zW 11 (.pointer (some ⟨g, o + 110 * j, none⟩)) rfl (Or.inl ⟨by rfl, by intro w hSw; go_simp⟩) hHeld ?_
              try simp only [Act.put, pS1, pS2, pS3]
              refine zW 12 (.int .i64 py) rfl (Or.inl ⟨by rfl, by intro W hSw; have h1 := hSw.2; go_simp⟩) hHeld ?_
              try simp only [Act.put, pS1, pS2, pS3]
              refine zW 13 (.bool false) rfl (Or.inl ⟨by rfl, by intro w hSw; go_simp⟩) hHeld ?_
              try simp only [Act.put, pS1, pS2, pS3]
              refine zW 14 (.bool false) rfl (Or.inl ⟨by rfl, by intro w hSw; go_simp⟩) hHeld ?_
              try simp only [Act.put, pS1, pS2, pS3]
              refine zW 15 (.bool false) rfl (Or.inl ⟨by rfl, by intro w hSw; go_simp⟩) hHeld ?_
              try simp only [Act.put, pS1, pS2, pS3]
              refine wpAnyH_done (by kernel_rfl) ?_ _
              have HBD := hidk HB2.out.drew
              go_wp2
              go_ret
              exact ⟨by rw [HE2.out]; rfl, HBD.out⟩
set_option maxHeartbeats 2000000 in
theorem hPutS_no (s : SgT) (hs : InS s) (hm : mayS s = false) (w : World) (C : Array Value) (HC : Hid (C = (scells s).toArray)) :
    Calls Try.prog 124 #[.agg C] w fun e w' => BytesE [] 70 e w' ∧ Below w.heap.size w w' := by
  have hnot : ∀ (x : Bool) (w : World), (Op.unary .not (.bool x)).run Try.prog w = .ok (.bool (!x)) w := fun _ _ => rfl
  have HSC : Hid ((Try.prog.info? 34).map (·.size) = some C.size) := by show _ = _; rw [sizeS, HC.out]; simp [scells_length s hs.h.d hs.g]
  have HR : Hid ((w.alloc (.cells C 34)).heap[w.heap.size]? = some (.cells C 34 (0, 0))) := heap_alloc_new w _
  have HB : Hid (Below w.heap.size w (w.alloc (.cells C 34))) := (Below.refl _ _).alloc (Nat.le_refl _) _
  have K1 : Hid (∀ W, Calls Try.prog 132 #[.agg C] W fun e w' => e = .returned (.bool false) ∧ Below W.heap.size W w') := fun W => by
    have := hMay_any s hs.h.d W C HC
    rwa [hm] at this
  clear HC hm hs
  go_enter Try.func124, Try.ntmps124
  go_wp2_with (first
    | (show aD 4 _ _ _ _ _ _ _ _ _ _ _; refine wpList_load_row rfl 34 (.tmp 1) rfl w.heap.size rfl 34 C (0, 0) _ HR.out Try.underlying34 rfl HSC.out ?_; try simp only [Act.put, pS1, pS2, pS3])
    | fail)
  refine (K1.out _).mono ?_
  rintro e w1 ⟨rfl, hb1⟩
  have HB1 := hidk (HB.out.trans (hb1.mono HB.out.size))
  clear hb1
  go_wp2
  go_ret2
  exact ⟨bytes_no _ _, HB1.out⟩
set_option maxHeartbeats 8000000 in
theorem hPutS_yes (s : SgT) (hs : InS s) (hm : mayS s = true) (w : World) (C : Array Value) (HC : Hid (C = (scells s).toArray)) :
    Calls Try.prog 124 #[.agg C] w fun e w' => BytesE (signB s) 0 e w' ∧ Below w.heap.size w w' := by
  have hnot : ∀ (x : Bool) (w : World), (Op.unary .not (.bool x)).run Try.prog w = .ok (.bool (!x)) w := fun _ _ => rfl
  have hd := hs.h.d
  have hg := hs.g
  have hrt := ((mayS_iff s).1 hm).1
  have HSC : Hid ((Try.prog.info? 34).map (·.size) = some C.size) := by show _ = _; rw [sizeS, HC.out]; simp [scells_length s hd hg]
  have HRW : Hid ((w.alloc (.cells C 34)).heap[w.heap.size]? = some (.cells C 34 (0, 0))) := heap_alloc_new w _
  have K1 : Hid (∀ W, Calls Try.prog 132 #[.agg C] W fun e w' => e = .returned (.bool true) ∧ Below W.heap.size W w') := fun W => by
    have := hMay_any s hd W C HC
    rwa [hm] at this
  have HR := hidk (srow_new w s hd C HC 34)
  have HB : Hid (Below w.heap.size w (w.alloc (.cells C 34))) := (Below.refl _ _).alloc (Nat.le_refl _) _
  obtain ⟨HCs, HHC, HSH, H36⟩ := head_row s.h hd
  obtain ⟨D, HD, HSD, H1D, H32D⟩ := dig_row' s.g hg
  obtain ⟨n, Hn⟩ : ∃ n, Hid (n = s.n) := ⟨s.n, hidk rfl⟩
  obtain ⟨n2, Hn2⟩ : ∃ x : ByteArray, Hid (x = nOf n) := ⟨nOf n, hidk rfl⟩
  obtain ⟨x1, HX1⟩ : ∃ x : ByteArray, Hid (x = bA (headB s.h)) := ⟨bA (headB s.h), hidk rfl⟩
  obtain ⟨x3, HX3⟩ : ∃ x : ByteArray, Hid (x = bA s.g) := ⟨bA s.g, hidk rfl⟩
  obtain ⟨l, Hl⟩ : ∃ l, Hid (l = signB s) := ⟨signB s, hidk rfl⟩
  have B1 : Hid (∀ W, Calls Try.prog 133 #[.agg HCs] W fun e w' => e = .returned (.string x1) ∧ Below W.heap.size W w') := fun W => by
    have := hLaid_any s.h hd W HCs HHC
    rwa [show putB s.h = headB s.h by unfold putB; rw [if_pos hrt], ← HX1.out] at this
  have N2 : Hid (∀ W, Calls Try.prog 134 #[.int .i64 2, .int .i64 n] W fun e w' => e = .returned (.agg #[.int .i64 2, .string n2]) ∧ Below W.heap.size W w') := fun W => by rw [Hn2.out]; exact hNum_any 2 n W
  have X3 : Hid (∀ W, Calls Try.prog 135 #[.int .i64 3, .agg D] W fun e w' => e = .returned (.agg #[.int .i64 3, .string x3]) ∧ Below W.heap.size W w') := fun W => by rw [HX3.out]; exact hDig_any 3 s.g hg W D HD
  have hL3 : fieldsN (sL s) = [(1, x1), (2, n2), (3, x3)] := by rw [HX1.out, Hn2.out, HX3.out, Hn.out]; rfl
  have LY : Hid (∀ W, Calls Try.prog 46 #[.slice (some ⟨W.heap.size, 0, none⟩) 3 3] (W.alloc (.cells #[.int .i64 1, .string x1, .int .i64 2, .string n2, .int .i64 3, .string x3] 85)) fun e w' => ∃ a c, e = .returned (.tuple #[.slice a l.length c, .int .i64 0]) ∧ Reads w' a l.length c l ∧ Below W.heap.size W w') := fun W => by
    have hk := layE_sL s hd hg
    have hrw := rowOf_ok hk
    rw [hL3] at hk hrw
    have hmm : ∀ f ∈ [((1 : Int), x1), (2, n2), (3, x3)], f.2.size ≤ maxLen := fun y hy => by
      simp only [List.mem_cons, List.not_mem_nil, or_false] at hy
      unfold maxLen
      rcases hy with rfl | rfl | rfl
      · have := bA_size (headB s.h); rw [← HX1.out] at this; have := headB_length s.h hd; show x1.size ≤ _; omega
      · have := nOf_size n; rw [← Hn2.out] at this; show n2.size ≤ _; omega
      · have := bA_size s.g; rw [← HX3.out] at this; show x3.size ≤ _; omega
    have hF := freads_lit W #[.int .i64 1, .string x1, .int .i64 2, .string n2, .int .i64 3, .string x3] (0, 0) [((1 : Int), x1), (2, n2), (3, x3)] rfl (by show 3 ≤ 1048576; decide) hmm
    rw [← alloc_size W (.cells #[.int .i64 1, .string x1, .int .i64 2, .string n2, .int .i64 3, .string x3] 85)] at hF
    refine (lay_reads (some ⟨W.heap.size, 0, none⟩) 3 3 [((1 : Int), x1), (2, n2), (3, x3)] _ hF (by decide) (k := 0) (l := l) hk (by rw [hrw, Hl.out, ← hL3]; rfl)).mono ?_
    rintro e w' ⟨a, c, he, hrd, hb⟩
    exact ⟨a, c, he, hrd, ((Below.refl _ _).alloc (Nat.le_refl _) _).trans (hb.mono (by simp))⟩
  have HDL : Hid (D.toList = cellsOf s.g) := by show _ = _; rw [HD.out]
  have HHL : Hid (HCs.toList = hcells s.h) := by show _ = _; rw [HHC.out]
  rw [← Hl.out]
  clear HC hL3 HX1 HX3 HD Hn2 Hl hm hrt
  go_enter Try.func124, Try.ntmps124
  go_wp2_with (first
    | (show aD 4 _ _ _ _ _ _ _ _ _ _ _; refine wpList_load_row rfl 34 (.tmp 1) rfl w.heap.size rfl 34 C (0, 0) _ HRW.out Try.underlying34 rfl HSC.out ?_; try simp only [Act.put, pS1, pS2, pS3])
    | fail)
  refine (K1.out _).mono ?_
  rintro e w0 ⟨rfl, hb0⟩
  have HB0 := hidk (HB.out.trans (hb0.mono HB.out.size))
  have HR0 := hidk (HR.out.keep hb0)
  clear hb0 HB HR HRW K1
  go_wp2
  refine wp_region_held_drew (S := (fun W => SRow W w.heap.size 0 s)) (by kernel_rfl) (show SRow w0.drew w.heap.size 0 s from HR0.out.keep (Below.refl _ _).drew) (fun hHeld => ?_)
  refine zX 0 (.pointer (some ⟨w.heap.size, 0, none⟩)) rfl hHeld ?_
  try simp only [Act.put, pS1, pS2, pS3]
  refine zW 1 (.agg HCs) rfl (yieldsIf_mid (by rfl) 32 (.tmp 7) rfl w.heap.size 0 rfl HCs _ (fun _ h => by rw [HHL.out]; exact h.h) Try.underlying32 rfl HSH.out) hHeld ?_
  try simp only [Act.put, pS1, pS2, pS3]
  refine zX 4 (.pointer (some ⟨w.heap.size, 36, none⟩)) rfl hHeld ?_
  try simp only [Act.put, pS1, pS2, pS3]
  refine zW 5 (.int .i64 n) rfl (Or.inl ⟨by rfl, by intro W hSw; have h1 := hSw.n; rw [← Hn.out, Nat.zero_add] at h1; go_simp⟩) hHeld ?_
  try simp only [Act.put, pS1, pS2, pS3]
  refine zX 7 (.pointer (some ⟨w.heap.size, 37, none⟩)) rfl hHeld ?_
  try simp only [Act.put, pS1, pS2, pS3]
  refine zW 8 (.agg D) rfl (yieldsIf_mid (by rfl) 30 (.tmp 14) rfl w.heap.size 37 rfl D _ (fun _ h => by rw [HDL.out]; have := h.g; rwa [Nat.zero_add] at this) Try.underlying30 rfl HSD.out) hHeld ?_
  try simp only [Act.put, pS1, pS2, pS3]
  refine wpAnyH_ready (rs := [2]) (by kernel_rfl) (by simp) ?_
  refine (AllReadyH.cons (o := { dst := some 9, op := .call { callee := .value (.func 133), args := #[.tmp 8], argTypes := #[32] }, type := 9, pos := "head.go:97", after := #[zD 1], guard := none }) rfl (fun K hK => ?_) AllReadyH.nil)
  go_simp
  refine (B1.out _).mono ?_
  rintro e w2 ⟨rfl, hb1⟩
  have HBc := hidk (HB0.out.drew.trans (hb1.mono HB0.out.size))
  go_wp2_with fail
  refine hK.out _ _ (hHeld.keep hb1) (fun hHeld => ?_)
  clear hK K
  try simp only [Act.put, pS1, pS2, pS3]
  refine zX 3 (.agg #[.int .i64 1, .string x1]) rfl hHeld ?_
  try simp only [Act.put, pS1, pS2, pS3]
  refine wpAnyH_ready (rs := [6]) (by kernel_rfl) (by simp) ?_
  refine (AllReadyH.cons (o := { dst := some 13, op := .call { callee := .value (.func 134), args := #[.const (.int .i64 2), .tmp 12], argTypes := #[3, 3] }, type := 85, pos := "head.go:98", after := #[zD 5, zC 2], guard := none }) rfl (fun K hK => ?_) AllReadyH.nil)
  go_simp
  refine (N2.out _).mono ?_
  rintro e w6 ⟨rfl, hb2⟩
  replace HBc := hidk (HBc.out.trans (hb2.mono HBc.out.size))
  go_wp2_with fail
  refine hK.out _ _ (hHeld.keep hb2) (fun hHeld => ?_)
  clear hK K
  try simp only [Act.put, pS1, pS2, pS3]
  refine wpAnyH_ready (rs := [9]) (by kernel_rfl) (by simp) ?_
  refine (AllReadyH.cons (o := { dst := some 16, op := .call { callee := .value (.func 135), args := #[.const (.int .i64 3), .tmp 15], argTypes := #[3, 30] }, type := 85, pos := "head.go:99", after := #[zD 8, zC 6], guard := none }) rfl (fun K hK => ?_) AllReadyH.nil)
  go_simp
  refine (X3.out _).mono ?_
  rintro e w9 ⟨rfl, hb3⟩
  replace HBc := hidk (HBc.out.trans (hb3.mono HBc.out.size))
  go_wp2_with fail
  refine hK.out _ _ (hHeld.keep hb3) (fun hHeld => ?_)
  clear hK K
  try simp only [Act.put, pS1, pS2, pS3]
  refine wpAnyH_ready (rs := [10]) (by kernel_rfl) (by simp) ?_
  refine (AllReadyH.cons (o := { dst := some 17, op := .buildSlice 88 3 #[(0, .tmp 10), (1, .tmp 13), (2, .tmp 16)], type := 88, pos := "head.go:96", after := #[zD 3, zD 6, zD 9], guard := none }) rfl (fun K hK => ?_) AllReadyH.nil)
  have HRc := hidk hHeld
  go_simp
  refine hK.out _ _ (hHeld.keep ((Below.refl _ _).alloc (Nat.le_refl _) _)) (fun hHeld => ?_)
  clear hK K
  try simp only [Act.put, pS1, pS2, pS3]
  refine wpAnyH_ready (rs := [11]) (by kernel_rfl) (by simp) ?_
  refine (AllReadyH.cons (o := { dst := some 18, op := .call { callee := .value (.func 46), args := #[.tmp 17], argTypes := #[88] }, type := 81, pos := "head.go:96", after := #[zD 10, zC 9], guard := none }) rfl (fun K hK => ?_) AllReadyH.nil)
  go_simp
  refine (LY.out _).mono ?_
  rintro e w11 ⟨a11, c11, rfl, hrd, hb6⟩
  have HRD := hidk hrd
  have HBF := hidk (HBc.out.trans (hb6.mono HBc.out.size))
  go_wp2_with fail
  refine hK.out _ _ (HRc.out.keep hb6) (fun hHeld => ?_)
  clear hK K
  try simp only [Act.put, pS1, pS2, pS3]
  refine zX 12 (.slice a11 l.length c11) rfl hHeld ?_
  try simp only [Act.put, pS1, pS2, pS3]
  refine zX 13 (.int .i64 0) rfl hHeld ?_
  try simp only [Act.put, pS1, pS2, pS3]
  refine zX 14 (.slice a11 l.length c11) rfl hHeld ?_
  try simp only [Act.put, pS1, pS2, pS3]
  refine zX 15 (.int .i64 0) rfl hHeld ?_
  try simp only [Act.put, pS1, pS2, pS3]
  refine wpAnyH_done (by kernel_rfl) ?_ _
  go_wp2
  go_ret2
  exact ⟨⟨_, _, rfl, HRD.out⟩, HBF.out⟩
theorem hPutS_any (s : SgT) (hs : InS s) (w : World) (C : Array Value) (HC : Hid (C = (scells s).toArray)) :
    Calls Try.prog 124 #[.agg C] w fun e w' => BytesE (putSB s) (putSE s) e w' ∧ Below w.heap.size w w' := by
  unfold putSB putSE
  cases hr : mayS s
  · exact hPutS_no s hs hr w C HC
  · exact hPutS_yes s hs hr w C HC
theorem scells_sign (h : HdT) (n : Int) (t d : List UInt8) (hd : h.d.length = 32) (ht : t.length = 32) : ((scells ⟨h, n, t⟩).toArray.toList.take 37 ++ cellsOf d ++ (scells ⟨h, n, t⟩).toArray.toList.drop (37 + 32)).toArray = (scells ⟨h, n, d⟩).toArray := by
  unfold scells
  congr 1
  have e : ∀ l : List Value, l.toArray.toList = l := fun _ => rfl
  simp only [e, List.drop_append, List.take_append, List.length_append, hcells_length h hd, cellsOf_length, ht, List.length_singleton]
  rw [List.take_of_length_le (l := hcells h) (by rw [hcells_length h hd]; omega), List.drop_of_length_le (l := hcells h) (by rw [hcells_length h hd]; omega), List.drop_of_length_le (l := cellsOf t) (by rw [cellsOf_length, ht]; omega)]
  simp
end Go.Proofs.Ytjpmmbmhkpgjcaa
