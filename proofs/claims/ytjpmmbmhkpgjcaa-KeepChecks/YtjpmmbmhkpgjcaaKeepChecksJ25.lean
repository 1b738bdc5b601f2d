/- Texts of our own that the row of KeepChecks leans on, part 25. -/
import Derived.Test.YtjpmmbmhkpgjcaaKeepChecksJ0
import Derived.Test.YtjpmmbmhkpgjcaaKeepChecksJ1
import Derived.Test.YtjpmmbmhkpgjcaaKeepChecksJ15
import Derived.Test.YtjpmmbmhkpgjcaaKeepChecksJ17
import Derived.Test.YtjpmmbmhkpgjcaaKeepChecksJ20
import Derived.Test.YtjpmmbmhkpgjcaaKeepChecksJ22
import Derived.Test.YtjpmmbmhkpgjcaaKeepChecksJ24
import Derived.Deep.RegionHeld3
import Derived.Lib.BufferWrite
/- Slices of items in memory. -/
namespace Go.Proofs.Ytjpmmbmhkpgjcaa
open Go.RowKit Nums Sums
set_option linter.unusedVariables false
set_option linter.unusedSimpArgs false
set_option maxRecDepth 100000
structure IReads (w : World) (a : Option Addr) (len cap : Nat) (l : List ItT) : Prop where
  ln : l.length = len
  cp : len ≤ cap
  mx : len ≤ maxLen
  ok : ∀ x ∈ l, OkE x.e
  lies : len = 0 ∨ ∃ g o, a = some ⟨g, o, none⟩ ∧ ∀ (i : Nat) (h : i < l.length), w.rangeAt g (o + 110 * i) (icells l[i])
theorem range_lt {w : World} {g o : Nat} {l : List Value} (h : w.rangeAt g o l) (hl : 0 < l.length) : g < w.heap.size := by
  have := h 0 l[0] (List.getElem?_eq_getElem hl)
  exact World.block_lt_of_cell? _ _ this
theorem range_below {B : Nat} {w w' : World} {g o : Nat} {l : List Value} (h : w.rangeAt g o l) (hb : Below B w w') (hg : g < B) : w'.rangeAt g o l := fun j v hj => by
  rw [hb.cell hg]; exact h j v hj
theorem IReads.at {w : World} {a : Option Addr} {len cap : Nat} {l : List ItT} (h : IReads w a len cap l) (h0 : 0 < len) : ∃ g o, a = some ⟨g, o, none⟩ ∧ g < w.heap.size := by
  rcases h.lies with h5 | ⟨g, o, ha, hl⟩
  · omega
  · have h1 := h.ln
    refine ⟨g, o, ha, range_lt (hl 0 (by omega)) ?_⟩
    rw [icells_length _ (h.ok _ (List.getElem_mem (by omega)))]
    omega
theorem IReads.below {w w' : World} {a : Option Addr} {len cap B : Nat} {l : List ItT} (h : IReads w a len cap l) (hb : Below B w w') (hB : ∀ g o, a = some ⟨g, o, none⟩ → 0 < len → g < B) : IReads w' a len cap l := by
  refine ⟨h.ln, h.cp, h.mx, h.ok, ?_⟩
  by_cases h0 : len = 0
  · exact .inl h0
  · rcases h.lies with h5 | ⟨g, o, ha, hl⟩
    · exact .inl h5
    · exact .inr ⟨g, o, ha, fun i hi => range_below (hl i hi) hb (hB g o ha (by omega))⟩
theorem IReads.keep {w w' : World} {a : Option Addr} {len cap : Nat} {l : List ItT} (h : IReads w a len cap l) (hb : Below w.heap.size w w') : IReads w' a len cap l := by
  refine h.below hb fun g o ha h0 => ?_
  obtain ⟨g', o', ha', hl⟩ := h.at h0
  rw [ha] at ha'
  cases ha'
  exact hl
theorem IReads.range {w : World} {g o len cap : Nat} {l : List ItT} (h : IReads w (some ⟨g, o, none⟩) len cap l) (i : Nat) (hi : i < l.length) : w.rangeAt g (o + 110 * i) (icells l[i]) := by
  have h1 := h.ln
  rcases h.lies with h5 | ⟨g', o', ha, hl⟩
  · omega
  · cases ha
    exact hl i hi
theorem IReads.cell {w : World} {g o len cap : Nat} {l : List ItT} (h : IReads w (some ⟨g, o, none⟩) len cap l) (i : Nat) (hi : i < l.length) (j : Nat) (v : Value) (hj : (icells l[i])[j]? = some v) : w.cell? ⟨g, o + 110 * i + j, none⟩ = some v := h.range i hi j v hj
theorem IReads.take {w : World} {a : Option Addr} {len cap : Nat} {l : List ItT} (h : IReads w a len cap l) (k : Nat) (hk : k ≤ len) : IReads w a k cap (l.take k) := by
  have h1 := h.ln
  have h2 := h.cp
  have h3 := h.mx
  refine ⟨by rw [List.length_take]; omega, by omega, by omega, fun x hx => h.ok x (List.mem_of_mem_take hx), ?_⟩
  rcases h.lies with h5 | ⟨g, o, ha, hl⟩
  · exact .inl (by omega)
  · refine .inr ⟨g, o, ha, fun i hi => ?_⟩
    rw [List.length_take] at hi
    rw [List.getElem_take]
    exact hl i (by omega)
theorem ireads_none (w : World) : IReads w none 0 0 [] := ⟨rfl, Nat.le_refl _, Nat.zero_le _, (fun x hx => by cases hx), .inl rfl⟩
theorem icells_p (x : ItT) : (icells x)[0]? = some (.int .i64 x.p) := rfl
theorem icells_k (x : ItT) : (icells x)[1]? = some (.int .i64 x.e.k) := rfl
theorem icells_c (x : ItT) : (icells x)[2]? = some (.int .i64 x.e.c) := rfl
theorem range_entry {w : World} {g o : Nat} {x : ItT} (h : w.rangeAt g o (icells x)) : w.rangeAt g (o + 1) (ecells x.e) := fun j v hj => by
  have := h (j + 1) v (by show ([Value.int .i64 x.p] ++ ecells x.e)[j + 1]? = _; simpa using hj)
  rw [← this]
  congr 2
  omega
theorem sizeOfI (w : World) : (sizeOf 40).run Try.prog w = .ok 110 w := by
  have hz : (Try.prog.info? 40).map (·.size) = some 110 := by kernel_rfl
  cases hq : Try.prog.info? 40 with
  | none => simp [hq] at hz
  | some i => simp [hq] at hz; simp [sizeOf, typeInfo, hq, hz]
theorem slice_items (W : World) (g o len cap k : Nat) (hk : k ≤ cap) : (Instr.sliceAt 22 (.slice (some ⟨g, o, none⟩) len cap) none (some (.int .i64 k)) none).run Try.prog W = .ok (.slice (some ⟨g, o, none⟩) k cap) W := by
  simp [Instr.sliceAt, Instr.slice, Instr.sliceBounds, Instr.sliceBound, asIntOf, run_underlying Try.underlying22, sizeOfI, hk]
  rw [add_plain]
  simp
theorem slice_items_none (W : World) : (Instr.sliceAt 22 (.slice none 0 0) none (some (.int .i64 0)) none).run Try.prog W = .ok (.slice none 0 0) W := by
  simp [Instr.sliceAt, Instr.slice, Instr.sliceBounds, Instr.sliceBound, asIntOf, run_underlying Try.underlying22, sizeOfI]
theorem index_item (W : World) (g o len cap i : Nat) (k : IntKind) (hi : i < len) : (Instr.indexAt 22 (.slice (some ⟨g, o, none⟩) len cap) (.int k i)).run Try.prog W = .ok (.pointer (some ⟨g, o + 110 * i, none⟩)) W := by
  simp [Instr.indexAt, asIntOf, run_underlying Try.underlying22, sizeOfI, hi]
  rw [add_plain, Nat.mul_comm]
def icL (l : List ItT) : List Value := l.flatMap icells
theorem icL_nil : icL [] = [] := rfl
theorem icL_cons (x : ItT) (l : List ItT) : icL (x :: l) = icells x ++ icL l := by unfold icL; rw [List.flatMap_cons]
theorem icL_append (l r : List ItT) : icL (l ++ r) = icL l ++ icL r := by unfold icL; rw [List.flatMap_append]
theorem icL_length : ∀ (l : List ItT), (∀ x ∈ l, OkE x.e) → (icL l).length = l.length * 110
  | [], _ => rfl
  | x :: l, h => by
    rw [icL_cons, List.length_append, icells_length _ (h x (by simp)), icL_length l fun y hy => h y (by simp [hy]), List.length_cons]
    omega
theorem icL_at : ∀ (l : List ItT), (∀ x ∈ l, OkE x.e) → ∀ (i : Nat) (hi : i < l.length) (j : Nat) (v : Value), (icells l[i])[j]? = some v → (icL l)[110 * i + j]? = some v
  | [], _, i, hi, _, _, _ => by cases hi
  | x :: l, h, i, hi, j, v, hj => by
    have hx := icells_length _ (h x (by simp))
    rw [icL_cons]
    cases i with
    | zero =>
      have hj' : (icells x)[j]? = some v := hj
      have : j < (icells x).length := (List.getElem?_eq_some_iff.1 hj').1
      rw [List.getElem?_append_left (by omega)]
      simpa using hj'
    | succ i =>
      rw [List.getElem?_append_right (by omega), hx]
      have := icL_at l (fun y hy => h y (by simp [hy])) i (by simpa using hi) j v (by simpa using hj)
      rw [← this]
      congr 1
      omega
theorem icL_back : ∀ (l : List ItT), (∀ x ∈ l, OkE x.e) → ∀ (j : Nat) (v : Value), (icL l)[j]? = some v → ∃ i, ∃ hi : i < l.length, ∃ k, j = 110 * i + k ∧ (icells l[i])[k]? = some v
  | [], _, j, v, hj => by simp [icL_nil] at hj
  | x :: l, h, j, v, hj => by
    have hx := icells_length _ (h x (by simp))
    rw [icL_cons] at hj
    by_cases hlt : j < 110
    · rw [List.getElem?_append_left (by omega)] at hj
      exact ⟨0, by simp, j, by omega, hj⟩
    · rw [List.getElem?_append_right (by omega), hx] at hj
      obtain ⟨i, hi, k, e, hk⟩ := icL_back l (fun y hy => h y (by simp [hy])) _ v hj
      exact ⟨i + 1, by simpa using hi, k, by omega, by simpa using hk⟩
theorem icells_one (x : ItT) : ∀ v ∈ icells x, v.oneCell' = true := by
  intro v hv
  have h := one_cellsI x
  rw [List.all_toArray, List.all_eq_true] at h
  exact h v hv
theorem icL_one (l : List ItT) : ∀ v ∈ icL l, v.oneCell' = true := by
  intro v hv
  obtain ⟨x, _, hv⟩ := List.mem_flatMap.1 hv
  exact icells_one x v hv
theorem IReads.puts {w : World} {ad : Addr} {len cap : Nat} {l : List ItT} (h : IReads w (some ad) len cap l) : ∀ j u, (icL l)[j]? = some u → w.cell? (ad.add j) = some u := fun j u hj => by
  obtain ⟨i, hi, k, rfl, hk⟩ := icL_back l h.ok j u hj
  have h1 := h.ln
  rcases h.lies with h5 | ⟨g, o, ha, hl⟩
  · omega
  · cases ha
    rw [add_plain, ← Nat.add_assoc]
    exact hl i hi k u hk
theorem infoIt : (Try.prog.info? 40).map (fun i => (i.zero, i.size, i.bytes)) = some (some (.agg (icells ⟨0, zeroE⟩).toArray), 110, 216) := by kernel_rfl
theorem run_append_items {w : World} {a : Option Addr} {len cap : Nat} {l : List ItT} (h : IReads w a len cap l) (hc0 : a = none → cap = 0) (B n : Nat) (v : Value) (xs : List ItT)
    (hown : w.ownsRow B 40 110 v n (icL xs)) (hB : B ≤ w.heap.size) (hb : n + len ≤ 1000000) :
    ∃ v' w', (Builtin.append_ #[22, 22] 22 #[v, .slice a len cap]).run Try.prog w = .ok v' w' ∧
      w'.ownsRow B 40 110 v' (n + len) (icL (xs ++ l)) ∧ w.grownBy w' v.ownBlock := by
  obtain ⟨i0, hi, hz0, hz1, hz2⟩ := info_parts infoIt
  have h1 := h.ln
  cases a with
  | none =>
    obtain rfl : cap = 0 := hc0 rfl
    have hl0 : len = 0 := by have := h.cp; omega
    subst hl0
    obtain rfl : l = [] := List.eq_nil_of_length_eq_zero h1
    refine ⟨v, w, run_append_owned_none (P := Try.prog) w B 22 22 40 i0 110 Try.underlying22 hi _ n _ hown, ?_, World.grownBy.refl _ _⟩
    simpa using hown
  | some ad =>
    obtain ⟨v', w', hr, ho, hg, _⟩ := run_append_own (P := Try.prog) w B 22 22 40 i0 _ 110 216 Try.underlying22 hi hz0 hz1 hz2 (by rfl) (by decide) v n _ hown ad len cap (icL l) (by rw [icL_length l h.ok, h1]) h.puts (icL_one l) (by unfold maxLen; omega) (by omega) hB
    refine ⟨v', w', hr, ?_, hg⟩
    rw [icL_append]
    exact ho
theorem IReads.own {w : World} {B n : Nat} {v : Value} {l : List ItT} (h : w.ownsRow B 40 110 v n (icL l)) (hok : ∀ x ∈ l, OkE x.e) : ∃ a cap, v = .slice a n cap ∧ IReads w a n cap l ∧ (a = none → cap = 0) ∧ (∀ g o, a = some ⟨g, o, none⟩ → B ≤ g ∧ v.ownBlock = some g) := by
  have hl : l.length = n := by have := h.1; rw [icL_length l hok] at this; omega
  rcases h.2 with ⟨rfl, h0⟩ | ⟨g, cap, cur, rfl, hb, hg, hc, hm, hs, ht⟩
  · subst h0
    exact ⟨none, 0, rfl, ⟨hl, Nat.le_refl _, Nat.zero_le _, hok, .inl rfl⟩, fun _ => rfl, fun g o e => by cases e⟩
  · refine ⟨some ⟨g, 0, none⟩, cap, rfl, ⟨hl, hc, by omega, hok, .inr ⟨g, 0, rfl, fun i hi j v hj => ?_⟩⟩, (fun e => by cases e), fun g' o' e => by cases e; exact ⟨hb, rfl⟩⟩
    have := h.cells (g := g) rfl _ _ (icL_at l hok i hi j v hj)
    rw [add_plain] at this
    rw [Nat.zero_add]
    simpa using this
def bigL (l : List ItT) : Bool := decide (60 < l.length) || l.any fun x => decide (1000 < x.e.t.size)
theorem bigL_yes {l : List ItT} (i : Nat) (hi : i < l.length) (h : 1000 < l[i].e.t.size) : bigL l = true := by
  unfold bigL
  rw [Bool.or_eq_true, List.any_eq_true]
  exact .inr ⟨l[i], List.getElem_mem hi, by simpa using h⟩
theorem bigL_no {l : List ItT} (hl : l.length ≤ 60) (h : ∀ x ∈ l, x.e.t.size ≤ 1000) : bigL l = false := by
  unfold bigL
  rw [Bool.or_eq_false_iff, List.any_eq_false]
  exact ⟨decide_eq_false (by omega), fun x hx => by have := h x hx; simp; omega⟩
theorem take_mem_succ {α : Type} {l : List α} {k : Nat} (hk : k < l.length) {P : α → Prop} (h : ∀ x ∈ l.take k, P x) (h1 : P l[k]) : ∀ x ∈ l.take (k + 1), P x := by
  intro x hx
  rw [List.take_succ_eq_append_getElem hk] at hx
  rcases List.mem_append.1 hx with hx | hx
  · exact h x hx
  · obtain rfl : x = l[k] := by simpa using hx
    exact h1
set_option maxHeartbeats 2000000 in
theorem refBig_any (a : Option Addr) (len cap : Nat) (l : List ItT) (w : World) (h : IReads w a len cap l) (ht : ∀ x ∈ l, x.e.t.size ≤ maxLen) :
    Calls Try.prog 29 #[.slice a len cap] w fun e w' => e = .returned (.bool (bigL l)) ∧ w = w' := by
  have H := hidk h
  have HL := hidk h.ln
  have HT := hidk ht
  have hmx : len ≤ 9223372036854775807 := by have := h.mx; unfold maxLen at this; omega
  by_cases h5 : len ≤ 60
  · have h5' : decide ((60 : Int) < (len : Int)) = false := by rw [decide_eq_false_iff_not]; omega
    clear h ht
    go_enter Try.func29, Try.ntmps29
    go_wp2
    go_loop [3] (fun i => ∃ k : Nat, k ≤ len ∧ i = .int .i64 k ∧ Hid (∀ s ∈ l.take k, s.e.t.size ≤ 1000)) (fun i => len - (intOf i).toNat)
    case atStart => exact ⟨0, by omega, rfl, fun s hs => by simp at hs⟩
    case round =>
      obtain ⟨k, hk, rfl, HA⟩ := hrel
      by_cases hlt : k < len
      · obtain ⟨g, o, rfl, hg⟩ := H.out.at (by omega)
        have hkl : k < l.length := by have := HL.out; omega
        obtain ⟨t, Ht⟩ : ∃ t, Hid (t = l[k].e.t) := ⟨_, hidk rfl⟩
        have hc := H.out.cell k hkl 4 (.string t) (by rw [Ht.out]; rfl)
        have hts : t.size ≤ maxLen := by rw [Ht.out]; exact HT.out _ (List.getElem_mem hkl)
        unfold maxLen at hts
        have ix := fun W => index_item W g o len cap k .i64 hlt
        have hd : decide ((k : Int) < (len : Int)) = true := by rw [decide_eq_true_eq]; omega
        have hw1 := wrap_int ((k : Int) + 1) (by omega) (by omega)
        have htm : t.size ≤ 9223372036854775807 := by omega
        by_cases h4 : t.size ≤ 1000
        · have h4' : decide ((1000 : Int) < (t.size : Int)) = false := by rw [decide_eq_false_iff_not]; omega
          have HN : Hid (∀ s ∈ l.take (k + 1), s.e.t.size ≤ 1000) := take_mem_succ hkl HA.out (by rw [← Ht.out]; exact h4)
          clear Ht hkl
          go_wp2
          go_round
          case rel => exact ⟨k + 1, by omega, by go_num, HN⟩
          case measure => simp [intOf]; omega
        · have h4' : decide ((1000 : Int) < (t.size : Int)) = true := by rw [decide_eq_true_eq]; omega
          have HN : Hid (bigL l = true) := bigL_yes k hkl (by rw [← Ht.out]; omega)
          clear Ht hkl
          go_wp2
          go_ret
          exact ⟨by rw [HN.out]; rfl, rfl⟩
      · obtain rfl : len = k := by omega
        have hd : decide ((len : Int) < (len : Int)) = false := by rw [decide_eq_false_iff_not]; omega
        have HN : Hid (bigL l = false) := bigL_no (by have := HL.out; omega) (by have := HA.out; rwa [List.take_of_length_le (by have := HL.out; omega)] at this)
        go_wp2
        go_ret
        exact ⟨by rw [HN.out]; rfl, rfl⟩
  · have h5' : decide ((60 : Int) < (len : Int)) = true := by rw [decide_eq_true_eq]; omega
    have HN : Hid (bigL l = true) := by show _ = _; unfold bigL; rw [HL.out]; simp; left; omega
    clear h ht
    go_enter Try.func29, Try.ntmps29
    go_wp2
    go_ret
    exact ⟨by rw [HN.out]; rfl, rfl⟩
set_option maxHeartbeats 2000000 in
theorem refOwn_any (a : Option Addr) (len cap : Nat) (l : List ItT) (w : World) (h : IReads w a len cap l) (hc0 : a = none → cap = 0) (hlen : len ≤ 1000000) :
    Calls Try.prog 30 #[.slice a len cap] w fun e w' => ∃ v, e = .returned v ∧ w'.ownsRow w.heap.size 40 110 v len (icL l) ∧ Below w.heap.size w w' := by
  obtain ⟨v, w', hr, ho, hg⟩ := run_append_items h hc0 w.heap.size 0 (.slice none 0 0) [] ⟨rfl, .inl ⟨rfl, rfl⟩⟩ (Nat.le_refl _) (by omega)
  have HB : Hid (Below w.heap.size w w') := (Below.refl _ _).grown hg (Nat.le_refl _) (fun k e => by cases e)
  rw [List.nil_append, Nat.zero_add] at ho
  have HO := hidk ho
  clear ho hg h
  go_enter Try.func30, Try.ntmps30
  go_wp2_with (first
    | (show aD 6 _ _ _ _ _ _ _ _ _ _ _; refine wpList_append_run rfl (.tmp 4) (.tmp 5) 22 22 rfl (.slice none 0 0) (.slice a len cap) v w' rfl rfl hr ?_; try simp only [Act.put, pS1, pS2, pS3])
    | fail)
  go_ret
  exact ⟨v, rfl, HO.out, HB.out⟩
def enA (x : EnT) : Array Value := (ecells x).toArray
theorem enA_fit (x : EnT) (ok : OkE x) : Fit Try.prog 38 (enA x) := ⟨by rw [sizeE]; simp [enA, ecells_length x ok], one_cellsE x⟩
theorem enA_k (x : EnT) : (enA x)[0]? = some (.int .i64 x.k) := rfl
theorem enA_m {x : EnT} (ok : OkE x) (j : Nat) (v : Value) (hj : (ccells x.m)[j]? = some v) : (enA x)[73 + j]? = some v := by
  unfold enA ecells
  rw [List.getElem?_toArray, List.getElem?_append_right (by simp [scells_length _ ok.h ok.g]), show 73 + j - _ = j by simp [scells_length _ ok.h ok.g]]
  exact hj
theorem lead_yes {g : Int} {l : List ItT} (hg : g ≠ 1) (k : Nat) (hk : k < l.length) (hn : ∀ y ∈ l.take k, isLd g y = false) (hy : isLd g l[k] = true) : leadL g l = l[k].e.m.n := by
  unfold leadL
  rw [if_neg hg]
  have : l.find? (isLd g) = some l[k] := by
    rw [List.find?_eq_some_iff_append]
    refine ⟨hy, l.take k, l.drop (k + 1), ?_, fun a ha => by simpa using hn a ha⟩
    rw [← List.drop_eq_getElem_cons hk, List.take_append_drop]
  rw [this]; rfl
theorem lead_none {g : Int} {l : List ItT} (hg : g ≠ 1) (hn : ∀ y ∈ l, isLd g y = false) : leadL g l = 0 := by
  unfold leadL
  rw [if_neg hg]
  have : l.find? (isLd g) = none := by
    rw [List.find?_eq_none]
    intro x hx
    simpa using hn x hx
  rw [this]; rfl
set_option maxHeartbeats 8000000 in
theorem refLead_any (g : Int) (a : Option Addr) (len cap : Nat) (l : List ItT) (w : World) (h : IReads w a len cap l) (hlen : len ≤ 1000000) :
    Calls Try.prog 37 #[.int .i64 g, .slice a len cap] w fun e w' => e = .returned (.int .i64 (leadL g l)) ∧ Below w.heap.size w w' := by
  have HI := hidk h
  have HL := hidk h.ln
  have hmx : len ≤ 9223372036854775807 := by omega
  clear h
  by_cases hg1 : g = 1
  · subst hg1
    go_enter Try.func37, Try.ntmps37
    go_wp2
    go_ret
    exact ⟨rfl, Below.refl _ _⟩
  have hgb : (g == (1 : Int)) = false := by rw [beq_eq_false_iff_ne]; exact hg1
  have HG := hidk hg1
  clear hg1
  go_enter Try.func37, Try.ntmps37
  go_wp2
  go_loopw [5] (fun v wr => ∃ k : Nat, k ≤ len ∧ v = .int .i64 k ∧ Hid (Below w.heap.size w wr) ∧ Hid (∀ x ∈ l.take k, isLd g x = false)) (fun v _ => len - (intOf v).toNat)
  case atStart => exact ⟨0, by omega, rfl, Below.refl _ _, fun x hx => by simp at hx⟩
  case round =>
    obtain ⟨k, hk, rfl, HB, HN⟩ := hrel
    by_cases hlt : k < len
    · have hd : decide ((k : Int) < (len : Int)) = true := by rw [decide_eq_true_eq]; omega
      have hw1 := wrap_int ((k : Int) + 1) (by omega) (by omega)
      obtain ⟨gb, o, rfl, hgb'⟩ := HI.out.at (by omega)
      have hkl : k < l.length := by have := HL.out; omega
      obtain ⟨x, HX⟩ : ∃ x, Hid (x = l[k]) := ⟨_, hidk rfl⟩
      have hok : OkE x.e := by rw [HX.out]; exact HI.out.ok _ (List.getElem_mem hkl)
      have HR : Hid (wr.rangeAt gb (o + 110 * k + 1) (enA x.e).toList) := by
        show World.rangeAt _ _ _ _
        rw [HX.out]
        have h0 := (HI.out.keep HB.out).range k hkl
        simpa [enA] using range_entry h0
      have HRP : Hid (wr.cell? ⟨gb, o + 110 * k, none⟩ = some (.int .i64 x.p)) := by
        show _ = _
        rw [HX.out]
        have := (HI.out.keep HB.out).cell k hkl 0 _ (icells_p _)
        simpa using this
      have FE : Hid (Fit Try.prog 38 (enA x.e)) := enA_fit x.e hok
      have ix := fun W => index_item W gb o len cap k .i64 hlt
      have f74 := hidk (enA_m hok 1 _ rfl)
      have f75 := hidk (enA_m hok 2 _ rfl)
      have HIN : Hid (isLd g x = false → ∀ y ∈ l.take (k + 1), isLd g y = false) := fun hh => take_mem_succ hkl HN.out (by rw [← HX.out]; exact hh)
      have HYE : Hid (isLd g x = true → leadL g l = x.e.m.n) := fun hh => by rw [HX.out] at hh ⊢; exact lead_yes HG.out k hkl HN.out hh
      obtain ⟨b1, hb1⟩ : ∃ b, (x.p == g) = b := ⟨_, rfl⟩
      obtain ⟨b2, hb2⟩ : ∃ b, (x.e.k == (3 : Int)) = b := ⟨_, rfl⟩
      obtain ⟨b3, hb3⟩ : ∃ b, (x.e.m.e == g) = b := ⟨_, rfl⟩
      have HLD : Hid (isLd g x = (b1 && b2 && b3)) := by
        show _ = _
        unfold isLd
        rw [← hb1, ← hb2, ← hb3]
        rfl
      clear HX hkl hok HN HL
      have H := hidk (Sep.start Try.prog wr)
      cases b1
      all_goals try cases b2
      all_goals try cases b3
      all_goals
        go_wp2_with (first
          | ((with_reducible show wpList _ _ _ (⟨_, .alloc _, _, _, _, _⟩ :: _) _ _); refine newS (by rfl) (by kernel_rfl) H ?_; clear H; intro gq W hq H; clear hq; try simp only [Act.put, pS1, pS2, pS3])
          | ((with_reducible show wpList _ _ _ (⟨_, .store _ _ _, _, _, _, _⟩ :: _) _ _); refine setS (by rfl) (by rfl) (by rfl) H (by assumption) (by repeat first | exact uH .. | refine uT _ ?_) ?_; clear H; intro W H; try simp only [Act.put, pS1, pS2, pS3])
          | ((with_reducible show wpList _ _ _ (⟨_, .load _ _, _, _, _, _⟩ :: _) _ _); refine outR (by rfl) (by rfl) (by kernel_rfl) H (by assumption) (by assumption) ?_; try simp only [Act.put, pS1, pS2, pS3])
          | ((with_reducible show wpList _ _ _ (⟨_, .load _ _, _, _, _, _⟩ :: _) _ _); refine outS (by rfl) (by rfl) (by kernel_rfl) H (by assumption) ?_; try simp only [Act.put, pS1, pS2, pS3])
          | ((with_reducible show wpList _ _ _ (⟨_, .load _ _, _, _, _, _⟩ :: _) _ _); refine fldS (by rfl) (by rfl) (by kernel_rfl) H (by repeat constructor) (by first | exact enA_k _ | exact f74.out | exact f75.out) ?_; try simp only [Act.put, pS1, pS2, pS3])
          | fail)
      all_goals try (go_ret; exact ⟨by rw [HYE.out HLD.out]; rfl, HB.out.trans (H.out.b.mono HB.out.size)⟩)
      all_goals go_roundw
      all_goals first
        | exact ⟨k + 1, by omega, by go_num, HB.out.trans (H.out.b.mono HB.out.size), HIN.out HLD.out⟩
        | (simp [intOf]; omega)
    · obtain rfl : len = k := by omega
      have hd : decide ((len : Int) < (len : Int)) = false := by rw [decide_eq_false_iff_not]; omega
      go_wp2
      go_ret
      exact ⟨by rw [lead_none HG.out (fun y hy => HN.out y (by rw [List.take_of_length_le (by have := HL.out; omega)]; exact hy))]; rfl, HB.out⟩
def acells (a : AdT) : List Value := [.int .i64 a.r, .int .i64 a.n]
def OkA (_ : AdT) : Prop := True
theorem acells_length (a : AdT) (_ : OkA a) : (acells a).length = 2 := rfl
structure AReads (w : World) (a : Option Addr) (len cap : Nat) (l : List AdT) : Prop where
  ln : l.length = len
  cp : len ≤ cap
  mx : len ≤ maxLen
  ok : ∀ x ∈ l, OkA x
  lies : len = 0 ∨ ∃ g o, a = some ⟨g, o, none⟩ ∧ ∀ (i : Nat) (h : i < l.length), w.rangeAt g (o + 2 * i) (acells l[i])
theorem rngA_lt {w : World} {g o : Nat} {l : List Value} (h : w.rangeAt g o l) (hl : 0 < l.length) : g < w.heap.size := by
  have := h 0 l[0] (List.getElem?_eq_getElem hl)
  exact World.block_lt_of_cell? _ _ this
theorem rngA_below {B : Nat} {w w' : World} {g o : Nat} {l : List Value} (h : w.rangeAt g o l) (hb : Below B w w') (hg : g < B) : w'.rangeAt g o l := fun j v hj => by
  rw [hb.cell hg]; exact h j v hj
theorem AReads.at {w : World} {a : Option Addr} {len cap : Nat} {l : List AdT} (h : AReads w a len cap l) (h0 : 0 < len) : ∃ g o, a = some ⟨g, o, none⟩ ∧ g < w.heap.size := by
  rcases h.lies with h5 | ⟨g, o, ha, hl⟩
  · omega
  · have h1 := h.ln
    refine ⟨g, o, ha, rngA_lt (hl 0 (by omega)) ?_⟩
    rw [acells_length _ (h.ok _ (List.getElem_mem (by omega)))]
    omega
theorem AReads.below {w w' : World} {a : Option Addr} {len cap B : Nat} {l : List AdT} (h : AReads w a len cap l) (hb : Below B w w') (hB : ∀ g o, a = some ⟨g, o, none⟩ → 0 < len → g < B) : AReads w' a len cap l := by
  refine ⟨h.ln, h.cp, h.mx, h.ok, ?_⟩
  by_cases h0 : len = 0
  · exact .inl h0
  · rcases h.lies with h5 | ⟨g, o, ha, hl⟩
    · exact .inl h5
    · exact .inr ⟨g, o, ha, fun i hi => rngA_below (hl i hi) hb (hB g o ha (by omega))⟩
theorem AReads.keep {w w' : World} {a : Option Addr} {len cap : Nat} {l : List AdT} (h : AReads w a len cap l) (hb : Below w.heap.size w w') : AReads w' a len cap l := by
  refine h.below hb fun g o ha h0 => ?_
  obtain ⟨g', o', ha', hl⟩ := h.at h0
  rw [ha] at ha'
  cases ha'
  exact hl
theorem AReads.range {w : World} {g o len cap : Nat} {l : List AdT} (h : AReads w (some ⟨g, o, none⟩) len cap l) (i : Nat) (hi : i < l.length) : w.rangeAt g (o + 2 * i) (acells l[i]) := by
  have h1 := h.ln
  rcases h.lies with h5 | ⟨g', o', ha, hl⟩
  · omega
  · cases ha
    exact hl i hi
theorem AReads.cell {w : World} {g o len cap : Nat} {l : List AdT} (h : AReads w (some ⟨g, o, none⟩) len cap l) (i : Nat) (hi : i < l.length) (j : Nat) (v : Value) (hj : (acells l[i])[j]? = some v) : w.cell? ⟨g, o + 2 * i + j, none⟩ = some v := h.range i hi j v hj
theorem AReads.take {w : World} {a : Option Addr} {len cap : Nat} {l : List AdT} (h : AReads w a len cap l) (k : Nat) (hk : k ≤ len) : AReads w a k cap (l.take k) := by
  have h1 := h.ln
  have h2 := h.cp
  have h3 := h.mx
  refine ⟨by rw [List.length_take]; omega, by omega, by omega, fun x hx => h.ok x (List.mem_of_mem_take hx), ?_⟩
  rcases h.lies with h5 | ⟨g, o, ha, hl⟩
  · exact .inl (by omega)
  · refine .inr ⟨g, o, ha, fun i hi => ?_⟩
    rw [List.length_take] at hi
    rw [List.getElem_take]
    exact hl i (by omega)
def adcL (l : List AdT) : List Value := l.flatMap acells
theorem adcL_nil : adcL [] = [] := rfl
theorem adcL_cons (x : AdT) (l : List AdT) : adcL (x :: l) = acells x ++ adcL l := by unfold adcL; rw [List.flatMap_cons]
theorem adcL_back : ∀ (l : List AdT), (∀ x ∈ l, OkA x) → ∀ (j : Nat) (v : Value), (adcL l)[j]? = some v → ∃ i, ∃ hi : i < l.length, ∃ k, j = 2 * i + k ∧ (acells l[i])[k]? = some v
  | [], _, j, v, hj => by simp [adcL_nil] at hj
  | x :: l, h, j, v, hj => by
    have hx := acells_length _ (h x (by simp))
    rw [adcL_cons] at hj
    by_cases hlt : j < 2
    · rw [List.getElem?_append_left (by omega)] at hj
      exact ⟨0, by simp, j, by omega, hj⟩
    · rw [List.getElem?_append_right (by omega), hx] at hj
      obtain ⟨i, hi, k, e, hk⟩ := adcL_back l (fun y hy => h y (by simp [hy])) _ v hj
      exact ⟨i + 1, by simpa using hi, k, by omega, by simpa using hk⟩
theorem AReads.puts {w : World} {ad : Addr} {len cap : Nat} {l : List AdT} (h : AReads w (some ad) len cap l) : ∀ j u, (adcL l)[j]? = some u → w.cell? (ad.add j) = some u := fun j u hj => by
  obtain ⟨i, hi, k, rfl, hk⟩ := adcL_back l h.ok j u hj
  have h1 := h.ln
  rcases h.lies with h5 | ⟨g, o, ha, hl⟩
  · omega
  · cases ha
    rw [add_plain, ← Nat.add_assoc]
    exact hl i hi k u hk
def OkC (c : ClT) : Prop := c.d.length = 32
structure CReads (w : World) (a : Option Addr) (len cap : Nat) (l : List ClT) : Prop where
  ln : l.length = len
  cp : len ≤ cap
  mx : len ≤ maxLen
  ok : ∀ x ∈ l, OkC x
  lies : len = 0 ∨ ∃ g o, a = some ⟨g, o, none⟩ ∧ ∀ (i : Nat) (h : i < l.length), w.rangeAt g (o + 36 * i) (ccells l[i])
theorem CReads.at {w : World} {a : Option Addr} {len cap : Nat} {l : List ClT} (h : CReads w a len cap l) (h0 : 0 < len) : ∃ g o, a = some ⟨g, o, none⟩ ∧ g < w.heap.size := by
  rcases h.lies with h5 | ⟨g, o, ha, hl⟩
  · omega
  · have h1 := h.ln
    refine ⟨g, o, ha, rngA_lt (hl 0 (by omega)) ?_⟩
    rw [ccells_length _ (h.ok _ (List.getElem_mem (by omega)))]
    omega
theorem CReads.below {w w' : World} {a : Option Addr} {len cap B : Nat} {l : List ClT} (h : CReads w a len cap l) (hb : Below B w w') (hB : ∀ g o, a = some ⟨g, o, none⟩ → 0 < len → g < B) : CReads w' a len cap l := by
  refine ⟨h.ln, h.cp, h.mx, h.ok, ?_⟩
  by_cases h0 : len = 0
  · exact .inl h0
  · rcases h.lies with h5 | ⟨g, o, ha, hl⟩
    · exact .inl h5
    · exact .inr ⟨g, o, ha, fun i hi => rngA_below (hl i hi) hb (hB g o ha (by omega))⟩
theorem CReads.keep {w w' : World} {a : Option Addr} {len cap : Nat} {l : List ClT} (h : CReads w a len cap l) (hb : Below w.heap.size w w') : CReads w' a len cap l := by
  refine h.below hb fun g o ha h0 => ?_
  obtain ⟨g', o', ha', hl⟩ := h.at h0
  rw [ha] at ha'
  cases ha'
  exact hl
theorem CReads.range {w : World} {g o len cap : Nat} {l : List ClT} (h : CReads w (some ⟨g, o, none⟩) len cap l) (i : Nat) (hi : i < l.length) : w.rangeAt g (o + 36 * i) (ccells l[i]) := by
  have h1 := h.ln
  rcases h.lies with h5 | ⟨g', o', ha, hl⟩
  · omega
  · cases ha
    exact hl i hi
theorem CReads.cell {w : World} {g o len cap : Nat} {l : List ClT} (h : CReads w (some ⟨g, o, none⟩) len cap l) (i : Nat) (hi : i < l.length) (j : Nat) (v : Value) (hj : (ccells l[i])[j]? = some v) : w.cell? ⟨g, o + 36 * i + j, none⟩ = some v := h.range i hi j v hj
theorem CReads.take {w : World} {a : Option Addr} {len cap : Nat} {l : List ClT} (h : CReads w a len cap l) (k : Nat) (hk : k ≤ len) : CReads w a k cap (l.take k) := by
  have h1 := h.ln
  have h2 := h.cp
  have h3 := h.mx
  refine ⟨by rw [List.length_take]; omega, by omega, by omega, fun x hx => h.ok x (List.mem_of_mem_take hx), ?_⟩
  rcases h.lies with h5 | ⟨g, o, ha, hl⟩
  · exact .inl (by omega)
  · refine .inr ⟨g, o, ha, fun i hi => ?_⟩
    rw [List.length_take] at hi
    rw [List.getElem_take]
    exact hl i (by omega)
theorem clreads_none (w : World) : CReads w none 0 0 [] := ⟨rfl, Nat.le_refl _, Nat.zero_le _, (fun x hx => by cases hx), .inl rfl⟩
theorem sizeOfClis (w : World) : (sizeOf 36).run Try.prog w = .ok 36 w := by
  have hz : (Try.prog.info? 36).map (·.size) = some 36 := by kernel_rfl
  cases hq : Try.prog.info? 36 with
  | none => simp [hq] at hz
  | some i => simp [hq] at hz; simp [sizeOf, typeInfo, hq, hz]
theorem slice_cls (W : World) (g o len cap k : Nat) (hk : k ≤ cap) : (Instr.sliceAt 23 (.slice (some ⟨g, o, none⟩) len cap) none (some (.int .i64 k)) none).run Try.prog W = .ok (.slice (some ⟨g, o, none⟩) k cap) W := by
  simp [Instr.sliceAt, Instr.slice, Instr.sliceBounds, Instr.sliceBound, asIntOf, run_underlying Try.underlying23, sizeOfClis, hk]
  rw [add_plain]
  simp
theorem slice_cls_none (W : World) : (Instr.sliceAt 23 (.slice none 0 0) none (some (.int .i64 0)) none).run Try.prog W = .ok (.slice none 0 0) W := by
  simp [Instr.sliceAt, Instr.slice, Instr.sliceBounds, Instr.sliceBound, asIntOf, run_underlying Try.underlying23, sizeOfClis]
theorem index_cl (W : World) (g o len cap i : Nat) (k : IntKind) (hi : i < len) : (Instr.indexAt 23 (.slice (some ⟨g, o, none⟩) len cap) (.int k i)).run Try.prog W = .ok (.pointer (some ⟨g, o + 36 * i, none⟩)) W := by
  simp [Instr.indexAt, asIntOf, run_underlying Try.underlying23, sizeOfClis, hi]
  rw [add_plain, Nat.mul_comm]
def clcL (l : List ClT) : List Value := l.flatMap ccells
theorem clcL_nil : clcL [] = [] := rfl
theorem clcL_cons (x : ClT) (l : List ClT) : clcL (x :: l) = ccells x ++ clcL l := by unfold clcL; rw [List.flatMap_cons]
theorem clcL_append (l r : List ClT) : clcL (l ++ r) = clcL l ++ clcL r := by unfold clcL; rw [List.flatMap_append]
theorem clcL_length : ∀ (l : List ClT), (∀ x ∈ l, OkC x) → (clcL l).length = l.length * 36
  | [], _ => rfl
  | x :: l, h => by
    rw [clcL_cons, List.length_append, ccells_length _ (h x (by simp)), clcL_length l fun y hy => h y (by simp [hy]), List.length_cons]
    omega
theorem clcL_at : ∀ (l : List ClT), (∀ x ∈ l, OkC x) → ∀ (i : Nat) (hi : i < l.length) (j : Nat) (v : Value), (ccells l[i])[j]? = some v → (clcL l)[36 * i + j]? = some v
  | [], _, i, hi, _, _, _ => by cases hi
  | x :: l, h, i, hi, j, v, hj => by
    have hx := ccells_length _ (h x (by simp))
    rw [clcL_cons]
    cases i with
    | zero =>
      have hj' : (ccells x)[j]? = some v := hj
      have : j < (ccells x).length := (List.getElem?_eq_some_iff.1 hj').1
      rw [List.getElem?_append_left (by omega)]
      simpa using hj'
    | succ i =>
      rw [List.getElem?_append_right (by omega), hx]
      have := clcL_at l (fun y hy => h y (by simp [hy])) i (by simpa using hi) j v (by simpa using hj)
      rw [← this]
      congr 1
      omega
theorem clcL_back : ∀ (l : List ClT), (∀ x ∈ l, OkC x) → ∀ (j : Nat) (v : Value), (clcL l)[j]? = some v → ∃ i, ∃ hi : i < l.length, ∃ k, j = 36 * i + k ∧ (ccells l[i])[k]? = some v
  | [], _, j, v, hj => by simp [clcL_nil] at hj
  | x :: l, h, j, v, hj => by
    have hx := ccells_length _ (h x (by simp))
    rw [clcL_cons] at hj
    by_cases hlt : j < 36
    · rw [List.getElem?_append_left (by omega)] at hj
      exact ⟨0, by simp, j, by omega, hj⟩
    · rw [List.getElem?_append_right (by omega), hx] at hj
      obtain ⟨i, hi, k, e, hk⟩ := clcL_back l (fun y hy => h y (by simp [hy])) _ v hj
      exact ⟨i + 1, by simpa using hi, k, by omega, by simpa using hk⟩
theorem ccells_one (x : ClT) : ∀ v ∈ ccells x, v.oneCell' = true := by
  intro v hv
  unfold ccells at hv
  rcases List.mem_append.1 hv with h | h
  · simp at h
    rcases h with rfl | rfl | rfl | rfl <;> rfl
  · unfold cellsOf at h
    obtain ⟨b, _, rfl⟩ := List.mem_map.1 h
    rfl
theorem clcL_one (l : List ClT) : ∀ v ∈ clcL l, v.oneCell' = true := by
  intro v hv
  obtain ⟨x, _, hv⟩ := List.mem_flatMap.1 hv
  exact ccells_one x v hv
theorem CReads.puts {w : World} {ad : Addr} {len cap : Nat} {l : List ClT} (h : CReads w (some ad) len cap l) : ∀ j u, (clcL l)[j]? = some u → w.cell? (ad.add j) = some u := fun j u hj => by
  obtain ⟨i, hi, k, rfl, hk⟩ := clcL_back l h.ok j u hj
  have h1 := h.ln
  rcases h.lies with h5 | ⟨g, o, ha, hl⟩
  · omega
  · cases ha
    rw [add_plain, ← Nat.add_assoc]
    exact hl i hi k u hk
theorem infoClis : (Try.prog.info? 36).map (fun i => (i.zero, i.size, i.bytes)) = some (some (.agg (ccells ⟨0, 0, 0, 0, List.replicate 32 0⟩).toArray), 36, 64) := by kernel_rfl
theorem run_append_cls {w : World} {a : Option Addr} {len cap : Nat} {l : List ClT} (h : CReads w a len cap l) (hc0 : a = none → cap = 0) (B n : Nat) (v : Value) (xs : List ClT)
    (hown : w.ownsRow B 36 36 v n (clcL xs)) (hB : B ≤ w.heap.size) (hb : n + len ≤ 1000000) :
    ∃ v' w', (Builtin.append_ #[23, 23] 23 #[v, .slice a len cap]).run Try.prog w = .ok v' w' ∧
      w'.ownsRow B 36 36 v' (n + len) (clcL (xs ++ l)) ∧ w.grownBy w' v.ownBlock := by
  obtain ⟨i0, hi, hz0, hz1, hz2⟩ := info_parts infoClis
  have h1 := h.ln
  cases a with
  | none =>
    obtain rfl : cap = 0 := hc0 rfl
    have hl0 : len = 0 := by have := h.cp; omega
    subst hl0
    obtain rfl : l = [] := List.eq_nil_of_length_eq_zero h1
    refine ⟨v, w, run_append_owned_none (P := Try.prog) w B 23 23 36 i0 36 Try.underlying23 hi _ n _ hown, ?_, World.grownBy.refl _ _⟩
    simpa using hown
  | some ad =>
    obtain ⟨v', w', hr, ho, hg, _⟩ := run_append_own (P := Try.prog) w B 23 23 36 i0 _ 36 64 Try.underlying23 hi hz0 hz1 hz2 (by rfl) (by decide) v n _ hown ad len cap (clcL l) (by rw [clcL_length l h.ok, h1]) h.puts (clcL_one l) (by unfold maxLen; omega) (by omega) hB
    refine ⟨v', w', hr, ?_, hg⟩
    rw [clcL_append]
    exact ho
theorem CReads.own {w : World} {B n : Nat} {v : Value} {l : List ClT} (h : w.ownsRow B 36 36 v n (clcL l)) (hok : ∀ x ∈ l, OkC x) : ∃ a cap, v = .slice a n cap ∧ CReads w a n cap l ∧ (a = none → cap = 0) ∧ (∀ g o, a = some ⟨g, o, none⟩ → B ≤ g ∧ v.ownBlock = some g) := by
  have hl : l.length = n := by have := h.1; rw [clcL_length l hok] at this; omega
  rcases h.2 with ⟨rfl, h0⟩ | ⟨g, cap, cur, rfl, hb, hg, hc, hm, hs, ht⟩
  · subst h0
    exact ⟨none, 0, rfl, ⟨hl, Nat.le_refl _, Nat.zero_le _, hok, .inl rfl⟩, fun _ => rfl, fun g o e => by cases e⟩
  · refine ⟨some ⟨g, 0, none⟩, cap, rfl, ⟨hl, hc, by omega, hok, .inr ⟨g, 0, rfl, fun i hi j v hj => ?_⟩⟩, (fun e => by cases e), fun g' o' e => by cases e; exact ⟨hb, rfl⟩⟩
    have := h.cells (g := g) rfl _ _ (clcL_at l hok i hi j v hj)
    rw [add_plain] at this
    rw [Nat.zero_add]
    simpa using this
set_option maxHeartbeats 2000000 in
theorem refSame_any (a1 a2 : Option Addr) (len c1 c2 : Nat) (l : List ItT) (w : World) (h1 : IReads w a1 len c1 l) (h2 : IReads w a2 len c2 l) :
    Calls Try.prog 23 #[.slice a1 len c1, .slice a2 len c2] w fun e w' => e = .returned (.bool true) ∧ Below w.heap.size w w' := by
  have hlen := h1.ln
  have hmx : len ≤ 9223372036854775807 := by have := h1.mx; unfold maxLen at this; omega
  have H1 := hidk h1
  have H2 := hidk h2
  clear h1 h2
  have hdn : (!((len : Int) == (len : Int))) = false := by simp
  go_enter Try.func23, Try.ntmps23
  go_wp2
  go_loopw [5] (fun v wr => ∃ i : Nat, i ≤ len ∧ v = .int .i64 i ∧ Below w.heap.size w wr) (fun v _ => len - (intOf v).toNat)
  case atStart => exact ⟨0, by omega, rfl, Below.refl _ _⟩
  case round =>
    obtain ⟨i, hi, rfl, hB⟩ := hrel
    by_cases hlt : i < len
    · have hdi : decide ((i : Int) < (len : Int)) = true := by rw [decide_eq_true_eq]; omega
      have hw := wrap_int ((i : Int) + 1) (by omega) (by omega)
      obtain ⟨g1, o1, rfl, hg1⟩ := H1.out.at (by omega)
      obtain ⟨g2, o2, rfl, hg2⟩ := H2.out.at (by omega)
      have hil : i < l.length := by omega
      obtain ⟨A, HA⟩ : ∃ A, Hid (A = icells l[i]) := ⟨_, hidk rfl⟩
      have hok := H1.out.ok _ (List.getElem_mem hil)
      have z0 : (Try.prog.info? 40).map (·.size) = some A.length := by rw [sizeI, HA.out, icells_length _ hok]
      have hne := fun W => neqItem l[i] l[i] hok hok A.toArray A.toArray (by show _ = _; rw [HA.out]) (by show _ = _; rw [HA.out]) false (by simp) W
      have hS : wr.rangeAt g1 (o1 + 110 * i) A ∧ wr.rangeAt g2 (o2 + 110 * i) A := by
        rw [HA.out]
        exact ⟨(H1.out.keep hB).range i hil, (H2.out.keep hB).range i hil⟩
      have ix1 := fun W => index_item W g1 o1 len c1 i .i64 hlt
      have ix2 := fun W => index_item W g2 o2 len c2 i .i64 hlt
      clear HA hok hil
      go_wp2
      refine wp_region_held_drew (S := (fun W => W.rangeAt g1 (o1 + 110 * i) A ∧ W.rangeAt g2 (o2 + 110 * i) A)) (by kernel_rfl) hS (fun hHeld => ?_)
      refine zW 0 (.slice (some ⟨g1, o1, none⟩) len c1) rfl (Or.inl ⟨by rfl, by intro w hSw; go_simp⟩) hHeld ?_
      try simp only [Act.put, pS1, pS2, pS3]
      refine zW 1 (.int .i64 i) rfl (Or.inl ⟨by rfl, by intro w hSw; go_simp⟩) hHeld ?_
      try simp only [Act.put, pS1, pS2, pS3]
      refine zW 2 (.pointer (some ⟨g1, o1 + 110 * i, none⟩)) rfl (Or.inl ⟨by rfl, by intro W hSw; have := ix1 W; go_simp⟩) hHeld ?_
      try simp only [Act.put, pS1, pS2, pS3]
      refine zW 3 (.agg A.toArray) rfl (yieldsIf_load_mid (by rfl) 40 (.tmp 19) rfl _ _ rfl A _ (fun _ h => h.1) Try.underlying40 rfl z0) hHeld ?_
      try simp only [Act.put, pS1, pS2, pS3]
      refine zW 4 (.slice (some ⟨g2, o2, none⟩) len c2) rfl (Or.inl ⟨by rfl, by intro w hSw; go_simp⟩) hHeld ?_
      try simp only [Act.put, pS1, pS2, pS3]
      refine zW 5 (.int .i64 i) rfl (Or.inl ⟨by rfl, by intro w hSw; go_simp⟩) hHeld ?_
      try simp only [Act.put, pS1, pS2, pS3]
      refine zW 6 (.pointer (some ⟨g2, o2 + 110 * i, none⟩)) rfl (Or.inl ⟨by rfl, by intro W hSw; have := ix2 W; go_simp⟩) hHeld ?_
      try simp only [Act.put, pS1, pS2, pS3]
      refine zW 7 (.agg A.toArray) rfl (yieldsIf_load_mid (by rfl) 40 (.tmp 23) rfl _ _ rfl A _ (fun _ h => h.2) Try.underlying40 rfl z0) hHeld ?_
      try simp only [Act.put, pS1, pS2, pS3]
      refine zW 8 (.bool false) rfl (Or.inl ⟨by rfl, by intro W hSw; have := hne W; go_simp⟩) hHeld ?_
      try simp only [Act.put, pS1, pS2, pS3]
      refine wpAnyH_done (by kernel_rfl) ?_ _
      go_wp2
      go_roundw
      case rel => exact ⟨i + 1, by omega, by go_num, hB.drew⟩
      case measure => simp [intOf]; omega
    · obtain rfl : len = i := by omega
      go_wp2
      go_ret
      exact ⟨rfl, hB⟩
theorem right_yes {l : List ItT} (hl : l.length ≤ 2000) (h : rightK l l.length = true) : rightL l = true := by
  unfold rightL; rw [h, decide_eq_true hl]; rfl
theorem right_no {l : List ItT} {k : Nat} (hk : k < l.length) (h : okAt l k = false) : rightL l = false := by
  rw [Bool.eq_false_iff]
  intro hr
  have := ((rightL_iff l).1 hr).2 k hk
  rw [h] at this
  cases this
theorem right_long {l : List ItT} (h : 2000 < l.length) : rightL l = false := by
  unfold rightL; rw [decide_eq_false (by omega)]; rfl
theorem okAt_zero {l : List ItT} (h : 0 < l.length) : okAt l 0 = rightI l[0] := by
  unfold okAt; rw [List.getElem?_eq_getElem h]; simp
theorem okAt_succ {l : List ItT} {j : Nat} (h : j + 1 < l.length) : okAt l (j + 1) = (rightI l[j + 1] && decide (l[j].p ≤ l[j + 1].p)) := by
  unfold okAt
  rw [List.getElem?_eq_getElem h, Nat.add_sub_cancel, List.getElem?_eq_getElem (show j < l.length by omega)]
  simp
theorem keepR {W W' : World} {g o q r : Nat} {X : List Value} {v u : Value} (hb : Below W.heap.size W W') (h : W.rangeAt g o X ∧ W.cell? ⟨g, q, none⟩ = some v ∧ W.cell? ⟨g, r, none⟩ = some u) :
    W'.rangeAt g o X ∧ W'.cell? ⟨g, q, none⟩ = some v ∧ W'.cell? ⟨g, r, none⟩ = some u := by
  have hg : g < W.heap.size := World.block_lt_of_cell? _ _ h.2.1
  exact ⟨range_below h.1 hb hg, by rw [hb.cell hg]; exact h.2.1, by rw [hb.cell hg]; exact h.2.2⟩
set_option maxHeartbeats 8000000 in
theorem refRightL_any (a : Option Addr) (len cap : Nat) (l : List ItT) (w : World) (h : IReads w a len cap l) :
    Calls Try.prog 35 #[.slice a len cap] w fun e w' => e = .returned (.bool (rightL l)) ∧ Below w.heap.size w w' := by
  have H := hidk h
  have HL := hidk h.ln
  have hmx : len ≤ 9223372036854775807 := by have := h.mx; unfold maxLen at this; omega
  clear h
  by_cases h5 : len ≤ 2000
  · have h5' : decide ((2000 : Int) < (len : Int)) = false := by rw [decide_eq_false_iff_not]; omega
    go_enter Try.func35, Try.ntmps35
    go_wp2
    go_loopw [3] (fun v wr => ∃ k : Nat, k ≤ len ∧ v = .int .i64 k ∧ Hid (Below w.heap.size w wr) ∧ Hid (rightK l k = true)) (fun v _ => len - (intOf v).toNat)
    case atStart => exact ⟨0, by omega, rfl, Below.refl _ _, hidk rfl⟩
    case round =>
      obtain ⟨k, hk, rfl, HB, HN⟩ := hrel
      by_cases hlt : k < len
      · have hd : decide ((k : Int) < (len : Int)) = true := by rw [decide_eq_true_eq]; omega
        have hw1 := wrap_int ((k : Int) + 1) (by omega) (by omega)
        obtain ⟨g, o, rfl, hg⟩ := H.out.at (by omega)
        have hkl : k < l.length := by have := HL.out; omega
        obtain ⟨j, HJ, hj2⟩ : ∃ j, Hid (j = k - 1) ∧ j < len := ⟨_, hidk rfl, by omega⟩
        have hjl : j < l.length := by have := HL.out; omega
        obtain ⟨X, HX⟩ : ∃ X, Hid (X = icells l[k]) := ⟨_, hidk rfl⟩
        obtain ⟨px, hpx⟩ : ∃ p, l[k].p = p := ⟨_, rfl⟩
        obtain ⟨py, hpy⟩ : ∃ p, l[j].p = p := ⟨_, rfl⟩
        obtain ⟨ri, hri⟩ : ∃ b, rightI l[k] = b := ⟨_, rfl⟩
        have hok := H.out.ok _ (List.getElem_mem hkl)
        have z0 : (Try.prog.info? 40).map (·.size) = some X.length := by rw [sizeI, HX.out, icells_length _ hok]
        have hS : wr.rangeAt g (o + 110 * k) X ∧ wr.cell? ⟨g, o + 110 * k, none⟩ = some (.int .i64 px) ∧ wr.cell? ⟨g, o + 110 * j, none⟩ = some (.int .i64 py) := by
          rw [HX.out, ← hpx, ← hpy]
          have hr := H.out.keep HB.out
          exact ⟨hr.range k hkl, hr.cell k hkl 0 _ rfl, hr.cell j hjl 0 _ rfl⟩
        have RI : Hid (∀ W, Calls Try.prog 49 #[.agg X.toArray] W fun e w' => e = .returned (.bool ri) ∧ Below W.heap.size W w') := fun W => by rw [← hri]; exact refRightI_any l[k] hok W X.toArray (by show _ = _; rw [HX.out])
        have ix1 := fun W => index_item W g o len cap k .i64 hlt
        have ix2 := fun W => index_item W g o len cap j .i64 hj2
        have HF : Hid ((k = 0 → okAt l k = ri) ∧ (0 < k → okAt l k = (ri && decide (py ≤ px)))) := by
          refine ⟨fun h0 => ?_, fun h0 => ?_⟩
          · subst h0; rw [okAt_zero hkl, hri]
          · obtain ⟨i, rfl⟩ : ∃ i, k = i + 1 := ⟨k - 1, by omega⟩
            obtain rfl : j = i := by have := HJ.out; omega
            rw [okAt_succ hkl, hri, hpx, hpy]
        have HNO : Hid (okAt l k = false → rightL l = false) := right_no hkl
        have HYE : Hid (okAt l k = true → rightK l (k + 1) = true) := fun hh => by rw [rightK_succ, HN.out, hh]; rfl
        clear hri hpx hpy HX HN hok hkl hjl
        cases ri
        · have hko : okAt l k = false := by
            by_cases h0 : k = 0
            · exact HF.out.1 h0
            · exact HF.out.2 (by omega)
          clear HF
          go_wp2
          refine wp_region_held_drew (S := (fun W => W.rangeAt g (o + 110 * k) X ∧ W.cell? ⟨g, o + 110 * k, none⟩ = some (.int .i64 px) ∧ W.cell? ⟨g, o + 110 * j, none⟩ = some (.int .i64 py))) (by kernel_rfl) hS (fun hHeld => ?_)
          refine zW 0 (.slice (some ⟨g, o, none⟩) len cap) rfl (Or.inl ⟨by rfl, by intro w hSw; go_simp⟩) hHeld ?_
          try simp only [Act.put, pS1, pS2, pS3]
          refine zW 1 (.int .i64 k) rfl (Or.inl ⟨by rfl, by intro w hSw; go_simp⟩) hHeld ?_
          try simp only [Act.put, pS1, pS2, pS3]
          refine zW 2 (.pointer (some ⟨g, o + 110 * k, none⟩)) rfl (Or.inl ⟨by rfl, by intro W hSw; have := ix1 W; go_simp⟩) hHeld ?_
          try simp only [Act.put, pS1, pS2, pS3]
          refine zW 3 (.agg X.toArray) rfl (yieldsIf_load_mid (by rfl) 40 (.tmp 15) rfl _ _ rfl X _ (fun _ h => h.1) Try.underlying40 rfl z0) hHeld ?_
          try simp only [Act.put, pS1, pS2, pS3]
          refine wpAnyH_ready (rs := [4]) (by kernel_rfl) (by simp) ?_
          refine AllReadyH.cons (o := { dst := some 17, op := .call { callee := .value (.func 49), args := #[.tmp 16], argTypes := #[40] }, type := 4, pos := "ref.go:17", after := #[zD 3], guard := none }) rfl (fun K hK => ?_) AllReadyH.nil
          go_simp
          refine (RI.out _).mono ?_
          rintro e w1 ⟨rfl, hb1⟩
          go_wp2_with fail
          refine hK.out _ _ (keepR (Below.trans (Below.refl _ _).drew hb1) hS) (fun hHeld => ?_)
          clear hK K
          try simp only [Act.put, pS1, pS2, pS3]
          refine zW 5 (.bool true) rfl (Or.inl ⟨by rfl, by intro w hSw; go_simp⟩) hHeld ?_
          try simp only [Act.put, pS1, pS2, pS3]
          refine zW 6 (.bool true) rfl (Or.inl ⟨by rfl, by intro w hSw; go_simp⟩) hHeld ?_
          try simp only [Act.put, pS1, pS2, pS3]
          refine zW 7 (undef) rfl (Or.inr ⟨by rfl, rfl⟩) hHeld ?_
          try simp only [Act.put, pS1, pS2, pS3]
          refine zW 8 (undef) rfl (Or.inr ⟨by rfl, rfl⟩) hHeld ?_
          try simp only [Act.put, pS1, pS2, pS3]
          refine zW 9 (undef) rfl (Or.inr ⟨by rfl, rfl⟩) hHeld ?_
          try simp only [Act.put, pS1, pS2, pS3]
          refine zW 10 (undef) rfl (Or.inr ⟨by rfl, rfl⟩) hHeld ?_
          try simp only [Act.put, pS1, pS2, pS3]
          refine zW 11 (undef) rfl (Or.inr ⟨by rfl, rfl⟩) hHeld ?_
          try simp only [Act.put, pS1, pS2, pS3]
          refine zW 12 (undef) rfl (Or.inr ⟨by rfl, rfl⟩) hHeld ?_
          try simp only [Act.put, pS1, pS2, pS3]
          refine zW 13 (undef) rfl (Or.inr ⟨by rfl, rfl⟩) hHeld ?_
          try simp only [Act.put, pS1, pS2, pS3]
          refine zW 14 (undef) rfl (Or.inr ⟨by rfl, rfl⟩) hHeld ?_
          try simp only [Act.put, pS1, pS2, pS3]
          refine zW 15 (undef) rfl (Or.inr ⟨by rfl, rfl⟩) hHeld ?_
          try simp only [Act.put, pS1, pS2, pS3]
          refine zW 16 (undef) rfl (Or.inr ⟨by rfl, rfl⟩) hHeld ?_
          try simp only [Act.put, pS1, pS2, pS3]
          refine zW 17 (undef) rfl (Or.inr ⟨by rfl, rfl⟩) hHeld ?_
          try simp only [Act.put, pS1, pS2, pS3]
          refine zW 18 (undef) rfl (Or.inr ⟨by rfl, rfl⟩) hHeld ?_
          try simp only [Act.put, pS1, pS2, pS3]
          refine zW 19 (undef) rfl (Or.inr ⟨by rfl, rfl⟩) hHeld ?_
          try simp only [Act.put, pS1, pS2, pS3]
          refine zW 20 (undef) rfl (Or.inr ⟨by rfl, rfl⟩) hHeld ?_
          try simp only [Act.put, pS1, pS2, pS3]
          refine zW 21 (undef) rfl (Or.inr ⟨by rfl, rfl⟩) hHeld ?_
          try simp only [Act.put, pS1, pS2, pS3]
          refine zW 22 (undef) rfl (Or.inr ⟨by rfl, rfl⟩) hHeld ?_
          try simp only [Act.put, pS1, pS2, pS3]
          refine zW 23 (.bool true) rfl (Or.inl ⟨by rfl, by intro w hSw; go_simp⟩) hHeld ?_
          try simp only [Act.put, pS1, pS2, pS3]
          refine wpAnyH_done (by kernel_rfl) ?_ _
          go_wp2
          go_ret
          exact ⟨by rw [HNO.out hko]; rfl, HB.out.trans ((Below.trans (Below.refl _ _).drew hb1).mono HB.out.size)⟩
        · by_cases h0 : k = 0
          · have h0' : decide ((0 : Int) < (k : Int)) = false := by rw [decide_eq_false_iff_not]; omega
            have hko : okAt l k = true := HF.out.1 h0
            clear HF
            go_wp2
            refine wp_region_held_drew (S := (fun W => W.rangeAt g (o + 110 * k) X ∧ W.cell? ⟨g, o + 110 * k, none⟩ = some (.int .i64 px) ∧ W.cell? ⟨g, o + 110 * j, none⟩ = some (.int .i64 py))) (by kernel_rfl) hS (fun hHeld => ?_)
            refine zW 0 (.slice (some ⟨g, o, none⟩) len cap) rfl (Or.inl ⟨by rfl, by intro w hSw; go_simp⟩) hHeld ?_
            try simp only [Act.put, pS1, pS2, pS3]
            refine zW 1 (.int .i64 k) rfl (Or.inl ⟨by rfl, by intro w hSw; go_simp⟩) hHeld ?_
            try simp only [Act.put, pS1, pS2, pS3]
            refine zW 2 (.pointer (some ⟨g, o + 110 * k, none⟩)) rfl (Or.inl ⟨by rfl, by intro W hSw; have := ix1 W; go_simp⟩) hHeld ?_
            try simp only [Act.put, pS1, pS2, pS3]
            refine zW 3 (.agg X.toArray) rfl (yieldsIf_load_mid (by rfl) 40 (.tmp 15) rfl _ _ rfl X _ (fun _ h => h.1) Try.underlying40 rfl z0) hHeld ?_
            try simp only [Act.put, pS1, pS2, pS3]
            refine wpAnyH_ready (rs := [4]) (by kernel_rfl) (by simp) ?_
            refine AllReadyH.cons (o := { dst := some 17, op := .call { callee := .value (.func 49), args := #[.tmp 16], argTypes := #[40] }, type := 4, pos := "ref.go:17", after := #[zD 3], guard := none }) rfl (fun K hK => ?_) AllReadyH.nil
            go_simp
            refine (RI.out _).mono ?_
            rintro e w1 ⟨rfl, hb1⟩
            go_wp2_with fail
            refine hK.out _ _ (keepR (Below.trans (Below.refl _ _).drew hb1) hS) (fun hHeld => ?_)
            clear hK K
            try simp only [Act.put, pS1, pS2, pS3]
            refine zW 5 (.bool false) rfl (Or.inl ⟨by rfl, by intro w hSw; go_simp⟩) hHeld ?_
            try simp only [Act.put, pS1, pS2, pS3]
            refine zW 6 (.bool false) rfl (Or.inl ⟨by rfl, by intro w hSw; go_simp⟩) hHeld ?_
            try simp only [Act.put, pS1, pS2, pS3]
            refine zW 7 (.int .i64 k) rfl (Or.inl ⟨by rfl, by intro w hSw; go_simp⟩) hHeld ?_
            try simp only [Act.put, pS1, pS2, pS3]
            refine zW 8 (.bool false) rfl (Or.inl ⟨by rfl, by intro w hSw; go_simp⟩) hHeld ?_
            try simp only [Act.put, pS1, pS2, pS3]
            refine zW 9 (.bool false) rfl (Or.inl ⟨by rfl, by intro w hSw; go_simp⟩) hHeld ?_
            try simp only [Act.put, pS1, pS2, pS3]
            refine zW 10 (undef) rfl (Or.inr ⟨by rfl, rfl⟩) hHeld ?_
            try simp only [Act.put, pS1, pS2, pS3]
            refine zW 11 (undef) rfl (Or.inr ⟨by rfl, rfl⟩) hHeld ?_
            try simp only [Act.put, pS1, pS2, pS3]
            refine zW 12 (undef) rfl (Or.inr ⟨by rfl, rfl⟩) hHeld ?_
            try simp only [Act.put, pS1, pS2, pS3]
            refine zW 13 (undef) rfl (Or.inr ⟨by rfl, rfl⟩) hHeld ?_
            try simp only [Act.put, pS1, pS2, pS3]
            refine zW 14 (undef) rfl (Or.inr ⟨by rfl, rfl⟩) hHeld ?_
            try simp only [Act.put, pS1, pS2, pS3]
            refine zW 15 (undef) rfl (Or.inr ⟨by rfl, rfl⟩) hHeld ?_
            try simp only [Act.put, pS1, pS2, pS3]
            refine zW 16 (undef) rfl (Or.inr ⟨by rfl, rfl⟩) hHeld ?_
            try simp only [Act.put, pS1, pS2, pS3]
            refine zW 17 (undef) rfl (Or.inr ⟨by rfl, rfl⟩) hHeld ?_
            try simp only [Act.put, pS1, pS2, pS3]
            refine zW 18 (undef) rfl (Or.inr ⟨by rfl, rfl⟩) hHeld ?_
            try simp only [Act.put, pS1, pS2, pS3]
            refine zW 19 (undef) rfl (Or.inr ⟨by rfl, rfl⟩) hHeld ?_
            try simp only [Act.put, pS1, pS2, pS3]
            refine zW 20 (undef) rfl (Or.inr ⟨by rfl, rfl⟩) hHeld ?_
            try simp only [Act.put, pS1, pS2, pS3]
            refine zW 21 (undef) rfl (Or.inr ⟨by rfl, rfl⟩) hHeld ?_
            try simp only [Act.put, pS1, pS2, pS3]
            refine zW 22 (.bool false) rfl (Or.inl ⟨by rfl, by intro w hSw; go_simp⟩) hHeld ?_
            try simp only [Act.put, pS1, pS2, pS3]
            refine zW 23 (.bool false) rfl (Or.inl ⟨by rfl, by intro w hSw; go_simp⟩) hHeld ?_
            try simp only [Act.put, pS1, pS2, pS3]
            refine wpAnyH_done (by kernel_rfl) ?_ _
            go_wp2
            go_roundw
            case rel => exact ⟨k + 1, by omega, by go_num, HB.out.trans ((Below.trans (Below.refl _ _).drew hb1).mono HB.out.size), HYE.out hko⟩
            case measure => simp [intOf]; omega
          · have h0' : decide ((0 : Int) < (k : Int)) = true := by rw [decide_eq_true_eq]; omega
            have hsub : IntKind.i64.wrap ((k : Int) - 1) = (j : Int) := by rw [wrap_int _ (by omega) (by omega)]; have := HJ.out; omega
            have h0n : 0 < k := by omega
            by_cases hlow : py ≤ px
            · have hl' : decide (px < py) = false := by rw [decide_eq_false_iff_not]; omega
              have hko : okAt l k = true := by rw [HF.out.2 (by omega), decide_eq_true hlow]; rfl
              clear HF
              go_wp2
              refine wp_region_held_drew (S := (fun W => W.rangeAt g (o + 110 * k) X ∧ W.cell? ⟨g, o + 110 * k, none⟩ = some (.int .i64 px) ∧ W.cell? ⟨g, o + 110 * j, none⟩ = some (.int .i64 py))) (by kernel_rfl) hS (fun hHeld => ?_)
              refine zW 0 (.slice (some ⟨g, o, none⟩) len cap) rfl (Or.inl ⟨by rfl, by intro w hSw; go_simp⟩) hHeld ?_
              try simp only [Act.put, pS1, pS2, pS3]
              refine zW 1 (.int .i64 k) rfl (Or.inl ⟨by rfl, by intro w hSw; go_simp⟩) hHeld ?_
              try simp only [Act.put, pS1, pS2, pS3]
              refine zW 2 (.pointer (some ⟨g, o + 110 * k, none⟩)) rfl (Or.inl ⟨by rfl, by intro W hSw; have := ix1 W; go_simp⟩) hHeld ?_
              try simp only [Act.put, pS1, pS2, pS3]
              refine zW 3 (.agg X.toArray) rfl (yieldsIf_load_mid (by rfl) 40 (.tmp 15) rfl _ _ rfl X _ (fun _ h => h.1) Try.underlying40 rfl z0) hHeld ?_
              try simp only [Act.put, pS1, pS2, pS3]
              refine wpAnyH_ready (rs := [4]) (by kernel_rfl) (by simp) ?_
              refine AllReadyH.cons (o := { dst := some 17, op := .call { callee := .value (.func 49), args := #[.tmp 16], argTypes := #[40] }, type := 4, pos := "ref.go:17", after := #[zD 3], guard := none }) rfl (fun K hK => ?_) AllReadyH.nil
              go_simp
              refine (RI.out _).mono ?_
              rintro e w1 ⟨rfl, hb1⟩
              go_wp2_with fail
              refine hK.out _ _ (keepR (Below.trans (Below.refl _ _).drew hb1) hS) (fun hHeld => ?_)
              clear hK K
              try simp only [Act.put, pS1, pS2, pS3]
              refine zW 5 (.bool false) rfl (Or.inl ⟨by rfl, by intro w hSw; go_simp⟩) hHeld ?_
              try simp only [Act.put, pS1, pS2, pS3]
              refine zW 6 (.bool false) rfl (Or.inl ⟨by rfl, by intro w hSw; go_simp⟩) hHeld ?_
              try simp only [Act.put, pS1, pS2, pS3]
              refine zW 7 (.int .i64 k) rfl (Or.inl ⟨by rfl, by intro w hSw; go_simp⟩) hHeld ?_
              try simp only [Act.put, pS1, pS2, pS3]
              refine zW 8 (.bool true) rfl (Or.inl ⟨by rfl, by intro w hSw; go_simp⟩) hHeld ?_
              try simp only [Act.put, pS1, pS2, pS3]
              refine zW 9 (.bool true) rfl (Or.inl ⟨by rfl, by intro w hSw; go_simp⟩) hHeld ?_
              try simp only [Act.put, pS1, pS2, pS3]
              refine zW 10 (.slice (some ⟨g, o, none⟩) len cap) rfl (Or.inl ⟨by rfl, by intro w hSw; go_simp⟩) hHeld ?_
              try simp only [Act.put, pS1, pS2, pS3]
              refine zW 11 (.int .i64 k) rfl (Or.inl ⟨by rfl, by intro w hSw; go_simp⟩) hHeld ?_
              try simp only [Act.put, pS1, pS2, pS3]
              refine zW 12 (.int .i64 j) rfl (Or.inl ⟨by rfl, by intro W hSw; have := hsub; go_simp⟩) hHeld ?_
              try simp only [Act.put, pS1, pS2, pS3]
              refine zW 13 (.pointer (some ⟨g, o + 110 * j, none⟩)) rfl (Or.inl ⟨by rfl, by intro W hSw; have := ix2 W; go_simp⟩) hHeld ?_
              try simp only [Act.put, pS1, pS2, pS3]
              refine zW 14 (.pointer (some ⟨g, o + 110 * j, none⟩)) rfl (Or.inl ⟨by rfl, by intro w hSw; go_simp⟩) hHeld ?_
              try simp only [Act.put, pS1, pS2, pS3]
              refine zW 15 (.int .i64 py) rfl (Or.inl ⟨by rfl, by intro W hSw; have h1 := hSw.2.2; go_simp⟩) hHeld ?_
              try simp only [Act.put, pS1, pS2, pS3]
              refine zW 16 (.slice (some ⟨g, o, none⟩) len cap) rfl (Or.inl ⟨by rfl, by intro w hSw; go_simp⟩) hHeld ?_
              try simp only [Act.put, pS1, pS2, pS3]
              refine zW 17 (.int .i64 k) rfl (Or.inl ⟨by rfl, by intro w hSw; go_simp⟩) hHeld ?_
              try simp only [Act.put, pS1, pS2, pS3]
              refine zW 18 (.pointer (some ⟨g, o + 110 * k, none⟩)) rfl (Or.inl ⟨by rfl, by intro W hSw; have := ix1 W; go_simp⟩) hHeld ?_
              try simp only [Act.put, pS1, pS2, pS3]
              refine zW 19 (.pointer (some ⟨g, o + 110 * k, none⟩)) rfl (Or.inl ⟨by rfl, by intro w hSw; go_simp⟩) hHeld ?_
              try simp only [Act.put, pS1, pS2, pS3]
              refine zW 20 (.int .i64 px) rfl (Or.inl ⟨by rfl, by intro W hSw; have h1 := hSw.2.1; go_simp⟩) hHeld ?_
              try simp only [Act.put, pS1, pS2, pS3]
              refine zW 21 (.bool false) rfl (Or.inl ⟨by rfl, by intro w hSw; go_simp⟩) hHeld ?_
              try simp only [Act.put, pS1, pS2, pS3]
              refine zW 22 (.bool false) rfl (Or.inl ⟨by rfl, by intro w hSw; go_simp⟩) hHeld ?_
              try simp only [Act.put, pS1, pS2, pS3]
              refine zW 23 (.bool false) rfl (Or.inl ⟨by rfl, by intro w hSw; go_simp⟩) hHeld ?_
              try simp only [Act.put, pS1, pS2, pS3]
              refine wpAnyH_done (by kernel_rfl) ?_ _
              go_wp2
              go_roundw
              case rel => exact ⟨k + 1, by omega, by go_num, HB.out.trans ((Below.trans (Below.refl _ _).drew hb1).mono HB.out.size), HYE.out hko⟩
              case measure => simp [intOf]; omega
            · have hl' : decide (px < py) = true := by rw [decide_eq_true_eq]; omega
              have hko : okAt l k = false := by rw [HF.out.2 (by omega), decide_eq_false hlow]; rfl
              clear HF
              go_wp2
              refine wp_region_held_drew (S := (fun W => W.rangeAt g (o + 110 * k) X ∧ W.cell? ⟨g, o + 110 * k, none⟩ = some (.int .i64 px) ∧ W.cell? ⟨g, o + 110 * j, none⟩ = some (.int .i64 py))) (by kernel_rfl) hS (fun hHeld => ?_)
              refine zW 0 (.slice (some ⟨g, o, none⟩) len cap) rfl (Or.inl ⟨by rfl, by intro w hSw; go_simp⟩) hHeld ?_
              try simp only [Act.put, pS1, pS2, pS3]
              refine zW 1 (.int .i64 k) rfl (Or.inl ⟨by rfl, by intro w hSw; go_simp⟩) hHeld ?_
              try simp only [Act.put, pS1, pS2, pS3]
              refine zW 2 (.pointer (some ⟨g, o + 110 * k, none⟩)) rfl (Or.inl ⟨by rfl, by intro W hSw; have := ix1 W; go_simp⟩) hHeld ?_
              try simp only [Act.put, pS1, pS2, pS3]
              refine zW 3 (.agg X.toArray) rfl (yieldsIf_load_mid (by rfl) 40 (.tmp 15) rfl _ _ rfl X _ (fun _ h => h.1) Try.underlying40 rfl z0) hHeld ?_
              try simp only [Act.put, pS1, pS2, pS3]
              refine wpAnyH_ready (rs := [4]) (by kernel_rfl) (by simp) ?_
              refine AllReadyH.cons (o := { dst := some 17, op := .call { callee := .value (.func 49), args := #[.tmp 16], argTypes := #[40] }, type := 4, pos := "ref.go:17", after := #[zD 3], guard := none }) rfl (fun K hK => ?_) AllReadyH.nil
              go_simp
              refine (RI.out _).mono ?_
              rintro e w1 ⟨rfl, hb1⟩
              go_wp2_with fail
              refine hK.out _ _ (keepR (Below.trans (Below.refl _ _).drew hb1) hS) (fun hHeld => ?_)
              clear hK K
              try simp only [Act.put, pS1, pS2, pS3]
              refine zW 5 (.bool false) rfl (Or.inl ⟨by rfl, by intro w hSw; go_simp⟩) hHeld ?_
              try simp only [Act.put, pS1, pS2, pS3]
              refine zW 6 (.bool false) rfl (Or.inl ⟨by rfl, by intro w hSw; go_simp⟩) hHeld ?_
              try simp only [Act.put, pS1, pS2, pS3]
              refine zW 7 (.int .i64 k) rfl (Or.inl ⟨by rfl, by intro w hSw; go_simp⟩) hHeld ?_
              try simp only [Act.put, pS1, pS2, pS3]
              refine zW 8 (.bool true) rfl (Or.inl ⟨by rfl, by intro w hSw; go_simp⟩) hHeld ?_
              try simp only [Act.put, pS1, pS2, pS3]
              refine zW 9 (.bool true) rfl (Or.inl ⟨by rfl, by intro w hSw; go_simp⟩) hHeld ?_
              try simp only [Act.put, pS1, pS2, pS3]
              refine zW 10 (.slice (some ⟨g, o, none⟩) len cap) rfl (Or.inl ⟨by rfl, by intro w hSw; go_simp⟩) hHeld ?_
              try simp only [Act.put, pS1, pS2, pS3]
              refine zW 11 (.int .i64 k) rfl (Or.inl ⟨by rfl, by intro w hSw; go_simp⟩) hHeld ?_
              try simp only [Act.put, pS1, pS2, pS3]
              refine zW 12 (.int .i64 j) rfl (Or.inl ⟨by rfl, by intro W hSw; have := hsub; go_simp⟩) hHeld ?_
              try simp only [Act.put, pS1, pS2, pS3]
              refine zW 13 (.pointer (some ⟨g, o + 110 * j, none⟩)) rfl (Or.inl ⟨by rfl, by intro W hSw; have := ix2 W; go_simp⟩) hHeld ?_
              try simp only [Act.put, pS1, pS2, pS3]
              refine zW 14 (.pointer (some ⟨g, o + 110 * j, none⟩)) rfl (Or.inl ⟨by rfl, by intro w hSw; go_simp⟩) hHeld ?_
              try simp only [Act.put, pS1, pS2, pS3]
              refine zW 15 (.int .i64 py) rfl (Or.inl ⟨by rfl, by intro W hSw; have h1 := hSw.2.2; go_simp⟩) hHeld ?_
              try simp only [Act.put, pS1, pS2, pS3]
              refine zW 16 (.slice (some ⟨g, o, none⟩) len cap) rfl (Or.inl ⟨by rfl, by intro w hSw; go_simp⟩) hHeld ?_
              try simp only [Act.put, pS1, pS2, pS3]
              refine zW 17 (.int .i64 k) rfl (Or.inl ⟨by rfl, by intro w hSw; go_simp⟩) hHeld ?_
              try simp only [Act.put, pS1, pS2, pS3]
              refine zW 18 (.pointer (some ⟨g, o + 110 * k, none⟩)) rfl (Or.inl ⟨by rfl, by intro W hSw; have := ix1 W; go_simp⟩) hHeld ?_
              try simp only [Act.put, pS1, pS2, pS3]
              refine zW 19 (.pointer (some ⟨g, o + 110 * k, none⟩)) rfl (Or.inl ⟨by rfl, by intro w hSw; go_simp⟩) hHeld ?_
              try simp only [Act.put, pS1, pS2, pS3]
              refine zW 20 (.int .i64 px) rfl (Or.inl ⟨by rfl, by intro W hSw; have h1 := hSw.2.1; go_simp⟩) hHeld ?_
              try simp only [Act.put, pS1, pS2, pS3]
              refine zW 21 (.bool true) rfl (Or.inl ⟨by rfl, by intro w hSw; go_simp⟩) hHeld ?_
              try simp only [Act.put, pS1, pS2, pS3]
              refine zW 22 (.bool true) rfl (Or.inl ⟨by rfl, by intro w hSw; go_simp⟩) hHeld ?_
              try simp only [Act.put, pS1, pS2, pS3]
              refine zW 23 (.bool true) rfl (Or.inl ⟨by rfl, by intro w hSw; go_simp⟩) hHeld ?_
              try simp only [Act.put, pS1, pS2, pS3]
              refine wpAnyH_done (by kernel_rfl) ?_ _
              go_wp2
              go_ret
              exact ⟨by rw [HNO.out hko]; rfl, HB.out.trans ((Below.trans (Below.refl _ _).drew hb1).mono HB.out.size)⟩
      · obtain rfl : len = k := by omega
        have hd : decide ((len : Int) < (len : Int)) = false := by rw [decide_eq_false_iff_not]; omega
        have HE : Hid (rightL l = true) := right_yes (by have := HL.out; omega) (by rw [HL.out]; exact HN.out)
        go_wp2
        go_ret
        exact ⟨by rw [HE.out]; rfl, HB.out⟩
  · have h5' : decide ((2000 : Int) < (len : Int)) = true := by rw [decide_eq_true_eq]; omega
    have HE : Hid (rightL l = false) := right_long (by have := HL.out; omega)
    go_enter Try.func35, Try.ntmps35
    go_wp2
    go_ret
    exact ⟨by rw [HE.out]; rfl, Below.refl _ _⟩
theorem range_two_new (w : World) (x y : Value) (t : TypeId) : (w.alloc (.cells #[x, y] t)).rangeAt w.heap.size 0 [x, y] := fun j v hj => by
  rw [cell_of_row _ _ _ _ t (0, 0) (heap_alloc_new w _)]
  simpa using hj
set_option maxHeartbeats 2000000 in
theorem refSameC_any (a1 a2 : Option Addr) (len c1 c2 : Nat) (l : List ClT) (w : World) (h1 : CReads w a1 len c1 l) (h2 : CReads w a2 len c2 l) :
    Calls Try.prog 39 #[.slice a1 len c1, .slice a2 len c2] w fun e w' => e = .returned (.bool true) ∧ Below w.heap.size w w' := by
  have hlen := h1.ln
  have hmx : len ≤ 9223372036854775807 := by have := h1.mx; unfold maxLen at this; omega
  have H1 := hidk h1
  have H2 := hidk h2
  clear h1 h2
  have hdn : (!((len : Int) == (len : Int))) = false := by simp
  go_enter Try.func39, Try.ntmps39
  go_wp2
  go_loopw [5] (fun v wr => ∃ i : Nat, i ≤ len ∧ v = .int .i64 i ∧ Below w.heap.size w wr) (fun v _ => len - (intOf v).toNat)
  case atStart => exact ⟨0, by omega, rfl, Below.refl _ _⟩
  case round =>
    obtain ⟨i, hi, rfl, hB⟩ := hrel
    by_cases hlt : i < len
    · have hdi : decide ((i : Int) < (len : Int)) = true := by rw [decide_eq_true_eq]; omega
      have hw := wrap_int ((i : Int) + 1) (by omega) (by omega)
      obtain ⟨g1, o1, rfl, hg1⟩ := H1.out.at (by omega)
      obtain ⟨g2, o2, rfl, hg2⟩ := H2.out.at (by omega)
      have hil : i < l.length := by omega
      obtain ⟨A, HA⟩ : ∃ A, Hid (A = ccells l[i]) := ⟨_, hidk rfl⟩
      have hok := H1.out.ok _ (List.getElem_mem hil)
      have z0 : (Try.prog.info? 36).map (·.size) = some A.length := by rw [sizeC, HA.out, ccells_length _ hok]
      have hne := fun W => neqClaim l[i] l[i] hok hok A.toArray A.toArray (by show _ = _; rw [HA.out]) (by show _ = _; rw [HA.out]) false (by simp) W
      have hS : wr.rangeAt g1 (o1 + 36 * i) A ∧ wr.rangeAt g2 (o2 + 36 * i) A := by
        rw [HA.out]
        exact ⟨(H1.out.keep hB).range i hil, (H2.out.keep hB).range i hil⟩
      have ix1 := fun W => index_cl W g1 o1 len c1 i .i64 hlt
      have ix2 := fun W => index_cl W g2 o2 len c2 i .i64 hlt
      clear HA hok hil
      go_wp2
      refine wp_region_held_drew (S := (fun W => W.rangeAt g1 (o1 + 36 * i) A ∧ W.rangeAt g2 (o2 + 36 * i) A)) (by kernel_rfl) hS (fun hHeld => ?_)
      refine zW 0 (.slice (some ⟨g1, o1, none⟩) len c1) rfl (Or.inl ⟨by rfl, by intro w hSw; go_simp⟩) hHeld ?_
      try simp only [Act.put, pS1, pS2, pS3]
      refine zW 1 (.int .i64 i) rfl (Or.inl ⟨by rfl, by intro w hSw; go_simp⟩) hHeld ?_
      try simp only [Act.put, pS1, pS2, pS3]
      refine zW 2 (.pointer (some ⟨g1, o1 + 36 * i, none⟩)) rfl (Or.inl ⟨by rfl, by intro W hSw; have := ix1 W; go_simp⟩) hHeld ?_
      try simp only [Act.put, pS1, pS2, pS3]
      refine zW 3 (.agg A.toArray) rfl (yieldsIf_load_mid (by rfl) 36 (.tmp 19) rfl _ _ rfl A _ (fun _ h => h.1) Try.underlying36 rfl z0) hHeld ?_
      try simp only [Act.put, pS1, pS2, pS3]
      refine zW 4 (.slice (some ⟨g2, o2, none⟩) len c2) rfl (Or.inl ⟨by rfl, by intro w hSw; go_simp⟩) hHeld ?_
      try simp only [Act.put, pS1, pS2, pS3]
      refine zW 5 (.int .i64 i) rfl (Or.inl ⟨by rfl, by intro w hSw; go_simp⟩) hHeld ?_
      try simp only [Act.put, pS1, pS2, pS3]
      refine zW 6 (.pointer (some ⟨g2, o2 + 36 * i, none⟩)) rfl (Or.inl ⟨by rfl, by intro W hSw; have := ix2 W; go_simp⟩) hHeld ?_
      try simp only [Act.put, pS1, pS2, pS3]
      refine zW 7 (.agg A.toArray) rfl (yieldsIf_load_mid (by rfl) 36 (.tmp 23) rfl _ _ rfl A _ (fun _ h => h.2) Try.underlying36 rfl z0) hHeld ?_
      try simp only [Act.put, pS1, pS2, pS3]
      refine zW 8 (.bool false) rfl (Or.inl ⟨by rfl, by intro W hSw; have := hne W; go_simp⟩) hHeld ?_
      try simp only [Act.put, pS1, pS2, pS3]
      refine wpAnyH_done (by kernel_rfl) ?_ _
      go_wp2
      go_roundw
      case rel => exact ⟨i + 1, by omega, by go_num, hB.drew⟩
      case measure => simp [intOf]; omega
    · obtain rfl : len = i := by omega
      go_wp2
      go_ret
      exact ⟨rfl, hB⟩
set_option maxHeartbeats 2000000 in
theorem refOwnC_any (a : Option Addr) (len cap : Nat) (l : List ClT) (w : World) (h : CReads w a len cap l) (hc0 : a = none → cap = 0) (hlen : len ≤ 1000000) :
    Calls Try.prog 31 #[.slice a len cap] w fun e w' => ∃ v, e = .returned v ∧ w'.ownsRow w.heap.size 36 36 v len (clcL l) ∧ Below w.heap.size w w' := by
  obtain ⟨v, w', hr, ho, hg⟩ := run_append_cls h hc0 w.heap.size 0 (.slice none 0 0) [] ⟨rfl, .inl ⟨rfl, rfl⟩⟩ (Nat.le_refl _) (by omega)
  have HB : Hid (Below w.heap.size w w') := (Below.refl _ _).grown hg (Nat.le_refl _) (fun k e => by cases e)
  rw [List.nil_append, Nat.zero_add] at ho
  have HO := hidk ho
  clear ho hg h
  go_enter Try.func31, Try.ntmps31
  go_wp2_with (first
    | (show aD 6 _ _ _ _ _ _ _ _ _ _ _; refine wpList_append_run rfl (.tmp 4) (.tmp 5) 23 23 rfl (.slice none 0 0) (.slice a len cap) v w' rfl rfl hr ?_; try simp only [Act.put, pS1, pS2, pS3])
    | fail)
  go_ret
  exact ⟨v, rfl, HO.out, HB.out⟩
theorem ahead_iff (a b : ClT) : aheadC a b = (decide (a.r < b.r) || (a.r == b.r) && decide (a.e < b.e)) := by
  unfold aheadC
  rw [Bool.eq_iff_iff]
  simp
set_option maxHeartbeats 8000000 in
theorem refAhead_any (a b : ClT) (X Y : Array Value) (HX : Hid (X = (ccells a).toArray)) (HY : Hid (Y = (ccells b).toArray)) (w : World) :
    Calls Try.prog 57 #[.agg X, .agg Y] w fun e w' => e = .returned (.bool (aheadC a b)) ∧ Below w.heap.size w w' := by
  rw [ahead_iff]
  have h1 := (crow_new w a X HX 36).keep ((Below.refl _ _).alloc (Nat.le_refl _) (.cells Y 36))
  have h2 := crow_new (w.alloc (.cells X 36)) b Y HY 36
  have c1 := h1.r
  have c2 := h1.e
  have c3 := h2.r
  have c4 := h2.e
  simp only [Nat.zero_add, World.size_alloc] at c1 c2 c3 c4
  clear h1 h2 HX HY
  obtain ⟨ar, hq1⟩ : ∃ x, a.r = x := ⟨_, rfl⟩
  obtain ⟨ae, hq2⟩ : ∃ x, a.e = x := ⟨_, rfl⟩
  obtain ⟨br, hq3⟩ : ∃ x, b.r = x := ⟨_, rfl⟩
  obtain ⟨be, hq4⟩ : ∃ x, b.e = x := ⟨_, rfl⟩
  rw [hq1] at c1
  rw [hq2] at c2
  rw [hq3] at c3
  rw [hq4] at c4
  rw [hq1, hq2, hq3, hq4]
  clear hq1 hq2 hq3 hq4
  obtain ⟨P, hP⟩ : ∃ x, decide (ar < br) = x := ⟨_, rfl⟩
  obtain ⟨Q, hQ⟩ : ∃ x, (ar == br) = x := ⟨_, rfl⟩
  obtain ⟨R, hR⟩ : ∃ x, decide (ae < be) = x := ⟨_, rfl⟩
  rw [hP, hQ, hR]
  cases P <;> cases Q <;> cases R
  all_goals
    go_enter Try.func57, Try.ntmps57
    go_wp2
    go_ret
    exact ⟨rfl, ((Below.refl _ _).alloc (Nat.le_refl _) _).alloc (by simp) _⟩
def cmpI (x y : Int) : Int := if x < y then -1 else if y < x then 1 else 0
def orI (a b : Int) : Int := if a = 0 then b else a
theorem isNaN_any (x : Int) (w : World) : Calls Try.prog 116 #[.int .i64 x] w fun e w' => e = .returned (.bool false) ∧ w = w' := by
  have h : (!(x == x)) = false := by simp
  go_enter Try.func116, Try.ntmps116
  go_wp2
  go_ret
  exact ⟨rfl, rfl⟩
theorem compare_any (x y : Int) (w : World) : Calls Try.prog 99 #[.int .i64 x, .int .i64 y] w fun e w' => e = .returned (.int .i64 (cmpI x y)) ∧ w = w' := by
  have N1 := hidk (isNaN_any x w)
  have N2 := hidk (isNaN_any y w)
  obtain ⟨P, hP⟩ : ∃ b, decide (x < y) = b := ⟨_, rfl⟩
  obtain ⟨Q, hQ⟩ : ∃ b, decide (y < x) = b := ⟨_, rfl⟩
  have HE : Hid (cmpI x y = if P = true then -1 else if Q = true then 1 else 0) := by
    show _ = _
    unfold cmpI
    rw [← hP, ← hQ]
    simp only [decide_eq_true_eq]
  go_enter Try.func99, Try.ntmps99
  go_wp2_with fail
  refine N1.out.mono ?_
  rintro e w1 ⟨rfl, rfl⟩
  go_wp2_with fail
  refine N2.out.mono ?_
  rintro e w1 ⟨rfl, rfl⟩
  cases P
  · cases Q
    · go_wp2
      go_ret
      exact ⟨by rw [HE.out]; rfl, rfl⟩
    · go_wp2
      go_ret
      exact ⟨by rw [HE.out]; rfl, rfl⟩
  · go_wp2
    go_ret
    exact ⟨by rw [HE.out]; rfl, rfl⟩
theorem or_any (g : Nat) (a b : Int) (w : World) (h0 : w.cell? ⟨g, 0, none⟩ = some (.int .i64 a)) (h1 : w.cell? ⟨g, 1, none⟩ = some (.int .i64 b)) :
    Calls Try.prog 98 #[.slice (some ⟨g, 0, none⟩) 2 2] w fun e w' => e = .returned (.int .i64 (orI a b)) ∧ w = w' := by
  by_cases ha : a = 0
  · by_cases hb : b = 0
    · have HE : Hid (orI a b = 0) := by show _ = _; unfold orI; rw [if_pos ha, hb]
      subst ha
      subst hb
      go_enter Try.func98, Try.ntmps98
      go_wp2
      go_loop [5, 8] (fun x i => ∃ k : Nat, k ≤ 2 ∧ i = .int .i64 k) (fun _ i => 2 - (intOf i).toNat)
      case atStart => exact ⟨0, by omega, rfl⟩
      case round =>
        obtain ⟨k, hk, rfl⟩ := hrel
        obtain rfl | rfl | rfl : k = 0 ∨ k = 1 ∨ k = 2 := by omega
        · go_wp2
          go_round
          case rel => exact ⟨1, by omega, rfl⟩
          case measure => simp [intOf]
        · go_wp2
          go_round
          case rel => exact ⟨2, by omega, rfl⟩
          case measure => simp [intOf]
        · go_wp2
          go_ret
          exact ⟨by rw [HE.out]; rfl, rfl⟩
    · have HE : Hid (orI a b = b) := by show _ = _; unfold orI; rw [if_pos ha]
      have hn : (!(b == 0)) = true := by simp [hb]
      subst ha
      go_enter Try.func98, Try.ntmps98
      go_wp2
      go_loop [5, 8] (fun x i => ∃ k : Nat, k ≤ 1 ∧ i = .int .i64 k) (fun _ i => 2 - (intOf i).toNat)
      case atStart => exact ⟨0, by omega, rfl⟩
      case round =>
        obtain ⟨k, hk, rfl⟩ := hrel
        obtain rfl | rfl : k = 0 ∨ k = 1 := by omega
        · go_wp2
          go_round
          case rel => exact ⟨1, by omega, rfl⟩
          case measure => simp [intOf]
        · go_wp2
          go_ret
          exact ⟨by rw [HE.out]; rfl, rfl⟩
  · have HE : Hid (orI a b = a) := by show _ = _; unfold orI; rw [if_neg ha]
    have hn : (!(a == 0)) = true := by simp [ha]
    go_enter Try.func98, Try.ntmps98
    go_wp2
    go_loop [5, 8] (fun x i => i = .int .i64 0) (fun _ i => 2 - (intOf i).toNat)
    case atStart => exact rfl
    case round =>
      obtain rfl := hrel
      go_wp2
      go_ret
      exact ⟨by rw [HE.out]; rfl, rfl⟩
def foundC (l : List ClT) (r e : Int) : ClT := (findC l r e).getD zeroC
theorem findC_yes {l : List ClT} {r e : Int} (k : Nat) (hk : k < l.length) (h0 : ∀ x ∈ l.take k, isC x r e = false) (h1 : isC l[k] r e = true) : findC l r e = some l[k] := by
  obtain ⟨x, hx⟩ : ∃ x, l[k] = x := ⟨_, rfl⟩
  have e0 : l = l.take k ++ (x :: l.drop (k + 1)) := by rw [← hx, ← List.drop_eq_getElem_cons hk, List.take_append_drop]
  rw [hx] at h1 ⊢
  unfold findC
  rw [e0, List.find?_append, List.find?_eq_none.2 (fun x hx => by rw [h0 x hx]; simp), Option.none_or]
  exact List.find?_cons_of_pos h1
theorem findC_no {l : List ClT} {r e : Int} (h0 : ∀ x ∈ l, isC x r e = false) : findC l r e = none := by
  unfold findC
  exact List.find?_eq_none.2 fun x hx => by rw [h0 x hx]; simp
theorem mayE_form {l : List ItT} {x : ItT} (h : rightL l = false ∨ rightI x = false) : mayE l x = 100 := by unfold mayE; rw [if_pos h]
theorem mayE_low {l : List ItT} {x : ItT} (h1 : rightL l = true) (h2 : rightI x = true) (h : lowB l x.p = true) : mayE l x = 102 := by unfold mayE; rw [if_neg (by rw [h1, h2]; decide), if_pos h]
theorem mayE_full {l : List ItT} {x : ItT} (h1 : rightL l = true) (h2 : rightI x = true) (h : lowB l x.p = false) (h3 : l.length = 2000) : mayE l x = 2 := by unfold mayE; rw [if_neg (by rw [h1, h2]; decide), if_neg (by rw [h]; decide), if_pos h3]
theorem mayE_last {l : List ItT} {x : ItT} (h1 : rightL l = true) (h2 : rightI x = true) (h : lowB l x.p = false) (h3 : l.length ≠ 2000) : mayE l x = if x.e.k = 1 ∧ oldL l x.e.c x.e.s = true then 101 else 0 := by unfold mayE; rw [if_neg (by rw [h1, h2]; decide), if_neg (by rw [h]; decide), if_neg h3]
theorem lowB_none {l : List ItT} {p : Int} (h : l.length = 0) : lowB l p = false := by
  obtain rfl : l = [] := List.eq_nil_of_length_eq_zero h
  rfl
theorem lowB_some {l : List ItT} {p : Int} {j : Nat} (h : j + 1 = l.length) : lowB l p = decide (p < (l[j]'(by omega)).p) := by
  unfold lowB
  have : l.getLast? = some (l[j]'(by omega)) := by rw [List.getLast?_eq_getElem?, show l.length - 1 = j by omega]; exact List.getElem?_eq_getElem _
  rw [this]
theorem keep2R {W W' : World} {g o q : Nat} {X Y : List Value} (hb : Below W.heap.size W W') (h : W.rangeAt g o X ∧ W.rangeAt g q Y) : W'.rangeAt g o X ∧ W'.rangeAt g q Y :=
  ⟨range_keep hb h.1, range_keep hb h.2⟩
theorem rightCK_le {l : List ClT} {k : Nat} (h : rightCK l k = true) : ∀ i, i < k → okC l i = true := by
  unfold rightCK at h
  intro i hi
  exact List.all_eq_true.1 h i (List.mem_range.2 hi)
theorem rightCs_no {l : List ClT} {k : Nat} (hk : k < l.length) (h : okC l k = false) : rightCs l = false := by
  rw [Bool.eq_false_iff]
  intro hr
  have := rightCK_le hr k hk
  rw [h] at this
  cases this
set_option maxHeartbeats 16000000 in
theorem refRightCs_any (ad : Option Addr) (len cap : Nat) (l : List ClT) (w : World) (h : CReads w ad len cap l) (hlen : len ≤ 1000000) :
    Calls Try.prog 36 #[.slice ad len cap] w fun e w' => e = .returned (.bool (rightCs l)) ∧ Below w.heap.size w w' := by
  have H := hidk h
  have HL := hidk h.ln
  have hmx : len ≤ 9223372036854775807 := by omega
  clear h
  go_enter Try.func36, Try.ntmps36
  go_wp2
  go_loopw [3] (fun v wr => ∃ k : Nat, k ≤ len ∧ v = .int .i64 k ∧ Hid (Below w.heap.size w wr) ∧ Hid (rightCK l k = true)) (fun v _ => len - (intOf v).toNat)
  case atStart => exact ⟨0, by omega, rfl, Below.refl _ _, hidk rfl⟩
  case round =>
    obtain ⟨k, hk, rfl, HB, HN⟩ := hrel
    by_cases hlt : k < len
    · have hd : decide ((k : Int) < (len : Int)) = true := by rw [decide_eq_true_eq]; omega
      have hw1 := wrap_int ((k : Int) + 1) (by omega) (by omega)
      obtain ⟨g, o, rfl, hg⟩ := H.out.at (by omega)
      have hkl : k < l.length := by have := HL.out; omega
      obtain ⟨j, HJ, hj2⟩ : ∃ j, Hid (j = k - 1) ∧ j < len := ⟨_, hidk rfl, by omega⟩
      have hjl : j < l.length := by have := HL.out; omega
      obtain ⟨X, HX⟩ : ∃ X, Hid (X = (ccells l[k]).toArray) := ⟨_, hidk rfl⟩
      obtain ⟨Y, HY⟩ : ∃ X, Hid (X = (ccells l[j]).toArray) := ⟨_, hidk rfl⟩
      obtain ⟨ri, hri⟩ : ∃ b, rightC l[k] = b := ⟨_, rfl⟩
      obtain ⟨ah, hah⟩ : ∃ b, aheadC l[j] l[k] = b := ⟨_, rfl⟩
      have HSX : Hid ((Try.prog.info? 36).map (·.size) = some X.size) := by show _ = _; rw [sizeC, HX.out]; simp [ccells_length _ (H.out.ok _ (List.getElem_mem hkl))]
      have HSY : Hid ((Try.prog.info? 36).map (·.size) = some Y.size) := by show _ = _; rw [sizeC, HY.out]; simp [ccells_length _ (H.out.ok _ (List.getElem_mem hjl))]
      have hS : wr.rangeAt g (o + 36 * k) X.toList ∧ wr.rangeAt g (o + 36 * j) Y.toList := by
        rw [HX.out, HY.out]
        have hr := H.out.keep HB.out
        exact ⟨hr.range k hkl, hr.range j hjl⟩
      have RI : Hid (∀ W, Calls Try.prog 50 #[.agg X] W fun e w' => e = .returned (.bool ri) ∧ Below W.heap.size W w') := fun W => by rw [← hri]; exact refRightC_any l[k] W X HX
      have AH : Hid (∀ W, Calls Try.prog 57 #[.agg Y, .agg X] W fun e w' => e = .returned (.bool ah) ∧ Below W.heap.size W w') := fun W => by rw [← hah]; exact refAhead_any l[j] l[k] Y X HY HX W
      have ix1 := fun W => index_cl W g o len cap k .i64 hlt
      have ix2 := fun W => index_cl W g o len cap j .i64 hj2
      have HF : Hid ((k = 0 → okC l k = ri) ∧ (0 < k → okC l k = (ri && ah))) := by
        refine ⟨fun h0 => ?_, fun h0 => ?_⟩
        · subst h0; rw [okC_zero hkl, hri]
        · obtain ⟨i, rfl⟩ : ∃ i, k = i + 1 := ⟨k - 1, by omega⟩
          obtain rfl : j = i := by have := HJ.out; omega
          rw [okC_succ hkl, hri, hah]
      have HNO : Hid (okC l k = false → rightCs l = false) := rightCs_no hkl
      have HYE : Hid (okC l k = true → rightCK l (k + 1) = true) := fun hh => by rw [rightCK_succ, HN.out, hh]; rfl
      clear hri hah HX HY HN hkl hjl
      cases ri
      · have hko : okC l k = false := by
          by_cases h0 : k = 0
          · exact HF.out.1 h0
          · rw [HF.out.2 (by omega)]; rfl
        clear HF
        go_wp2
        refine wp_region_held_drew (S := (fun W => W.rangeAt g (o + 36 * k) X.toList ∧ W.rangeAt g (o + 36 * j) Y.toList)) (by kernel_rfl) hS (fun hHeld => ?_)
        refine zW 0 (.slice (some ⟨g, o, none⟩) len cap) rfl (Or.inl ⟨by rfl, by intro w hSw; go_simp⟩) hHeld ?_
        try simp only [Act.put, pS1, pS2, pS3]
        refine zW 1 (.int .i64 k) rfl (Or.inl ⟨by rfl, by intro w hSw; go_simp⟩) hHeld ?_
        try simp only [Act.put, pS1, pS2, pS3]
        refine zW 2 (.pointer (some ⟨g, o + 36 * k, none⟩)) rfl (Or.inl ⟨by rfl, by intro W hSw; have := ix1 W; go_simp⟩) hHeld ?_
        try simp only [Act.put, pS1, pS2, pS3]
        refine zW 3 (.agg X) rfl (yieldsIf_mid (by rfl) 36 (.tmp 12) rfl g (o + 36 * k) rfl X _ (fun _ h => h.1) Try.underlying36 rfl HSX.out) hHeld ?_
        try simp only [Act.put, pS1, pS2, pS3]
        refine wpAnyH_ready (rs := [4]) (by kernel_rfl) (by simp) ?_
        refine AllReadyH.cons (o := { dst := some 14, op := .call { callee := .value (.func 50), args := #[.tmp 13], argTypes := #[36] }, type := 4, pos := "ref.go:17", after := #[zD 3], guard := none }) rfl (fun K hK => ?_) AllReadyH.nil
        go_simp
        refine (RI.out _).mono ?_
        rintro e w1 ⟨rfl, hb1⟩
        go_wp2_with fail
        refine hK.out _ _ (keep2R hb1 hHeld) (fun hHeld => ?_)
        clear hK K
        try simp only [Act.put, pS1, pS2, pS3]
        refine zW 5 (.bool true) rfl (Or.inl ⟨by rfl, by intro w hSw; go_simp⟩) hHeld ?_
        try simp only [Act.put, pS1, pS2, pS3]
        refine zW 6 (.bool true) rfl (Or.inl ⟨by rfl, by intro w hSw; go_simp⟩) hHeld ?_
        try simp only [Act.put, pS1, pS2, pS3]
        refine zW 7 (undef) rfl (Or.inr ⟨by rfl, rfl⟩) hHeld ?_
        try simp only [Act.put, pS1, pS2, pS3]
        refine zW 8 (undef) rfl (Or.inr ⟨by rfl, rfl⟩) hHeld ?_
        try simp only [Act.put, pS1, pS2, pS3]
        refine zW 9 (undef) rfl (Or.inr ⟨by rfl, rfl⟩) hHeld ?_
        try simp only [Act.put, pS1, pS2, pS3]
        refine zW 10 (undef) rfl (Or.inr ⟨by rfl, rfl⟩) hHeld ?_
        try simp only [Act.put, pS1, pS2, pS3]
        refine zW 11 (undef) rfl (Or.inr ⟨by rfl, rfl⟩) hHeld ?_
        try simp only [Act.put, pS1, pS2, pS3]
        refine zW 12 (undef) rfl (Or.inr ⟨by rfl, rfl⟩) hHeld ?_
        try simp only [Act.put, pS1, pS2, pS3]
        refine zW 13 (undef) rfl (Or.inr ⟨by rfl, rfl⟩) hHeld ?_
        try simp only [Act.put, pS1, pS2, pS3]
        refine zW 14 (undef) rfl (Or.inr ⟨by rfl, rfl⟩) hHeld ?_
        try simp only [Act.put, pS1, pS2, pS3]
        refine zW 15 (undef) rfl (Or.inr ⟨by rfl, rfl⟩) hHeld ?_
        try simp only [Act.put, pS1, pS2, pS3]
        refine zW 16 (undef) rfl (Or.inr ⟨by rfl, rfl⟩) hHeld ?_
        try simp only [Act.put, pS1, pS2, pS3]
        refine zW 17 (undef) rfl (Or.inr ⟨by rfl, rfl⟩) hHeld ?_
        try simp only [Act.put, pS1, pS2, pS3]
        refine zW 18 (undef) rfl (Or.inr ⟨by rfl, rfl⟩) hHeld ?_
        try simp only [Act.put, pS1, pS2, pS3]
        refine zW 19 (undef) rfl (Or.inr ⟨by rfl, rfl⟩) hHeld ?_
        try simp only [Act.put, pS1, pS2, pS3]
        refine zW 20 (undef) rfl (Or.inr ⟨by rfl, rfl⟩) hHeld ?_
        try simp only [Act.put, pS1, pS2, pS3]
        refine zW 21 (undef) rfl (Or.inr ⟨by rfl, rfl⟩) hHeld ?_
        try simp only [Act.put, pS1, pS2, pS3]
        refine zW 22 (.bool true) rfl (Or.inl ⟨by rfl, by intro w hSw; go_simp⟩) hHeld ?_
        try simp only [Act.put, pS1, pS2, pS3]
        refine wpAnyH_done (by kernel_rfl) ?_ _
        go_wp2
        go_ret
        exact ⟨by rw [HNO.out hko]; rfl, HB.out.trans ((Below.trans (Below.refl _ _).drew hb1).mono HB.out.size)⟩
      · by_cases h0 : k = 0
        · have h0' : decide ((0 : Int) < (k : Int)) = false := by rw [decide_eq_false_iff_not]; omega
          have hko : okC l k = true := HF.out.1 h0
          clear HF
          go_wp2
          refine wp_region_held_drew (S := (fun W => W.rangeAt g (o + 36 * k) X.toList ∧ W.rangeAt g (o + 36 * j) Y.toList)) (by kernel_rfl) hS (fun hHeld => ?_)
          refine zW 0 (.slice (some ⟨g, o, none⟩) len cap) rfl (Or.inl ⟨by rfl, by intro w hSw; go_simp⟩) hHeld ?_
          try simp only [Act.put, pS1, pS2, pS3]
          refine zW 1 (.int .i64 k) rfl (Or.inl ⟨by rfl, by intro w hSw; go_simp⟩) hHeld ?_
          try simp only [Act.put, pS1, pS2, pS3]
          refine zW 2 (.pointer (some ⟨g, o + 36 * k, none⟩)) rfl (Or.inl ⟨by rfl, by intro W hSw; have := ix1 W; go_simp⟩) hHeld ?_
          try simp only [Act.put, pS1, pS2, pS3]
          refine zW 3 (.agg X) rfl (yieldsIf_mid (by rfl) 36 (.tmp 12) rfl g (o + 36 * k) rfl X _ (fun _ h => h.1) Try.underlying36 rfl HSX.out) hHeld ?_
          try simp only [Act.put, pS1, pS2, pS3]
          refine wpAnyH_ready (rs := [4]) (by kernel_rfl) (by simp) ?_
          refine AllReadyH.cons (o := { dst := some 14, op := .call { callee := .value (.func 50), args := #[.tmp 13], argTypes := #[36] }, type := 4, pos := "ref.go:17", after := #[zD 3], guard := none }) rfl (fun K hK => ?_) AllReadyH.nil
          go_simp
          refine (RI.out _).mono ?_
          rintro e w1 ⟨rfl, hb1⟩
          go_wp2_with fail
          refine hK.out _ _ (keep2R hb1 hHeld) (fun hHeld => ?_)
          clear hK K
          try simp only [Act.put, pS1, pS2, pS3]
          refine zW 5 (.bool false) rfl (Or.inl ⟨by rfl, by intro w hSw; go_simp⟩) hHeld ?_
          try simp only [Act.put, pS1, pS2, pS3]
          refine zW 6 (.bool false) rfl (Or.inl ⟨by rfl, by intro w hSw; go_simp⟩) hHeld ?_
          try simp only [Act.put, pS1, pS2, pS3]
          refine zW 7 (.int .i64 k) rfl (Or.inl ⟨by rfl, by intro w hSw; go_simp⟩) hHeld ?_
          try simp only [Act.put, pS1, pS2, pS3]
          refine zW 8 (.bool false) rfl (Or.inl ⟨by rfl, by intro w hSw; go_simp⟩) hHeld ?_
          try simp only [Act.put, pS1, pS2, pS3]
          refine zW 9 (.bool false) rfl (Or.inl ⟨by rfl, by intro w hSw; go_simp⟩) hHeld ?_
          try simp only [Act.put, pS1, pS2, pS3]
          refine zW 10 (undef) rfl (Or.inr ⟨by rfl, rfl⟩) hHeld ?_
          try simp only [Act.put, pS1, pS2, pS3]
          refine zW 11 (undef) rfl (Or.inr ⟨by rfl, rfl⟩) hHeld ?_
          try simp only [Act.put, pS1, pS2, pS3]
          refine zW 12 (undef) rfl (Or.inr ⟨by rfl, rfl⟩) hHeld ?_
          try simp only [Act.put, pS1, pS2, pS3]
          refine zW 13 (undef) rfl (Or.inr ⟨by rfl, rfl⟩) hHeld ?_
          try simp only [Act.put, pS1, pS2, pS3]
          refine zW 14 (undef) rfl (Or.inr ⟨by rfl, rfl⟩) hHeld ?_
          try simp only [Act.put, pS1, pS2, pS3]
          refine zW 15 (undef) rfl (Or.inr ⟨by rfl, rfl⟩) hHeld ?_
          try simp only [Act.put, pS1, pS2, pS3]
          refine zW 16 (undef) rfl (Or.inr ⟨by rfl, rfl⟩) hHeld ?_
          try simp only [Act.put, pS1, pS2, pS3]
          refine zW 17 (undef) rfl (Or.inr ⟨by rfl, rfl⟩) hHeld ?_
          try simp only [Act.put, pS1, pS2, pS3]
          refine zW 18 (undef) rfl (Or.inr ⟨by rfl, rfl⟩) hHeld ?_
          try simp only [Act.put, pS1, pS2, pS3]
          refine zW 19 (undef) rfl (Or.inr ⟨by rfl, rfl⟩) hHeld ?_
          try simp only [Act.put, pS1, pS2, pS3]
          refine zW 20 (undef) rfl (Or.inr ⟨by rfl, rfl⟩) hHeld ?_
          try simp only [Act.put, pS1, pS2, pS3]
          refine zW 21 (.bool false) rfl (Or.inl ⟨by rfl, by intro w hSw; go_simp⟩) hHeld ?_
          try simp only [Act.put, pS1, pS2, pS3]
          refine zW 22 (.bool false) rfl (Or.inl ⟨by rfl, by intro w hSw; go_simp⟩) hHeld ?_
          try simp only [Act.put, pS1, pS2, pS3]
          refine wpAnyH_done (by kernel_rfl) ?_ _
          go_wp2
          go_roundw
          case rel => exact ⟨k + 1, by omega, by go_num, HB.out.trans ((Below.trans (Below.refl _ _).drew hb1).mono HB.out.size), HYE.out hko⟩
          case measure => simp [intOf]; omega
        · have h0' : decide ((0 : Int) < (k : Int)) = true := by rw [decide_eq_true_eq]; omega
          have hsub : IntKind.i64.wrap ((k : Int) - 1) = (j : Int) := by rw [wrap_int _ (by omega) (by omega)]; have := HJ.out; omega
          have h0n : 0 < k := by omega
          have hko := HF.out.2 (by omega)
          clear HF
          cases ah
          · go_wp2
            refine wp_region_held_drew (S := (fun W => W.rangeAt g (o + 36 * k) X.toList ∧ W.rangeAt g (o + 36 * j) Y.toList)) (by kernel_rfl) hS (fun hHeld => ?_)
            refine zW 0 (.slice (some ⟨g, o, none⟩) len cap) rfl (Or.inl ⟨by rfl, by intro w hSw; go_simp⟩) hHeld ?_
            try simp only [Act.put, pS1, pS2, pS3]
            refine zW 1 (.int .i64 k) rfl (Or.inl ⟨by rfl, by intro w hSw; go_simp⟩) hHeld ?_
            try simp only [Act.put, pS1, pS2, pS3]
            refine zW 2 (.pointer (some ⟨g, o + 36 * k, none⟩)) rfl (Or.inl ⟨by rfl, by intro W hSw; have := ix1 W; go_simp⟩) hHeld ?_
            try simp only [Act.put, pS1, pS2, pS3]
            refine zW 3 (.agg X) rfl (yieldsIf_mid (by rfl) 36 (.tmp 12) rfl g (o + 36 * k) rfl X _ (fun _ h => h.1) Try.underlying36 rfl HSX.out) hHeld ?_
            try simp only [Act.put, pS1, pS2, pS3]
            refine wpAnyH_ready (rs := [4]) (by kernel_rfl) (by simp) ?_
            refine AllReadyH.cons (o := { dst := some 14, op := .call { callee := .value (.func 50), args := #[.tmp 13], argTypes := #[36] }, type := 4, pos := "ref.go:17", after := #[zD 3], guard := none }) rfl (fun K hK => ?_) AllReadyH.nil
            go_simp
            refine (RI.out _).mono ?_
            rintro e w1 ⟨rfl, hb1⟩
            go_wp2_with fail
            refine hK.out _ _ (keep2R hb1 hHeld) (fun hHeld => ?_)
            clear hK K
            try simp only [Act.put, pS1, pS2, pS3]
            refine zW 5 (.bool false) rfl (Or.inl ⟨by rfl, by intro w hSw; go_simp⟩) hHeld ?_
            try simp only [Act.put, pS1, pS2, pS3]
            refine zW 6 (.bool false) rfl (Or.inl ⟨by rfl, by intro w hSw; go_simp⟩) hHeld ?_
            try simp only [Act.put, pS1, pS2, pS3]
            refine zW 7 (.int .i64 k) rfl (Or.inl ⟨by rfl, by intro w hSw; go_simp⟩) hHeld ?_
            try simp only [Act.put, pS1, pS2, pS3]
            refine zW 8 (.bool true) rfl (Or.inl ⟨by rfl, by intro w hSw; go_simp⟩) hHeld ?_
            try simp only [Act.put, pS1, pS2, pS3]
            refine zW 9 (.bool true) rfl (Or.inl ⟨by rfl, by intro w hSw; go_simp⟩) hHeld ?_
            try simp only [Act.put, pS1, pS2, pS3]
            refine zW 10 (.slice (some ⟨g, o, none⟩) len cap) rfl (Or.inl ⟨by rfl, by intro w hSw; go_simp⟩) hHeld ?_
            try simp only [Act.put, pS1, pS2, pS3]
            refine zW 11 (.int .i64 k) rfl (Or.inl ⟨by rfl, by intro w hSw; go_simp⟩) hHeld ?_
            try simp only [Act.put, pS1, pS2, pS3]
            refine zW 12 (.int .i64 j) rfl (Or.inl ⟨by rfl, by intro w hSw; go_simp⟩) hHeld ?_
            try simp only [Act.put, pS1, pS2, pS3]
            refine zW 13 (.pointer (some ⟨g, o + 36 * j, none⟩)) rfl (Or.inl ⟨by rfl, by intro W hSw; have := ix2 W; go_simp⟩) hHeld ?_
            try simp only [Act.put, pS1, pS2, pS3]
            refine zW 14 (.agg Y) rfl (yieldsIf_mid (by rfl) 36 (.tmp 23) rfl g (o + 36 * j) rfl Y _ (fun _ h => h.2) Try.underlying36 rfl HSY.out) hHeld ?_
            try simp only [Act.put, pS1, pS2, pS3]
            refine zW 15 (.slice (some ⟨g, o, none⟩) len cap) rfl (Or.inl ⟨by rfl, by intro w hSw; go_simp⟩) hHeld ?_
            try simp only [Act.put, pS1, pS2, pS3]
            refine zW 16 (.int .i64 k) rfl (Or.inl ⟨by rfl, by intro w hSw; go_simp⟩) hHeld ?_
            try simp only [Act.put, pS1, pS2, pS3]
            refine zW 17 (.pointer (some ⟨g, o + 36 * k, none⟩)) rfl (Or.inl ⟨by rfl, by intro W hSw; have := ix1 W; go_simp⟩) hHeld ?_
            try simp only [Act.put, pS1, pS2, pS3]
            refine zW 18 (.agg X) rfl (yieldsIf_mid (by rfl) 36 (.tmp 27) rfl g (o + 36 * k) rfl X _ (fun _ h => h.1) Try.underlying36 rfl HSX.out) hHeld ?_
            try simp only [Act.put, pS1, pS2, pS3]
            refine wpAnyH_ready (rs := [19]) (by kernel_rfl) (by simp) ?_
            refine AllReadyH.cons (o := { dst := some 29, op := .call { callee := .value (.func 57), args := #[.tmp 24, .tmp 28], argTypes := #[36, 36] }, type := 4, pos := "ref.go:17", after := #[zD 14, zD 18, zC 9, zG 9], guard := some (9, true) }) rfl (fun K hK => ?_) AllReadyH.nil
            go_simp
            refine (AH.out _).mono ?_
            rintro e w2 ⟨rfl, hb2⟩
            go_wp2_with fail
            refine hK.out _ _ (keep2R hb2 hHeld) (fun hHeld => ?_)
            clear hK K
            try simp only [Act.put, pS1, pS2, pS3]
            refine zW 20 (.bool true) rfl (Or.inl ⟨by rfl, by intro w hSw; go_simp⟩) hHeld ?_
            try simp only [Act.put, pS1, pS2, pS3]
            refine zW 21 (.bool true) rfl (Or.inl ⟨by rfl, by intro w hSw; go_simp⟩) hHeld ?_
            try simp only [Act.put, pS1, pS2, pS3]
            refine zW 22 (.bool true) rfl (Or.inl ⟨by rfl, by intro w hSw; go_simp⟩) hHeld ?_
            try simp only [Act.put, pS1, pS2, pS3]
            refine wpAnyH_done (by kernel_rfl) ?_ _
            go_wp2
            go_ret
            exact ⟨by rw [HNO.out hko]; rfl, (HB.out.trans ((Below.trans (Below.refl _ _).drew hb1).mono HB.out.size)).trans (hb2.mono (Nat.le_trans HB.out.size hb1.size))⟩
          · go_wp2
            refine wp_region_held_drew (S := (fun W => W.rangeAt g (o + 36 * k) X.toList ∧ W.rangeAt g (o + 36 * j) Y.toList)) (by kernel_rfl) hS (fun hHeld => ?_)
            refine zW 0 (.slice (some ⟨g, o, none⟩) len cap) rfl (Or.inl ⟨by rfl, by intro w hSw; go_simp⟩) hHeld ?_
            try simp only [Act.put, pS1, pS2, pS3]
            refine zW 1 (.int .i64 k) rfl (Or.inl ⟨by rfl, by intro w hSw; go_simp⟩) hHeld ?_
            try simp only [Act.put, pS1, pS2, pS3]
            refine zW 2 (.pointer (some ⟨g, o + 36 * k, none⟩)) rfl (Or.inl ⟨by rfl, by intro W hSw; have := ix1 W; go_simp⟩) hHeld ?_
            try simp only [Act.put, pS1, pS2, pS3]
            refine zW 3 (.agg X) rfl (yieldsIf_mid (by rfl) 36 (.tmp 12) rfl g (o + 36 * k) rfl X _ (fun _ h => h.1) Try.underlying36 rfl HSX.out) hHeld ?_
            try simp only [Act.put, pS1, pS2, pS3]
            refine wpAnyH_ready (rs := [4]) (by kernel_rfl) (by simp) ?_
            refine AllReadyH.cons (o := { dst := some 14, op := .call { callee := .value (.func 50), args := #[.tmp 13], argTypes := #[36] }, type := 4, pos := "ref.go:17", after := #[zD 3], guard := none }) rfl (fun K hK => ?_) AllReadyH.nil
            go_simp
            refine (RI.out _).mono ?_
            rintro e w1 ⟨rfl, hb1⟩
            go_wp2_with fail
            refine hK.out _ _ (keep2R hb1 hHeld) (fun hHeld => ?_)
            clear hK K
            try simp only [Act.put, pS1, pS2, pS3]
            refine zW 5 (.bool false) rfl (Or.inl ⟨by rfl, by intro w hSw; go_simp⟩) hHeld ?_
            try simp only [Act.put, pS1, pS2, pS3]
            refine zW 6 (.bool false) rfl (Or.inl ⟨by rfl, by intro w hSw; go_simp⟩) hHeld ?_
            try simp only [Act.put, pS1, pS2, pS3]
            refine zW 7 (.int .i64 k) rfl (Or.inl ⟨by rfl, by intro w hSw; go_simp⟩) hHeld ?_
            try simp only [Act.put, pS1, pS2, pS3]
            refine zW 8 (.bool true) rfl (Or.inl ⟨by rfl, by intro w hSw; go_simp⟩) hHeld ?_
            try simp only [Act.put, pS1, pS2, pS3]
            refine zW 9 (.bool true) rfl (Or.inl ⟨by rfl, by intro w hSw; go_simp⟩) hHeld ?_
            try simp only [Act.put, pS1, pS2, pS3]
            refine zW 10 (.slice (some ⟨g, o, none⟩) len cap) rfl (Or.inl ⟨by rfl, by intro w hSw; go_simp⟩) hHeld ?_
            try simp only [Act.put, pS1, pS2, pS3]
            refine zW 11 (.int .i64 k) rfl (Or.inl ⟨by rfl, by intro w hSw; go_simp⟩) hHeld ?_
            try simp only [Act.put, pS1, pS2, pS3]
            refine zW 12 (.int .i64 j) rfl (Or.inl ⟨by rfl, by intro w hSw; go_simp⟩) hHeld ?_
            try simp only [Act.put, pS1, pS2, pS3]
            refine zW 13 (.pointer (some ⟨g, o + 36 * j, none⟩)) rfl (Or.inl ⟨by rfl, by intro W hSw; have := ix2 W; go_simp⟩) hHeld ?_
            try simp only [Act.put, pS1, pS2, pS3]
            refine zW 14 (.agg Y) rfl (yieldsIf_mid (by rfl) 36 (.tmp 23) rfl g (o + 36 * j) rfl Y _ (fun _ h => h.2) Try.underlying36 rfl HSY.out) hHeld ?_
            try simp only [Act.put, pS1, pS2, pS3]
            refine zW 15 (.slice (some ⟨g, o, none⟩) len cap) rfl (Or.inl ⟨by rfl, by intro w hSw; go_simp⟩) hHeld ?_
            try simp only [Act.put, pS1, pS2, pS3]
            refine zW 16 (.int .i64 k) rfl (Or.inl ⟨by rfl, by intro w hSw; go_simp⟩) hHeld ?_
            try simp only [Act.put, pS1, pS2, pS3]
            refine zW 17 (.pointer (some ⟨g, o + 36 * k, none⟩)) rfl (Or.inl ⟨by rfl, by intro W hSw; have := ix1 W; go_simp⟩) hHeld ?_
            try simp only [Act.put, pS1, pS2, pS3]
            refine zW 18 (.agg X) rfl (yieldsIf_mid (by rfl) 36 (.tmp 27) rfl g (o + 36 * k) rfl X _ (fun _ h => h.1) Try.underlying36 rfl HSX.out) hHeld ?_
            try simp only [Act.put, pS1, pS2, pS3]
            refine wpAnyH_ready (rs := [19]) (by kernel_rfl) (by simp) ?_
            refine AllReadyH.cons (o := { dst := some 29, op := .call { callee := .value (.func 57), args := #[.tmp 24, .tmp 28], argTypes := #[36, 36] }, type := 4, pos := "ref.go:17", after := #[zD 14, zD 18, zC 9, zG 9], guard := some (9, true) }) rfl (fun K hK => ?_) AllReadyH.nil
            go_simp
            refine (AH.out _).mono ?_
            rintro e w2 ⟨rfl, hb2⟩
            go_wp2_with fail
            refine hK.out _ _ (keep2R hb2 hHeld) (fun hHeld => ?_)
            clear hK K
            try simp only [Act.put, pS1, pS2, pS3]
            refine zW 20 (.bool false) rfl (Or.inl ⟨by rfl, by intro w hSw; go_simp⟩) hHeld ?_
            try simp only [Act.put, pS1, pS2, pS3]
            refine zW 21 (.bool false) rfl (Or.inl ⟨by rfl, by intro w hSw; go_simp⟩) hHeld ?_
            try simp only [Act.put, pS1, pS2, pS3]
            refine zW 22 (.bool false) rfl (Or.inl ⟨by rfl, by intro w hSw; go_simp⟩) hHeld ?_
            try simp only [Act.put, pS1, pS2, pS3]
            refine wpAnyH_done (by kernel_rfl) ?_ _
            go_wp2
            go_roundw
            case rel => exact ⟨k + 1, by omega, by go_num, (HB.out.trans ((Below.trans (Below.refl _ _).drew hb1).mono HB.out.size)).trans (hb2.mono (Nat.le_trans HB.out.size hb1.size)), HYE.out hko⟩
            case measure => simp [intOf]; omega
    · obtain rfl : len = k := by omega
      have hd : decide ((len : Int) < (len : Int)) = false := by rw [decide_eq_false_iff_not]; omega
      have HE : Hid (rightCs l = true) := by
        show _ = _
        have := HN.out
        rw [← HL.out] at this
        exact this
      go_wp2
      go_ret
      exact ⟨by rw [HE.out]; rfl, HB.out⟩
set_option maxHeartbeats 2000000 in
theorem hPutS_no (s : SgT) (hs : InS s) (hm : mayS s = false) (w : World) (C : Array Value) (HC : Hid (C = (scells s).toArray)) :
    Calls Try.prog 124 #[.agg C] w fun e w' => BytesE [] 70 e w' ∧ Below w.heap.size w w' := by
  have hnot : ∀ (x : Bool) (w : World), (Op.unary .not (.bool x)).run Try.prog w = .ok (.bool (!x)) w := fun _ _ => rfl
  have HSC : Hid ((Try.prog.info? 34).map (·.size) = some C.size) := by show _ = _; rw [sizeS, HC.out]; simp [scells_length s hs.h.d hs.g]
  have HR : Hid ((w.alloc (.cells C 34)).heap[w.heap.size]? = some (.cells C 34 (0, 0))) := heap_alloc_new w _
  have HB : Hid (Below w.heap.size w (w.alloc (.cells C 34))) := (Below.refl _ _).alloc (Nat.le_refl _) _
  have K1 : Hid (∀ W, Calls Try.prog 132 #[.agg C] W fun e w' => e = .returned (.bool false) ∧ Below W.heap.size W w') := fun W => by
    have := hMay_any s hs.h.d W C HC
    rwa [hm] at this
  clear HC hm hs
  go_enter Try.func124, Try.ntmps124
  go_wp2_with (first
    | (show aD 4 _ _ _ _ _ _ _ _ _ _ _; refine wpList_load_row rfl 34 (.tmp 1) rfl w.heap.size rfl 34 C (0, 0) _ HR.out Try.underlying34 rfl HSC.out ?_; try simp only [Act.put, pS1, pS2, pS3])
    | fail)
  refine (K1.out _).mono ?_
  rintro e w1 ⟨rfl, hb1⟩
  have HB1 := hidk (HB.out.trans (hb1.mono HB.out.size))
  clear hb1
  go_wp2
  go_ret2
  exact ⟨bytes_no _ _, HB1.out⟩
set_option maxHeartbeats 8000000 in
theorem hPutS_yes (s : SgT) (hs : InS s) (hm : mayS s = true) (w : World) (C : Array Value) (HC : Hid (C = (scells s).toArray)) :
    Calls Try.prog 124 #[.agg C] w fun e w' => BytesE (signB s) 0 e w' ∧ Below w.heap.size w w' := by
  have hnot : ∀ (x : Bool) (w : World), (Op.unary .not (.bool x)).run Try.prog w = .ok (.bool (!x)) w := fun _ _ => rfl
  have hd := hs.h.d
  have hg := hs.g
  have hrt := ((mayS_iff s).1 hm).1
  have HSC : Hid ((Try.prog.info? 34).map (·.size) = some C.size) := by show _ = _; rw [sizeS, HC.out]; simp [scells_length s hd hg]
  have HRW : Hid ((w.alloc (.cells C 34)).heap[w.heap.size]? = some (.cells C 34 (0, 0))) := heap_alloc_new w _
  have K1 : Hid (∀ W, Calls Try.prog 132 #[.agg C] W fun e w' => e = .returned (.bool true) ∧ Below W.heap.size W w') := fun W => by
    have := hMay_any s hd W C HC
    rwa [hm] at this
  have HR := hidk (srow_new w s hd C HC 34)
  have HB : Hid (Below w.heap.size w (w.alloc (.cells C 34))) := (Below.refl _ _).alloc (Nat.le_refl _) _
  obtain ⟨HCs, HHC, HSH, H36⟩ := head_row s.h hd
  obtain ⟨D, HD, HSD, H1D, H32D⟩ := dig_row' s.g hg
  obtain ⟨n, Hn⟩ : ∃ n, Hid (n = s.n) := ⟨s.n, hidk rfl⟩
  obtain ⟨n2, Hn2⟩ : ∃ x : ByteArray, Hid (x = nOf n) := ⟨nOf n, hidk rfl⟩
  obtain ⟨x1, HX1⟩ : ∃ x : ByteArray, Hid (x = bA (headB s.h)) := ⟨bA (headB s.h), hidk rfl⟩
  obtain ⟨x3, HX3⟩ : ∃ x : ByteArray, Hid (x = bA s.g) := ⟨bA s.g, hidk rfl⟩
  obtain ⟨l, Hl⟩ : ∃ l, Hid (l = signB s) := ⟨signB s, hidk rfl⟩
  have B1 : Hid (∀ W, Calls Try.prog 133 #[.agg HCs] W fun e w' => e = .returned (.string x1) ∧ Below W.heap.size W w') := fun W => by
    have := hLaid_any s.h hd W HCs HHC
    rwa [show putB s.h = headB s.h by unfold putB; rw [if_pos hrt], ← HX1.out] at this
  have N2 : Hid (∀ W, Calls Try.prog 134 #[.int .i64 2, .int .i64 n] W fun e w' => e = .returned (.agg #[.int .i64 2, .string n2]) ∧ Below W.heap.size W w') := fun W => by rw [Hn2.out]; exact hNum_any 2 n W
  have X3 : Hid (∀ W, Calls Try.prog 135 #[.int .i64 3, .agg D] W fun e w' => e = .returned (.agg #[.int .i64 3, .string x3]) ∧ Below W.heap.size W w') := fun W => by rw [HX3.out]; exact hDig_any 3 s.g hg W D HD
  have hL3 : fieldsN (sL s) = [(1, x1), (2, n2), (3, x3)] := by rw [HX1.out, Hn2.out, HX3.out, Hn.out]; rfl
  have LY : Hid (∀ W, Calls Try.prog 46 #[.slice (some ⟨W.heap.size, 0, none⟩) 3 3] (W.alloc (.cells #[.int .i64 1, .string x1, .int .i64 2, .string n2, .int .i64 3, .string x3] 85)) fun e w' => ∃ a c, e = .returned (.tuple #[.slice a l.length c, .int .i64 0]) ∧ Reads w' a l.length c l ∧ Below W.heap.size W w') := fun W => by
    have hk := layE_sL s hd hg
    have hrw := rowOf_ok hk
    rw [hL3] at hk hrw
    have hmm : ∀ f ∈ [((1 : Int), x1), (2, n2), (3, x3)], f.2.size ≤ maxLen := fun y hy => by
      simp only [List.mem_cons, List.not_mem_nil, or_false] at hy
      unfold maxLen
      rcases hy with rfl | rfl | rfl
      · have := bA_size (headB s.h); rw [← HX1.out] at this; have := headB_length s.h hd; show x1.size ≤ _; omega
      · have := nOf_size n; rw [← Hn2.out] at this; show n2.size ≤ _; omega
      · have := bA_size s.g; rw [← HX3.out] at this; show x3.size ≤ _; omega
    have hF := freads_lit W #[.int .i64 1, .string x1, .int .i64 2, .string n2, .int .i64 3, .string x3] (0, 0) [((1 : Int), x1), (2, n2), (3, x3)] rfl (by show 3 ≤ 1048576; decide) hmm
    rw [← alloc_size W (.cells #[.int .i64 1, .string x1, .int .i64 2, .string n2, .int .i64 3, .string x3] 85)] at hF
    refine (lay_reads (some ⟨W.heap.size, 0, none⟩) 3 3 [((1 : Int), x1), (2, n2), (3, x3)] _ hF (by decide) (k := 0) (l := l) hk (by rw [hrw, Hl.out, ← hL3]; rfl)).mono ?_
    rintro e w' ⟨a, c, he, hrd, hb⟩
    exact ⟨a, c, he, hrd, ((Below.refl _ _).alloc (Nat.le_refl _) _).trans (hb.mono (by simp))⟩
  have HDL : Hid (D.toList = cellsOf s.g) := by show _ = _; rw [HD.out]
  have HHL : Hid (HCs.toList = hcells s.h) := by show _ = _; rw [HHC.out]
  rw [← Hl.out]
  clear HC hL3 HX1 HX3 HD Hn2 Hl hm hrt
  go_enter Try.func124, Try.ntmps124
  go_wp2_with (first
    | (show aD 4 _ _ _ _ _ _ _ _ _ _ _; refine wpList_load_row rfl 34 (.tmp 1) rfl w.heap.size rfl 34 C (0, 0) _ HRW.out Try.underlying34 rfl HSC.out ?_; try simp only [Act.put, pS1, pS2, pS3])
    | fail)
  refine (K1.out _).mono ?_
  rintro e w0 ⟨rfl, hb0⟩
  have HB0 := hidk (HB.out.trans (hb0.mono HB.out.size))
  have HR0 := hidk (HR.out.keep hb0)
  clear hb0 HB HR HRW K1
  go_wp2
  refine wp_region_held_drew (S := (fun W => SRow W w.heap.size 0 s)) (by kernel_rfl) (show SRow w0.drew w.heap.size 0 s from HR0.out.keep (Below.refl _ _).drew) (fun hHeld => ?_)
  refine zX 0 (.pointer (some ⟨w.heap.size, 0, none⟩)) rfl hHeld ?_
  try simp only [Act.put, pS1, pS2, pS3]
  refine zW 1 (.agg HCs) rfl (yieldsIf_mid (by rfl) 32 (.tmp 7) rfl w.heap.size 0 rfl HCs _ (fun _ h => by rw [HHL.out]; exact h.h) Try.underlying32 rfl HSH.out) hHeld ?_
  try simp only [Act.put, pS1, pS2, pS3]
  refine zX 4 (.pointer (some ⟨w.heap.size, 36, none⟩)) rfl hHeld ?_
  try simp only [Act.put, pS1, pS2, pS3]
  refine zW 5 (.int .i64 n) rfl (Or.inl ⟨by rfl, by intro W hSw; have h1 := hSw.n; rw [← Hn.out, Nat.zero_add] at h1; go_simp⟩) hHeld ?_
  try simp only [Act.put, pS1, pS2, pS3]
  refine zX 7 (.pointer (some ⟨w.heap.size, 37, none⟩)) rfl hHeld ?_
  try simp only [Act.put, pS1, pS2, pS3]
  refine zW 8 (.agg D) rfl (yieldsIf_mid (by rfl) 30 (.tmp 14) rfl w.heap.size 37 rfl D _ (fun _ h => by rw [HDL.out]; have := h.g; rwa [Nat.zero_add] at this) Try.underlying30 rfl HSD.out) hHeld ?_
  try simp only [Act.put, pS1, pS2, pS3]
  refine wpAnyH_ready (rs := [2]) (by kernel_rfl) (by simp) ?_
  refine (AllReadyH.cons (o := { dst := some 9, op := .call { callee := .value (.func 133), args := #[.tmp 8], argTypes := #[32] }, type := 9, pos := "head.go:97", after := #[zD 1], guard := none }) rfl (fun K hK => ?_) AllReadyH.nil)
  go_simp
  refine (B1.out _).mono ?_
  rintro e w2 ⟨rfl, hb1⟩
  have HBc := hidk (HB0.out.drew.trans (hb1.mono HB0.out.size))
  go_wp2_with fail
  refine hK.out _ _ (hHeld.keep hb1) (fun hHeld => ?_)
  clear hK K
  try simp only [Act.put, pS1, pS2, pS3]
  refine zX 3 (.agg #[.int .i64 1, .string x1]) rfl hHeld ?_
  try simp only [Act.put, pS1, pS2, pS3]
  refine wpAnyH_ready (rs := [6]) (by kernel_rfl) (by simp) ?_
  refine (AllReadyH.cons (o := { dst := some 13, op := .call { callee := .value (.func 134), args := #[.const (.int .i64 2), .tmp 12], argTypes := #[3, 3] }, type := 85, pos := "head.go:98", after := #[zD 5, zC 2], guard := none }) rfl (fun K hK => ?_) AllReadyH.nil)
  go_simp
  refine (N2.out _).mono ?_
  rintro e w6 ⟨rfl, hb2⟩
  replace HBc := hidk (HBc.out.trans (hb2.mono HBc.out.size))
  go_wp2_with fail
  refine hK.out _ _ (hHeld.keep hb2) (fun hHeld => ?_)
  clear hK K
  try simp only [Act.put, pS1, pS2, pS3]
  refine wpAnyH_ready (rs := [9]) (by kernel_rfl) (by simp) ?_
  refine (AllReadyH.cons (o := { dst := some 16, op := .call { callee := .value (.func 135), args := #[.const (.int .i64 3), .tmp 15], argTypes := #[3, 30] }, type := 85, pos := "head.go:99", after := #[zD 8, zC 6], guard := none }) rfl (fun K hK => ?_) AllReadyH.nil)
  go_simp
  refine (X3.out _).mono ?_
  rintro e w9 ⟨rfl, hb3⟩
  replace HBc := hidk (HBc.out.trans (hb3.mono HBc.out.size))
  go_wp2_with fail
  refine hK.out _ _ (hHeld.keep hb3) (fun hHeld => ?_)
  clear hK K
  try simp only [Act.put, pS1, pS2, pS3]
  refine wpAnyH_ready (rs := [10]) (by kernel_rfl) (by simp) ?_
  refine (AllReadyH.cons (o := { dst := some 17, op := .buildSlice 88 3 #[(0, .tmp 10), (1, .tmp 13), (2, .tmp 16)], type := 88, pos := "head.go:96", after := #[zD 3, zD 6, zD 9], guard := none }) rfl (fun K hK => ?_) AllReadyH.nil)
  have HRc := hidk hHeld
  go_simp
  refine hK.out _ _ (hHeld.keep ((Below.refl _ _).alloc (Nat.le_refl _) _)) (fun hHeld => ?_)
  clear hK K
  try simp only [Act.put, pS1, pS2, pS3]
  refine wpAnyH_ready (rs := [11]) (by kernel_rfl) (by simp) ?_
  refine (AllReadyH.cons (o := { dst := some 18, op := .call { callee := .value (.func 46), args := #[.tmp 17], argTypes := #[88] }, type := 81, pos := "head.go:96", after := #[zD 10, zC 9], guard := none }) rfl (fun K hK => ?_) AllReadyH.nil)
  go_simp
  refine (LY.out _).mono ?_
  rintro e w11 ⟨a11, c11, rfl, hrd, hb6⟩
  have HRD := hidk hrd
  have HBF := hidk (HBc.out.trans (hb6.mono HBc.out.size))
  go_wp2_with fail
  refine hK.out _ _ (HRc.out.keep hb6) (fun hHeld => ?_)
  clear hK K
  try simp only [Act.put, pS1, pS2, pS3]
  refine zX 12 (.slice a11 l.length c11) rfl hHeld ?_
  try simp only [Act.put, pS1, pS2, pS3]
  refine zX 13 (.int .i64 0) rfl hHeld ?_
  try simp only [Act.put, pS1, pS2, pS3]
  refine zX 14 (.slice a11 l.length c11) rfl hHeld ?_
  try simp only [Act.put, pS1, pS2, pS3]
  refine zX 15 (.int .i64 0) rfl hHeld ?_
  try simp only [Act.put, pS1, pS2, pS3]
  refine wpAnyH_done (by kernel_rfl) ?_ _
  go_wp2
  go_ret2
  exact ⟨⟨_, _, rfl, HRD.out⟩, HBF.out⟩
theorem hPutS_any (s : SgT) (hs : InS s) (w : World) (C : Array Value) (HC : Hid (C = (scells s).toArray)) :
    Calls Try.prog 124 #[.agg C] w fun e w' => BytesE (putSB s) (putSE s) e w' ∧ Below w.heap.size w w' := by
  unfold putSB putSE
  cases hr : mayS s
  · exact hPutS_no s hs hr w C HC
  · exact hPutS_yes s hs hr w C HC
def restE (x : EnT) : List (Int × ByteArray) := if x.k = 1 then [(2, nOf x.c), (3, nOf x.s), (4, x.t)] else if x.k = 2 then [(5, bA (signB x.h))] else if x.k = 3 then [(6, bA (claimB x.m))] else []
theorem fieldsE_rest (x : EnT) : fieldsE x = (1, nOf x.k) :: restE x := rfl
def RowF (w : World) (cs : Array Value) (m : Nat) (e : Ending) (w' : World) : Prop := ∃ g, e = .returned (.slice (some ⟨g, 0, none⟩) m m) ∧ w'.heap[g]? = some (.cells cs 85 (0, 0)) ∧ w.heap.size ≤ g ∧ Below w.heap.size w w'
set_option maxHeartbeats 8000000 in
theorem eFields_user (x : EnT) (ok : OkE x) (hk : x.k = 1) (w : World) (X cs : Array Value) (HX : Hid (X = (ecells x).toArray)) (HC : Hid (cs.toList = fcells (restE x))) :
    Calls Try.prog 107 #[.agg X] w fun e w' => RowF w cs 3 e w' := by
  have HR := hidk (erow_new w x ok X HX 38)
  have HB : Hid (Below w.heap.size w (w.alloc (.cells X 38))) := (Below.refl _ _).alloc (Nat.le_refl _) _
  have c0 := HR.out.k
  rw [hk] at c0
  obtain ⟨c, Hc⟩ : ∃ c, Hid (c = x.c) := ⟨_, hidk rfl⟩
  obtain ⟨s, Hs⟩ : ∃ c, Hid (c = x.s) := ⟨_, hidk rfl⟩
  obtain ⟨t, Ht⟩ : ∃ c, Hid (c = x.t) := ⟨_, hidk rfl⟩
  obtain ⟨n2, Hn2⟩ : ∃ n, Hid (n = nOf c) := ⟨_, hidk rfl⟩
  obtain ⟨n3, Hn3⟩ : ∃ n, Hid (n = nOf s) := ⟨_, hidk rfl⟩
  have N2 : Hid (∀ W, Calls Try.prog 71 #[.int .i64 2, .int .i64 c] W fun e w' => e = .returned (.agg #[.int .i64 2, .string n2]) ∧ Below W.heap.size W w') := fun W => by rw [Hn2.out]; exact eNum_any 2 c W
  have N3 : Hid (∀ W, Calls Try.prog 71 #[.int .i64 3, .int .i64 s] W fun e w' => e = .returned (.agg #[.int .i64 3, .string n3]) ∧ Below W.heap.size W w') := fun W => by rw [Hn3.out]; exact eNum_any 3 s W
  have HCS : Hid (cs = #[.int .i64 2, .string n2, .int .i64 3, .string n3, .int .i64 4, .string t]) := by
    show _ = _
    apply Array.ext'
    rw [HC.out, Hn2.out, Hn3.out, Hc.out, Hs.out, Ht.out]
    unfold restE
    rw [if_pos hk]
    rfl
  clear HX HC Hn2 Hn3 ok hk
  go_enter Try.func107, Try.ntmps107
  go_wp2
  refine wp_region_held_drew (S := (fun W => ERow W w.heap.size 0 x)) (by kernel_rfl) (HR.out.keep (Below.refl _ _).drew) (fun hHeld => ?_)
  refine zX 0 (.pointer (some ⟨w.heap.size, 1, none⟩)) rfl hHeld ?_
  try simp only [Act.put, pS1, pS2, pS3]
  refine zW 1 (.int .i64 c) rfl (Or.inl ⟨by rfl, by intro W hSw; have h1 := hSw.c; rw [← Hc.out, Nat.zero_add] at h1; go_simp⟩) hHeld ?_
  try simp only [Act.put, pS1, pS2, pS3]
  refine zX 3 (.pointer (some ⟨w.heap.size, 2, none⟩)) rfl hHeld ?_
  try simp only [Act.put, pS1, pS2, pS3]
  refine zW 4 (.int .i64 s) rfl (Or.inl ⟨by rfl, by intro W hSw; have h1 := hSw.s; rw [← Hs.out, Nat.zero_add] at h1; go_simp⟩) hHeld ?_
  try simp only [Act.put, pS1, pS2, pS3]
  refine zX 6 (.pointer (some ⟨w.heap.size, 3, none⟩)) rfl hHeld ?_
  try simp only [Act.put, pS1, pS2, pS3]
  refine zW 7 (.string t) rfl (Or.inl ⟨by rfl, by intro W hSw; have h1 := hSw.t; rw [← Ht.out, Nat.zero_add] at h1; go_simp⟩) hHeld ?_
  try simp only [Act.put, pS1, pS2, pS3]
  refine zX 8 (.agg #[.int .i64 4, .string t]) rfl hHeld ?_
  try simp only [Act.put, pS1, pS2, pS3]
  refine wpAnyH_ready (rs := [2]) (by kernel_rfl) (by simp) ?_
  refine (AllReadyH.cons (o := { dst := some 13, op := .call { callee := .value (.func 71), args := #[.const (.int .i64 2), .tmp 12], argTypes := #[3, 3] }, type := 85, pos := "entry.go:134", after := #[zD 1], guard := none }) rfl (fun K hK => ?_) AllReadyH.nil)
  go_simp
  refine (N2.out _).mono ?_
  rintro e w2 ⟨rfl, hb2⟩
  have HB2 := hidk (HB.out.drew.trans (hb2.mono HB.out.size))
  go_wp2_with fail
  refine hK.out _ _ (hHeld.keep hb2) (fun hHeld => ?_)
  clear hK K
  try simp only [Act.put, pS1, pS2, pS3]
  refine wpAnyH_ready (rs := [5]) (by kernel_rfl) (by simp) ?_
  refine (AllReadyH.cons (o := { dst := some 16, op := .call { callee := .value (.func 71), args := #[.const (.int .i64 3), .tmp 15], argTypes := #[3, 3] }, type := 85, pos := "entry.go:135", after := #[zD 4, zC 2], guard := none }) rfl (fun K hK => ?_) AllReadyH.nil)
  go_simp
  refine (N3.out _).mono ?_
  rintro e w5 ⟨rfl, hb5⟩
  have HB5 := hidk (HB2.out.trans (hb5.mono HB2.out.size))
  go_wp2_with fail
  refine hK.out _ _ (hHeld.keep hb5) (fun hHeld => ?_)
  clear hK K
  try simp only [Act.put, pS1, pS2, pS3]
  refine wpAnyH_ready (rs := [9]) (by kernel_rfl) (by simp) ?_
  refine (AllReadyH.cons (o := { dst := some 20, op := .buildSlice 88 3 #[(0, .tmp 13), (1, .tmp 16), (2, .tmp 19)], type := 88, pos := "entry.go:133", after := #[zD 2, zD 5, zD 8], guard := none }) rfl (fun K hK => ?_) AllReadyH.nil)
  go_simp
  refine hK.out _ _ (hHeld.keep ((Below.refl _ _).alloc (Nat.le_refl _) _)) (fun hHeld => ?_)
  clear hK K
  try simp only [Act.put, pS1, pS2, pS3]
  refine zX 10 (.slice (some ⟨w5.heap.size, 0, none⟩) 3 3) rfl hHeld ?_
  try simp only [Act.put, pS1, pS2, pS3]
  refine wpAnyH_done (by kernel_rfl) ?_ _
  go_wp2
  go_ret
  refine ⟨w5.heap.size, rfl, ?_, HB5.out.size, HB5.out.trans (((Below.refl _ _).alloc (Nat.le_refl _) _).mono HB5.out.size)⟩
  rw [HCS.out]
  exact heap_alloc_new w5 _
set_option maxHeartbeats 4000000 in
theorem eFields_anchor (x : EnT) (ok : OkE x) (hk : x.k = 2) (hin : InS x.h) (hm : mayS x.h = true) (w : World) (X cs : Array Value) (HX : Hid (X = (ecells x).toArray)) (HC : Hid (cs.toList = fcells (restE x))) :
    Calls Try.prog 107 #[.agg X] w fun e w' => RowF w cs 1 e w' := by
  have HR := erow_new w x ok X HX 38
  have HB : Hid (Below w.heap.size w (w.alloc (.cells X 38))) := (Below.refl _ _).alloc (Nat.le_refl _) _
  have c0 := HR.k
  rw [hk] at c0
  obtain ⟨Q, HQ, HSQ, H1Q, HNQ⟩ := sign_row x.h ok.h ok.g
  have RQ : Hid ((w.alloc (.cells X 38)).rangeAt w.heap.size 4 Q.toList) := by have := HR.h; show World.rangeAt _ _ _ _; rw [HQ.out]; simpa using this
  obtain ⟨l, Hl⟩ : ∃ l, Hid (l = signB x.h) := ⟨_, hidk rfl⟩
  obtain ⟨y, Hy⟩ : ∃ y : ByteArray, Hid (y = bA l) := ⟨_, hidk rfl⟩
  have P1 : Hid (∀ W, Calls Try.prog 124 #[.agg Q] W fun e w' => (∃ a c, e = .returned (.tuple #[.slice a l.length c, .int .i64 0]) ∧ Reads w' a l.length c l) ∧ Below W.heap.size W w') := fun W => by
    rw [Hl.out]
    have := hPutS_any x.h hin W Q HQ
    unfold putSB putSE at this; rw [if_pos hm, if_pos hm] at this
    exact this
  have HCS : Hid (cs = #[.int .i64 5, .string y]) := by
    show _ = _
    apply Array.ext'
    rw [HC.out, Hy.out, Hl.out]
    unfold restE
    rw [if_neg (by omega), if_pos hk]
    rfl
  clear HX HC HR HQ Hl
  go_enter Try.func107, Try.ntmps107
  go_wp2_with (first
    | (show aD 25 _ _ _ _ _ _ _ _ _ _ _; refine wpList_mid rfl 34 (.tmp 24) rfl w.heap.size 4 rfl Q _ RQ.out Try.underlying34 rfl HSQ.out ?_; try simp only [Act.put, pS1, pS2, pS3])
    | fail)
  refine (P1.out _).mono ?_
  rintro e w1 ⟨⟨a1, c1, rfl, hr1⟩, hb1⟩
  have HB1 := hidk (HB.out.trans (hb1.mono HB.out.size))
  have hcv := conv_reads hr1
  rw [show (⟨l.toArray⟩ : ByteArray) = y from Hy.out.symm] at hcv
  clear hb1 hr1
  go_wp2
  go_ret
  refine ⟨w1.heap.size, rfl, ?_, HB1.out.size, HB1.out.trans (((Below.refl _ _).alloc (Nat.le_refl _) _).mono HB1.out.size)⟩
  rw [HCS.out]
  exact heap_alloc_new w1 _
set_option maxHeartbeats 4000000 in
theorem eFields_claim (x : EnT) (ok : OkE x) (hk : x.k = 3) (hm : rightC x.m = true) (w : World) (X cs : Array Value) (HX : Hid (X = (ecells x).toArray)) (HC : Hid (cs.toList = fcells (restE x))) :
    Calls Try.prog 107 #[.agg X] w fun e w' => RowF w cs 1 e w' := by
  have HR := erow_new w x ok X HX 38
  have HB : Hid (Below w.heap.size w (w.alloc (.cells X 38))) := (Below.refl _ _).alloc (Nat.le_refl _) _
  have c0 := HR.k
  rw [hk] at c0
  obtain ⟨Q, HQ, HSQ, H1Q, HNQ⟩ := claim_row5 x.m ok.m
  have RQ : Hid ((w.alloc (.cells X 38)).rangeAt w.heap.size 73 Q.toList) := by have := HR.m; show World.rangeAt _ _ _ _; rw [HQ.out]; simpa using this
  obtain ⟨l, Hl⟩ : ∃ l, Hid (l = claimB x.m) := ⟨_, hidk rfl⟩
  obtain ⟨y, Hy⟩ : ∃ y : ByteArray, Hid (y = bA l) := ⟨_, hidk rfl⟩
  have P1 : Hid (∀ W, Calls Try.prog 45 #[.agg Q] W fun e w' => (∃ a c, e = .returned (.tuple #[.slice a l.length c, .int .i64 0]) ∧ Reads w' a l.length c l) ∧ Below W.heap.size W w') := fun W => by
    rw [Hl.out]
    have := ePutC_any x.m ok.m W Q HQ
    unfold cB cE at this; rw [if_pos hm, if_pos hm] at this
    exact this
  have HCS : Hid (cs = #[.int .i64 6, .string y]) := by
    show _ = _
    apply Array.ext'
    rw [HC.out, Hy.out, Hl.out]
    unfold restE
    rw [if_neg (by omega), if_neg (by omega), if_pos hk]
    rfl
  clear HX HC HR HQ Hl
  go_enter Try.func107, Try.ntmps107
  go_wp2_with (first
    | (show aD 37 _ _ _ _ _ _ _ _ _ _ _; refine wpList_mid rfl 36 (.tmp 36) rfl w.heap.size 73 rfl Q _ RQ.out Try.underlying36 rfl HSQ.out ?_; try simp only [Act.put, pS1, pS2, pS3])
    | fail)
  refine (P1.out _).mono ?_
  rintro e w1 ⟨⟨a1, c1, rfl, hr1⟩, hb1⟩
  have HB1 := hidk (HB.out.trans (hb1.mono HB.out.size))
  have hcv := conv_reads hr1
  rw [show (⟨l.toArray⟩ : ByteArray) = y from Hy.out.symm] at hcv
  clear hb1 hr1
  go_wp2
  go_ret
  refine ⟨w1.heap.size, rfl, ?_, HB1.out.size, HB1.out.trans (((Below.refl _ _).alloc (Nat.le_refl _) _).mono HB1.out.size)⟩
  rw [HCS.out]
  exact heap_alloc_new w1 _
theorem restE_len {x : EnT} (h : rightE x = true) : (restE x).length = if x.k = 1 then 3 else 1 := by
  rcases right_kinds h with ⟨hk, _⟩ | ⟨hk, _⟩ | ⟨hk, _⟩
  · unfold restE; rw [if_pos hk, if_pos hk]; rfl
  · unfold restE; rw [if_neg (by omega), if_pos hk, if_neg (by omega)]; rfl
  · unfold restE; rw [if_neg (by omega), if_neg (by omega), if_pos hk, if_neg (by omega)]; rfl
theorem eFields_any (x : EnT) (hin : InE x) (h : rightE x = true) (w : World) (X cs : Array Value) (HX : Hid (X = (ecells x).toArray)) (HC : Hid (cs.toList = fcells (restE x))) :
    Calls Try.prog 107 #[.agg X] w fun e w' => RowF w cs (restE x).length e w' := by
  have hl := restE_len h
  rcases right_kinds h with ⟨hk, _⟩ | ⟨hk, _, _, _, hm, _⟩ | ⟨hk, _, _, _, _, hm⟩
  · rw [hl, if_pos hk]; exact eFields_user x hin.ok hk w X cs HX HC
  · rw [hl, if_neg (by omega)]; exact eFields_anchor x hin.ok hk hin.h hm w X cs HX HC
  · rw [hl, if_neg (by omega)]; exact eFields_claim x hin.ok hk hm w X cs HX HC
theorem eField_small {x : EnT} (ok : OkE x) (h : rightE x = true) : (∀ f ∈ fieldsE x, f.2.size ≤ maxLen) ∧ (fieldsE x).length ≤ 400 := fieldsE_small ok h
theorem fcells_one : ∀ (fs : List (Int × ByteArray)), ∀ v ∈ fcells fs, v.oneCell' = true
  | [], v, hv => by simp [fcells] at hv
  | f :: r, v, hv => by
    have e : fcells (f :: r) = [.int .i64 f.1, .string f.2] ++ fcells r := rfl
    rw [e] at hv
    simp only [List.mem_append, List.mem_cons, List.not_mem_nil, or_false] at hv
    rcases hv with (rfl | rfl) | hv
    · rfl
    · rfl
    · exact fcells_one r v hv
theorem fcells_len : ∀ (fs : List (Int × ByteArray)), (fcells fs).length = fs.length * 2
  | [] => rfl
  | f :: r => by
    have e : fcells (f :: r) = [.int .i64 f.1, .string f.2] ++ fcells r := rfl
    rw [e, List.length_append, fcells_len r]
    simp
    omega
theorem eAppend (w W : World) (gk g : Nat) (n1 : ByteArray) (fs : List (Int × ByteArray)) (cs : Array Value) (HC : Hid (cs.toList = fcells fs)) (h1 : W.heap[gk]? = some (.cells #[.int .i64 1, .string n1] 85 (0, 0))) (h2 : W.heap[g]? = some (.cells cs 85 (0, 0))) (hk : w.heap.size ≤ gk) (hb : Below w.heap.size w W) (hl : fs.length ≤ 100) (hm : ∀ f ∈ ((1 : Int), n1) :: fs, f.2.size ≤ maxLen) :
    ∃ a c w', (Builtin.append_ #[88, 88] 88 #[.slice (some ⟨gk, 0, none⟩) 1 1, .slice (some ⟨g, 0, none⟩) fs.length fs.length]).run Try.prog W = .ok (.slice a (((1 : Int), n1) :: fs).length c) w' ∧ FReads w'.heap.size w' a (((1 : Int), n1) :: fs).length c (((1 : Int), n1) :: fs) ∧ Below w.heap.size w w' := by
  obtain ⟨i0, hi, hz0, hz1, hz2⟩ := info_parts info37
  have hgk := heap_lt h1
  have hown : W.ownsRow w.heap.size 85 2 (.slice (some ⟨gk, 0, none⟩) 1 1) 1 (fcells [((1 : Int), n1)]) := ⟨rfl, .inr ⟨gk, 1, #[.int .i64 1, .string n1], rfl, hk, h1, Nat.le_refl _, by unfold maxLen; decide, rfl, rfl⟩⟩
  have hn : ∀ (j : Nat) (u : Value), (fcells fs)[j]? = some u → W.cell? ((⟨g, 0, none⟩ : Addr).add j) = some u := by
    intro j u hj
    rw [add_plain, Nat.zero_add, cell_of_row W g j cs 85 (0, 0) h2]
    rw [← HC.out] at hj
    simpa using hj
  obtain ⟨v', w', hr, ho, hg, _⟩ := run_append_own (P := Try.prog) W w.heap.size 88 88 85 i0 (.agg #[.int .i64 0, .string ⟨#[]⟩]) 2 24 Try.underlying88 hi hz0 hz1 hz2 rfl (by decide) _ 1 _ hown ⟨g, 0, none⟩ fs.length fs.length (fcells fs) (fcells_len fs) hn (fcells_one fs) (by unfold maxLen; omega) (by omega) (by omega)
  have e1 : fcells [((1 : Int), n1)] ++ fcells fs = fcells (((1 : Int), n1) :: fs) := rfl
  have e2 : 1 + fs.length = (((1 : Int), n1) :: fs).length := by simp; omega
  rw [e1, e2] at ho
  obtain ⟨a, c, rfl, hrd⟩ := freads_own ho hm
  exact ⟨a, c, w', hr, hrd, hb.grown hg hb.size (by intro k hk'; cases hk'; exact hk)⟩
set_option maxHeartbeats 2000000 in
theorem ePutE_no (x : EnT) (ok : OkE x) (hr : rightE x = false) (w : World) (X : Array Value) (HX : Hid (X = (ecells x).toArray)) :
    Calls Try.prog 91 #[.agg X] w fun e w' => BytesE [] 60 e w' ∧ Below w.heap.size w w' := by
  have HSX : Hid ((Try.prog.info? 38).map (·.size) = some X.size) := by show _ = _; rw [sizeE, HX.out]; simp [ecells_length _ ok]
  have HX0 : Hid ((w.alloc (.cells X 38)).heap[w.heap.size]? = some (.cells X 38 (0, 0))) := heap_alloc_new w _
  have HB : Hid (Below w.heap.size w (w.alloc (.cells X 38))) := (Below.refl _ _).alloc (Nat.le_refl _) _
  have K1 : Hid (∀ W, Calls Try.prog 60 #[.agg X] W fun e w' => e = .returned (.int .i64 60) ∧ Below W.heap.size W w') := fun W => by
    have := eCheck_any x ok W X HX
    rwa [show eE x = 60 by unfold eE; rw [hr]; rfl] at this
  clear HX hr
  go_enter Try.func91, Try.ntmps91
  go_wp2_with (first
    | (show aD 6 _ _ _ _ _ _ _ _ _ _ _; refine wpList_load_row rfl 38 (.tmp 1) rfl w.heap.size rfl 38 X (0, 0) _ HX0.out Try.underlying38 rfl HSX.out ?_; try simp only [Act.put, pS1, pS2, pS3])
    | fail)
  refine (K1.out _).mono ?_
  rintro e w1 ⟨rfl, hb1⟩
  have HB1 := hidk (HB.out.trans (hb1.mono HB.out.size))
  clear hb1
  go_wp2
  go_ret2
  exact ⟨eBytes_no _ _, HB1.out⟩
set_option maxHeartbeats 4000000 in
theorem ePutE_yes (x : EnT) (hin : InE x) (hr : rightE x = true) (w : World) (X : Array Value) (HX : Hid (X = (ecells x).toArray)) :
    Calls Try.prog 91 #[.agg X] w fun e w' => BytesE (entryB x) 0 e w' ∧ Below w.heap.size w w' := by
  have ok := hin.ok
  have HSX : Hid ((Try.prog.info? 38).map (·.size) = some X.size) := by show _ = _; rw [sizeE, HX.out]; simp [ecells_length _ ok]
  have HX0 : Hid ((w.alloc (.cells X 38)).heap[w.heap.size]? = some (.cells X 38 (0, 0))) := heap_alloc_new w _
  have HB : Hid (Below w.heap.size w (w.alloc (.cells X 38))) := (Below.refl _ _).alloc (Nat.le_refl _) _
  have K1 : Hid (∀ W, Calls Try.prog 60 #[.agg X] W fun e w' => e = .returned (.int .i64 0) ∧ Below W.heap.size W w') := fun W => by
    have := eCheck_any x ok W X HX
    rwa [show eE x = 0 by unfold eE; rw [hr]; rfl] at this
  obtain ⟨k, Hk⟩ : ∃ k, Hid (k = x.k) := ⟨_, hidk rfl⟩
  obtain ⟨n1, Hn1⟩ : ∃ n, Hid (n = nOf k) := ⟨_, hidk rfl⟩
  have N1 : Hid (∀ W, Calls Try.prog 71 #[.int .i64 1, .int .i64 k] W fun e w' => e = .returned (.agg #[.int .i64 1, .string n1]) ∧ Below W.heap.size W w') := fun W => by rw [Hn1.out]; exact eNum_any 1 k W
  have KK : Hid (∀ W : World, W.heap[w.heap.size]? = some (.cells X 38 (0, 0)) → W.cell? ⟨w.heap.size, 0, none⟩ = some (.int .i64 k)) := fun W h => by have := (erow_row ok HX h).k; rwa [← Hk.out] at this
  obtain ⟨fs, hfs⟩ : ∃ fs, fs = restE x := ⟨_, rfl⟩
  obtain ⟨cs, HC⟩ : ∃ cs : Array Value, Hid (cs.toList = fcells fs) := ⟨(fcells fs).toArray, hidk rfl⟩
  have hfl : fs.length ≤ 100 := by rw [hfs, restE_len hr]; split <;> omega
  have F1 : Hid (∀ W, Calls Try.prog 107 #[.agg X] W fun e w' => RowF W cs fs.length e w') := fun W => by rw [hfs]; exact eFields_any x hin hr W X cs HX (by rw [← hfs]; exact HC)
  have hall : fieldsE x = (1, n1) :: fs := by rw [fieldsE_rest, Hn1.out, Hk.out, hfs]
  have hsm := (eField_small ok hr).1
  rw [hall] at hsm
  have AP : Hid (∀ W gk g, W.heap[gk]? = some (.cells #[.int .i64 1, .string n1] 85 (0, 0)) → W.heap[g]? = some (.cells cs 85 (0, 0)) → w.heap.size ≤ gk → Below w.heap.size w W →
      ∃ a c w', (Builtin.append_ #[88, 88] 88 #[.slice (some ⟨gk, 0, none⟩) 1 1, .slice (some ⟨g, 0, none⟩) fs.length fs.length]).run Try.prog W = .ok (.slice a (((1 : Int), n1) :: fs).length c) w' ∧ FReads w'.heap.size w' a (((1 : Int), n1) :: fs).length c (((1 : Int), n1) :: fs) ∧ Below w.heap.size w w') := fun W gk g h1 h2 h3 h4 => eAppend w W gk g n1 fs cs HC h1 h2 h3 h4 hfl hsm
  obtain ⟨l, Hl⟩ : ∃ l, Hid (l = entryB x) := ⟨_, hidk rfl⟩
  have hk0 := layE_entry hr ok
  rw [hall] at hk0
  have LY : Hid (∀ W a n c, n = (((1 : Int), n1) :: fs).length → FReads W.heap.size W a n c (((1 : Int), n1) :: fs) → Calls Try.prog 46 #[.slice a n c] W fun e w' => (∃ a' c', e = .returned (.tuple #[.slice a' l.length c', .int .i64 0]) ∧ Reads w' a' l.length c' l) ∧ Below W.heap.size W w') := fun W a n c hn h => by
    subst hn
    refine (lay_reads a _ c _ W h (by simp; omega) (k := 0) (l := l) hk0 (by rw [eRow_ok hk0, Hl.out, ← hall]; rfl)).mono ?_
    rintro e w' ⟨a', c', he, hrd, hb⟩
    exact ⟨⟨a', c', he, hrd⟩, hb⟩
  obtain ⟨nn, Hnn⟩ : ∃ n, Hid (n = (((1 : Int), n1) :: fs).length) := ⟨_, hidk rfl⟩
  obtain ⟨m, Hm⟩ : ∃ m, Hid (m = fs.length) := ⟨_, hidk rfl⟩
  rw [← Hl.out]
  rw [← Hnn.out] at AP
  rw [← Hm.out] at AP F1
  clear HX hr hall hsm hk0 Hn1 hfs HC ok hin
  go_enter Try.func91, Try.ntmps91
  go_wp2_with (first
    | (show aD 6 _ _ _ _ _ _ _ _ _ _ _; refine wpList_load_row rfl 38 (.tmp 1) rfl w.heap.size rfl 38 X (0, 0) _ HX0.out Try.underlying38 rfl HSX.out ?_; try simp only [Act.put, pS1, pS2, pS3])
    | fail)
  refine (K1.out _).mono ?_
  rintro e w1 ⟨rfl, hb1⟩
  have HB1 := hidk (HB.out.trans (hb1.mono HB.out.size))
  have HX1 := hidk ((hb1.block _ (heap_lt HX0.out)).trans HX0.out)
  have c0 := KK.out w1 HX1.out
  clear hb1 HB HX0 K1 KK
  go_wp2_with fail
  refine (N1.out _).mono ?_
  rintro e w2 ⟨rfl, hb2⟩
  have HB2 := hidk (HB1.out.trans (hb2.mono HB1.out.size))
  have HX2 := hidk ((hb2.block _ (heap_lt HX1.out)).trans HX1.out)
  have HX3 := hidk (heap_keep (o' := .cells #[.int .i64 1, .string n1] 85) HX2.out)
  have HK3 := hidk (heap_alloc_new w2 (.cells #[.int .i64 1, .string n1] 85))
  have HB3 := hidk (HB2.out.trans (((Below.refl _ _).alloc (Nat.le_refl _) (.cells #[.int .i64 1, .string n1] 85)).mono HB2.out.size))
  clear hb2 HB1 HX1 HX2 N1 c0
  go_wp2_with (first
    | (show aD 16 _ _ _ _ _ _ _ _ _ _ _; refine wpList_load_row rfl 38 (.tmp 1) rfl w.heap.size rfl 38 X (0, 0) _ HX3.out Try.underlying38 rfl HSX.out ?_; try simp only [Act.put, pS1, pS2, pS3])
    | fail)
  refine (F1.out _).mono ?_
  rintro e w4 ⟨g4, rfl, hg4, _, hb4⟩
  obtain ⟨a5, c5, w5, hrun, hfr, hb5⟩ := AP.out w4 w2.heap.size g4 ((hb4.block _ (heap_lt HK3.out)).trans HK3.out) hg4 HB2.out.size (HB3.out.trans (hb4.mono HB3.out.size))
  have HRUN := hidk hrun
  have HFR := hidk hfr
  have HB5 := hidk hb5
  clear hrun hfr hb5 hb4 hg4 HK3 HX3 HB3 HB2 F1 AP
  go_wp2_with (first
    | (show aD 18 _ _ _ _ _ _ _ _ _ _ _; refine wpList_append_run rfl (.tmp 15) (.tmp 17) 88 88 rfl _ _ _ w5 rfl rfl HRUN.out ?_; try simp only [Act.put, pS1, pS2, pS3])
    | fail)
  refine (LY.out w5 a5 nn c5 Hnn.out (by rw [Hnn.out]; rw [Hnn.out] at HFR; exact HFR.out)).mono ?_
  rintro e w6 ⟨⟨a6, c6, rfl, hr6⟩, hb6⟩
  have HR6 := hidk hr6
  have HB6 := hidk (HB5.out.trans (hb6.mono HB5.out.size))
  clear hr6 hb6
  go_wp2
  go_ret2
  exact ⟨⟨_, _, rfl, HR6.out⟩, HB6.out⟩
theorem ePutE_any (x : EnT) (hin : InE x) (w : World) (X : Array Value) (HX : Hid (X = (ecells x).toArray)) :
    Calls Try.prog 91 #[.agg X] w fun e w' => BytesE (eB x) (eE x) e w' ∧ Below w.heap.size w w' := by
  unfold eB eE
  cases hr : rightE x
  · exact ePutE_no x hin.ok hr w X HX
  · exact ePutE_yes x hin hr w X HX
theorem grownBy_set0 (W : World) (b : Nat) (v : Value) : W.grownBy (W.setCell ⟨b, 0, none⟩ v) (some b) :=
  ⟨rfl, rfl, rfl, by simp [World.setCell], fun k _ hk => Below.heap_setCell W ⟨b, 0, none⟩ v k (fun e => hk (by rw [e]))⟩
def Rd (W : World) (lo g : Nat) (fs : List (Int × ByteArray)) : Prop :=
  ∃ a cap, W.heap[g]? = some (.cells #[.slice a fs.length cap] 176 (0, 0)) ∧ lo ≤ g ∧ fs.length ≤ cap ∧ cap ≤ 9223372036854775807 ∧ (∀ f ∈ fs, f.2.size ≤ maxLen) ∧
    (fs = [] ∨ ∃ b off, a = some ⟨b, off, none⟩ ∧ lo ≤ b ∧ b < g ∧ ∀ (i : Nat) (h : i < fs.length), W.cell? ⟨b, off + i * 2, none⟩ = some (.int .i64 fs[i].1) ∧ W.cell? ⟨b, off + i * 2 + 1, none⟩ = some (.string fs[i].2))
theorem Rd.keep {W W' : World} {lo g : Nat} {fs : List (Int × ByteArray)} (h : Rd W lo g fs) (hb : ∀ k, lo ≤ k → k ≤ g → W'.heap[k]? = W.heap[k]?) : Rd W' lo g fs := by
  obtain ⟨a, cap, h1, h2, h3, h4, h5, h6⟩ := h
  refine ⟨a, cap, (hb g h2 (Nat.le_refl _)).trans h1, h2, h3, h4, h5, ?_⟩
  rcases h6 with h6 | ⟨b, off, e, hl, hg, hc⟩
  · exact .inl h6
  · have hk := hb b hl (by omega)
    exact .inr ⟨b, off, e, hl, hg, fun i hi => ⟨(World.cell?_of_block (a := ⟨b, off + i * 2, none⟩) hk).trans (hc i hi).1, (World.cell?_of_block (a := ⟨b, off + i * 2 + 1, none⟩) hk).trans (hc i hi).2⟩⟩
theorem Rd.lt {W : World} {lo g : Nat} {fs : List (Int × ByteArray)} (h : Rd W lo g fs) : g < W.heap.size := by
  obtain ⟨a, cap, h1, _⟩ := h
  exact heap_lt h1
theorem Rd.below {W W' : World} {lo g : Nat} {fs : List (Int × ByteArray)} (h : Rd W lo g fs) (hb : Below W.heap.size W W') : Rd W' lo g fs :=
  h.keep fun k _ hk => hb.block k (Nat.lt_of_le_of_lt hk h.lt)
theorem Rd.wrote {W W' : World} {lo g k : Nat} {D : Array Value} {t : TypeId} {fs : List (Int × ByteArray)} (h : Rd W lo g fs) (hw : Wrote k D t W W') (hk : k < lo ∨ g < k) : Rd W' lo g fs :=
  h.keep fun i hi hg => hw.other i (by omega)
def tkD (tag : Int) (fs : List (Int × ByteArray)) : ByteArray := match fs with
  | f :: _ => if f.1 = tag then f.2 else ⟨#[]⟩
  | [] => ⟨#[]⟩
def tkB (tag : Int) (fs : List (Int × ByteArray)) : Bool := match fs with
  | f :: _ => decide (f.1 = tag)
  | [] => false
def tkR (tag : Int) (fs : List (Int × ByteArray)) : List (Int × ByteArray) := match fs with
  | f :: r => if f.1 = tag then r else f :: r
  | [] => []
theorem ended_any (W : World) (lo g : Nat) (fs : List (Int × ByteArray)) (h : Rd W lo g fs) (x : Bool) (hx : x = decide (fs.length = 0)) :
    Calls Try.prog 148 #[.pointer (some ⟨g, 0, none⟩)] W fun e w' => e = .returned (.bool x) ∧ w' = W := by
  obtain ⟨a, cap, h1, h2, h3, h4, h5, h6⟩ := h
  have hc : W.cell? ⟨g, 0, none⟩ = some (.slice a fs.length cap) := by rw [cell_of_row W g 0 _ _ (0, 0) h1]; rfl
  have hm : fs.length ≤ 9223372036854775807 := by omega
  subst hx
  cases fs with
  | nil =>
    clear h1 h2 h3 h5 h6
    simp only [List.length_nil] at hc
    go_enter Try.func148, Try.ntmps148
    go_wp2
    go_ret
    exact ⟨rfl, rfl⟩
  | cons f r =>
    clear h1 h2 h3 h5 h6
    simp only [List.length_cons] at hc hm
    go_enter Try.func148, Try.ntmps148
    go_wp2
    go_ret
    exact ⟨by simp; omega, rfl⟩
set_option maxHeartbeats 2000000 in
theorem data_any (W : World) (lo g : Nat) (fs : List (Int × ByteArray)) (tag : Int) (h : Rd W lo g fs) :
    Calls Try.prog 149 #[.pointer (some ⟨g, 0, none⟩), .int .i64 tag] W fun e w' => e = .returned (.tuple #[.string (tkD tag fs), .bool (tkB tag fs)]) ∧ W.grownBy w' (some g) ∧ Rd w' lo g (tkR tag fs) := by
  obtain ⟨x, hx⟩ : ∃ x, x = decide (fs.length = 0) := ⟨_, rfl⟩
  have E1 : Hid (Calls Try.prog 148 #[.pointer (some ⟨g, 0, none⟩)] W fun e w' => e = .returned (.bool x) ∧ w' = W) := ended_any W lo g fs h x hx
  have HR := hidk h
  obtain ⟨a, cap, h1, h2, h3, h4, h5, h6⟩ := h
  have hc : W.cell? ⟨g, 0, none⟩ = some (.slice a fs.length cap) := by rw [cell_of_row W g 0 _ _ (0, 0) h1]; rfl
  have hm : fs.length ≤ 9223372036854775807 := by omega
  cases fs with
  | nil =>
    obtain rfl : x = true := by rw [hx]; rfl
    clear h1 h2 h3 h5 h6 hx hc hm
    go_enter Try.func149, Try.ntmps149
    go_wp2_with fail
    refine E1.out.mono ?_
    rintro e w1 ⟨rfl, rfl⟩
    go_wp2
    go_ret2
    exact ⟨rfl, World.grownBy.refl _ _, HR.out⟩
  | cons f r =>
    obtain rfl : x = false := by rw [hx]; simp
    rcases h6 with h6 | ⟨b, off, rfl, hl, hg, hcs⟩
    · cases h6
    have c0 := (hcs 0 (by simp)).1
    have c1 := (hcs 0 (by simp)).2
    simp only [Nat.zero_mul, Nat.add_zero, List.getElem_cons_zero] at c0 c1
    simp only [List.length_cons] at hc hm h3
    have hfz : W.frozen? ⟨g, 0, none⟩ = false := frozen_of_row W g 0 _ _ h1
    by_cases ht : f.1 = tag
    · have HE : Hid (tkD tag (f :: r) = f.2 ∧ tkB tag (f :: r) = true ∧ tkR tag (f :: r) = r) := ⟨if_pos ht, by show decide _ = true; simpa using ht, if_pos ht⟩
      rw [HE.out.1, HE.out.2.1, HE.out.2.2]
      obtain ⟨d, hd⟩ : ∃ d, d = f.2 := ⟨_, rfl⟩
      rw [ht] at c0
      rw [← hd] at c1 ⊢
      clear HE ht hd
      by_cases hcap : cap = 1
      · obtain rfl : r = [] := List.eq_nil_of_length_eq_zero (by omega)
        subst hcap
        have HG := hidk (grownBy_set0 W g (.slice (some ⟨b, off, none⟩) 0 0))
        have HN : Hid (Rd (W.setCell ⟨g, 0, none⟩ (.slice (some ⟨b, off, none⟩) 0 0)) lo g []) :=
          ⟨some ⟨b, off, none⟩, 0, Go.heap_setCell_same W g 0 _ _ _ h1, h2, Nat.le_refl _, by omega, fun y hy => by simp at hy, .inl rfl⟩
        simp only [List.length_nil, Nat.zero_add] at hc
        clear h1 h2 h5 hx HR hcs h3 hm
        go_enter Try.func149, Try.ntmps149
        go_wp2_with fail
        refine E1.out.mono ?_
        rintro e w1 ⟨rfl, rfl⟩
        go_wp2
        go_ret2
        exact ⟨rfl, HG.out, HN.out⟩
      · have HG := hidk (grownBy_set0 W g (.slice (some ⟨b, off + 2, none⟩) r.length (cap - 1)))
        have HN : Hid (Rd (W.setCell ⟨g, 0, none⟩ (.slice (some ⟨b, off + 2, none⟩) r.length (cap - 1))) lo g r) := by
          refine ⟨some ⟨b, off + 2, none⟩, cap - 1, ?_, h2, by omega, by omega, fun y hy => h5 y (List.mem_cons_of_mem _ hy), .inr ⟨b, off + 2, rfl, hl, hg, fun i hi => ?_⟩⟩
          · exact Go.heap_setCell_same W g 0 _ _ _ h1
          · have hk := Below.heap_setCell W ⟨g, 0, none⟩ (.slice (some ⟨b, off + 2, none⟩) r.length (cap - 1)) b (by show b ≠ g; omega)
            have hh := hcs (i + 1) (by simpa using hi)
            rw [show off + (i + 1) * 2 = off + 2 + i * 2 by omega] at hh
            exact ⟨(World.cell?_of_block (a := ⟨b, off + 2 + i * 2, none⟩) hk).trans hh.1, (World.cell?_of_block (a := ⟨b, off + 2 + i * 2 + 1, none⟩) hk).trans hh.2⟩
        have hcap' : ¬ cap - 1 = 0 := by omega
        clear h1 h2 h5 hx HR hcs
        go_enter Try.func149, Try.ntmps149
        go_wp2_with fail
        refine E1.out.mono ?_
        rintro e w1 ⟨rfl, rfl⟩
        go_wp2
        go_ret2
        exact ⟨rfl, HG.out, HN.out⟩
    · have HE : Hid (tkD tag (f :: r) = ⟨#[]⟩ ∧ tkB tag (f :: r) = false ∧ tkR tag (f :: r) = f :: r) := ⟨if_neg ht, by show decide _ = false; simpa using ht, if_neg ht⟩
      rw [HE.out.1, HE.out.2.1, HE.out.2.2]
      obtain ⟨t, hd⟩ : ∃ d, d = f.1 := ⟨_, rfl⟩
      rw [← hd] at c0 ht
      clear h1 h2 h5 hx hcs HE hd c1
      go_enter Try.func149, Try.ntmps149
      go_wp2_with fail
      refine E1.out.mono ?_
      rintro e w1 ⟨rfl, rfl⟩
      go_wp2
      go_ret2
      exact ⟨rfl, World.grownBy.refl _ _, HR.out⟩
theorem Rd.small {W : World} {lo g : Nat} {fs : List (Int × ByteArray)} (h : Rd W lo g fs) (tag : Int) : (tkD tag fs).size ≤ maxLen := by
  obtain ⟨a, cap, h1, h2, h3, h4, h5, h6⟩ := h
  cases fs with
  | nil => show (⟨#[]⟩ : ByteArray).size ≤ maxLen; unfold maxLen; decide
  | cons f r =>
    unfold tkD
    split
    · rename_i hh
      split
      · have := List.cons.inj hh
        rw [← this.1]
        exact h5 f (List.mem_cons_self ..)
      · show (⟨#[]⟩ : ByteArray).size ≤ maxLen; unfold maxLen; decide
    · show (⟨#[]⟩ : ByteArray).size ≤ maxLen; unfold maxLen; decide
theorem grown_trans {a b c : World} {r : Option Nat} (h : a.grownBy b r) (k : b.grownBy c r) : a.grownBy c r :=
  ⟨k.os.trans h.os, k.tape.trans h.tape, k.output.trans h.output, Nat.le_trans h.size k.size, fun i hi hr => (k.block i (Nat.lt_of_lt_of_le hi h.size) hr).trans (h.block i hi hr)⟩
theorem grown_below {a b : World} {r : Option Nat} (h : Below a.heap.size a b) : a.grownBy b r := ⟨h.os, h.tape, h.output, h.size, fun k hk _ => h.block k hk⟩
theorem grown_wrote {a b c : World} {r : Option Nat} {g : Nat} {D : Array Value} {t : TypeId} (h : a.grownBy b r) (hw : Wrote g D t b c) (hg : a.heap.size ≤ g) : a.grownBy c r := by
  have hb : Below a.heap.size b c := hw.below a.heap.size b (Below.refl _ _) hg
  exact ⟨hb.os.trans h.os, hb.tape.trans h.tape, hb.output.trans h.output, Nat.le_trans h.size hb.size, fun i hi hr => (hb.block i hi).trans (h.block i hi hr)⟩
def nV (tag : Int) (fs : List (Int × ByteArray)) : Int := vOf (tkD tag fs).data.toList
def nB (tag : Int) (fs : List (Int × ByteArray)) : Bool := tkB tag fs && isNum (tkD tag fs).data.toList
set_option maxHeartbeats 2000000 in
theorem rnum_any (W : World) (lo g : Nat) (fs : List (Int × ByteArray)) (tag : Int) (h : Rd W lo g fs) :
    Calls Try.prog 145 #[.pointer (some ⟨g, 0, none⟩), .int .i64 tag] W fun e w' => e = .returned (.tuple #[.int .i64 (nV tag fs), .bool (nB tag fs)]) ∧ W.grownBy w' (some g) ∧ Rd w' lo g (tkR tag fs) := by
  have D1 := hidk (data_any W lo g fs tag h)
  have hs := h.small tag
  unfold nV nB
  obtain ⟨d, hd⟩ : ∃ d, d = tkD tag fs := ⟨_, rfl⟩
  obtain ⟨b, hb⟩ : ∃ b, b = tkB tag fs := ⟨_, rfl⟩
  obtain ⟨r, hr⟩ : ∃ r, r = tkR tag fs := ⟨_, rfl⟩
  rw [← hd] at hs ⊢
  rw [← hd, ← hb, ← hr] at D1
  rw [← hb, ← hr]
  obtain ⟨n, hn⟩ : ∃ n, n = vOf d.data.toList := ⟨_, rfl⟩
  obtain ⟨E, hE⟩ : ∃ n, n = eOf d.data.toList := ⟨_, rfl⟩
  have V1 : Hid (∀ W, Calls Try.prog 93 #[.string d] W fun e w' => e = .returned (.tuple #[.int .i64 n, .int .i64 E]) ∧ W = w') := fun W => by rw [hn, hE]; exact value_any d W hs
  rw [← hn]
  have hE2 : (E = 0 ∧ isNum d.data.toList = true) ∨ (E = 11 ∧ isNum d.data.toList = false) := by
    rw [hE]
    cases hq : isNum d.data.toList
    · exact .inr ⟨(v_no hq).2, rfl⟩
    · exact .inl ⟨(v_yes hq).2, rfl⟩
  clear hd hb hr hn hE hs h
  rcases hE2 with ⟨rfl, hq⟩ | ⟨rfl, hq⟩
  all_goals
    rw [hq]
    clear hq
    cases b
    all_goals
      go_enter Try.func145, Try.ntmps145
      go_wp2_with fail
      refine D1.out.mono ?_
      rintro e w1 ⟨rfl, hg1, hr1⟩
      have HG := hidk hg1
      have HR := hidk hr1
      clear hg1 hr1
      go_wp2_with fail
      refine (V1.out _).mono ?_
      rintro e w2 ⟨rfl, rfl⟩
      go_wp2
      go_ret2
      exact ⟨rfl, HG.out, HR.out⟩
theorem wpList_copy_text {ops : Array Oper} {rest : List Oper} {o : Oper} {a : Act} {w : World} {Q : Exit → Act → World → Prop} (hgd : o.guard = none) (s x : Operand) (hop : o.op = Op.call { callee := Callee.builtin Builtin.copy, args := #[s, x], argTypes := #[61, 9] })
    (g : Nat) (t : TypeId) (hs : a.eval s = .slice (some ⟨g, 0, none⟩) 32 32) (u : ByteArray) (hx : a.eval x = .string u) (hu : u.size = 32) (Z D : Array Value) (hZ : Z.size = 32) (HD : Hid (D = (cellsOf u.data.toList).toArray)) (hg : w.heap[g]? = some (.cells Z t (0, 0)))
    (h : ∀ w', Hid (Wrote g D t w w') → wpList Try.prog ops Q rest (a.put o.dst (.int .i64 32)) w') : wpList Try.prog ops Q (o :: rest) a w := by
  refine wpList_plain hgd fun K hK => ?_
  have hrun := Lib.run_copy_row_string (P := Try.prog) w 61 9 o.type 5 g 0 32 32 u Z t Try.underlying61 (by kernel_rfl) hg (by omega) (by omega)
  have e : (Z.toList.take 0 ++ Lib.byteCells u.data.toList ++ Z.toList.drop (0 + u.size)).toArray = D := by
    rw [HD.out, List.take_zero, List.nil_append, List.drop_of_length_le (by rw [Array.length_toList]; omega), List.append_nil]
    rfl
  rw [e, hu] at hrun
  unfold Oper.wp
  simp [execOp, hop, resolve, invoke, builtin, hs, hx, hrun, Result.andThen, goInt]
  exact hK _ _ (h _ (wrote_row hg))
def dB (tag : Int) (fs : List (Int × ByteArray)) : Bool := tkB tag fs && decide ((tkD tag fs).size = 32)
def dV (tag : Int) (fs : List (Int × ByteArray)) : List UInt8 := if dB tag fs = true then (tkD tag fs).data.toList else List.replicate 32 0
theorem dV_length (tag : Int) (fs : List (Int × ByteArray)) : (dV tag fs).length = 32 := by
  unfold dV
  split
  · rename_i h
    unfold dB at h
    simp only [Bool.and_eq_true, decide_eq_true_eq] at h
    exact h.2
  · rfl
set_option maxHeartbeats 4000000 in
theorem rdig_any (W : World) (lo g : Nat) (fs : List (Int × ByteArray)) (tag : Int) (h : Rd W lo g fs) (D : Array Value) (HD : Hid (D = (cellsOf (dV tag fs)).toArray)) :
    Calls Try.prog 147 #[.pointer (some ⟨g, 0, none⟩), .int .i64 tag] W fun e w' => e = .returned (.tuple #[.agg D, .bool (dB tag fs)]) ∧ W.grownBy w' (some g) ∧ Rd w' lo g (tkR tag fs) := by
  obtain ⟨Z, HZ, HA, HS, H1, H32⟩ := noughts27
  have HH := hidk h
  have D1 : Hid (∀ V, Rd V lo g fs → Calls Try.prog 149 #[.pointer (some ⟨g, 0, none⟩), .int .i64 tag] V fun e w' => e = .returned (.tuple #[.string (tkD tag fs), .bool (tkB tag fs)]) ∧ V.grownBy w' (some g) ∧ Rd w' lo g (tkR tag fs)) := fun V hV => data_any V lo g fs tag hV
  have hs := h.small tag
  have hlt := h.lt
  have HSD : Hid ((Try.prog.info? 30).map (·.size) = some D.size) := by show _ = _; rw [size23, HD.out]; simp [cellsOf_length, dV_length]
  have H1D : Hid (D.all (·.oneCell') = true) := by show _ = _; rw [HD.out]; exact cellsOf_all _
  have HZD : Hid (Z.size = D.size) := by show _ = _; rw [H32.out, HD.out]; simp [cellsOf_length, dV_length]
  have h32 : Z.size = 32 := H32.out
  have HSZ := HS
  have HDV : dB tag fs = true → Hid (D = (cellsOf (tkD tag fs).data.toList).toArray) := fun hq => by
    show _ = _
    rw [HD.out]; unfold dV; rw [if_pos hq]
  have HDZ : dB tag fs = false → Hid (D = Z) := fun hq => by
    show _ = _
    rw [HD.out, HZ.out]; unfold dV; rw [if_neg (by rw [hq]; simp)]
  have hnot : ∀ (x : Bool) (w : World), (Op.unary .not (.bool x)).run Try.prog w = .ok (.bool (!x)) w := fun _ _ => rfl
  unfold dB at HDV HDZ ⊢
  clear HD HZ
  obtain ⟨d, hd⟩ : ∃ d, d = tkD tag fs := ⟨_, rfl⟩
  obtain ⟨b, hb⟩ : ∃ b, b = tkB tag fs := ⟨_, rfl⟩
  obtain ⟨r, hr⟩ : ∃ r, r = tkR tag fs := ⟨_, rfl⟩
  rw [← hd] at hs
  simp only [← hd, ← hb, ← hr] at D1 HDV HDZ ⊢
  unfold maxLen at hs
  clear hd hb hr h
  cases b
  · obtain rfl := (HDZ rfl).out
    clear HDV HDZ
    go_enter Try.func147, Try.ntmps147
    go_wp2_with (first
      | (show aD 4 _ _ _ _ _ _ _ _ _ _ _; refine wpList_new_var rfl 30 rfl D HA.out ?_; intro g4 w1 HM4; try simp only [Act.put, pS1, pS2, pS3])
      | (show aD 6 _ _ _ _ _ _ _ _ _ _ _; refine wpList_new_var rfl 30 rfl D HA.out ?_; intro g6 w2 HM6; try simp only [Act.put, pS1, pS2, pS3])
      | fail)
    have HB2 : Hid (Below W.heap.size W w2) := HM4.out.below.trans (HM6.out.below.mono HM4.out.below.size)
    refine (D1.out w2 (HH.out.below HB2.out)).mono ?_
    rintro e w3 ⟨rfl, hg3, hr3⟩
    have HG3 := hidk (grown_trans (grown_below HB2.out) hg3)
    have HR3 := hidk hr3
    have h4 : W.heap.size ≤ g4 := Nat.le_of_eq HM4.out.new.symm
    have h6 : g4 < g6 := by have e1 := HM6.out.new; have := heap_lt HM4.out.row; omega
    have HR4 : Hid (w3.heap[g4]? = some (.cells D 30 (0, 0))) := by
      have q : w2.heap[g4]? = some (.cells D 30 (0, 0)) := (HM6.out.below.block _ (heap_lt HM4.out.row)).trans HM4.out.row
      exact (hg3.block _ (heap_lt q) (by intro e; cases e; omega)).trans q
    have HR6 : Hid (w3.heap[g6]? = some (.cells D 30 (0, 0))) := (hg3.block _ (heap_lt HM6.out.row) (by intro e; cases e; omega)).trans HM6.out.row
    clear HM4 HM6 HB2 hg3 hr3 D1 HH
    go_wp2_with (first
      | (show aD 22 _ _ _ _ _ _ _ _ _ _ _; refine wpList_load_row rfl 30 (.tmp 6) rfl g6 rfl 30 D (0, 0) _ HR6.out Try.underlying30 rfl HSD.out ?_; try simp only [Act.put, pS1, pS2, pS3])
      | (refine wpList_set_var rfl 30 (.tmp 4) (.tmp 22) rfl g4 D rfl rfl 30 D HR4.out HSD.out rfl H1D.out ?_; intro w4 HW4; try simp only [Act.put, pS1, pS2, pS3])
      | fail)
    refine bodyPost_ret (v := .tuple #[.agg D, .bool false]) ?_ rfl ⟨rfl, ?_, HR3.out.wrote HW4.out (.inr (by omega))⟩
    · exact results_row_tmp (p := 4) (q := 5) (ty := 30) rfl _ _ g4 30 D (0, 0) _ rfl HW4.out.row Try.underlying30 rfl HSD.out
    · exact grown_wrote HG3.out HW4.out (by omega)
  · by_cases h2 : d.size = 32
    · have HDD := HDV (by simpa using h2)
      have hd : decide (d.size = 32) = true := by simpa using h2
      rw [hd]
      clear HDV HDZ hd
      go_enter Try.func147, Try.ntmps147
      go_wp2_with (first
        | (show aD 4 _ _ _ _ _ _ _ _ _ _ _; refine wpList_new_var rfl 30 rfl Z HA.out ?_; intro g4 w1 HM4; try simp only [Act.put, pS1, pS2, pS3])
        | (show aD 6 _ _ _ _ _ _ _ _ _ _ _; refine wpList_new_var rfl 30 rfl Z HA.out ?_; intro g6 w2 HM6; try simp only [Act.put, pS1, pS2, pS3])
        | fail)
      have HB2 : Hid (Below W.heap.size W w2) := HM4.out.below.trans (HM6.out.below.mono HM4.out.below.size)
      refine (D1.out w2 (HH.out.below HB2.out)).mono ?_
      rintro e w3 ⟨rfl, hg3, hr3⟩
      have HG3 := hidk (grown_trans (grown_below HB2.out) hg3)
      have HR3 := hidk hr3
      have h4 : W.heap.size ≤ g4 := Nat.le_of_eq HM4.out.new.symm
      have h6 : g4 < g6 := by have e1 := HM6.out.new; have := heap_lt HM4.out.row; omega
      have HR4 : Hid (w3.heap[g4]? = some (.cells Z 30 (0, 0))) := by
        have q : w2.heap[g4]? = some (.cells Z 30 (0, 0)) := (HM6.out.below.block _ (heap_lt HM4.out.row)).trans HM4.out.row
        exact (hg3.block _ (heap_lt q) (by intro e; cases e; omega)).trans q
      have HR6 : Hid (w3.heap[g6]? = some (.cells Z 30 (0, 0))) := (hg3.block _ (heap_lt HM6.out.row) (by intro e; cases e; omega)).trans HM6.out.row
      have hsl := slice_at w3 g6 0
      have hd2 : (d.size : Int) = 32 := by omega
      clear HM4 HM6 HB2 hg3 hr3 D1 HH hs
      go_wp2_with (first
        | (refine wpList_copy_text rfl (.tmp 23) (.tmp 24) rfl g6 30 rfl d rfl h2 Z D h32 HDD HR6.out ?_; intro w4 HW6; try simp only [Act.put, pS1, pS2, pS3])
        | (show aD 26 _ _ _ _ _ _ _ _ _ _ _; refine wpList_load_row rfl 30 (.tmp 6) rfl g6 rfl 30 D (0, 0) _ HW6.out.row Try.underlying30 rfl HSD.out ?_; try simp only [Act.put, pS1, pS2, pS3])
        | (refine wpList_set_var rfl 30 (.tmp 4) (.tmp 26) rfl g4 D rfl rfl 30 Z ((HW6.out.other _ (by omega)).trans HR4.out) HSD.out HZD.out H1D.out ?_; intro w5 HW4; try simp only [Act.put, pS1, pS2, pS3])
        | fail)
      refine bodyPost_ret (v := .tuple #[.agg D, .bool true]) ?_ rfl ⟨rfl, ?_, (HR3.out.wrote HW6.out (.inr (by omega))).wrote HW4.out (.inr (by omega))⟩
      · exact results_row_tmp (p := 4) (q := 5) (ty := 30) rfl _ _ g4 30 D (0, 0) _ rfl HW4.out.row Try.underlying30 rfl HSD.out
      · exact grown_wrote (grown_wrote HG3.out HW6.out (by omega)) HW4.out (by omega)
    · have hd : decide (d.size = 32) = false := by simpa using h2
      rw [hd] at HDZ ⊢
      obtain rfl := (HDZ rfl).out
      clear HDV HDZ hd
      have hd2 : ¬ (d.size : Int) = 32 := by omega
      go_enter Try.func147, Try.ntmps147
      go_wp2_with (first
        | (show aD 4 _ _ _ _ _ _ _ _ _ _ _; refine wpList_new_var rfl 30 rfl D HA.out ?_; intro g4 w1 HM4; try simp only [Act.put, pS1, pS2, pS3])
        | (show aD 6 _ _ _ _ _ _ _ _ _ _ _; refine wpList_new_var rfl 30 rfl D HA.out ?_; intro g6 w2 HM6; try simp only [Act.put, pS1, pS2, pS3])
        | fail)
      have HB2 : Hid (Below W.heap.size W w2) := HM4.out.below.trans (HM6.out.below.mono HM4.out.below.size)
      refine (D1.out w2 (HH.out.below HB2.out)).mono ?_
      rintro e w3 ⟨rfl, hg3, hr3⟩
      have HG3 := hidk (grown_trans (grown_below HB2.out) hg3)
      have HR3 := hidk hr3
      have h4 : W.heap.size ≤ g4 := Nat.le_of_eq HM4.out.new.symm
      have h6 : g4 < g6 := by have e1 := HM6.out.new; have := heap_lt HM4.out.row; omega
      have HR4 : Hid (w3.heap[g4]? = some (.cells D 30 (0, 0))) := by
        have q : w2.heap[g4]? = some (.cells D 30 (0, 0)) := (HM6.out.below.block _ (heap_lt HM4.out.row)).trans HM4.out.row
        exact (hg3.block _ (heap_lt q) (by intro e; cases e; omega)).trans q
      have HR6 : Hid (w3.heap[g6]? = some (.cells D 30 (0, 0))) := (hg3.block _ (heap_lt HM6.out.row) (by intro e; cases e; omega)).trans HM6.out.row
      clear HM4 HM6 HB2 hg3 hr3 D1 HH h2
      go_wp2_with (first
        | (show aD 22 _ _ _ _ _ _ _ _ _ _ _; refine wpList_load_row rfl 30 (.tmp 6) rfl g6 rfl 30 D (0, 0) _ HR6.out Try.underlying30 rfl HSD.out ?_; try simp only [Act.put, pS1, pS2, pS3])
        | (refine wpList_set_var rfl 30 (.tmp 4) (.tmp 22) rfl g4 D rfl rfl 30 D HR4.out HSD.out rfl H1D.out ?_; intro w4 HW4; try simp only [Act.put, pS1, pS2, pS3])
        | fail)
      refine bodyPost_ret (v := .tuple #[.agg D, .bool false]) ?_ rfl ⟨rfl, ?_, HR3.out.wrote HW4.out (.inr (by omega))⟩
      · exact results_row_tmp (p := 4) (q := 5) (ty := 30) rfl _ _ g4 30 D (0, 0) _ rfl HW4.out.row Try.underlying30 rfl HSD.out
      · exact grown_wrote HG3.out HW4.out (by omega)
theorem scells_sign (h : HdT) (n : Int) (t d : List UInt8) (hd : h.d.length = 32) (ht : t.length = 32) : ((scells ⟨h, n, t⟩).toArray.toList.take 37 ++ cellsOf d ++ (scells ⟨h, n, t⟩).toArray.toList.drop (37 + 32)).toArray = (scells ⟨h, n, d⟩).toArray := by
  unfold scells
  congr 1
  have e : ∀ l : List Value, l.toArray.toList = l := fun _ => rfl
  simp only [e, List.drop_append, List.take_append, List.length_append, hcells_length h hd, cellsOf_length, ht, List.length_singleton]
  rw [List.take_of_length_le (l := hcells h) (by rw [hcells_length h hd]; omega), List.drop_of_length_le (l := hcells h) (by rw [hcells_length h hd]; omega), List.drop_of_length_le (l := cellsOf t) (by rw [cellsOf_length, ht]; omega)]
  simp
end Go.Proofs.Ytjpmmbmhkpgjcaa
