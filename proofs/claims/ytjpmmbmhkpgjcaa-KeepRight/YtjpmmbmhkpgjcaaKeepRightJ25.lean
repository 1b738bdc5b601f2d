/- Texts of our own that the row of KeepRight leans on, part 25. -/
import Derived.Test.YtjpmmbmhkpgjcaaKeepRightJ0
import Derived.Test.YtjpmmbmhkpgjcaaKeepRightJ1
import Derived.Test.YtjpmmbmhkpgjcaaKeepRightJ15
import Derived.Test.YtjpmmbmhkpgjcaaKeepRightJ17
import Derived.Test.YtjpmmbmhkpgjcaaKeepRightJ20
import Derived.Test.YtjpmmbmhkpgjcaaKeepRightJ22
import Derived.Test.YtjpmmbmhkpgjcaaKeepRightJ24
import Derived.Deep.RegionHeld3
/- Slices of items in memory. -/
namespace Go.Proofs.Ytjpmmbmhkpgjcaa
open Go.RowKit Nums Sums
set_option linter.unusedVariables false
set_option linter.unusedSimpArgs false
set_option maxRecDepth 100000
structure IReads (w : World) (a : Option Addr) (len cap : Nat) (l : List ItT) : Prop where
  ln : l.length = len
  cp : len ≤ cap
  mx : len ≤ maxLen
  ok : ∀ x ∈ l, OkE x.e
  lies : len = 0 ∨ ∃ g o, a = some ⟨g, o, none⟩ ∧ ∀ (i : Nat) (h : i < l.length), w.rangeAt g (o + 110 * i) (icells l[i])
theorem range_lt {w : World} {g o : Nat} {l : List Value} (h : w.rangeAt g o l) (hl : 0 < l.length) : g < w.heap.size := by
  have := h 0 l[0] (List.getElem?_eq_getElem hl)
  exact World.block_lt_of_cell? _ _ this
theorem range_below {B : Nat} {w w' : World} {g o : Nat} {l : List Value} (h : w.rangeAt g o l) (hb : Below B w w') (hg : g < B) : w'.rangeAt g o l := fun j v hj => by
  rw [hb.cell hg]; exact h j v hj
theorem IReads.at {w : World} {a : Option Addr} {len cap : Nat} {l : List ItT} (h : IReads w a len cap l) (h0 : 0 < len) : ∃ g o, a = some ⟨g, o, none⟩ ∧ g < w.heap.size := by
  rcases h.lies with h5 | ⟨g, o, ha, hl⟩
  · omega
  · have h1 := h.ln
    refine ⟨g, o, ha, range_lt (hl 0 (by omega)) ?_⟩
    rw [icells_length _ (h.ok _ (List.getElem_mem (by omega)))]
    omega
theorem IReads.below {w w' : World} {a : Option Addr} {len cap B : Nat} {l : List ItT} (h : IReads w a len cap l) (hb : Below B w w') (hB : ∀ g o, a = some ⟨g, o, none⟩ → 0 < len → g < B) : IReads w' a len cap l := by
  refine ⟨h.ln, h.cp, h.mx, h.ok, ?_⟩
  by_cases h0 : len = 0
  · exact .inl h0
  · rcases h.lies with h5 | ⟨g, o, ha, hl⟩
    · exact .inl h5
    · exact .inr ⟨g, o, ha, fun i hi => range_below (hl i hi) hb (hB g o ha (by omega))⟩
theorem IReads.keep {w w' : World} {a : Option Addr} {len cap : Nat} {l : List ItT} (h : IReads w a len cap l) (hb : Below w.heap.size w w') : IReads w' a len cap l := by
  refine h.below hb fun g o ha h0 => ?_
  obtain ⟨g', o', ha', hl⟩ := h.at h0
  rw [ha] at ha'
  cases ha'
  exact hl
theorem IReads.range {w : World} {g o len cap : Nat} {l : List ItT} (h : IReads w (some ⟨g, o, none⟩) len cap l) (i : Nat) (hi : i < l.length) : w.rangeAt g (o + 110 * i) (icells l[i]) := by
  have h1 := h.ln
  rcases h.lies with h5 | ⟨g', o', ha, hl⟩
  · omega
  · cases ha
    exact hl i hi
theorem IReads.cell {w : World} {g o len cap : Nat} {l : List ItT} (h : IReads w (some ⟨g, o, none⟩) len cap l) (i : Nat) (hi : i < l.length) (j : Nat) (v : Value) (hj : (icells l[i])[j]? = some v) : w.cell? ⟨g, o + 110 * i + j, none⟩ = some v := h.range i hi j v hj
theorem IReads.take {w : World} {a : Option Addr} {len cap : Nat} {l : List ItT} (h : IReads w a len cap l) (k : Nat) (hk : k ≤ len) : IReads w a k cap (l.take k) := by
  have h1 := h.ln
  have h2 := h.cp
  have h3 := h.mx
  refine ⟨by rw [List.length_take]; omega, by omega, by omega, fun x hx => h.ok x (List.mem_of_mem_take hx), ?_⟩
  rcases h.lies with h5 | ⟨g, o, ha, hl⟩
  · exact .inl (by omega)
  · refine .inr ⟨g, o, ha, fun i hi => ?_⟩
    rw [List.length_take] at hi
    rw [List.getElem_take]
    exact hl i (by omega)
theorem ireads_none (w : World) : IReads w none 0 0 [] := ⟨rfl, Nat.le_refl _, Nat.zero_le _, (fun x hx => by cases hx), .inl rfl⟩
theorem icells_p (x : ItT) : (icells x)[0]? = some (.int .i64 x.p) := rfl
theorem icells_k (x : ItT) : (icells x)[1]? = some (.int .i64 x.e.k) := rfl
theorem icells_c (x : ItT) : (icells x)[2]? = some (.int .i64 x.e.c) := rfl
theorem range_entry {w : World} {g o : Nat} {x : ItT} (h : w.rangeAt g o (icells x)) : w.rangeAt g (o + 1) (ecells x.e) := fun j v hj => by
  have := h (j + 1) v (by show ([Value.int .i64 x.p] ++ ecells x.e)[j + 1]? = _; simpa using hj)
  rw [← this]
  congr 2
  omega
theorem sizeOfI (w : World) : (sizeOf 40).run Try.prog w = .ok 110 w := by
  have hz : (Try.prog.info? 40).map (·.size) = some 110 := by kernel_rfl
  cases hq : Try.prog.info? 40 with
  | none => simp [hq] at hz
  | some i => simp [hq] at hz; simp [sizeOf, typeInfo, hq, hz]
theorem slice_items (W : World) (g o len cap k : Nat) (hk : k ≤ cap) : (Instr.sliceAt 22 (.slice (some ⟨g, o, none⟩) len cap) none (some (.int .i64 k)) none).run Try.prog W = .ok (.slice (some ⟨g, o, none⟩) k cap) W := by
  simp [Instr.sliceAt, Instr.slice, Instr.sliceBounds, Instr.sliceBound, asIntOf, run_underlying Try.underlying22, sizeOfI, hk]
  rw [add_plain]
  simp
theorem slice_items_none (W : World) : (Instr.sliceAt 22 (.slice none 0 0) none (some (.int .i64 0)) none).run Try.prog W = .ok (.slice none 0 0) W := by
  simp [Instr.sliceAt, Instr.slice, Instr.sliceBounds, Instr.sliceBound, asIntOf, run_underlying Try.underlying22, sizeOfI]
theorem index_item (W : World) (g o len cap i : Nat) (k : IntKind) (hi : i < len) : (Instr.indexAt 22 (.slice (some ⟨g, o, none⟩) len cap) (.int k i)).run Try.prog W = .ok (.pointer (some ⟨g, o + 110 * i, none⟩)) W := by
  simp [Instr.indexAt, asIntOf, run_underlying Try.underlying22, sizeOfI, hi]
  rw [add_plain, Nat.mul_comm]
def icL (l : List ItT) : List Value := l.flatMap icells
theorem icL_nil : icL [] = [] := rfl
theorem icL_cons (x : ItT) (l : List ItT) : icL (x :: l) = icells x ++ icL l := by unfold icL; rw [List.flatMap_cons]
theorem icL_append (l r : List ItT) : icL (l ++ r) = icL l ++ icL r := by unfold icL; rw [List.flatMap_append]
theorem icL_length : ∀ (l : List ItT), (∀ x ∈ l, OkE x.e) → (icL l).length = l.length * 110
  | [], _ => rfl
  | x :: l, h => by
    rw [icL_cons, List.length_append, icells_length _ (h x (by simp)), icL_length l fun y hy => h y (by simp [hy]), List.length_cons]
    omega
theorem icL_at : ∀ (l : List ItT), (∀ x ∈ l, OkE x.e) → ∀ (i : Nat) (hi : i < l.length) (j : Nat) (v : Value), (icells l[i])[j]? = some v → (icL l)[110 * i + j]? = some v
  | [], _, i, hi, _, _, _ => by cases hi
  | x :: l, h, i, hi, j, v, hj => by
    have hx := icells_length _ (h x (by simp))
    rw [icL_cons]
    cases i with
    | zero =>
      have hj' : (icells x)[j]? = some v := hj
      have : j < (icells x).length := (List.getElem?_eq_some_iff.1 hj').1
      rw [List.getElem?_append_left (by omega)]
      simpa using hj'
    | succ i =>
      rw [List.getElem?_append_right (by omega), hx]
      have := icL_at l (fun y hy => h y (by simp [hy])) i (by simpa using hi) j v (by simpa using hj)
      rw [← this]
      congr 1
      omega
theorem icL_back : ∀ (l : List ItT), (∀ x ∈ l, OkE x.e) → ∀ (j : Nat) (v : Value), (icL l)[j]? = some v → ∃ i, ∃ hi : i < l.length, ∃ k, j = 110 * i + k ∧ (icells l[i])[k]? = some v
  | [], _, j, v, hj => by simp [icL_nil] at hj
  | x :: l, h, j, v, hj => by
    have hx := icells_length _ (h x (by simp))
    rw [icL_cons] at hj
    by_cases hlt : j < 110
    · rw [List.getElem?_append_left (by omega)] at hj
      exact ⟨0, by simp, j, by omega, hj⟩
    · rw [List.getElem?_append_right (by omega), hx] at hj
      obtain ⟨i, hi, k, e, hk⟩ := icL_back l (fun y hy => h y (by simp [hy])) _ v hj
      exact ⟨i + 1, by simpa using hi, k, by omega, by simpa using hk⟩
theorem icells_one (x : ItT) : ∀ v ∈ icells x, v.oneCell' = true := by
  intro v hv
  have h := one_cellsI x
  rw [List.all_toArray, List.all_eq_true] at h
  exact h v hv
theorem icL_one (l : List ItT) : ∀ v ∈ icL l, v.oneCell' = true := by
  intro v hv
  obtain ⟨x, _, hv⟩ := List.mem_flatMap.1 hv
  exact icells_one x v hv
theorem IReads.puts {w : World} {ad : Addr} {len cap : Nat} {l : List ItT} (h : IReads w (some ad) len cap l) : ∀ j u, (icL l)[j]? = some u → w.cell? (ad.add j) = some u := fun j u hj => by
  obtain ⟨i, hi, k, rfl, hk⟩ := icL_back l h.ok j u hj
  have h1 := h.ln
  rcases h.lies with h5 | ⟨g, o, ha, hl⟩
  · omega
  · cases ha
    rw [add_plain, ← Nat.add_assoc]
    exact hl i hi k u hk
theorem infoIt : (Try.prog.info? 40).map (fun i => (i.zero, i.size, i.bytes)) = some (some (.agg (icells ⟨0, zeroE⟩).toArray), 110, 216) := by kernel_rfl
theorem run_append_items {w : World} {a : Option Addr} {len cap : Nat} {l : List ItT} (h : IReads w a len cap l) (hc0 : a = none → cap = 0) (B n : Nat) (v : Value) (xs : List ItT)
    (hown : w.ownsRow B 40 110 v n (icL xs)) (hB : B ≤ w.heap.size) (hb : n + len ≤ 1000000) :
    ∃ v' w', (Builtin.append_ #[22, 22] 22 #[v, .slice a len cap]).run Try.prog w = .ok v' w' ∧
      w'.ownsRow B 40 110 v' (n + len) (icL (xs ++ l)) ∧ w.grownBy w' v.ownBlock := by
  obtain ⟨i0, hi, hz0, hz1, hz2⟩ := info_parts infoIt
  have h1 := h.ln
  cases a with
  | none =>
    obtain rfl : cap = 0 := hc0 rfl
    have hl0 : len = 0 := by have := h.cp; omega
    subst hl0
    obtain rfl : l = [] := List.eq_nil_of_length_eq_zero h1
    refine ⟨v, w, run_append_owned_none (P := Try.prog) w B 22 22 40 i0 110 Try.underlying22 hi _ n _ hown, ?_, World.grownBy.refl _ _⟩
    simpa using hown
  | some ad =>
    obtain ⟨v', w', hr, ho, hg, _⟩ := run_append_own (P := Try.prog) w B 22 22 40 i0 _ 110 216 Try.underlying22 hi hz0 hz1 hz2 (by rfl) (by decide) v n _ hown ad len cap (icL l) (by rw [icL_length l h.ok, h1]) h.puts (icL_one l) (by unfold maxLen; omega) (by omega) hB
    refine ⟨v', w', hr, ?_, hg⟩
    rw [icL_append]
    exact ho
theorem IReads.own {w : World} {B n : Nat} {v : Value} {l : List ItT} (h : w.ownsRow B 40 110 v n (icL l)) (hok : ∀ x ∈ l, OkE x.e) : ∃ a cap, v = .slice a n cap ∧ IReads w a n cap l ∧ (a = none → cap = 0) ∧ (∀ g o, a = some ⟨g, o, none⟩ → B ≤ g ∧ v.ownBlock = some g) := by
  have hl : l.length = n := by have := h.1; rw [icL_length l hok] at this; omega
  rcases h.2 with ⟨rfl, h0⟩ | ⟨g, cap, cur, rfl, hb, hg, hc, hm, hs, ht⟩
  · subst h0
    exact ⟨none, 0, rfl, ⟨hl, Nat.le_refl _, Nat.zero_le _, hok, .inl rfl⟩, fun _ => rfl, fun g o e => by cases e⟩
  · refine ⟨some ⟨g, 0, none⟩, cap, rfl, ⟨hl, hc, by omega, hok, .inr ⟨g, 0, rfl, fun i hi j v hj => ?_⟩⟩, (fun e => by cases e), fun g' o' e => by cases e; exact ⟨hb, rfl⟩⟩
    have := h.cells (g := g) rfl _ _ (icL_at l hok i hi j v hj)
    rw [add_plain] at this
    rw [Nat.zero_add]
    simpa using this
def bigL (l : List ItT) : Bool := decide (60 < l.length) || l.any fun x => decide (1000 < x.e.t.size)
theorem bigL_yes {l : List ItT} (i : Nat) (hi : i < l.length) (h : 1000 < l[i].e.t.size) : bigL l = true := by
  unfold bigL
  rw [Bool.or_eq_true, List.any_eq_true]
  exact .inr ⟨l[i], List.getElem_mem hi, by simpa using h⟩
theorem bigL_no {l : List ItT} (hl : l.length ≤ 60) (h : ∀ x ∈ l, x.e.t.size ≤ 1000) : bigL l = false := by
  unfold bigL
  rw [Bool.or_eq_false_iff, List.any_eq_false]
  exact ⟨decide_eq_false (by omega), fun x hx => by have := h x hx; simp; omega⟩
theorem take_mem_succ {α : Type} {l : List α} {k : Nat} (hk : k < l.length) {P : α → Prop} (h : ∀ x ∈ l.take k, P x) (h1 : P l[k]) : ∀ x ∈ l.take (k + 1), P x := by
  intro x hx
  rw [List.take_succ_eq_append_getElem hk] at hx
  rcases List.mem_append.1 hx with hx | hx
  · exact h x hx
  · obtain rfl : x = l[k] := by simpa using hx
    exact h1
set_option maxHeartbeats 2000000 in
theorem refBig_any (a : Option Addr) (len cap : Nat) (l : List ItT) (w : World) (h : IReads w a len cap l) (ht : ∀ x ∈ l, x.e.t.size ≤ maxLen) :
    Calls Try.prog 29 #[.slice a len cap] w fun e w' => e = .returned (.bool (bigL l)) ∧ w = w' := by
  have H := hidk h
  have HL := hidk h.ln
  have HT := hidk ht
  have hmx : len ≤ 9223372036854775807 := by have := h.mx; unfold maxLen at this; omega
  by_cases h5 : len ≤ 60
  · have h5' : decide ((60 : Int) < (len : Int)) = false := by rw [decide_eq_false_iff_not]; omega
    clear h ht
    go_enter Try.func29, Try.ntmps29
    go_wp2
    go_loop [3] (fun i => ∃ k : Nat, k ≤ len ∧ i = .int .i64 k ∧ Hid (∀ s ∈ l.take k, s.e.t.size ≤ 1000)) (fun i => len - (intOf i).toNat)
    case atStart => exact ⟨0, by omega, rfl, fun s hs => by simp at hs⟩
    case round =>
      obtain ⟨k, hk, rfl, HA⟩ := hrel
      by_cases hlt : k < len
      · obtain ⟨g, o, rfl, hg⟩ := H.out.at (by omega)
        have hkl : k < l.length := by have := HL.out; omega
        obtain ⟨t, Ht⟩ : ∃ t, Hid (t = l[k].e.t) := ⟨_, hidk rfl⟩
        have hc := H.out.cell k hkl 4 (.string t) (by rw [Ht.out]; rfl)
        have hts : t.size ≤ maxLen := by rw [Ht.out]; exact HT.out _ (List.getElem_mem hkl)
        unfold maxLen at hts
        have ix := fun W => index_item W g o len cap k .i64 hlt
        have hd : decide ((k : Int) < (len : Int)) = true := by rw [decide_eq_true_eq]; omega
        have hw1 := wrap_int ((k : Int) + 1) (by omega) (by omega)
        have htm : t.size ≤ 9223372036854775807 := by omega
        by_cases h4 : t.size ≤ 1000
        · have h4' : decide ((1000 : Int) < (t.size : Int)) = false := by rw [decide_eq_false_iff_not]; omega
          have HN : Hid (∀ s ∈ l.take (k + 1), s.e.t.size ≤ 1000) := take_mem_succ hkl HA.out (by rw [← Ht.out]; exact h4)
          clear Ht hkl
          go_wp2
          go_round
          case rel => exact ⟨k + 1, by omega, by go_num, HN⟩
          case measure => simp [intOf]; omega
        · have h4' : decide ((1000 : Int) < (t.size : Int)) = true := by rw [decide_eq_true_eq]; omega
          have HN : Hid (bigL l = true) := bigL_yes k hkl (by rw [← Ht.out]; omega)
          clear Ht hkl
          go_wp2
          go_ret
          exact ⟨by rw [HN.out]; rfl, rfl⟩
      · obtain rfl : len = k := by omega
        have hd : decide ((len : Int) < (len : Int)) = false := by rw [decide_eq_false_iff_not]; omega
        have HN : Hid (bigL l = false) := bigL_no (by have := HL.out; omega) (by have := HA.out; rwa [List.take_of_length_le (by have := HL.out; omega)] at this)
        go_wp2
        go_ret
        exact ⟨by rw [HN.out]; rfl, rfl⟩
  · have h5' : decide ((60 : Int) < (len : Int)) = true := by rw [decide_eq_true_eq]; omega
    have HN : Hid (bigL l = true) := by show _ = _; unfold bigL; rw [HL.out]; simp; left; omega
    clear h ht
    go_enter Try.func29, Try.ntmps29
    go_wp2
    go_ret
    exact ⟨by rw [HN.out]; rfl, rfl⟩
def enA (x : EnT) : Array Value := (ecells x).toArray
theorem enA_fit (x : EnT) (ok : OkE x) : Fit Try.prog 38 (enA x) := ⟨by rw [sizeE]; simp [enA, ecells_length x ok], one_cellsE x⟩
theorem enA_m {x : EnT} (ok : OkE x) (j : Nat) (v : Value) (hj : (ccells x.m)[j]? = some v) : (enA x)[73 + j]? = some v := by
  unfold enA ecells
  rw [List.getElem?_toArray, List.getElem?_append_right (by simp [scells_length _ ok.h ok.g]), show 73 + j - _ = j by simp [scells_length _ ok.h ok.g]]
  exact hj
theorem lead_yes {g : Int} {l : List ItT} (hg : g ≠ 1) (k : Nat) (hk : k < l.length) (hn : ∀ y ∈ l.take k, isLd g y = false) (hy : isLd g l[k] = true) : leadL g l = l[k].e.m.n := by
  unfold leadL
  rw [if_neg hg]
  have : l.find? (isLd g) = some l[k] := by
    rw [List.find?_eq_some_iff_append]
    refine ⟨hy, l.take k, l.drop (k + 1), ?_, fun a ha => by simpa using hn a ha⟩
    rw [← List.drop_eq_getElem_cons hk, List.take_append_drop]
  rw [this]; rfl
theorem lead_none {g : Int} {l : List ItT} (hg : g ≠ 1) (hn : ∀ y ∈ l, isLd g y = false) : leadL g l = 0 := by
  unfold leadL
  rw [if_neg hg]
  have : l.find? (isLd g) = none := by
    rw [List.find?_eq_none]
    intro x hx
    simpa using hn x hx
  rw [this]; rfl
def acells (a : AdT) : List Value := [.int .i64 a.r, .int .i64 a.n]
def OkA (_ : AdT) : Prop := True
theorem acells_length (a : AdT) (_ : OkA a) : (acells a).length = 2 := rfl
structure AReads (w : World) (a : Option Addr) (len cap : Nat) (l : List AdT) : Prop where
  ln : l.length = len
  cp : len ≤ cap
  mx : len ≤ maxLen
  ok : ∀ x ∈ l, OkA x
  lies : len = 0 ∨ ∃ g o, a = some ⟨g, o, none⟩ ∧ ∀ (i : Nat) (h : i < l.length), w.rangeAt g (o + 2 * i) (acells l[i])
theorem rngA_lt {w : World} {g o : Nat} {l : List Value} (h : w.rangeAt g o l) (hl : 0 < l.length) : g < w.heap.size := by
  have := h 0 l[0] (List.getElem?_eq_getElem hl)
  exact World.block_lt_of_cell? _ _ this
theorem rngA_below {B : Nat} {w w' : World} {g o : Nat} {l : List Value} (h : w.rangeAt g o l) (hb : Below B w w') (hg : g < B) : w'.rangeAt g o l := fun j v hj => by
  rw [hb.cell hg]; exact h j v hj
theorem AReads.at {w : World} {a : Option Addr} {len cap : Nat} {l : List AdT} (h : AReads w a len cap l) (h0 : 0 < len) : ∃ g o, a = some ⟨g, o, none⟩ ∧ g < w.heap.size := by
  rcases h.lies with h5 | ⟨g, o, ha, hl⟩
  · omega
  · have h1 := h.ln
    refine ⟨g, o, ha, rngA_lt (hl 0 (by omega)) ?_⟩
    rw [acells_length _ (h.ok _ (List.getElem_mem (by omega)))]
    omega
theorem AReads.below {w w' : World} {a : Option Addr} {len cap B : Nat} {l : List AdT} (h : AReads w a len cap l) (hb : Below B w w') (hB : ∀ g o, a = some ⟨g, o, none⟩ → 0 < len → g < B) : AReads w' a len cap l := by
  refine ⟨h.ln, h.cp, h.mx, h.ok, ?_⟩
  by_cases h0 : len = 0
  · exact .inl h0
  · rcases h.lies with h5 | ⟨g, o, ha, hl⟩
    · exact .inl h5
    · exact .inr ⟨g, o, ha, fun i hi => rngA_below (hl i hi) hb (hB g o ha (by omega))⟩
theorem AReads.keep {w w' : World} {a : Option Addr} {len cap : Nat} {l : List AdT} (h : AReads w a len cap l) (hb : Below w.heap.size w w') : AReads w' a len cap l := by
  refine h.below hb fun g o ha h0 => ?_
  obtain ⟨g', o', ha', hl⟩ := h.at h0
  rw [ha] at ha'
  cases ha'
  exact hl
theorem AReads.range {w : World} {g o len cap : Nat} {l : List AdT} (h : AReads w (some ⟨g, o, none⟩) len cap l) (i : Nat) (hi : i < l.length) : w.rangeAt g (o + 2 * i) (acells l[i]) := by
  have h1 := h.ln
  rcases h.lies with h5 | ⟨g', o', ha, hl⟩
  · omega
  · cases ha
    exact hl i hi
theorem AReads.cell {w : World} {g o len cap : Nat} {l : List AdT} (h : AReads w (some ⟨g, o, none⟩) len cap l) (i : Nat) (hi : i < l.length) (j : Nat) (v : Value) (hj : (acells l[i])[j]? = some v) : w.cell? ⟨g, o + 2 * i + j, none⟩ = some v := h.range i hi j v hj
theorem AReads.take {w : World} {a : Option Addr} {len cap : Nat} {l : List AdT} (h : AReads w a len cap l) (k : Nat) (hk : k ≤ len) : AReads w a k cap (l.take k) := by
  have h1 := h.ln
  have h2 := h.cp
  have h3 := h.mx
  refine ⟨by rw [List.length_take]; omega, by omega, by omega, fun x hx => h.ok x (List.mem_of_mem_take hx), ?_⟩
  rcases h.lies with h5 | ⟨g, o, ha, hl⟩
  · exact .inl (by omega)
  · refine .inr ⟨g, o, ha, fun i hi => ?_⟩
    rw [List.length_take] at hi
    rw [List.getElem_take]
    exact hl i (by omega)
def adcL (l : List AdT) : List Value := l.flatMap acells
theorem adcL_nil : adcL [] = [] := rfl
theorem adcL_cons (x : AdT) (l : List AdT) : adcL (x :: l) = acells x ++ adcL l := by unfold adcL; rw [List.flatMap_cons]
theorem adcL_back : ∀ (l : List AdT), (∀ x ∈ l, OkA x) → ∀ (j : Nat) (v : Value), (adcL l)[j]? = some v → ∃ i, ∃ hi : i < l.length, ∃ k, j = 2 * i + k ∧ (acells l[i])[k]? = some v
  | [], _, j, v, hj => by simp [adcL_nil] at hj
  | x :: l, h, j, v, hj => by
    have hx := acells_length _ (h x (by simp))
    rw [adcL_cons] at hj
    by_cases hlt : j < 2
    · rw [List.getElem?_append_left (by omega)] at hj
      exact ⟨0, by simp, j, by omega, hj⟩
    · rw [List.getElem?_append_right (by omega), hx] at hj
      obtain ⟨i, hi, k, e, hk⟩ := adcL_back l (fun y hy => h y (by simp [hy])) _ v hj
      exact ⟨i + 1, by simpa using hi, k, by omega, by simpa using hk⟩
theorem AReads.puts {w : World} {ad : Addr} {len cap : Nat} {l : List AdT} (h : AReads w (some ad) len cap l) : ∀ j u, (adcL l)[j]? = some u → w.cell? (ad.add j) = some u := fun j u hj => by
  obtain ⟨i, hi, k, rfl, hk⟩ := adcL_back l h.ok j u hj
  have h1 := h.ln
  rcases h.lies with h5 | ⟨g, o, ha, hl⟩
  · omega
  · cases ha
    rw [add_plain, ← Nat.add_assoc]
    exact hl i hi k u hk
def OkC (c : ClT) : Prop := c.d.length = 32
structure CReads (w : World) (a : Option Addr) (len cap : Nat) (l : List ClT) : Prop where
  ln : l.length = len
  cp : len ≤ cap
  mx : len ≤ maxLen
  ok : ∀ x ∈ l, OkC x
  lies : len = 0 ∨ ∃ g o, a = some ⟨g, o, none⟩ ∧ ∀ (i : Nat) (h : i < l.length), w.rangeAt g (o + 36 * i) (ccells l[i])
theorem CReads.at {w : World} {a : Option Addr} {len cap : Nat} {l : List ClT} (h : CReads w a len cap l) (h0 : 0 < len) : ∃ g o, a = some ⟨g, o, none⟩ ∧ g < w.heap.size := by
  rcases h.lies with h5 | ⟨g, o, ha, hl⟩
  · omega
  · have h1 := h.ln
    refine ⟨g, o, ha, rngA_lt (hl 0 (by omega)) ?_⟩
    rw [ccells_length _ (h.ok _ (List.getElem_mem (by omega)))]
    omega
theorem CReads.below {w w' : World} {a : Option Addr} {len cap B : Nat} {l : List ClT} (h : CReads w a len cap l) (hb : Below B w w') (hB : ∀ g o, a = some ⟨g, o, none⟩ → 0 < len → g < B) : CReads w' a len cap l := by
  refine ⟨h.ln, h.cp, h.mx, h.ok, ?_⟩
  by_cases h0 : len = 0
  · exact .inl h0
  · rcases h.lies with h5 | ⟨g, o, ha, hl⟩
    · exact .inl h5
    · exact .inr ⟨g, o, ha, fun i hi => rngA_below (hl i hi) hb (hB g o ha (by omega))⟩
theorem CReads.keep {w w' : World} {a : Option Addr} {len cap : Nat} {l : List ClT} (h : CReads w a len cap l) (hb : Below w.heap.size w w') : CReads w' a len cap l := by
  refine h.below hb fun g o ha h0 => ?_
  obtain ⟨g', o', ha', hl⟩ := h.at h0
  rw [ha] at ha'
  cases ha'
  exact hl
theorem CReads.range {w : World} {g o len cap : Nat} {l : List ClT} (h : CReads w (some ⟨g, o, none⟩) len cap l) (i : Nat) (hi : i < l.length) : w.rangeAt g (o + 36 * i) (ccells l[i]) := by
  have h1 := h.ln
  rcases h.lies with h5 | ⟨g', o', ha, hl⟩
  · omega
  · cases ha
    exact hl i hi
theorem CReads.cell {w : World} {g o len cap : Nat} {l : List ClT} (h : CReads w (some ⟨g, o, none⟩) len cap l) (i : Nat) (hi : i < l.length) (j : Nat) (v : Value) (hj : (ccells l[i])[j]? = some v) : w.cell? ⟨g, o + 36 * i + j, none⟩ = some v := h.range i hi j v hj
theorem CReads.take {w : World} {a : Option Addr} {len cap : Nat} {l : List ClT} (h : CReads w a len cap l) (k : Nat) (hk : k ≤ len) : CReads w a k cap (l.take k) := by
  have h1 := h.ln
  have h2 := h.cp
  have h3 := h.mx
  refine ⟨by rw [List.length_take]; omega, by omega, by omega, fun x hx => h.ok x (List.mem_of_mem_take hx), ?_⟩
  rcases h.lies with h5 | ⟨g, o, ha, hl⟩
  · exact .inl (by omega)
  · refine .inr ⟨g, o, ha, fun i hi => ?_⟩
    rw [List.length_take] at hi
    rw [List.getElem_take]
    exact hl i (by omega)
theorem clreads_none (w : World) : CReads w none 0 0 [] := ⟨rfl, Nat.le_refl _, Nat.zero_le _, (fun x hx => by cases hx), .inl rfl⟩
theorem sizeOfClis (w : World) : (sizeOf 36).run Try.prog w = .ok 36 w := by
  have hz : (Try.prog.info? 36).map (·.size) = some 36 := by kernel_rfl
  cases hq : Try.prog.info? 36 with
  | none => simp [hq] at hz
  | some i => simp [hq] at hz; simp [sizeOf, typeInfo, hq, hz]
theorem slice_cls (W : World) (g o len cap k : Nat) (hk : k ≤ cap) : (Instr.sliceAt 23 (.slice (some ⟨g, o, none⟩) len cap) none (some (.int .i64 k)) none).run Try.prog W = .ok (.slice (some ⟨g, o, none⟩) k cap) W := by
  simp [Instr.sliceAt, Instr.slice, Instr.sliceBounds, Instr.sliceBound, asIntOf, run_underlying Try.underlying23, sizeOfClis, hk]
  rw [add_plain]
  simp
theorem slice_cls_none (W : World) : (Instr.sliceAt 23 (.slice none 0 0) none (some (.int .i64 0)) none).run Try.prog W = .ok (.slice none 0 0) W := by
  simp [Instr.sliceAt, Instr.slice, Instr.sliceBounds, Instr.sliceBound, asIntOf, run_underlying Try.underlying23, sizeOfClis]
theorem index_cl (W : World) (g o len cap i : Nat) (k : IntKind) (hi : i < len) : (Instr.indexAt 23 (.slice (some ⟨g, o, none⟩) len cap) (.int k i)).run Try.prog W = .ok (.pointer (some ⟨g, o + 36 * i, none⟩)) W := by
  simp [Instr.indexAt, asIntOf, run_underlying Try.underlying23, sizeOfClis, hi]
  rw [add_plain, Nat.mul_comm]
def clcL (l : List ClT) : List Value := l.flatMap ccells
theorem clcL_nil : clcL [] = [] := rfl
theorem clcL_cons (x : ClT) (l : List ClT) : clcL (x :: l) = ccells x ++ clcL l := by unfold clcL; rw [List.flatMap_cons]
theorem clcL_append (l r : List ClT) : clcL (l ++ r) = clcL l ++ clcL r := by unfold clcL; rw [List.flatMap_append]
theorem clcL_length : ∀ (l : List ClT), (∀ x ∈ l, OkC x) → (clcL l).length = l.length * 36
  | [], _ => rfl
  | x :: l, h => by
    rw [clcL_cons, List.length_append, ccells_length _ (h x (by simp)), clcL_length l fun y hy => h y (by simp [hy]), List.length_cons]
    omega
theorem clcL_at : ∀ (l : List ClT), (∀ x ∈ l, OkC x) → ∀ (i : Nat) (hi : i < l.length) (j : Nat) (v : Value), (ccells l[i])[j]? = some v → (clcL l)[36 * i + j]? = some v
  | [], _, i, hi, _, _, _ => by cases hi
  | x :: l, h, i, hi, j, v, hj => by
    have hx := ccells_length _ (h x (by simp))
    rw [clcL_cons]
    cases i with
    | zero =>
      have hj' : (ccells x)[j]? = some v := hj
      have : j < (ccells x).length := (List.getElem?_eq_some_iff.1 hj').1
      rw [List.getElem?_append_left (by omega)]
      simpa using hj'
    | succ i =>
      rw [List.getElem?_append_right (by omega), hx]
      have := clcL_at l (fun y hy => h y (by simp [hy])) i (by simpa using hi) j v (by simpa using hj)
      rw [← this]
      congr 1
      omega
theorem clcL_back : ∀ (l : List ClT), (∀ x ∈ l, OkC x) → ∀ (j : Nat) (v : Value), (clcL l)[j]? = some v → ∃ i, ∃ hi : i < l.length, ∃ k, j = 36 * i + k ∧ (ccells l[i])[k]? = some v
  | [], _, j, v, hj => by simp [clcL_nil] at hj
  | x :: l, h, j, v, hj => by
    have hx := ccells_length _ (h x (by simp))
    rw [clcL_cons] at hj
    by_cases hlt : j < 36
    · rw [List.getElem?_append_left (by omega)] at hj
      exact ⟨0, by simp, j, by omega, hj⟩
    · rw [List.getElem?_append_right (by omega), hx] at hj
      obtain ⟨i, hi, k, e, hk⟩ := clcL_back l (fun y hy => h y (by simp [hy])) _ v hj
      exact ⟨i + 1, by simpa using hi, k, by omega, by simpa using hk⟩
theorem ccells_one (x : ClT) : ∀ v ∈ ccells x, v.oneCell' = true := by
  intro v hv
  unfold ccells at hv
  rcases List.mem_append.1 hv with h | h
  · simp at h
    rcases h with rfl | rfl | rfl | rfl <;> rfl
  · unfold cellsOf at h
    obtain ⟨b, _, rfl⟩ := List.mem_map.1 h
    rfl
theorem clcL_one (l : List ClT) : ∀ v ∈ clcL l, v.oneCell' = true := by
  intro v hv
  obtain ⟨x, _, hv⟩ := List.mem_flatMap.1 hv
  exact ccells_one x v hv
theorem CReads.puts {w : World} {ad : Addr} {len cap : Nat} {l : List ClT} (h : CReads w (some ad) len cap l) : ∀ j u, (clcL l)[j]? = some u → w.cell? (ad.add j) = some u := fun j u hj => by
  obtain ⟨i, hi, k, rfl, hk⟩ := clcL_back l h.ok j u hj
  have h1 := h.ln
  rcases h.lies with h5 | ⟨g, o, ha, hl⟩
  · omega
  · cases ha
    rw [add_plain, ← Nat.add_assoc]
    exact hl i hi k u hk
theorem infoClis : (Try.prog.info? 36).map (fun i => (i.zero, i.size, i.bytes)) = some (some (.agg (ccells ⟨0, 0, 0, 0, List.replicate 32 0⟩).toArray), 36, 64) := by kernel_rfl
theorem run_append_cls {w : World} {a : Option Addr} {len cap : Nat} {l : List ClT} (h : CReads w a len cap l) (hc0 : a = none → cap = 0) (B n : Nat) (v : Value) (xs : List ClT)
    (hown : w.ownsRow B 36 36 v n (clcL xs)) (hB : B ≤ w.heap.size) (hb : n + len ≤ 1000000) :
    ∃ v' w', (Builtin.append_ #[23, 23] 23 #[v, .slice a len cap]).run Try.prog w = .ok v' w' ∧
      w'.ownsRow B 36 36 v' (n + len) (clcL (xs ++ l)) ∧ w.grownBy w' v.ownBlock := by
  obtain ⟨i0, hi, hz0, hz1, hz2⟩ := info_parts infoClis
  have h1 := h.ln
  cases a with
  | none =>
    obtain rfl : cap = 0 := hc0 rfl
    have hl0 : len = 0 := by have := h.cp; omega
    subst hl0
    obtain rfl : l = [] := List.eq_nil_of_length_eq_zero h1
    refine ⟨v, w, run_append_owned_none (P := Try.prog) w B 23 23 36 i0 36 Try.underlying23 hi _ n _ hown, ?_, World.grownBy.refl _ _⟩
    simpa using hown
  | some ad =>
    obtain ⟨v', w', hr, ho, hg, _⟩ := run_append_own (P := Try.prog) w B 23 23 36 i0 _ 36 64 Try.underlying23 hi hz0 hz1 hz2 (by rfl) (by decide) v n _ hown ad len cap (clcL l) (by rw [clcL_length l h.ok, h1]) h.puts (clcL_one l) (by unfold maxLen; omega) (by omega) hB
    refine ⟨v', w', hr, ?_, hg⟩
    rw [clcL_append]
    exact ho
theorem CReads.own {w : World} {B n : Nat} {v : Value} {l : List ClT} (h : w.ownsRow B 36 36 v n (clcL l)) (hok : ∀ x ∈ l, OkC x) : ∃ a cap, v = .slice a n cap ∧ CReads w a n cap l ∧ (a = none → cap = 0) ∧ (∀ g o, a = some ⟨g, o, none⟩ → B ≤ g ∧ v.ownBlock = some g) := by
  have hl : l.length = n := by have := h.1; rw [clcL_length l hok] at this; omega
  rcases h.2 with ⟨rfl, h0⟩ | ⟨g, cap, cur, rfl, hb, hg, hc, hm, hs, ht⟩
  · subst h0
    exact ⟨none, 0, rfl, ⟨hl, Nat.le_refl _, Nat.zero_le _, hok, .inl rfl⟩, fun _ => rfl, fun g o e => by cases e⟩
  · refine ⟨some ⟨g, 0, none⟩, cap, rfl, ⟨hl, hc, by omega, hok, .inr ⟨g, 0, rfl, fun i hi j v hj => ?_⟩⟩, (fun e => by cases e), fun g' o' e => by cases e; exact ⟨hb, rfl⟩⟩
    have := h.cells (g := g) rfl _ _ (clcL_at l hok i hi j v hj)
    rw [add_plain] at this
    rw [Nat.zero_add]
    simpa using this
set_option maxHeartbeats 2000000 in
theorem refSame_any (a1 a2 : Option Addr) (len c1 c2 : Nat) (l : List ItT) (w : World) (h1 : IReads w a1 len c1 l) (h2 : IReads w a2 len c2 l) :
    Calls Try.prog 23 #[.slice a1 len c1, .slice a2 len c2] w fun e w' => e = .returned (.bool true) ∧ Below w.heap.size w w' := by
  have hlen := h1.ln
  have hmx : len ≤ 9223372036854775807 := by have := h1.mx; unfold maxLen at this; omega
  have H1 := hidk h1
  have H2 := hidk h2
  clear h1 h2
  have hdn : (!((len : Int) == (len : Int))) = false := by simp
  go_enter Try.func23, Try.ntmps23
  go_wp2
  go_loopw [5] (fun v wr => ∃ i : Nat, i ≤ len ∧ v = .int .i64 i ∧ Below w.heap.size w wr) (fun v _ => len - (intOf v).toNat)
  case atStart => exact ⟨0, by omega, rfl, Below.refl _ _⟩
  case round =>
    obtain ⟨i, hi, rfl, hB⟩ := hrel
    by_cases hlt : i < len
    · have hdi : decide ((i : Int) < (len : Int)) = true := by rw [decide_eq_true_eq]; omega
      have hw := wrap_int ((i : Int) + 1) (by omega) (by omega)
      obtain ⟨g1, o1, rfl, hg1⟩ := H1.out.at (by omega)
      obtain ⟨g2, o2, rfl, hg2⟩ := H2.out.at (by omega)
      have hil : i < l.length := by omega
      obtain ⟨A, HA⟩ : ∃ A, Hid (A = icells l[i]) := ⟨_, hidk rfl⟩
      have hok := H1.out.ok _ (List.getElem_mem hil)
      have z0 : (Try.prog.info? 40).map (·.size) = some A.length := by rw [sizeI, HA.out, icells_length _ hok]
      have hne := fun W => neqItem l[i] l[i] hok hok A.toArray A.toArray (by show _ = _; rw [HA.out]) (by show _ = _; rw [HA.out]) false (by simp) W
      have hS : wr.rangeAt g1 (o1 + 110 * i) A ∧ wr.rangeAt g2 (o2 + 110 * i) A := by
        rw [HA.out]
        exact ⟨(H1.out.keep hB).range i hil, (H2.out.keep hB).range i hil⟩
      have ix1 := fun W => index_item W g1 o1 len c1 i .i64 hlt
      have ix2 := fun W => index_item W g2 o2 len c2 i .i64 hlt
      clear HA hok hil
      go_wp2
      refine wp_region_held_drew (S := (fun W => W.rangeAt g1 (o1 + 110 * i) A ∧ W.rangeAt g2 (o2 + 110 * i) A)) (by kernel_rfl) hS (fun hHeld => ?_)
      refine zW 0 (.slice (some ⟨g1, o1, none⟩) len c1) rfl (Or.inl ⟨by rfl, by intro w hSw; go_simp⟩) hHeld ?_
      try simp only [Act.put, pS1, pS2, pS3]
      refine zW 1 (.int .i64 i) rfl (Or.inl ⟨by rfl, by intro w hSw; go_simp⟩) hHeld ?_
      try simp only [Act.put, pS1, pS2, pS3]
      refine zW 2 (.pointer (some ⟨g1, o1 + 110 * i, none⟩)) rfl (Or.inl ⟨by rfl, by intro W hSw; have := ix1 W; go_simp⟩) hHeld ?_
      try simp only [Act.put, pS1, pS2, pS3]
      refine zW 3 (.agg A.toArray) rfl (yieldsIf_load_mid (by rfl) 40 (.tmp 19) rfl _ _ rfl A _ (fun _ h => h.1) Try.underlying40 rfl z0) hHeld ?_
      try simp only [Act.put, pS1, pS2, pS3]
      refine zW 4 (.slice (some ⟨g2, o2, none⟩) len c2) rfl (Or.inl ⟨by rfl, by intro w hSw; go_simp⟩) hHeld ?_
      try simp only [Act.put, pS1, pS2, pS3]
      refine zW 5 (.int .i64 i) rfl (Or.inl ⟨by rfl, by intro w hSw; go_simp⟩) hHeld ?_
      try simp only [Act.put, pS1, pS2, pS3]
      refine zW 6 (.pointer (some ⟨g2, o2 + 110 * i, none⟩)) rfl (Or.inl ⟨by rfl, by intro W hSw; have := ix2 W; go_simp⟩) hHeld ?_
      try simp only [Act.put, pS1, pS2, pS3]
      refine zW 7 (.agg A.toArray) rfl (yieldsIf_load_mid (by rfl) 40 (.tmp 23) rfl _ _ rfl A _ (fun _ h => h.2) Try.underlying40 rfl z0) hHeld ?_
      try simp only [Act.put, pS1, pS2, pS3]
      refine zW 8 (.bool false) rfl (Or.inl ⟨by rfl, by intro W hSw; have := hne W; go_simp⟩) hHeld ?_
      try simp only [Act.put, pS1, pS2, pS3]
      refine wpAnyH_done (by kernel_rfl) ?_ _
      go_wp2
      go_roundw
      case rel => exact ⟨i + 1, by omega, by go_num, hB.drew⟩
      case measure => simp [intOf]; omega
    · obtain rfl : len = i := by omega
      go_wp2
      go_ret
      exact ⟨rfl, hB⟩
theorem right_yes {l : List ItT} (hl : l.length ≤ 2000) (h : rightK l l.length = true) : rightL l = true := by
  unfold rightL; rw [h, decide_eq_true hl]; rfl
theorem right_no {l : List ItT} {k : Nat} (hk : k < l.length) (h : okAt l k = false) : rightL l = false := by
  rw [Bool.eq_false_iff]
  intro hr
  have := ((rightL_iff l).1 hr).2 k hk
  rw [h] at this
  cases this
theorem right_long {l : List ItT} (h : 2000 < l.length) : rightL l = false := by
  unfold rightL; rw [decide_eq_false (by omega)]; rfl
theorem range_two_new (w : World) (x y : Value) (t : TypeId) : (w.alloc (.cells #[x, y] t)).rangeAt w.heap.size 0 [x, y] := fun j v hj => by
  rw [cell_of_row _ _ _ _ t (0, 0) (heap_alloc_new w _)]
  simpa using hj
set_option maxHeartbeats 2000000 in
theorem refSameC_any (a1 a2 : Option Addr) (len c1 c2 : Nat) (l : List ClT) (w : World) (h1 : CReads w a1 len c1 l) (h2 : CReads w a2 len c2 l) :
    Calls Try.prog 39 #[.slice a1 len c1, .slice a2 len c2] w fun e w' => e = .returned (.bool true) ∧ Below w.heap.size w w' := by
  have hlen := h1.ln
  have hmx : len ≤ 9223372036854775807 := by have := h1.mx; unfold maxLen at this; omega
  have H1 := hidk h1
  have H2 := hidk h2
  clear h1 h2
  have hdn : (!((len : Int) == (len : Int))) = false := by simp
  go_enter Try.func39, Try.ntmps39
  go_wp2
  go_loopw [5] (fun v wr => ∃ i : Nat, i ≤ len ∧ v = .int .i64 i ∧ Below w.heap.size w wr) (fun v _ => len - (intOf v).toNat)
  case atStart => exact ⟨0, by omega, rfl, Below.refl _ _⟩
  case round =>
    obtain ⟨i, hi, rfl, hB⟩ := hrel
    by_cases hlt : i < len
    · have hdi : decide ((i : Int) < (len : Int)) = true := by rw [decide_eq_true_eq]; omega
      have hw := wrap_int ((i : Int) + 1) (by omega) (by omega)
      obtain ⟨g1, o1, rfl, hg1⟩ := H1.out.at (by omega)
      obtain ⟨g2, o2, rfl, hg2⟩ := H2.out.at (by omega)
      have hil : i < l.length := by omega
      obtain ⟨A, HA⟩ : ∃ A, Hid (A = ccells l[i]) := ⟨_, hidk rfl⟩
      have hok := H1.out.ok _ (List.getElem_mem hil)
      have z0 : (Try.prog.info? 36).map (·.size) = some A.length := by rw [sizeC, HA.out, ccells_length _ hok]
      have hne := fun W => neqClaim l[i] l[i] hok hok A.toArray A.toArray (by show _ = _; rw [HA.out]) (by show _ = _; rw [HA.out]) false (by simp) W
      have hS : wr.rangeAt g1 (o1 + 36 * i) A ∧ wr.rangeAt g2 (o2 + 36 * i) A := by
        rw [HA.out]
        exact ⟨(H1.out.keep hB).range i hil, (H2.out.keep hB).range i hil⟩
      have ix1 := fun W => index_cl W g1 o1 len c1 i .i64 hlt
      have ix2 := fun W => index_cl W g2 o2 len c2 i .i64 hlt
      clear HA hok hil
      go_wp2
      refine wp_region_held_drew (S := (fun W => W.rangeAt g1 (o1 + 36 * i) A ∧ W.rangeAt g2 (o2 + 36 * i) A)) (by kernel_rfl) hS (fun hHeld => ?_)
      refine zW 0 (.slice (some ⟨g1, o1, none⟩) len c1) rfl (Or.inl ⟨by rfl, by intro w hSw; go_simp⟩) hHeld ?_
      try simp only [Act.put, pS1, pS2, pS3]
      refine zW 1 (.int .i64 i) rfl (Or.inl ⟨by rfl, by intro w hSw; go_simp⟩) hHeld ?_
      try simp only [Act.put, pS1, pS2, pS3]
      refine zW 2 (.pointer (some ⟨g1, o1 + 36 * i, none⟩)) rfl (Or.inl ⟨by rfl, by intro W hSw; have := ix1 W; go_simp⟩) hHeld ?_
      try simp only [Act.put, pS1, pS2, pS3]
      refine zW 3 (.agg A.toArray) rfl (yieldsIf_load_mid (by rfl) 36 (.tmp 19) rfl _ _ rfl A _ (fun _ h => h.1) Try.underlying36 rfl z0) hHeld ?_
      try simp only [Act.put, pS1, pS2, pS3]
      refine zW 4 (.slice (some ⟨g2, o2, none⟩) len c2) rfl (Or.inl ⟨by rfl, by intro w hSw; go_simp⟩) hHeld ?_
      try simp only [Act.put, pS1, pS2, pS3]
      refine zW 5 (.int .i64 i) rfl (Or.inl ⟨by rfl, by intro w hSw; go_simp⟩) hHeld ?_
      try simp only [Act.put, pS1, pS2, pS3]
      refine zW 6 (.pointer (some ⟨g2, o2 + 36 * i, none⟩)) rfl (Or.inl ⟨by rfl, by intro W hSw; have := ix2 W; go_simp⟩) hHeld ?_
      try simp only [Act.put, pS1, pS2, pS3]
      refine zW 7 (.agg A.toArray) rfl (yieldsIf_load_mid (by rfl) 36 (.tmp 23) rfl _ _ rfl A _ (fun _ h => h.2) Try.underlying36 rfl z0) hHeld ?_
      try simp only [Act.put, pS1, pS2, pS3]
      refine zW 8 (.bool false) rfl (Or.inl ⟨by rfl, by intro W hSw; have := hne W; go_simp⟩) hHeld ?_
      try simp only [Act.put, pS1, pS2, pS3]
      refine wpAnyH_done (by kernel_rfl) ?_ _
      go_wp2
      go_roundw
      case rel => exact ⟨i + 1, by omega, by go_num, hB.drew⟩
      case measure => simp [intOf]; omega
    · obtain rfl : len = i := by omega
      go_wp2
      go_ret
      exact ⟨rfl, hB⟩
def cmpI (x y : Int) : Int := if x < y then -1 else if y < x then 1 else 0
def orI (a b : Int) : Int := if a = 0 then b else a
theorem isNaN_any (x : Int) (w : World) : Calls Try.prog 116 #[.int .i64 x] w fun e w' => e = .returned (.bool false) ∧ w = w' := by
  have h : (!(x == x)) = false := by simp
  go_enter Try.func116, Try.ntmps116
  go_wp2
  go_ret
  exact ⟨rfl, rfl⟩
theorem compare_any (x y : Int) (w : World) : Calls Try.prog 99 #[.int .i64 x, .int .i64 y] w fun e w' => e = .returned (.int .i64 (cmpI x y)) ∧ w = w' := by
  have N1 := hidk (isNaN_any x w)
  have N2 := hidk (isNaN_any y w)
  obtain ⟨P, hP⟩ : ∃ b, decide (x < y) = b := ⟨_, rfl⟩
  obtain ⟨Q, hQ⟩ : ∃ b, decide (y < x) = b := ⟨_, rfl⟩
  have HE : Hid (cmpI x y = if P = true then -1 else if Q = true then 1 else 0) := by
    show _ = _
    unfold cmpI
    rw [← hP, ← hQ]
    simp only [decide_eq_true_eq]
  go_enter Try.func99, Try.ntmps99
  go_wp2_with fail
  refine N1.out.mono ?_
  rintro e w1 ⟨rfl, rfl⟩
  go_wp2_with fail
  refine N2.out.mono ?_
  rintro e w1 ⟨rfl, rfl⟩
  cases P
  · cases Q
    · go_wp2
      go_ret
      exact ⟨by rw [HE.out]; rfl, rfl⟩
    · go_wp2
      go_ret
      exact ⟨by rw [HE.out]; rfl, rfl⟩
  · go_wp2
    go_ret
    exact ⟨by rw [HE.out]; rfl, rfl⟩
theorem or_any (g : Nat) (a b : Int) (w : World) (h0 : w.cell? ⟨g, 0, none⟩ = some (.int .i64 a)) (h1 : w.cell? ⟨g, 1, none⟩ = some (.int .i64 b)) :
    Calls Try.prog 98 #[.slice (some ⟨g, 0, none⟩) 2 2] w fun e w' => e = .returned (.int .i64 (orI a b)) ∧ w = w' := by
  by_cases ha : a = 0
  · by_cases hb : b = 0
    · have HE : Hid (orI a b = 0) := by show _ = _; unfold orI; rw [if_pos ha, hb]
      subst ha
      subst hb
      go_enter Try.func98, Try.ntmps98
      go_wp2
      go_loop [5, 8] (fun x i => ∃ k : Nat, k ≤ 2 ∧ i = .int .i64 k) (fun _ i => 2 - (intOf i).toNat)
      case atStart => exact ⟨0, by omega, rfl⟩
      case round =>
        obtain ⟨k, hk, rfl⟩ := hrel
        obtain rfl | rfl | rfl : k = 0 ∨ k = 1 ∨ k = 2 := by omega
        · go_wp2
          go_round
          case rel => exact ⟨1, by omega, rfl⟩
          case measure => simp [intOf]
        · go_wp2
          go_round
          case rel => exact ⟨2, by omega, rfl⟩
          case measure => simp [intOf]
        · go_wp2
          go_ret
          exact ⟨by rw [HE.out]; rfl, rfl⟩
    · have HE : Hid (orI a b = b) := by show _ = _; unfold orI; rw [if_pos ha]
      have hn : (!(b == 0)) = true := by simp [hb]
      subst ha
      go_enter Try.func98, Try.ntmps98
      go_wp2
      go_loop [5, 8] (fun x i => ∃ k : Nat, k ≤ 1 ∧ i = .int .i64 k) (fun _ i => 2 - (intOf i).toNat)
      case atStart => exact ⟨0, by omega, rfl⟩
      case round =>
        obtain ⟨k, hk, rfl⟩ := hrel
        obtain rfl | rfl : k = 0 ∨ k = 1 := by omega
        · go_wp2
          go_round
          case rel => exact ⟨1, by omega, rfl⟩
          case measure => simp [intOf]
        · go_wp2
          go_ret
          exact ⟨by rw [HE.out]; rfl, rfl⟩
  · have HE : Hid (orI a b = a) := by show _ = _; unfold orI; rw [if_neg ha]
    have hn : (!(a == 0)) = true := by simp [ha]
    go_enter Try.func98, Try.ntmps98
    go_wp2
    go_loop [5, 8] (fun x i => i = .int .i64 0) (fun _ i => 2 - (intOf i).toNat)
    case atStart => exact rfl
    case round =>
      obtain rfl := hrel
      go_wp2
      go_ret
      exact ⟨by rw [HE.out]; rfl, rfl⟩
def foundC (l : List ClT) (r e : Int) : ClT := (findC l r e).getD zeroC
theorem findC_yes {l : List ClT} {r e : Int} (k : Nat) (hk : k < l.length) (h0 : ∀ x ∈ l.take k, isC x r e = false) (h1 : isC l[k] r e = true) : findC l r e = some l[k] := by
  obtain ⟨x, hx⟩ : ∃ x, l[k] = x := ⟨_, rfl⟩
  have e0 : l = l.take k ++ (x :: l.drop (k + 1)) := by rw [← hx, ← List.drop_eq_getElem_cons hk, List.take_append_drop]
  rw [hx] at h1 ⊢
  unfold findC
  rw [e0, List.find?_append, List.find?_eq_none.2 (fun x hx => by rw [h0 x hx]; simp), Option.none_or]
  exact List.find?_cons_of_pos h1
theorem findC_no {l : List ClT} {r e : Int} (h0 : ∀ x ∈ l, isC x r e = false) : findC l r e = none := by
  unfold findC
  exact List.find?_eq_none.2 fun x hx => by rw [h0 x hx]; simp
theorem mayE_form {l : List ItT} {x : ItT} (h : rightL l = false ∨ rightI x = false) : mayE l x = 100 := by unfold mayE; rw [if_pos h]
theorem mayE_low {l : List ItT} {x : ItT} (h1 : rightL l = true) (h2 : rightI x = true) (h : lowB l x.p = true) : mayE l x = 102 := by unfold mayE; rw [if_neg (by rw [h1, h2]; decide), if_pos h]
theorem mayE_full {l : List ItT} {x : ItT} (h1 : rightL l = true) (h2 : rightI x = true) (h : lowB l x.p = false) (h3 : l.length = 2000) : mayE l x = 2 := by unfold mayE; rw [if_neg (by rw [h1, h2]; decide), if_neg (by rw [h]; decide), if_pos h3]
theorem mayE_last {l : List ItT} {x : ItT} (h1 : rightL l = true) (h2 : rightI x = true) (h : lowB l x.p = false) (h3 : l.length ≠ 2000) : mayE l x = if x.e.k = 1 ∧ oldL l x.e.c x.e.s = true then 101 else 0 := by unfold mayE; rw [if_neg (by rw [h1, h2]; decide), if_neg (by rw [h]; decide), if_neg h3]
theorem lowB_none {l : List ItT} {p : Int} (h : l.length = 0) : lowB l p = false := by
  obtain rfl : l = [] := List.eq_nil_of_length_eq_zero h
  rfl
theorem lowB_some {l : List ItT} {p : Int} {j : Nat} (h : j + 1 = l.length) : lowB l p = decide (p < (l[j]'(by omega)).p) := by
  unfold lowB
  have : l.getLast? = some (l[j]'(by omega)) := by rw [List.getLast?_eq_getElem?, show l.length - 1 = j by omega]; exact List.getElem?_eq_getElem _
  rw [this]
theorem rightCK_le {l : List ClT} {k : Nat} (h : rightCK l k = true) : ∀ i, i < k → okC l i = true := by
  unfold rightCK at h
  intro i hi
  exact List.all_eq_true.1 h i (List.mem_range.2 hi)
theorem rightCs_no {l : List ClT} {k : Nat} (hk : k < l.length) (h : okC l k = false) : rightCs l = false := by
  rw [Bool.eq_false_iff]
  intro hr
  have := rightCK_le hr k hk
  rw [h] at this
  cases this
def restE (x : EnT) : List (Int × ByteArray) := if x.k = 1 then [(2, nOf x.c), (3, nOf x.s), (4, x.t)] else if x.k = 2 then [(5, bA (signB x.h))] else if x.k = 3 then [(6, bA (claimB x.m))] else []
theorem fieldsE_rest (x : EnT) : fieldsE x = (1, nOf x.k) :: restE x := rfl
def RowF (w : World) (cs : Array Value) (m : Nat) (e : Ending) (w' : World) : Prop := ∃ g, e = .returned (.slice (some ⟨g, 0, none⟩) m m) ∧ w'.heap[g]? = some (.cells cs 85 (0, 0)) ∧ w.heap.size ≤ g ∧ Below w.heap.size w w'
set_option maxHeartbeats 8000000 in
theorem eFields_user (x : EnT) (ok : OkE x) (hk : x.k = 1) (w : World) (X cs : Array Value) (HX : Hid (X = (ecells x).toArray)) (HC : Hid (cs.toList = fcells (restE x))) :
    Calls Try.prog 107 #[.agg X] w fun e w' => RowF w cs 3 e w' := by
  have HR := hidk (erow_new w x ok X HX 38)
  have HB : Hid (Below w.heap.size w (w.alloc (.cells X 38))) := (Below.refl _ _).alloc (Nat.le_refl _) _
  have c0 := HR.out.k
  rw [hk] at c0
  obtain ⟨c, Hc⟩ : ∃ c, Hid (c = x.c) := ⟨_, hidk rfl⟩
  obtain ⟨s, Hs⟩ : ∃ c, Hid (c = x.s) := ⟨_, hidk rfl⟩
  obtain ⟨t, Ht⟩ : ∃ c, Hid (c = x.t) := ⟨_, hidk rfl⟩
  obtain ⟨n2, Hn2⟩ : ∃ n, Hid (n = nOf c) := ⟨_, hidk rfl⟩
  obtain ⟨n3, Hn3⟩ : ∃ n, Hid (n = nOf s) := ⟨_, hidk rfl⟩
  have N2 : Hid (∀ W, Calls Try.prog 71 #[.int .i64 2, .int .i64 c] W fun e w' => e = .returned (.agg #[.int .i64 2, .string n2]) ∧ Below W.heap.size W w') := fun W => by rw [Hn2.out]; exact eNum_any 2 c W
  have N3 : Hid (∀ W, Calls Try.prog 71 #[.int .i64 3, .int .i64 s] W fun e w' => e = .returned (.agg #[.int .i64 3, .string n3]) ∧ Below W.heap.size W w') := fun W => by rw [Hn3.out]; exact eNum_any 3 s W
  have HCS : Hid (cs = #[.int .i64 2, .string n2, .int .i64 3, .string n3, .int .i64 4, .string t]) := by
    show _ = _
    apply Array.ext'
    rw [HC.out, Hn2.out, Hn3.out, Hc.out, Hs.out, Ht.out]
    unfold restE
    rw [if_pos hk]
    rfl
  clear HX HC Hn2 Hn3 ok hk
  go_enter Try.func107, Try.ntmps107
  go_wp2
  refine wp_region_held_drew (S := (fun W => ERow W w.heap.size 0 x)) (by kernel_rfl) (HR.out.keep (Below.refl _ _).drew) (fun hHeld => ?_)
  refine zX 0 (.pointer (some ⟨w.heap.size, 1, none⟩)) rfl hHeld ?_
  try simp only [Act.put, pS1, pS2, pS3]
  refine zW 1 (.int .i64 c) rfl (Or.inl ⟨by rfl, by intro W hSw; have h1 := hSw.c; rw [← Hc.out, Nat.zero_add] at h1; go_simp⟩) hHeld ?_
  try simp only [Act.put, pS1, pS2, pS3]
  refine zX 3 (.pointer (some ⟨w.heap.size, 2, none⟩)) rfl hHeld ?_
  try simp only [Act.put, pS1, pS2, pS3]
  refine zW 4 (.int .i64 s) rfl (Or.inl ⟨by rfl, by intro W hSw; have h1 := hSw.s; rw [← Hs.out, Nat.zero_add] at h1; go_simp⟩) hHeld ?_
  try simp only [Act.put, pS1, pS2, pS3]
  refine zX 6 (.pointer (some ⟨w.heap.size, 3, none⟩)) rfl hHeld ?_
  try simp only [Act.put, pS1, pS2, pS3]
  refine zW 7 (.string t) rfl (Or.inl ⟨by rfl, by intro W hSw; have h1 := hSw.t; rw [← Ht.out, Nat.zero_add] at h1; go_simp⟩) hHeld ?_
  try simp only [Act.put, pS1, pS2, pS3]
  refine zX 8 (.agg #[.int .i64 4, .string t]) rfl hHeld ?_
  try simp only [Act.put, pS1, pS2, pS3]
  refine wpAnyH_ready (rs := [2]) (by kernel_rfl) (by simp) ?_
  refine (AllReadyH.cons (o := { dst := some 13, op := .call { callee := .value (.func 71), args := #[.const (.int .i64 2), .tmp 12], argTypes := #[3, 3] }, type := 85, pos := "entry.go:134", after := #[zD 1], guard := none }) rfl (fun K hK => ?_) AllReadyH.nil)
  go_simp
  refine (N2.out _).mono ?_
  rintro e w2 ⟨rfl, hb2⟩
  have HB2 := hidk (HB.out.drew.trans (hb2.mono HB.out.size))
  go_wp2_with fail
  refine hK.out _ _ (hHeld.keep hb2) (fun hHeld => ?_)
  clear hK K
  try simp only [Act.put, pS1, pS2, pS3]
  refine wpAnyH_ready (rs := [5]) (by kernel_rfl) (by simp) ?_
  refine (AllReadyH.cons (o := { dst := some 16, op := .call { callee := .value (.func 71), args := #[.const (.int .i64 3), .tmp 15], argTypes := #[3, 3] }, type := 85, pos := "entry.go:135", after := #[zD 4, zC 2], guard := none }) rfl (fun K hK => ?_) AllReadyH.nil)
  go_simp
  refine (N3.out _).mono ?_
  rintro e w5 ⟨rfl, hb5⟩
  have HB5 := hidk (HB2.out.trans (hb5.mono HB2.out.size))
  go_wp2_with fail
  refine hK.out _ _ (hHeld.keep hb5) (fun hHeld => ?_)
  clear hK K
  try simp only [Act.put, pS1, pS2, pS3]
  refine wpAnyH_ready (rs := [9]) (by kernel_rfl) (by simp) ?_
  refine (AllReadyH.cons (o := { dst := some 20, op := .buildSlice 88 3 #[(0, .tmp 13), (1, .tmp 16), (2, .tmp 19)], type := 88, pos := "entry.go:133", after := #[zD 2, zD 5, zD 8], guard := none }) rfl (fun K hK => ?_) AllReadyH.nil)
  go_simp
  refine hK.out _ _ (hHeld.keep ((Below.refl _ _).alloc (Nat.le_refl _) _)) (fun hHeld => ?_)
  clear hK K
  try simp only [Act.put, pS1, pS2, pS3]
  refine zX 10 (.slice (some ⟨w5.heap.size, 0, none⟩) 3 3) rfl hHeld ?_
  try simp only [Act.put, pS1, pS2, pS3]
  refine wpAnyH_done (by kernel_rfl) ?_ _
  go_wp2
  go_ret
  refine ⟨w5.heap.size, rfl, ?_, HB5.out.size, HB5.out.trans (((Below.refl _ _).alloc (Nat.le_refl _) _).mono HB5.out.size)⟩
  rw [HCS.out]
  exact heap_alloc_new w5 _
set_option maxHeartbeats 4000000 in
theorem eFields_anchor (x : EnT) (ok : OkE x) (hk : x.k = 2) (hin : InS x.h) (hm : mayS x.h = true) (w : World) (X cs : Array Value) (HX : Hid (X = (ecells x).toArray)) (HC : Hid (cs.toList = fcells (restE x))) :
    Calls Try.prog 107 #[.agg X] w fun e w' => RowF w cs 1 e w' := by
  have HR := erow_new w x ok X HX 38
  have HB : Hid (Below w.heap.size w (w.alloc (.cells X 38))) := (Below.refl _ _).alloc (Nat.le_refl _) _
  have c0 := HR.k
  rw [hk] at c0
  obtain ⟨Q, HQ, HSQ, H1Q, HNQ⟩ := sign_row x.h ok.h ok.g
  have RQ : Hid ((w.alloc (.cells X 38)).rangeAt w.heap.size 4 Q.toList) := by have := HR.h; show World.rangeAt _ _ _ _; rw [HQ.out]; simpa using this
  obtain ⟨l, Hl⟩ : ∃ l, Hid (l = signB x.h) := ⟨_, hidk rfl⟩
  obtain ⟨y, Hy⟩ : ∃ y : ByteArray, Hid (y = bA l) := ⟨_, hidk rfl⟩
  have P1 : Hid (∀ W, Calls Try.prog 124 #[.agg Q] W fun e w' => (∃ a c, e = .returned (.tuple #[.slice a l.length c, .int .i64 0]) ∧ Reads w' a l.length c l) ∧ Below W.heap.size W w') := fun W => by
    rw [Hl.out]
    have := hPutS_any x.h hin W Q HQ
    unfold putSB putSE at this; rw [if_pos hm, if_pos hm] at this
    exact this
  have HCS : Hid (cs = #[.int .i64 5, .string y]) := by
    show _ = _
    apply Array.ext'
    rw [HC.out, Hy.out, Hl.out]
    unfold restE
    rw [if_neg (by omega), if_pos hk]
    rfl
  clear HX HC HR HQ Hl
  go_enter Try.func107, Try.ntmps107
  go_wp2_with (first
    | (show aD 25 _ _ _ _ _ _ _ _ _ _ _; refine wpList_mid rfl 34 (.tmp 24) rfl w.heap.size 4 rfl Q _ RQ.out Try.underlying34 rfl HSQ.out ?_; try simp only [Act.put, pS1, pS2, pS3])
    | fail)
  refine (P1.out _).mono ?_
  rintro e w1 ⟨⟨a1, c1, rfl, hr1⟩, hb1⟩
  have HB1 := hidk (HB.out.trans (hb1.mono HB.out.size))
  have hcv := conv_reads hr1
  rw [show (⟨l.toArray⟩ : ByteArray) = y from Hy.out.symm] at hcv
  clear hb1 hr1
  go_wp2
  go_ret
  refine ⟨w1.heap.size, rfl, ?_, HB1.out.size, HB1.out.trans (((Below.refl _ _).alloc (Nat.le_refl _) _).mono HB1.out.size)⟩
  rw [HCS.out]
  exact heap_alloc_new w1 _
set_option maxHeartbeats 4000000 in
theorem eFields_claim (x : EnT) (ok : OkE x) (hk : x.k = 3) (hm : rightC x.m = true) (w : World) (X cs : Array Value) (HX : Hid (X = (ecells x).toArray)) (HC : Hid (cs.toList = fcells (restE x))) :
    Calls Try.prog 107 #[.agg X] w fun e w' => RowF w cs 1 e w' := by
  have HR := erow_new w x ok X HX 38
  have HB : Hid (Below w.heap.size w (w.alloc (.cells X 38))) := (Below.refl _ _).alloc (Nat.le_refl _) _
  have c0 := HR.k
  rw [hk] at c0
  obtain ⟨Q, HQ, HSQ, H1Q, HNQ⟩ := claim_row5 x.m ok.m
  have RQ : Hid ((w.alloc (.cells X 38)).rangeAt w.heap.size 73 Q.toList) := by have := HR.m; show World.rangeAt _ _ _ _; rw [HQ.out]; simpa using this
  obtain ⟨l, Hl⟩ : ∃ l, Hid (l = claimB x.m) := ⟨_, hidk rfl⟩
  obtain ⟨y, Hy⟩ : ∃ y : ByteArray, Hid (y = bA l) := ⟨_, hidk rfl⟩
  have P1 : Hid (∀ W, Calls Try.prog 45 #[.agg Q] W fun e w' => (∃ a c, e = .returned (.tuple #[.slice a l.length c, .int .i64 0]) ∧ Reads w' a l.length c l) ∧ Below W.heap.size W w') := fun W => by
    rw [Hl.out]
    have := ePutC_any x.m ok.m W Q HQ
    unfold cB cE at this; rw [if_pos hm, if_pos hm] at this
    exact this
  have HCS : Hid (cs = #[.int .i64 6, .string y]) := by
    show _ = _
    apply Array.ext'
    rw [HC.out, Hy.out, Hl.out]
    unfold restE
    rw [if_neg (by omega), if_neg (by omega), if_pos hk]
    rfl
  clear HX HC HR HQ Hl
  go_enter Try.func107, Try.ntmps107
  go_wp2_with (first
    | (show aD 37 _ _ _ _ _ _ _ _ _ _ _; refine wpList_mid rfl 36 (.tmp 36) rfl w.heap.size 73 rfl Q _ RQ.out Try.underlying36 rfl HSQ.out ?_; try simp only [Act.put, pS1, pS2, pS3])
    | fail)
  refine (P1.out _).mono ?_
  rintro e w1 ⟨⟨a1, c1, rfl, hr1⟩, hb1⟩
  have HB1 := hidk (HB.out.trans (hb1.mono HB.out.size))
  have hcv := conv_reads hr1
  rw [show (⟨l.toArray⟩ : ByteArray) = y from Hy.out.symm] at hcv
  clear hb1 hr1
  go_wp2
  go_ret
  refine ⟨w1.heap.size, rfl, ?_, HB1.out.size, HB1.out.trans (((Below.refl _ _).alloc (Nat.le_refl _) _).mono HB1.out.size)⟩
  rw [HCS.out]
  exact heap_alloc_new w1 _
theorem restE_len {x : EnT} (h : rightE x = true) : (restE x).length = if x.k = 1 then 3 else 1 := by
  rcases right_kinds h with ⟨hk, _⟩ | ⟨hk, _⟩ | ⟨hk, _⟩
  · unfold restE; rw [if_pos hk, if_pos hk]; rfl
  · unfold restE; rw [if_neg (by omega), if_pos hk, if_neg (by omega)]; rfl
  · unfold restE; rw [if_neg (by omega), if_neg (by omega), if_pos hk, if_neg (by omega)]; rfl
theorem eFields_any (x : EnT) (hin : InE x) (h : rightE x = true) (w : World) (X cs : Array Value) (HX : Hid (X = (ecells x).toArray)) (HC : Hid (cs.toList = fcells (restE x))) :
    Calls Try.prog 107 #[.agg X] w fun e w' => RowF w cs (restE x).length e w' := by
  have hl := restE_len h
  rcases right_kinds h with ⟨hk, _⟩ | ⟨hk, _, _, _, hm, _⟩ | ⟨hk, _, _, _, _, hm⟩
  · rw [hl, if_pos hk]; exact eFields_user x hin.ok hk w X cs HX HC
  · rw [hl, if_neg (by omega)]; exact eFields_anchor x hin.ok hk hin.h hm w X cs HX HC
  · rw [hl, if_neg (by omega)]; exact eFields_claim x hin.ok hk hm w X cs HX HC
theorem eField_small {x : EnT} (ok : OkE x) (h : rightE x = true) : (∀ f ∈ fieldsE x, f.2.size ≤ maxLen) ∧ (fieldsE x).length ≤ 400 := fieldsE_small ok h
theorem fcells_one : ∀ (fs : List (Int × ByteArray)), ∀ v ∈ fcells fs, v.oneCell' = true
  | [], v, hv => by simp [fcells] at hv
  | f :: r, v, hv => by
    have e : fcells (f :: r) = [.int .i64 f.1, .string f.2] ++ fcells r := rfl
    rw [e] at hv
    simp only [List.mem_append, List.mem_cons, List.not_mem_nil, or_false] at hv
    rcases hv with (rfl | rfl) | hv
    · rfl
    · rfl
    · exact fcells_one r v hv
theorem fcells_len : ∀ (fs : List (Int × ByteArray)), (fcells fs).length = fs.length * 2
  | [] => rfl
  | f :: r => by
    have e : fcells (f :: r) = [.int .i64 f.1, .string f.2] ++ fcells r := rfl
    rw [e, List.length_append, fcells_len r]
    simp
    omega
theorem eAppend (w W : World) (gk g : Nat) (n1 : ByteArray) (fs : List (Int × ByteArray)) (cs : Array Value) (HC : Hid (cs.toList = fcells fs)) (h1 : W.heap[gk]? = some (.cells #[.int .i64 1, .string n1] 85 (0, 0))) (h2 : W.heap[g]? = some (.cells cs 85 (0, 0))) (hk : w.heap.size ≤ gk) (hb : Below w.heap.size w W) (hl : fs.length ≤ 100) (hm : ∀ f ∈ ((1 : Int), n1) :: fs, f.2.size ≤ maxLen) :
    ∃ a c w', (Builtin.append_ #[88, 88] 88 #[.slice (some ⟨gk, 0, none⟩) 1 1, .slice (some ⟨g, 0, none⟩) fs.length fs.length]).run Try.prog W = .ok (.slice a (((1 : Int), n1) :: fs).length c) w' ∧ FReads w'.heap.size w' a (((1 : Int), n1) :: fs).length c (((1 : Int), n1) :: fs) ∧ Below w.heap.size w w' := by
  obtain ⟨i0, hi, hz0, hz1, hz2⟩ := info_parts info37
  have hgk := heap_lt h1
  have hown : W.ownsRow w.heap.size 85 2 (.slice (some ⟨gk, 0, none⟩) 1 1) 1 (fcells [((1 : Int), n1)]) := ⟨rfl, .inr ⟨gk, 1, #[.int .i64 1, .string n1], rfl, hk, h1, Nat.le_refl _, by unfold maxLen; decide, rfl, rfl⟩⟩
  have hn : ∀ (j : Nat) (u : Value), (fcells fs)[j]? = some u → W.cell? ((⟨g, 0, none⟩ : Addr).add j) = some u := by
    intro j u hj
    rw [add_plain, Nat.zero_add, cell_of_row W g j cs 85 (0, 0) h2]
    rw [← HC.out] at hj
    simpa using hj
  obtain ⟨v', w', hr, ho, hg, _⟩ := run_append_own (P := Try.prog) W w.heap.size 88 88 85 i0 (.agg #[.int .i64 0, .string ⟨#[]⟩]) 2 24 Try.underlying88 hi hz0 hz1 hz2 rfl (by decide) _ 1 _ hown ⟨g, 0, none⟩ fs.length fs.length (fcells fs) (fcells_len fs) hn (fcells_one fs) (by unfold maxLen; omega) (by omega) (by omega)
  have e1 : fcells [((1 : Int), n1)] ++ fcells fs = fcells (((1 : Int), n1) :: fs) := rfl
  have e2 : 1 + fs.length = (((1 : Int), n1) :: fs).length := by simp; omega
  rw [e1, e2] at ho
  obtain ⟨a, c, rfl, hrd⟩ := freads_own ho hm
  exact ⟨a, c, w', hr, hrd, hb.grown hg hb.size (by intro k hk'; cases hk'; exact hk)⟩
set_option maxHeartbeats 2000000 in
theorem ePutE_no (x : EnT) (ok : OkE x) (hr : rightE x = false) (w : World) (X : Array Value) (HX : Hid (X = (ecells x).toArray)) :
    Calls Try.prog 91 #[.agg X] w fun e w' => BytesE [] 60 e w' ∧ Below w.heap.size w w' := by
  have HSX : Hid ((Try.prog.info? 38).map (·.size) = some X.size) := by show _ = _; rw [sizeE, HX.out]; simp [ecells_length _ ok]
  have HX0 : Hid ((w.alloc (.cells X 38)).heap[w.heap.size]? = some (.cells X 38 (0, 0))) := heap_alloc_new w _
  have HB : Hid (Below w.heap.size w (w.alloc (.cells X 38))) := (Below.refl _ _).alloc (Nat.le_refl _) _
  have K1 : Hid (∀ W, Calls Try.prog 60 #[.agg X] W fun e w' => e = .returned (.int .i64 60) ∧ Below W.heap.size W w') := fun W => by
    have := eCheck_any x ok W X HX
    rwa [show eE x = 60 by unfold eE; rw [hr]; rfl] at this
  clear HX hr
  go_enter Try.func91, Try.ntmps91
  go_wp2_with (first
    | (show aD 6 _ _ _ _ _ _ _ _ _ _ _; refine wpList_load_row rfl 38 (.tmp 1) rfl w.heap.size rfl 38 X (0, 0) _ HX0.out Try.underlying38 rfl HSX.out ?_; try simp only [Act.put, pS1, pS2, pS3])
    | fail)
  refine (K1.out _).mono ?_
  rintro e w1 ⟨rfl, hb1⟩
  have HB1 := hidk (HB.out.trans (hb1.mono HB.out.size))
  clear hb1
  go_wp2
  go_ret2
  exact ⟨eBytes_no _ _, HB1.out⟩
set_option maxHeartbeats 4000000 in
theorem ePutE_yes (x : EnT) (hin : InE x) (hr : rightE x = true) (w : World) (X : Array Value) (HX : Hid (X = (ecells x).toArray)) :
    Calls Try.prog 91 #[.agg X] w fun e w' => BytesE (entryB x) 0 e w' ∧ Below w.heap.size w w' := by
  have ok := hin.ok
  have HSX : Hid ((Try.prog.info? 38).map (·.size) = some X.size) := by show _ = _; rw [sizeE, HX.out]; simp [ecells_length _ ok]
  have HX0 : Hid ((w.alloc (.cells X 38)).heap[w.heap.size]? = some (.cells X 38 (0, 0))) := heap_alloc_new w _
  have HB : Hid (Below w.heap.size w (w.alloc (.cells X 38))) := (Below.refl _ _).alloc (Nat.le_refl _) _
  have K1 : Hid (∀ W, Calls Try.prog 60 #[.agg X] W fun e w' => e = .returned (.int .i64 0) ∧ Below W.heap.size W w') := fun W => by
    have := eCheck_any x ok W X HX
    rwa [show eE x = 0 by unfold eE; rw [hr]; rfl] at this
  obtain ⟨k, Hk⟩ : ∃ k, Hid (k = x.k) := ⟨_, hidk rfl⟩
  obtain ⟨n1, Hn1⟩ : ∃ n, Hid (n = nOf k) := ⟨_, hidk rfl⟩
  have N1 : Hid (∀ W, Calls Try.prog 71 #[.int .i64 1, .int .i64 k] W fun e w' => e = .returned (.agg #[.int .i64 1, .string n1]) ∧ Below W.heap.size W w') := fun W => by rw [Hn1.out]; exact eNum_any 1 k W
  have KK : Hid (∀ W : World, W.heap[w.heap.size]? = some (.cells X 38 (0, 0)) → W.cell? ⟨w.heap.size, 0, none⟩ = some (.int .i64 k)) := fun W h => by have := (erow_row ok HX h).k; rwa [← Hk.out] at this
  obtain ⟨fs, hfs⟩ : ∃ fs, fs = restE x := ⟨_, rfl⟩
  obtain ⟨cs, HC⟩ : ∃ cs : Array Value, Hid (cs.toList = fcells fs) := ⟨(fcells fs).toArray, hidk rfl⟩
  have hfl : fs.length ≤ 100 := by rw [hfs, restE_len hr]; split <;> omega
  have F1 : Hid (∀ W, Calls Try.prog 107 #[.agg X] W fun e w' => RowF W cs fs.length e w') := fun W => by rw [hfs]; exact eFields_any x hin hr W X cs HX (by rw [← hfs]; exact HC)
  have hall : fieldsE x = (1, n1) :: fs := by rw [fieldsE_rest, Hn1.out, Hk.out, hfs]
  have hsm := (eField_small ok hr).1
  rw [hall] at hsm
  have AP : Hid (∀ W gk g, W.heap[gk]? = some (.cells #[.int .i64 1, .string n1] 85 (0, 0)) → W.heap[g]? = some (.cells cs 85 (0, 0)) → w.heap.size ≤ gk → Below w.heap.size w W →
      ∃ a c w', (Builtin.append_ #[88, 88] 88 #[.slice (some ⟨gk, 0, none⟩) 1 1, .slice (some ⟨g, 0, none⟩) fs.length fs.length]).run Try.prog W = .ok (.slice a (((1 : Int), n1) :: fs).length c) w' ∧ FReads w'.heap.size w' a (((1 : Int), n1) :: fs).length c (((1 : Int), n1) :: fs) ∧ Below w.heap.size w w') := fun W gk g h1 h2 h3 h4 => eAppend w W gk g n1 fs cs HC h1 h2 h3 h4 hfl hsm
  obtain ⟨l, Hl⟩ : ∃ l, Hid (l = entryB x) := ⟨_, hidk rfl⟩
  have hk0 := layE_entry hr ok
  rw [hall] at hk0
  have LY : Hid (∀ W a n c, n = (((1 : Int), n1) :: fs).length → FReads W.heap.size W a n c (((1 : Int), n1) :: fs) → Calls Try.prog 46 #[.slice a n c] W fun e w' => (∃ a' c', e = .returned (.tuple #[.slice a' l.length c', .int .i64 0]) ∧ Reads w' a' l.length c' l) ∧ Below W.heap.size W w') := fun W a n c hn h => by
    subst hn
    refine (lay_reads a _ c _ W h (by simp; omega) (k := 0) (l := l) hk0 (by rw [eRow_ok hk0, Hl.out, ← hall]; rfl)).mono ?_
    rintro e w' ⟨a', c', he, hrd, hb⟩
    exact ⟨⟨a', c', he, hrd⟩, hb⟩
  obtain ⟨nn, Hnn⟩ : ∃ n, Hid (n = (((1 : Int), n1) :: fs).length) := ⟨_, hidk rfl⟩
  obtain ⟨m, Hm⟩ : ∃ m, Hid (m = fs.length) := ⟨_, hidk rfl⟩
  rw [← Hl.out]
  rw [← Hnn.out] at AP
  rw [← Hm.out] at AP F1
  clear HX hr hall hsm hk0 Hn1 hfs HC ok hin
  go_enter Try.func91, Try.ntmps91
  go_wp2_with (first
    | (show aD 6 _ _ _ _ _ _ _ _ _ _ _; refine wpList_load_row rfl 38 (.tmp 1) rfl w.heap.size rfl 38 X (0, 0) _ HX0.out Try.underlying38 rfl HSX.out ?_; try simp only [Act.put, pS1, pS2, pS3])
    | fail)
  refine (K1.out _).mono ?_
  rintro e w1 ⟨rfl, hb1⟩
  have HB1 := hidk (HB.out.trans (hb1.mono HB.out.size))
  have HX1 := hidk ((hb1.block _ (heap_lt HX0.out)).trans HX0.out)
  have c0 := KK.out w1 HX1.out
  clear hb1 HB HX0 K1 KK
  go_wp2_with fail
  refine (N1.out _).mono ?_
  rintro e w2 ⟨rfl, hb2⟩
  have HB2 := hidk (HB1.out.trans (hb2.mono HB1.out.size))
  have HX2 := hidk ((hb2.block _ (heap_lt HX1.out)).trans HX1.out)
  have HX3 := hidk (heap_keep (o' := .cells #[.int .i64 1, .string n1] 85) HX2.out)
  have HK3 := hidk (heap_alloc_new w2 (.cells #[.int .i64 1, .string n1] 85))
  have HB3 := hidk (HB2.out.trans (((Below.refl _ _).alloc (Nat.le_refl _) (.cells #[.int .i64 1, .string n1] 85)).mono HB2.out.size))
  clear hb2 HB1 HX1 HX2 N1 c0
  go_wp2_with (first
    | (show aD 16 _ _ _ _ _ _ _ _ _ _ _; refine wpList_load_row rfl 38 (.tmp 1) rfl w.heap.size rfl 38 X (0, 0) _ HX3.out Try.underlying38 rfl HSX.out ?_; try simp only [Act.put, pS1, pS2, pS3])
    | fail)
  refine (F1.out _).mono ?_
  rintro e w4 ⟨g4, rfl, hg4, _, hb4⟩
  obtain ⟨a5, c5, w5, hrun, hfr, hb5⟩ := AP.out w4 w2.heap.size g4 ((hb4.block _ (heap_lt HK3.out)).trans HK3.out) hg4 HB2.out.size (HB3.out.trans (hb4.mono HB3.out.size))
  have HRUN := hidk hrun
  have HFR := hidk hfr
  have HB5 := hidk hb5
  clear hrun hfr hb5 hb4 hg4 HK3 HX3 HB3 HB2 F1 AP
  go_wp2_with (first
    | (show aD 18 _ _ _ _ _ _ _ _ _ _ _; refine wpList_append_run rfl (.tmp 15) (.tmp 17) 88 88 rfl _ _ _ w5 rfl rfl HRUN.out ?_; try simp only [Act.put, pS1, pS2, pS3])
    | fail)
  refine (LY.out w5 a5 nn c5 Hnn.out (by rw [Hnn.out]; rw [Hnn.out] at HFR; exact HFR.out)).mono ?_
  rintro e w6 ⟨⟨a6, c6, rfl, hr6⟩, hb6⟩
  have HR6 := hidk hr6
  have HB6 := hidk (HB5.out.trans (hb6.mono HB5.out.size))
  clear hr6 hb6
  go_wp2
  go_ret2
  exact ⟨⟨_, _, rfl, HR6.out⟩, HB6.out⟩
theorem ePutE_any (x : EnT) (hin : InE x) (w : World) (X : Array Value) (HX : Hid (X = (ecells x).toArray)) :
    Calls Try.prog 91 #[.agg X] w fun e w' => BytesE (eB x) (eE x) e w' ∧ Below w.heap.size w w' := by
  unfold eB eE
  cases hr : rightE x
  · exact ePutE_no x hin.ok hr w X HX
  · exact ePutE_yes x hin hr w X HX
theorem Rd.small {W : World} {lo g : Nat} {fs : List (Int × ByteArray)} (h : Rd W lo g fs) (tag : Int) : (tkD tag fs).size ≤ maxLen := by
  obtain ⟨a, cap, h1, h2, h3, h4, h5, h6⟩ := h
  cases fs with
  | nil => show (⟨#[]⟩ : ByteArray).size ≤ maxLen; unfold maxLen; decide
  | cons f r =>
    unfold tkD
    split
    · rename_i hh
      split
      · have := List.cons.inj hh
        rw [← this.1]
        exact h5 f (List.mem_cons_self ..)
      · show (⟨#[]⟩ : ByteArray).size ≤ maxLen; unfold maxLen; decide
    · show (⟨#[]⟩ : ByteArray).size ≤ maxLen; unfold maxLen; decide
theorem grown_trans {a b c : World} {r : Option Nat} (h : a.grownBy b r) (k : b.grownBy c r) : a.grownBy c r :=
  ⟨k.os.trans h.os, k.tape.trans h.tape, k.output.trans h.output, Nat.le_trans h.size k.size, fun i hi hr => (k.block i (Nat.lt_of_lt_of_le hi h.size) hr).trans (h.block i hi hr)⟩
theorem grown_below {a b : World} {r : Option Nat} (h : Below a.heap.size a b) : a.grownBy b r := ⟨h.os, h.tape, h.output, h.size, fun k hk _ => h.block k hk⟩
theorem grown_wrote {a b c : World} {r : Option Nat} {g : Nat} {D : Array Value} {t : TypeId} (h : a.grownBy b r) (hw : Wrote g D t b c) (hg : a.heap.size ≤ g) : a.grownBy c r := by
  have hb : Below a.heap.size b c := hw.below a.heap.size b (Below.refl _ _) hg
  exact ⟨hb.os.trans h.os, hb.tape.trans h.tape, hb.output.trans h.output, Nat.le_trans h.size hb.size, fun i hi hr => (hb.block i hi).trans (h.block i hi hr)⟩
def nV (tag : Int) (fs : List (Int × ByteArray)) : Int := vOf (tkD tag fs).data.toList
def nB (tag : Int) (fs : List (Int × ByteArray)) : Bool := tkB tag fs && isNum (tkD tag fs).data.toList
set_option maxHeartbeats 2000000 in
theorem rnum_any (W : World) (lo g : Nat) (fs : List (Int × ByteArray)) (tag : Int) (h : Rd W lo g fs) :
    Calls Try.prog 145 #[.pointer (some ⟨g, 0, none⟩), .int .i64 tag] W fun e w' => e = .returned (.tuple #[.int .i64 (nV tag fs), .bool (nB tag fs)]) ∧ W.grownBy w' (some g) ∧ Rd w' lo g (tkR tag fs) := by
  have D1 := hidk (data_any W lo g fs tag h)
  have hs := h.small tag
  unfold nV nB
  obtain ⟨d, hd⟩ : ∃ d, d = tkD tag fs := ⟨_, rfl⟩
  obtain ⟨b, hb⟩ : ∃ b, b = tkB tag fs := ⟨_, rfl⟩
  obtain ⟨r, hr⟩ : ∃ r, r = tkR tag fs := ⟨_, rfl⟩
  rw [← hd] at hs ⊢
  rw [← hd, ← hb, ← hr] at D1
  rw [← hb, ← hr]
  obtain ⟨n, hn⟩ : ∃ n, n = vOf d.data.toList := ⟨_, rfl⟩
  obtain ⟨E, hE⟩ : ∃ n, n = eOf d.data.toList := ⟨_, rfl⟩
  have V1 : Hid (∀ W, Calls Try.prog 93 #[.string d] W fun e w' => e = .returned (.tuple #[.int .i64 n, .int .i64 E]) ∧ W = w') := fun W => by rw [hn, hE]; exact value_any d W hs
  rw [← hn]
  have hE2 : (E = 0 ∧ isNum d.data.toList = true) ∨ (E = 11 ∧ isNum d.data.toList = false) := by
    rw [hE]
    cases hq : isNum d.data.toList
    · exact .inr ⟨(v_no hq).2, rfl⟩
    · exact .inl ⟨(v_yes hq).2, rfl⟩
  clear hd hb hr hn hE hs h
  rcases hE2 with ⟨rfl, hq⟩ | ⟨rfl, hq⟩
  all_goals
    rw [hq]
    clear hq
    cases b
    all_goals
      go_enter Try.func145, Try.ntmps145
      go_wp2_with fail
      refine D1.out.mono ?_
      rintro e w1 ⟨rfl, hg1, hr1⟩
      have HG := hidk hg1
      have HR := hidk hr1
      clear hg1 hr1
      go_wp2_with fail
      refine (V1.out _).mono ?_
      rintro e w2 ⟨rfl, rfl⟩
      go_wp2
      go_ret2
      exact ⟨rfl, HG.out, HR.out⟩
theorem wpList_copy_text {ops : Array Oper} {rest : List Oper} {o : Oper} {a : Act} {w : World} {Q : Exit → Act → World → Prop} (hgd : o.guard = none) (s x : Operand) (hop : o.op = Op.call { callee := Callee.builtin Builtin.copy, args := #[s, x], argTypes := #[61, 9] })
    (g : Nat) (t : TypeId) (hs : a.eval s = .slice (some ⟨g, 0, none⟩) 32 32) (u : ByteArray) (hx : a.eval x = .string u) (hu : u.size = 32) (Z D : Array Value) (hZ : Z.size = 32) (HD : Hid (D = (cellsOf u.data.toList).toArray)) (hg : w.heap[g]? = some (.cells Z t (0, 0)))
    (h : ∀ w', Hid (Wrote g D t w w') → wpList Try.prog ops Q rest (a.put o.dst (.int .i64 32)) w') : wpList Try.prog ops Q (o :: rest) a w := by
  refine wpList_plain hgd fun K hK => ?_
  have hrun := Lib.run_copy_row_string (P := Try.prog) w 61 9 o.type 5 g 0 32 32 u Z t Try.underlying61 (by kernel_rfl) hg (by omega) (by omega)
  have e : (Z.toList.take 0 ++ Lib.byteCells u.data.toList ++ Z.toList.drop (0 + u.size)).toArray = D := by
    rw [HD.out, List.take_zero, List.nil_append, List.drop_of_length_le (by rw [Array.length_toList]; omega), List.append_nil]
    rfl
  rw [e, hu] at hrun
  unfold Oper.wp
  simp [execOp, hop, resolve, invoke, builtin, hs, hx, hrun, Result.andThen, goInt]
  exact hK _ _ (h _ (wrote_row hg))
def dB (tag : Int) (fs : List (Int × ByteArray)) : Bool := tkB tag fs && decide ((tkD tag fs).size = 32)
def dV (tag : Int) (fs : List (Int × ByteArray)) : List UInt8 := if dB tag fs = true then (tkD tag fs).data.toList else List.replicate 32 0
theorem dV_length (tag : Int) (fs : List (Int × ByteArray)) : (dV tag fs).length = 32 := by
  unfold dV
  split
  · rename_i h
    unfold dB at h
    simp only [Bool.and_eq_true, decide_eq_true_eq] at h
    exact h.2
  · rfl
set_option maxHeartbeats 4000000 in
theorem rdig_any (W : World) (lo g : Nat) (fs : List (Int × ByteArray)) (tag : Int) (h : Rd W lo g fs) (D : Array Value) (HD : Hid (D = (cellsOf (dV tag fs)).toArray)) :
    Calls Try.prog 147 #[.pointer (some ⟨g, 0, none⟩), .int .i64 tag] W fun e w' => e = .returned (.tuple #[.agg D, .bool (dB tag fs)]) ∧ W.grownBy w' (some g) ∧ Rd w' lo g (tkR tag fs) := by
  obtain ⟨Z, HZ, HA, HS, H1, H32⟩ := noughts27
  have HH := hidk h
  have D1 : Hid (∀ V, Rd V lo g fs → Calls Try.prog 149 #[.pointer (some ⟨g, 0, none⟩), .int .i64 tag] V fun e w' => e = .returned (.tuple #[.string (tkD tag fs), .bool (tkB tag fs)]) ∧ V.grownBy w' (some g) ∧ Rd w' lo g (tkR tag fs)) := fun V hV => data_any V lo g fs tag hV
  have hs := h.small tag
  have hlt := h.lt
  have HSD : Hid ((Try.prog.info? 30).map (·.size) = some D.size) := by show _ = _; rw [size23, HD.out]; simp [cellsOf_length, dV_length]
  have H1D : Hid (D.all (·.oneCell') = true) := by show _ = _; rw [HD.out]; exact cellsOf_all _
  have HZD : Hid (Z.size = D.size) := by show _ = _; rw [H32.out, HD.out]; simp [cellsOf_length, dV_length]
  have h32 : Z.size = 32 := H32.out
  have HSZ := HS
  have HDV : dB tag fs = true → Hid (D = (cellsOf (tkD tag fs).data.toList).toArray) := fun hq => by
    show _ = _
    rw [HD.out]; unfold dV; rw [if_pos hq]
  have HDZ : dB tag fs = false → Hid (D = Z) := fun hq => by
    show _ = _
    rw [HD.out, HZ.out]; unfold dV; rw [if_neg (by rw [hq]; simp)]
  have hnot : ∀ (x : Bool) (w : World), (Op.unary .not (.bool x)).run Try.prog w = .ok (.bool (!x)) w := fun _ _ => rfl
  unfold dB at HDV HDZ ⊢
  clear HD HZ
  obtain ⟨d, hd⟩ : ∃ d, d = tkD tag fs := ⟨_, rfl⟩
  obtain ⟨b, hb⟩ : ∃ b, b = tkB tag fs := ⟨_, rfl⟩
  obtain ⟨r, hr⟩ : ∃ r, r = tkR tag fs := ⟨_, rfl⟩
  rw [← hd] at hs
  simp only [← hd, ← hb, ← hr] at D1 HDV HDZ ⊢
  unfold maxLen at hs
  clear hd hb hr h
  cases b
  · obtain rfl := (HDZ rfl).out
    clear HDV HDZ
    go_enter Try.func147, Try.ntmps147
    go_wp2_with (first
      | (show aD 4 _ _ _ _ _ _ _ _ _ _ _; refine wpList_new_var rfl 30 rfl D HA.out ?_; intro g4 w1 HM4; try simp only [Act.put, pS1, pS2, pS3])
      | (show aD 6 _ _ _ _ _ _ _ _ _ _ _; refine wpList_new_var rfl 30 rfl D HA.out ?_; intro g6 w2 HM6; try simp only [Act.put, pS1, pS2, pS3])
      | fail)
    have HB2 : Hid (Below W.heap.size W w2) := HM4.out.below.trans (HM6.out.below.mono HM4.out.below.size)
    refine (D1.out w2 (HH.out.below HB2.out)).mono ?_
    rintro e w3 ⟨rfl, hg3, hr3⟩
    have HG3 := hidk (grown_trans (grown_below HB2.out) hg3)
    have HR3 := hidk hr3
    have h4 : W.heap.size ≤ g4 := Nat.le_of_eq HM4.out.new.symm
    have h6 : g4 < g6 := by have e1 := HM6.out.new; have := heap_lt HM4.out.row; omega
    have HR4 : Hid (w3.heap[g4]? = some (.cells D 30 (0, 0))) := by
      have q : w2.heap[g4]? = some (.cells D 30 (0, 0)) := (HM6.out.below.block _ (heap_lt HM4.out.row)).trans HM4.out.row
      exact (hg3.block _ (heap_lt q) (by intro e; cases e; omega)).trans q
    have HR6 : Hid (w3.heap[g6]? = some (.cells D 30 (0, 0))) := (hg3.block _ (heap_lt HM6.out.row) (by intro e; cases e; omega)).trans HM6.out.row
    clear HM4 HM6 HB2 hg3 hr3 D1 HH
    go_wp2_with (first
      | (show aD 22 _ _ _ _ _ _ _ _ _ _ _; refine wpList_load_row rfl 30 (.tmp 6) rfl g6 rfl 30 D (0, 0) _ HR6.out Try.underlying30 rfl HSD.out ?_; try simp only [Act.put, pS1, pS2, pS3])
      | (refine wpList_set_var rfl 30 (.tmp 4) (.tmp 22) rfl g4 D rfl rfl 30 D HR4.out HSD.out rfl H1D.out ?_; intro w4 HW4; try simp only [Act.put, pS1, pS2, pS3])
      | fail)
    refine bodyPost_ret (v := .tuple #[.agg D, .bool false]) ?_ rfl ⟨rfl, ?_, HR3.out.wrote HW4.out (.inr (by omega))⟩
    · exact results_row_tmp (p := 4) (q := 5) (ty := 30) rfl _ _ g4 30 D (0, 0) _ rfl HW4.out.row Try.underlying30 rfl HSD.out
    · exact grown_wrote HG3.out HW4.out (by omega)
  · by_cases h2 : d.size = 32
    · have HDD := HDV (by simpa using h2)
      have hd : decide (d.size = 32) = true := by simpa using h2
      rw [hd]
      clear HDV HDZ hd
      go_enter Try.func147, Try.ntmps147
      go_wp2_with (first
        | (show aD 4 _ _ _ _ _ _ _ _ _ _ _; refine wpList_new_var rfl 30 rfl Z HA.out ?_; intro g4 w1 HM4; try simp only [Act.put, pS1, pS2, pS3])
        | (show aD 6 _ _ _ _ _ _ _ _ _ _ _; refine wpList_new_var rfl 30 rfl Z HA.out ?_; intro g6 w2 HM6; try simp only [Act.put, pS1, pS2, pS3])
        | fail)
      have HB2 : Hid (Below W.heap.size W w2) := HM4.out.below.trans (HM6.out.below.mono HM4.out.below.size)
      refine (D1.out w2 (HH.out.below HB2.out)).mono ?_
      rintro e w3 ⟨rfl, hg3, hr3⟩
      have HG3 := hidk (grown_trans (grown_below HB2.out) hg3)
      have HR3 := hidk hr3
      have h4 : W.heap.size ≤ g4 := Nat.le_of_eq HM4.out.new.symm
      have h6 : g4 < g6 := by have e1 := HM6.out.new; have := heap_lt HM4.out.row; omega
      have HR4 : Hid (w3.heap[g4]? = some (.cells Z 30 (0, 0))) := by
        have q : w2.heap[g4]? = some (.cells Z 30 (0, 0)) := (HM6.out.below.block _ (heap_lt HM4.out.row)).trans HM4.out.row
        exact (hg3.block _ (heap_lt q) (by intro e; cases e; omega)).trans q
      have HR6 : Hid (w3.heap[g6]? = some (.cells Z 30 (0, 0))) := (hg3.block _ (heap_lt HM6.out.row) (by intro e; cases e; omega)).trans HM6.out.row
      have hsl := slice_at w3 g6 0
      have hd2 : (d.size : Int) = 32 := by omega
      clear HM4 HM6 HB2 hg3 hr3 D1 HH hs
      go_wp2_with (first
        | (refine wpList_copy_text rfl (.tmp 23) (.tmp 24) rfl g6 30 rfl d rfl h2 Z D h32 HDD HR6.out ?_; intro w4 HW6; try simp only [Act.put, pS1, pS2, pS3])
        | (show aD 26 _ _ _ _ _ _ _ _ _ _ _; refine wpList_load_row rfl 30 (.tmp 6) rfl g6 rfl 30 D (0, 0) _ HW6.out.row Try.underlying30 rfl HSD.out ?_; try simp only [Act.put, pS1, pS2, pS3])
        | (refine wpList_set_var rfl 30 (.tmp 4) (.tmp 26) rfl g4 D rfl rfl 30 Z ((HW6.out.other _ (by omega)).trans HR4.out) HSD.out HZD.out H1D.out ?_; intro w5 HW4; try simp only [Act.put, pS1, pS2, pS3])
        | fail)
      refine bodyPost_ret (v := .tuple #[.agg D, .bool true]) ?_ rfl ⟨rfl, ?_, (HR3.out.wrote HW6.out (.inr (by omega))).wrote HW4.out (.inr (by omega))⟩
      · exact results_row_tmp (p := 4) (q := 5) (ty := 30) rfl _ _ g4 30 D (0, 0) _ rfl HW4.out.row Try.underlying30 rfl HSD.out
      · exact grown_wrote (grown_wrote HG3.out HW6.out (by omega)) HW4.out (by omega)
    · have hd : decide (d.size = 32) = false := by simpa using h2
      rw [hd] at HDZ ⊢
      obtain rfl := (HDZ rfl).out
      clear HDV HDZ hd
      have hd2 : ¬ (d.size : Int) = 32 := by omega
      go_enter Try.func147, Try.ntmps147
      go_wp2_with (first
        | (show aD 4 _ _ _ _ _ _ _ _ _ _ _; refine wpList_new_var rfl 30 rfl D HA.out ?_; intro g4 w1 HM4; try simp only [Act.put, pS1, pS2, pS3])
        | (show aD 6 _ _ _ _ _ _ _ _ _ _ _; refine wpList_new_var rfl 30 rfl D HA.out ?_; intro g6 w2 HM6; try simp only [Act.put, pS1, pS2, pS3])
        | fail)
      have HB2 : Hid (Below W.heap.size W w2) := HM4.out.below.trans (HM6.out.below.mono HM4.out.below.size)
      refine (D1.out w2 (HH.out.below HB2.out)).mono ?_
      rintro e w3 ⟨rfl, hg3, hr3⟩
      have HG3 := hidk (grown_trans (grown_below HB2.out) hg3)
      have HR3 := hidk hr3
      have h4 : W.heap.size ≤ g4 := Nat.le_of_eq HM4.out.new.symm
      have h6 : g4 < g6 := by have e1 := HM6.out.new; have := heap_lt HM4.out.row; omega
      have HR4 : Hid (w3.heap[g4]? = some (.cells D 30 (0, 0))) := by
        have q : w2.heap[g4]? = some (.cells D 30 (0, 0)) := (HM6.out.below.block _ (heap_lt HM4.out.row)).trans HM4.out.row
        exact (hg3.block _ (heap_lt q) (by intro e; cases e; omega)).trans q
      have HR6 : Hid (w3.heap[g6]? = some (.cells D 30 (0, 0))) := (hg3.block _ (heap_lt HM6.out.row) (by intro e; cases e; omega)).trans HM6.out.row
      clear HM4 HM6 HB2 hg3 hr3 D1 HH h2
      go_wp2_with (first
        | (show aD 22 _ _ _ _ _ _ _ _ _ _ _; refine wpList_load_row rfl 30 (.tmp 6) rfl g6 rfl 30 D (0, 0) _ HR6.out Try.underlying30 rfl HSD.out ?_; try simp only [Act.put, pS1, pS2, pS3])
        | (refine wpList_set_var rfl 30 (.tmp 4) (.tmp 22) rfl g4 D rfl rfl 30 D HR4.out HSD.out rfl H1D.out ?_; intro w4 HW4; try simp only [Act.put, pS1, pS2, pS3])
        | fail)
      refine bodyPost_ret (v := .tuple #[.agg D, .bool false]) ?_ rfl ⟨rfl, ?_, HR3.out.wrote HW4.out (.inr (by omega))⟩
      · exact results_row_tmp (p := 4) (q := 5) (ty := 30) rfl _ _ g4 30 D (0, 0) _ rfl HW4.out.row Try.underlying30 rfl HSD.out
      · exact grown_wrote HG3.out HW4.out (by omega)
structure Went (gh g : Nat) (W W' : World) : Prop where
  below : ∀ B a, Below B a W → B ≤ gh → B ≤ g → Below B a W'
  other : ∀ k, k < W.heap.size → k ≠ gh → k ≠ g → W'.heap[k]? = W.heap[k]?
theorem went_of {gh g : Nat} {W W1 W' : World} {D : Array Value} {t : TypeId} (h : W.grownBy W1 (some g)) (hw : Wrote gh D t W1 W') (hg : g < W.heap.size) : Went gh g W W' :=
  ⟨fun B a hb h1 h2 => hw.below B a (hb.grown h (by omega) (by intro k hk; cases hk; exact h2)) h1,
   fun k hk h1 h2 => (hw.other k h1).trans (h.block k hk (by intro e; cases e; exact h2 rfl))⟩
theorem wpList_put64 {P : Program} {ops : Array Oper} {rest : List Oper} {o : Oper} {a : Act} {w : World} {Q : Exit → Act → World → Prop} (hgd : o.guard = none) (t : TypeId) (x y : Operand) (ho : o.op = .store t x y) (hs : ∀ w, (sizeOf t).run P w = .ok 1 w)
    (g i : Nat) (n : Int) (hx : a.eval x = .pointer (some ⟨g, i, none⟩)) (hy : a.eval y = .int .i64 n) (cs : Array Value) (t' : TypeId) (hg : w.heap[g]? = some (.cells cs t' (0, 0))) (hi : i < cs.size)
    (h : ∀ w', Hid (Wrote g (cs.setIfInBounds i (.int .i64 n)) t' w w') → wpList P ops Q rest (a.put o.dst undef) w') : wpList P ops Q (o :: rest) a w := by
  refine wpList_plain hgd fun K hK => ?_
  have hc : w.cell? ⟨g, i, none⟩ = some cs[i] := by rw [cell_of_row w g i cs t' (0, 0) hg, Array.getElem?_eq_getElem hi]
  have hf : w.frozen? ⟨g, i, none⟩ = false := frozen_of_row w g i cs t' hg
  have hrun : (Instr.storeAt t (.pointer (some ⟨g, i, none⟩)) (.int .i64 n)).run P w = .ok () (w.setCell ⟨g, i, none⟩ (.int .i64 n)) := by
    simp [go_sem, hc, hf, hs]
  unfold Oper.wp execOp
  simp only [ho, hx, hy, hrun, Sem.run_bind, Result.andThen_ok]
  exact hK _ _ (h _ (wrote_cell _ hg))
theorem sizeOf3 (w : World) : (sizeOf 3).run Try.prog w = .ok 1 w := by
  have h : (Try.prog.info? 3).map (·.size) = some 1 := by kernel_rfl
  cases hq : Try.prog.info? 3 with
  | none => rw [hq] at h; cases h
  | some i =>
    rw [hq] at h
    simp only [Option.map_some, Option.some.injEq] at h
    simp [sizeOf, typeInfo, hq, h]
set_option maxHeartbeats 2000000 in
theorem into_int (W : World) (lo g gh off : Nat) (fs : List (Int × ByteArray)) (tag : Int) (h : Rd W lo g fs) (C C' : Array Value) (t : TypeId) (hC : W.heap[gh]? = some (.cells C t (0, 0))) (ho : off < C.size) (hl : gh < lo) (HC' : Hid (C' = C.setIfInBounds off (.int .i64 (nV tag fs)))) :
    Calls Try.prog 144 #[.pointer (some ⟨gh, off, none⟩), .int .i64 tag, .func (.func 145) #[.pointer (some ⟨g, 0, none⟩)] #[]] W fun e w' =>
      e = .returned (.bool (nB tag fs)) ∧ w'.heap[gh]? = some (.cells C' t (0, 0)) ∧ Rd w' lo g (tkR tag fs) ∧ Went gh g W w' := by
  have N1 := hidk (rnum_any W lo g fs tag h)
  have hlt := h.lt
  have hgg : gh ≠ g := by obtain ⟨_, _, _, q, _⟩ := h; omega
  rw [HC'.out]
  have HC := hidk hC
  obtain ⟨n, hn⟩ : ∃ n, n = nV tag fs := ⟨_, rfl⟩
  obtain ⟨b, hb⟩ : ∃ n, n = nB tag fs := ⟨_, rfl⟩
  rw [← hn, ← hb] at N1
  rw [← hn, ← hb]
  clear HC' hn hb h hC
  go_enter Try.func144, Try.ntmps144
  go_wp2_with fail
  refine N1.out.mono ?_
  rintro e w1 ⟨rfl, hg1, hr1⟩
  have HG := hidk hg1
  have HR := hidk hr1
  have HC1 := hidk ((hg1.block _ (heap_lt HC.out) (by intro e; cases e; exact hgg rfl)).trans HC.out)
  clear hg1 hr1 HC
  go_wp2_with (first
    | (refine wpList_put64 rfl 3 (.tmp 17) (.tmp 16) rfl sizeOf3 gh off n rfl rfl C t HC1.out ho ?_; intro w2 HW; try simp only [Act.put, pS1, pS2, pS3])
    | fail)
  go_ret
  exact ⟨rfl, HW.out.row, HR.out.wrote HW.out (.inl hl), went_of HG.out HW.out hlt⟩
set_option maxHeartbeats 2000000 in
theorem into_dig (W : World) (lo g gh off : Nat) (fs : List (Int × ByteArray)) (tag : Int) (h : Rd W lo g fs) (C C' D : Array Value) (t : TypeId) (hC : W.heap[gh]? = some (.cells C t (0, 0))) (ho : off + 32 ≤ C.size) (hl : gh < lo) (HD : Hid (D = (cellsOf (dV tag fs)).toArray)) (HC' : Hid (C' = (C.toList.take off ++ D.toList ++ C.toList.drop (off + 32)).toArray)) :
    Calls Try.prog 146 #[.pointer (some ⟨gh, off, none⟩), .int .i64 tag, .func (.func 147) #[.pointer (some ⟨g, 0, none⟩)] #[]] W fun e w' =>
      e = .returned (.bool (dB tag fs)) ∧ w'.heap[gh]? = some (.cells C' t (0, 0)) ∧ Rd w' lo g (tkR tag fs) ∧ Went gh g W w' := by
  obtain ⟨Z, HZ, HA, HS, H1, H32⟩ := noughts27
  have N1 := hidk (rdig_any W lo g fs tag h D HD)
  have hlt := h.lt
  have HSD : Hid ((Try.prog.info? 30).map (·.size) = some D.size) := by show _ = _; rw [size23, HD.out]; simp [cellsOf_length, dV_length]
  have H1D : Hid (D.all (·.oneCell') = true) := by show _ = _; rw [HD.out]; exact cellsOf_all _
  have HZD : Hid (Z.size = D.size) := by show _ = _; rw [H32.out, HD.out]; simp [cellsOf_length, dV_length]
  have HD32 : Hid (D.size = 32) := by show _ = _; rw [HD.out]; simp [cellsOf_length, dV_length]
  have hgg : gh ≠ g := by obtain ⟨_, _, _, q, _⟩ := h; omega
  have HCC : Hid (C' = (C.toList.take off ++ D.toList ++ C.toList.drop (off + D.size)).toArray) := by show _ = _; rw [HD32.out, HC'.out]
  have HOO : Hid (off + D.size ≤ C.size) := by show _ ≤ _; rw [HD32.out]; exact ho
  have HC := hidk hC
  obtain ⟨b, hb⟩ : ∃ n, n = dB tag fs := ⟨_, rfl⟩
  rw [← hb] at N1
  rw [← hb]
  clear HC' hb hC HD HD32 HZ ho
  go_enter Try.func146, Try.ntmps146
  go_wp2_with fail
  refine N1.out.mono ?_
  rintro e w1 ⟨rfl, hg1, hr1⟩
  have HG := hidk hg1
  have HR := hidk hr1
  have HC1 := hidk ((hg1.block _ (heap_lt HC.out) (by intro e; cases e; exact hgg rfl)).trans HC.out)
  have hs1 := hg1.size
  clear hg1 hr1 h
  go_wp2_with (first
    | (show aD 7 _ _ _ _ _ _ _ _ _ _ _; refine wpList_new_var rfl 30 rfl Z HA.out ?_; intro g7 w2 HM7; try simp only [Act.put, pS1, pS2, pS3])
    | (refine wpList_set_var rfl 30 (.tmp 7) (.tmp 13) rfl g7 D rfl rfl 30 Z HM7.out.row HSD.out HZD.out H1D.out ?_; intro w3 HW7; try simp only [Act.put, pS1, pS2, pS3])
    | (show aD 16 _ _ _ _ _ _ _ _ _ _ _; refine wpList_load_row rfl 30 (.tmp 7) rfl g7 rfl 30 D (0, 0) _ HW7.out.row Try.underlying30 rfl HSD.out ?_; try simp only [Act.put, pS1, pS2, pS3])
    | (refine wpList_set_mid rfl 30 (.tmp 17) (.tmp 16) rfl gh off D rfl rfl t C ((HW7.out.other _ (by have e1 := HM7.out.new; have := heap_lt HC1.out; omega)).trans ((HM7.out.below.block _ (heap_lt HC1.out)).trans HC1.out)) HOO.out HSD.out H1D.out ?_; intro w4 HW; try simp only [Act.put, pS1, pS2, pS3])
    | fail)
  have h7 : w1.heap.size ≤ g7 := Nat.le_of_eq HM7.out.new.symm
  have HG2 := hidk (grown_wrote (grown_trans HG.out (grown_below HM7.out.below)) HW7.out (Nat.le_trans HG.out.size h7))
  have hb1 := HR.out.lt
  go_ret
  refine ⟨rfl, ?_, ((HR.out.below HM7.out.below).wrote HW7.out (.inr (by omega))).wrote HW.out (.inl hl), went_of HG2.out HW.out hlt⟩
  rw [HCC.out]
  exact HW.out.row
def Lie (W : World) (lo : Nat) (a : Option Addr) (cap : Nat) (fs : List (Int × ByteArray)) : Prop :=
  fs.length ≤ cap ∧ cap ≤ 9223372036854775807 ∧ (∀ f ∈ fs, f.2.size ≤ maxLen) ∧
    (fs = [] ∨ ∃ b off, a = some ⟨b, off, none⟩ ∧ lo ≤ b ∧ b < W.heap.size ∧ ∀ (i : Nat) (h : i < fs.length), W.cell? ⟨b, off + i * 2, none⟩ = some (.int .i64 fs[i].1) ∧ W.cell? ⟨b, off + i * 2 + 1, none⟩ = some (.string fs[i].2))
theorem rd_new {W : World} {lo : Nat} {a : Option Addr} {cap : Nat} {fs : List (Int × ByteArray)} (h : Lie W lo a cap fs) (hl : lo ≤ W.heap.size) : Rd (W.alloc (.cells #[.slice a fs.length cap] 176)) lo W.heap.size fs := by
  obtain ⟨h1, h2, h3, h4⟩ := h
  refine ⟨a, cap, heap_alloc_new W _, hl, h1, h2, h3, ?_⟩
  rcases h4 with h4 | ⟨b, off, e, hlo, hlt, hc⟩
  · exact .inl h4
  · have hk := Below.heap_alloc W (.cells #[.slice a fs.length cap] 176) b hlt
    exact .inr ⟨b, off, e, hlo, hlt, fun i hi => ⟨(World.cell?_of_block (a := ⟨b, off + i * 2, none⟩) hk).trans (hc i hi).1, (World.cell?_of_block (a := ⟨b, off + i * 2 + 1, none⟩) hk).trans (hc i hi).2⟩⟩
theorem lie_own {w : World} {B : Nat} {v : Value} {fs : List (Int × ByteArray)} (h : w.ownsRow B 85 2 v fs.length (fcells fs)) (hm : ∀ f ∈ fs, f.2.size ≤ maxLen) : ∃ a cap, v = .slice a fs.length cap ∧ Lie w B a cap fs := by
  obtain ⟨a, cap, rfl, h1, h2, h3, h4, h5⟩ := freads_own h hm
  refine ⟨a, cap, rfl, h2, h3, hm, ?_⟩
  cases fs with
  | nil => exact .inl rfl
  | cons f r =>
    rcases h5 with ⟨rfl, e⟩ | ⟨ad, rfl, e⟩ | ⟨b, off, rfl, hlt, hc⟩
    · simp at h2; omega
    · simp at e
    · refine .inr ⟨b, off, rfl, ?_, hlt, hc⟩
      rcases h.2 with ⟨e, h0⟩ | ⟨g, cap', cur, e, hb, _⟩
      · simp at h0
      · cases e; exact hb
set_option maxHeartbeats 2000000 in
theorem open_any (a : Option Addr) (len cap : Nat) (bs : List UInt8) (w : World) (hR : Reads w a len cap bs) (hl : len ≤ 1000000) :
    Calls Try.prog 141 #[.slice a len cap] w fun e w' => ∃ x c, e = .returned (.slice x (readF bs).length c) ∧ Lie w' w.heap.size x c (readF bs) ∧ Below w.heap.size w w' := by
  have R1 : Hid (Calls Try.prog 112 #[.slice a len cap] w fun e W' => ∃ x c, e = .returned (.tuple #[.slice x (readF bs).length c, .int .i64 (readE bs)]) ∧ Lie W' w.heap.size x c (readF bs) ∧ Below w.heap.size w W') := by
    refine (read_any a len cap bs w hR hl).mono ?_
    rintro e W' ⟨v, rfl, hown, hb⟩
    obtain ⟨x, c, rfl, hlie⟩ := lie_own hown (readF_small bs)
    exact ⟨x, c, rfl, hlie, hb⟩
  obtain ⟨fs, hfs⟩ : ∃ fs, fs = readF bs := ⟨_, rfl⟩
  obtain ⟨E, hE⟩ : ∃ E : Int, E = readE bs := ⟨_, rfl⟩
  rw [← hfs, ← hE] at R1
  rw [← hfs]
  clear hfs hE hR
  go_enter Try.func141, Try.ntmps141
  go_wp2_with fail
  refine R1.out.mono ?_
  rintro e w1 ⟨x, c, rfl, hl1, hb1⟩
  have HL := hidk hl1
  have HB := hidk hb1
  clear hl1 hb1
  go_wp2
  go_ret
  exact ⟨x, c, rfl, HL.out, HB.out⟩
theorem tk_shape {tag : Int} {fs : List (Int × ByteArray)} (h : tkB tag fs = true) : fs = (tag, tkD tag fs) :: tkR tag fs := by
  cases fs with
  | nil => cases h
  | cons f r =>
    have e : f.1 = tag := by simpa [tkB] using h
    have e1 : tkD tag (f :: r) = f.2 := if_pos e
    have e2 : tkR tag (f :: r) = r := if_pos e
    rw [e1, e2, ← e]
theorem tkB_hit (tag : Int) (d : ByteArray) (r : List (Int × ByteArray)) : tkB tag ((tag, d) :: r) = true := by simp [tkB]
theorem tkD_hit (tag : Int) (d : ByteArray) (r : List (Int × ByteArray)) : tkD tag ((tag, d) :: r) = d := if_pos rfl
theorem tkR_hit (tag : Int) (d : ByteArray) (r : List (Int × ByteArray)) : tkR tag ((tag, d) :: r) = r := if_pos rfl
theorem nB_hit (tag : Int) (d : ByteArray) (r : List (Int × ByteArray)) : nB tag ((tag, d) :: r) = isNum d.data.toList := by unfold nB; rw [tkB_hit, tkD_hit, Bool.true_and]
theorem nV_hit (tag : Int) (d : ByteArray) (r : List (Int × ByteArray)) : nV tag ((tag, d) :: r) = vOf d.data.toList := by unfold nV; rw [tkD_hit]
theorem dB_hit (tag : Int) (d : ByteArray) (r : List (Int × ByteArray)) : dB tag ((tag, d) :: r) = decide (d.size = 32) := by unfold dB; rw [tkB_hit, tkD_hit, Bool.true_and]
theorem nB_tk {tag : Int} {fs : List (Int × ByteArray)} (h : nB tag fs = true) : tkB tag fs = true ∧ isNum (tkD tag fs).data.toList = true := by unfold nB at h; simpa using h
theorem dB_tk {tag : Int} {fs : List (Int × ByteArray)} (h : dB tag fs = true) : tkB tag fs = true ∧ (tkD tag fs).size = 32 := by unfold dB at h; simpa using h
theorem nV_val {tag : Int} {fs : List (Int × ByteArray)} (h : nB tag fs = true) : nV tag fs = valO (tkD tag fs).data.toList := by
  unfold nV vOf valO
  rw [if_pos (nB_tk h).2, if_pos (nB_tk h).2]
theorem valO_num {l : List UInt8} (h : 0 ≤ valO l) : isNum l = true := by
  unfold valO at h
  split at h
  · assumption
  · omega
theorem dV_yes {tag : Int} {fs : List (Int × ByteArray)} (h : dB tag fs = true) : dV tag fs = (tkD tag fs).data.toList := if_pos h
theorem readF_none {bs : List UInt8} (h : readE bs ≠ 0) : readF bs = [] := by unfold readF; rw [if_neg h]
theorem partsO_fields {bs : List UInt8} {n : Nat} {l : List ByteArray} (h : partsO bs n = some l) : readE bs = 0 ∧ readF bs = fieldsN l ∧ l.length = n := by
  obtain ⟨h1, _, _⟩ := row_parts h
  unfold partsO at h
  split at h
  · rename_i hh
    have hl : (readF bs).map (·.2) = l := Option.some.inj h
    refine ⟨hh.1, ?_, h1⟩
    unfold fieldsN
    rw [h1, ← hh.2, ← hl, zip_fst_snd]
  · cases h
theorem partsO_of {bs : List UInt8} {l : List ByteArray} (h : readE bs = 0) (hf : readF bs = fieldsN l) : partsO bs l.length = some l := by
  unfold partsO
  rw [hf, if_pos ⟨h, fieldsN_fst l⟩, fieldsN_snd]
def seqH (f0 : List (Int × ByteArray)) : HdT := ⟨nV 1 f0, nV 2 (tkR 1 f0), nV 3 (tkR 2 (tkR 1 f0)), dV 4 (tkR 3 (tkR 2 (tkR 1 f0))), nV 5 (tkR 4 (tkR 3 (tkR 2 (tkR 1 f0))))⟩
def allH (f0 : List (Int × ByteArray)) : Bool := nB 1 f0 && (nB 2 (tkR 1 f0) && (nB 3 (tkR 2 (tkR 1 f0)) && (dB 4 (tkR 3 (tkR 2 (tkR 1 f0))) && (nB 5 (tkR 4 (tkR 3 (tkR 2 (tkR 1 f0)))) && (decide ((tkR 5 (tkR 4 (tkR 3 (tkR 2 (tkR 1 f0))))).length = 0) && rightH (seqH f0))))))
theorem get_seq (bs : List UInt8) : getO bs = if allH (readF bs) = true then some (seqH (readF bs)) else none := by
  by_cases h0 : readE bs = 0
  · by_cases ha : allH (readF bs) = true
    · rw [if_pos ha]
      obtain ⟨f0, hf0⟩ : ∃ f, f = readF bs := ⟨_, rfl⟩
      rw [← hf0] at ha ⊢
      have ha' := ha
      unfold allH at ha
      simp only [Bool.and_eq_true, decide_eq_true_eq] at ha
      obtain ⟨a1, a2, a3, a4, a5, a6, a7⟩ := ha
      have s1 := tk_shape (nB_tk a1).1
      have s2 := tk_shape (nB_tk a2).1
      have s3 := tk_shape (nB_tk a3).1
      have s4 := tk_shape (dB_tk a4).1
      have s5 := tk_shape (nB_tk a5).1
      have s6 := List.eq_nil_of_length_eq_zero a6
      have hh : seqH f0 = headOf (tkD 1 f0) (tkD 2 (tkR 1 f0)) (tkD 3 (tkR 2 (tkR 1 f0))) (tkD 4 (tkR 3 (tkR 2 (tkR 1 f0)))) (tkD 5 (tkR 4 (tkR 3 (tkR 2 (tkR 1 f0))))) := by
        unfold seqH headOf
        rw [nV_val a1, nV_val a2, nV_val a3, nV_val a5, dV_yes a4]
      have hx := (dB_tk a4).2
      obtain ⟨x1, e1⟩ : ∃ x, x = tkD 1 f0 := ⟨_, rfl⟩
      obtain ⟨x2, e2⟩ : ∃ x, x = tkD 2 (tkR 1 f0) := ⟨_, rfl⟩
      obtain ⟨x3, e3⟩ : ∃ x, x = tkD 3 (tkR 2 (tkR 1 f0)) := ⟨_, rfl⟩
      obtain ⟨x4, e4⟩ : ∃ x, x = tkD 4 (tkR 3 (tkR 2 (tkR 1 f0))) := ⟨_, rfl⟩
      obtain ⟨x5, e5⟩ : ∃ x, x = tkD 5 (tkR 4 (tkR 3 (tkR 2 (tkR 1 f0)))) := ⟨_, rfl⟩
      rw [← e1, ← e2, ← e3, ← e4, ← e5] at hh
      rw [← e4] at hx
      have hs : readF bs = fieldsN [x1, x2, x3, x4, x5] := by
        rw [s6, ← e5] at s5
        rw [s5, ← e4] at s4
        rw [s4, ← e3] at s3
        rw [s3, ← e2] at s2
        rw [s2, ← e1] at s1
        rw [← hf0, s1]
        rfl
      have hp : partsO bs 5 = some [x1, x2, x3, x4, x5] := partsO_of h0 hs
      unfold getO
      rw [hp]
      show (if x4.size = 32 ∧ rightH (headOf x1 x2 x3 x4 x5) = true then some (headOf x1 x2 x3 x4 x5) else none) = _
      rw [← hh, if_pos ⟨hx, a7⟩]
    · rw [if_neg ha]
      cases hg : getO bs with
      | none => rfl
      | some h =>
        exfalso
        apply ha
        unfold getO at hg
        split at hg
        · rename_i x1 x2 x3 x4 x5 hp
          split at hg
          · rename_i hh
            have hr := (rightH_iff _).1 hh.2
            have hf := (partsO_fields hp).2.1
            rw [hf]
            unfold headOf at hr
            simp only at hr
            have n1 := valO_num (l := x1.data.toList) (by omega)
            have n2 := valO_num (l := x2.data.toList) (by omega)
            have n3 := valO_num (l := x3.data.toList) (by omega)
            have n5 := valO_num (l := x5.data.toList) (by omega)
            have hq : seqH (fieldsN [x1, x2, x3, x4, x5]) = headOf x1 x2 x3 x4 x5 := by
              show seqH [((1 : Int), x1), (2, x2), (3, x3), (4, x4), (5, x5)] = _
              unfold seqH headOf
              simp only [tkR_hit, nV_hit]
              rw [dV_yes (by rw [dB_hit]; simpa using hh.1), tkD_hit]
              unfold vOf valO
              rw [if_pos n1, if_pos n2, if_pos n3, if_pos n5, if_pos n1, if_pos n2, if_pos n3, if_pos n5]
            show allH [((1 : Int), x1), (2, x2), (3, x3), (4, x4), (5, x5)] = true
            have hq' : seqH [((1 : Int), x1), (2, x2), (3, x3), (4, x4), (5, x5)] = headOf x1 x2 x3 x4 x5 := hq
            unfold allH
            rw [hq']
            simp only [tkR_hit, nB_hit, dB_hit, n1, n2, n3, n5, hh.2, List.length_nil, Bool.true_and, Bool.and_true, decide_true]
            simpa using hh.1
          · cases hg
        · cases hg
  · have hf := readF_none h0
    have hg : getO bs = none := by
      cases hg : partsO bs 5 with
      | none => unfold getO; rw [hg]
      | some l => exact absurd (partsO_fields hg).1 h0
    rw [hg, hf, if_neg]
    intro h
    cases h
structure GtS (w W : World) (g2 g4 g5 lo : Nat) (Z C : Array Value) (T : TypeId) (fs : List (Int × ByteArray)) : Prop where
  below : Below w.heap.size w W
  r2 : W.heap[g2]? = some (.cells Z T (0, 0))
  r4 : W.heap[g4]? = some (.cells C T (0, 0))
  rd : Rd W lo g5 fs
  o2 : w.heap.size ≤ g2
  o4 : g2 < g4
  ol : g4 < lo
  o5 : lo ≤ g5
theorem GtS.went {w W W' : World} {g2 g4 g5 lo : Nat} {Z C C' : Array Value} {T : TypeId} {fs fs' : List (Int × ByteArray)} (h : GtS w W g2 g4 g5 lo Z C T fs) (hr : W'.heap[g4]? = some (.cells C' T (0, 0))) (hd : Rd W' lo g5 fs') (hw : Went g4 g5 W W') : GtS w W' g2 g4 g5 lo Z C' T fs' := by
  have := h.o2
  have := h.o4
  have := h.ol
  have := h.o5
  exact ⟨hw.below _ _ h.below (by omega) (by omega), (hw.other _ (heap_lt h.r2) (by omega) (by omega)).trans h.r2, hr, hd, h.o2, h.o4, h.ol, h.o5⟩
theorem GtS.keep {w W W' : World} {g2 g4 g5 lo : Nat} {Z C : Array Value} {T : TypeId} {fs : List (Int × ByteArray)} (h : GtS w W g2 g4 g5 lo Z C T fs) (hb : Below W.heap.size W W') : GtS w W' g2 g4 g5 lo Z C T fs :=
  ⟨h.below.trans (hb.mono h.below.size), (hb.block _ (heap_lt h.r2)).trans h.r2, (hb.block _ (heap_lt h.r4)).trans h.r4, h.rd.below hb, h.o2, h.o4, h.ol, h.o5⟩
theorem gt_int {w W : World} {g2 g4 g5 lo : Nat} {Z C C' : Array Value} {T : TypeId} {fs fs' : List (Int × ByteArray)} (tag : Int) (off : Nat) (b : Bool) (h : GtS w W g2 g4 g5 lo Z C T fs) (ho : off < C.size) (hC : C' = C.setIfInBounds off (.int .i64 (nV tag fs))) (hb : b = nB tag fs) (hf : fs' = tkR tag fs) :
    Calls Try.prog 144 #[.pointer (some ⟨g4, off, none⟩), .int .i64 tag, .func (.func 145) #[.pointer (some ⟨g5, 0, none⟩)] #[]] W fun e w' => e = .returned (.bool b) ∧ GtS w w' g2 g4 g5 lo Z C' T fs' := by
  subst hb hf
  refine (into_int W lo g5 g4 off fs tag h.rd C C' T h.r4 ho h.ol hC).mono ?_
  rintro e w' ⟨rfl, h1, h2, h3⟩
  exact ⟨rfl, h.went h1 h2 h3⟩
theorem gt_dig {w W : World} {g2 g4 g5 lo : Nat} {Z C C' : Array Value} {T : TypeId} {fs fs' : List (Int × ByteArray)} (tag : Int) (off : Nat) (b : Bool) (h : GtS w W g2 g4 g5 lo Z C T fs) (ho : off + 32 ≤ C.size) (hC : C' = (C.toList.take off ++ cellsOf (dV tag fs) ++ C.toList.drop (off + 32)).toArray) (hb : b = dB tag fs) (hf : fs' = tkR tag fs) :
    Calls Try.prog 146 #[.pointer (some ⟨g4, off, none⟩), .int .i64 tag, .func (.func 147) #[.pointer (some ⟨g5, 0, none⟩)] #[]] W fun e w' => e = .returned (.bool b) ∧ GtS w w' g2 g4 g5 lo Z C' T fs' := by
  subst hb hf
  refine (into_dig W lo g5 g4 off fs tag h.rd C C' (cellsOf (dV tag fs)).toArray T h.r4 ho h.ol (hidk rfl) (by show _ = _; rw [hC])).mono ?_
  rintro e w' ⟨rfl, h1, h2, h3⟩
  exact ⟨rfl, h.went h1 h2 h3⟩
theorem gt_ended {w W : World} {g2 g4 g5 lo : Nat} {Z C : Array Value} {T : TypeId} {fs : List (Int × ByteArray)} (b : Bool) (h : GtS w W g2 g4 g5 lo Z C T fs) (hb : b = decide (fs.length = 0)) :
    Calls Try.prog 148 #[.pointer (some ⟨g5, 0, none⟩)] W fun e w' => e = .returned (.bool b) ∧ GtS w w' g2 g4 g5 lo Z C T fs := by
  refine (ended_any W lo g5 fs h.rd b hb).mono ?_
  rintro e w' ⟨rfl, rfl⟩
  exact ⟨rfl, h⟩
theorem cells_r (h : HdT) (v : Int) : (hcells h).toArray.setIfInBounds 0 (.int .i64 v) = (hcells ⟨v, h.e, h.s, h.d, h.t⟩).toArray := rfl
theorem cells_e (h : HdT) (v : Int) : (hcells h).toArray.setIfInBounds 1 (.int .i64 v) = (hcells ⟨h.r, v, h.s, h.d, h.t⟩).toArray := rfl
theorem cells_s (h : HdT) (v : Int) : (hcells h).toArray.setIfInBounds 2 (.int .i64 v) = (hcells ⟨h.r, h.e, v, h.d, h.t⟩).toArray := rfl
theorem cells_d (h : HdT) (d : List UInt8) (hd : h.d.length = 32) : ((hcells h).toArray.toList.take 3 ++ cellsOf d ++ (hcells h).toArray.toList.drop (3 + 32)).toArray = (hcells ⟨h.r, h.e, h.s, d, h.t⟩).toArray := by
  unfold hcells
  congr 1
  simp [List.drop_append, cellsOf_length, hd]
theorem cells_t (h : HdT) (v : Int) (hd : h.d.length = 32) : (hcells h).toArray.setIfInBounds 35 (.int .i64 v) = (hcells ⟨h.r, h.e, h.s, h.d, v⟩).toArray := by
  unfold hcells
  rw [List.setIfInBounds_toArray]
  congr 1
  rw [List.set_append_right _ _ (by simp [cellsOf_length, hd])]
  simp [cellsOf_length, hd]
set_option maxHeartbeats 8000000 in
theorem hGet_any (a : Option Addr) (len cap : Nat) (bs : List UInt8) (w : World) (hR : Reads w a len cap bs) (hl : len ≤ 1000000) (R : Array Value) (HR : Hid (R = (hcells (getHO bs)).toArray)) :
    Calls Try.prog 150 #[.slice a len cap] w fun e w' => e = .returned (.tuple #[.agg R, .int .i64 (getHE bs)]) ∧ Below w.heap.size w w' := by
  obtain ⟨Z, HZ, HA, HBZ, H36⟩ := noughtsH
  have HSZ : Hid ((Try.prog.info? 32).map (·.size) = some Z.size) := by show _ = _; rw [sizeH, H36.out]
  have H1Z : Hid (Z.all (·.oneCell') = true) := by show _ = _; rw [HZ.out]; exact one_cells _
  have hnot : ∀ (x : Bool) (w : World), (Op.unary .not (.bool x)).run Try.prog w = .ok (.bool (!x)) w := fun _ _ => rfl
  obtain ⟨f0, hf0⟩ : ∃ f, f = readF bs := ⟨_, rfl⟩
  obtain ⟨f1, hf1⟩ : ∃ f, f = tkR 1 f0 := ⟨_, rfl⟩
  obtain ⟨f2, hf2⟩ : ∃ f, f = tkR 2 f1 := ⟨_, rfl⟩
  obtain ⟨f3, hf3⟩ : ∃ f, f = tkR 3 f2 := ⟨_, rfl⟩
  obtain ⟨f4, hf4⟩ : ∃ f, f = tkR 4 f3 := ⟨_, rfl⟩
  obtain ⟨f5, hf5⟩ : ∃ f, f = tkR 5 f4 := ⟨_, rfl⟩
  obtain ⟨C1, hC1⟩ : ∃ C, C = (hcells ⟨(nV 1 f0), 0, 0, (List.replicate 32 0), 0⟩).toArray := ⟨_, rfl⟩
  obtain ⟨C2, hC2⟩ : ∃ C, C = (hcells ⟨(nV 1 f0), (nV 2 f1), 0, (List.replicate 32 0), 0⟩).toArray := ⟨_, rfl⟩
  obtain ⟨C3, hC3⟩ : ∃ C, C = (hcells ⟨(nV 1 f0), (nV 2 f1), (nV 3 f2), (List.replicate 32 0), 0⟩).toArray := ⟨_, rfl⟩
  obtain ⟨C4, hC4⟩ : ∃ C, C = (hcells ⟨(nV 1 f0), (nV 2 f1), (nV 3 f2), (dV 4 f3), 0⟩).toArray := ⟨_, rfl⟩
  obtain ⟨C5, hC5⟩ : ∃ C, C = (hcells ⟨(nV 1 f0), (nV 2 f1), (nV 3 f2), (dV 4 f3), (nV 5 f4)⟩).toArray := ⟨_, rfl⟩
  obtain ⟨b1, hb1⟩ : ∃ b, b = nB 1 f0 := ⟨_, rfl⟩
  obtain ⟨b2, hb2⟩ : ∃ b, b = nB 2 f1 := ⟨_, rfl⟩
  obtain ⟨b3, hb3⟩ : ∃ b, b = nB 3 f2 := ⟨_, rfl⟩
  obtain ⟨b4, hb4⟩ : ∃ b, b = dB 4 f3 := ⟨_, rfl⟩
  obtain ⟨b5, hb5⟩ : ∃ b, b = nB 5 f4 := ⟨_, rfl⟩
  obtain ⟨b6, hb6⟩ : ∃ b, b = decide (f5.length = 0) := ⟨_, rfl⟩
  obtain ⟨br, hbr⟩ : ∃ b, b = rightH (seqH f0) := ⟨_, rfl⟩
  have hq : seqH f0 = ⟨(nV 1 f0), (nV 2 f1), (nV 3 f2), (dV 4 f3), (nV 5 f4)⟩ := by unfold seqH; rw [hf4, hf3, hf2, hf1]
  have hall : allH f0 = (b1 && (b2 && (b3 && (b4 && (b5 && (b6 && br)))))) := by
    unfold allH
    rw [hb1, hb2, hb3, hb4, hb5, hb6, hbr, hf5, hf4, hf3, hf2, hf1]
  have hget := get_seq bs
  rw [← hf0, hall] at hget
  obtain ⟨K, hKK⟩ : ∃ K, K = getHE bs := ⟨_, rfl⟩
  rw [← hKK]
  have HF : Hid ((b1 && (b2 && (b3 && (b4 && (b5 && (b6 && br)))))) = false → R = Z ∧ K = 70) := fun hh => by
    rw [hh] at hget
    have hget : getO bs = none := hget
    rw [HR.out, HZ.out, hKK]
    unfold getHO getHE
    rw [hget]
    exact ⟨rfl, rfl⟩
  have HT : Hid ((b1 && (b2 && (b3 && (b4 && (b5 && (b6 && br)))))) = true → R = C5 ∧ K = 0) := fun hh => by
    rw [hh] at hget
    have hget : getO bs = some (seqH f0) := hget
    rw [HR.out, hC5, hKK]
    unfold getHO getHE
    rw [hget, hq]
    exact ⟨rfl, rfl⟩
  have O1 : Hid (∀ W, Below w.heap.size w W → Calls Try.prog 141 #[.slice a len cap] W fun e w' => ∃ x c, e = .returned (.slice x f0.length c) ∧ Lie w' W.heap.size x c f0 ∧ Below W.heap.size W w') := fun W hb => by rw [hf0]; exact open_any a len cap bs W (hR.below hb) hl
  have I1 : Hid (∀ W g2 g4 g5 lo, GtS w W g2 g4 g5 lo Z Z 32 f0 → Calls Try.prog 144 #[.pointer (some ⟨g4, 0, none⟩), .int .i64 1, .func (.func 145) #[.pointer (some ⟨g5, 0, none⟩)] #[]] W fun e w' => e = .returned (.bool b1) ∧ GtS w w' g2 g4 g5 lo Z C1 32 f1) := fun W g2 g4 g5 lo hs => gt_int 1 0 b1 hs (by rw [HZ.out]; show 0 < (hcells _).toArray.size; rw [List.size_toArray, hcells_length _ rfl]; omega) (by rw [HZ.out, hC1]; exact (cells_r zeroH (nV 1 f0)).symm) hb1 hf1
  have I2 : Hid (∀ W g2 g4 g5 lo, GtS w W g2 g4 g5 lo Z C1 32 f1 → Calls Try.prog 144 #[.pointer (some ⟨g4, 1, none⟩), .int .i64 2, .func (.func 145) #[.pointer (some ⟨g5, 0, none⟩)] #[]] W fun e w' => e = .returned (.bool b2) ∧ GtS w w' g2 g4 g5 lo Z C2 32 f2) := fun W g2 g4 g5 lo hs => gt_int 2 1 b2 hs (by rw [hC1]; show 1 < (hcells _).toArray.size; rw [List.size_toArray, hcells_length _ rfl]; omega) (by rw [hC1, hC2]; exact (cells_e ⟨(nV 1 f0), 0, 0, (List.replicate 32 0), 0⟩ (nV 2 f1)).symm) hb2 hf2
  have I3 : Hid (∀ W g2 g4 g5 lo, GtS w W g2 g4 g5 lo Z C2 32 f2 → Calls Try.prog 144 #[.pointer (some ⟨g4, 2, none⟩), .int .i64 3, .func (.func 145) #[.pointer (some ⟨g5, 0, none⟩)] #[]] W fun e w' => e = .returned (.bool b3) ∧ GtS w w' g2 g4 g5 lo Z C3 32 f3) := fun W g2 g4 g5 lo hs => gt_int 3 2 b3 hs (by rw [hC2]; show 2 < (hcells _).toArray.size; rw [List.size_toArray, hcells_length _ rfl]; omega) (by rw [hC2, hC3]; exact (cells_s ⟨(nV 1 f0), (nV 2 f1), 0, (List.replicate 32 0), 0⟩ (nV 3 f2)).symm) hb3 hf3
  have I4 : Hid (∀ W g2 g4 g5 lo, GtS w W g2 g4 g5 lo Z C3 32 f3 → Calls Try.prog 146 #[.pointer (some ⟨g4, 3, none⟩), .int .i64 4, .func (.func 147) #[.pointer (some ⟨g5, 0, none⟩)] #[]] W fun e w' => e = .returned (.bool b4) ∧ GtS w w' g2 g4 g5 lo Z C4 32 f4) := fun W g2 g4 g5 lo hs => gt_dig 4 3 b4 hs (by rw [hC3]; show 3 + 32 ≤ (hcells _).toArray.size; rw [List.size_toArray, hcells_length _ rfl]; omega) (by rw [hC3, hC4]; exact (cells_d ⟨(nV 1 f0), (nV 2 f1), (nV 3 f2), (List.replicate 32 0), 0⟩ (dV 4 f3) rfl).symm) hb4 hf4
  have I5 : Hid (∀ W g2 g4 g5 lo, GtS w W g2 g4 g5 lo Z C4 32 f4 → Calls Try.prog 144 #[.pointer (some ⟨g4, 35, none⟩), .int .i64 5, .func (.func 145) #[.pointer (some ⟨g5, 0, none⟩)] #[]] W fun e w' => e = .returned (.bool b5) ∧ GtS w w' g2 g4 g5 lo Z C5 32 f5) := fun W g2 g4 g5 lo hs => gt_int 5 35 b5 hs (by rw [hC4]; show 35 < (hcells _).toArray.size; rw [List.size_toArray, hcells_length _ (dV_length _ _)]; omega) (by rw [hC4, hC5]; exact (cells_t ⟨(nV 1 f0), (nV 2 f1), (nV 3 f2), (dV 4 f3), 0⟩ (nV 5 f4) (dV_length _ _)).symm) hb5 hf5
  have I6 : Hid (∀ W g2 g4 g5 lo, GtS w W g2 g4 g5 lo Z C5 32 f5 → Calls Try.prog 148 #[.pointer (some ⟨g5, 0, none⟩)] W fun e w' => e = .returned (.bool b6) ∧ GtS w w' g2 g4 g5 lo Z C5 32 f5) := fun W g2 g4 g5 lo hs => gt_ended b6 hs hb6
  obtain ⟨E, hE⟩ : ∃ E, E = putE (seqH f0) := ⟨_, rfl⟩
  have hd5 : (seqH f0).d.length = 32 := dV_length _ _
  have K1 : Hid (∀ W, Calls Try.prog 117 #[.agg C5] W fun e w' => e = .returned (.int .i64 E) ∧ Below W.heap.size W w') := fun W => by rw [hE]; exact hCheck_any (seqH f0) hd5 W C5 (by rw [hC5, hq]; exact hidk rfl)
  have hK : (E = 0 ∧ br = true) ∨ (E = 70 ∧ br = false) := by rw [hE, hbr]; exact putE_ok _
  have hc36 : C5.size = 36 := by rw [hC5, List.size_toArray]; exact hcells_length _ (dV_length 4 f3)
  have HSC : Hid ((Try.prog.info? 32).map (·.size) = some C5.size) := by show _ = _; rw [sizeH, hc36]
  have H1C : Hid (C5.all (·.oneCell') = true) := by show _ = _; rw [hC5]; exact one_cells _
  have HZC : Hid (Z.size = C5.size) := by show _ = _; rw [H36.out, hc36]
  clear hf0 hf1 hf2 hf3 hf4 hf5 hC1 hC2 hC3 hC4 hC5 hb1 hb2 hb3 hb4 hb5 hb6 hbr hq hall hget hKK hE hd5 HR H36 hc36
  clear HZ hR
  go_enter Try.func150, Try.ntmps150
  go_wp2_with (first
    | (show aD 2 _ _ _ _ _ _ _ _ _ _ _; refine wpList_new_var rfl 32 rfl Z HA.out ?_; intro g2 w1 HM2; try simp only [Act.put, pS1, pS2, pS3])
    | (show aD 4 _ _ _ _ _ _ _ _ _ _ _; refine wpList_new_var rfl 32 rfl Z HA.out ?_; intro g4 w2 HM4; try simp only [Act.put, pS1, pS2, pS3])
    | fail)
  have HB2 : Hid (Below w.heap.size w w2) := HM2.out.below.trans (HM4.out.below.mono HM2.out.below.size)
  refine (O1.out w2 HB2.out).mono ?_
  rintro e w3 ⟨x, c, rfl, hl3, hb3⟩
  have HS0 : Hid (GtS w (w3.alloc (.cells #[.slice x f0.length c] 176)) g2 g4 w3.heap.size w2.heap.size Z Z 32 f0) := by
    have hbb := HB2.out.trans (hb3.mono HB2.out.size)
    have q2 : w2.heap[g2]? = some (.cells Z 32 (0, 0)) := (HM4.out.below.block _ (heap_lt HM2.out.row)).trans HM2.out.row
    refine ⟨hbb.alloc hbb.size _, heap_keep ((hb3.block _ (heap_lt q2)).trans q2), heap_keep ((hb3.block _ (heap_lt HM4.out.row)).trans HM4.out.row), rd_new hl3 hb3.size, Nat.le_of_eq HM2.out.new.symm, ?_, heap_lt HM4.out.row, hb3.size⟩
    rw [HM4.out.new]; exact heap_lt HM2.out.row
  obtain ⟨g5, hg5⟩ : ∃ g, g = w3.heap.size := ⟨_, rfl⟩
  obtain ⟨lo, hlo⟩ : ∃ g, g = w2.heap.size := ⟨_, rfl⟩
  rw [← hg5, ← hlo] at HS0
  clear HM2 HM4 HB2 hb3 hl3 O1 hlo
  go_wp2_with fail
  rw [← hg5]
  clear hg5
  refine (I1.out _ _ _ _ _ HS0.out).mono ?_
  rintro e v1 ⟨rfl, hs1⟩
  have HS1 := hidk hs1
  clear hs1 HS0 I1
  cases b1
  · skip
    go_wp2_with (first
      | (show aD 42 _ _ _ _ _ _ _ _ _ _ _; refine wpList_build_none rfl 32 rfl Z HBZ.out ?_; try simp only [Act.put, pS1, pS2, pS3])
      | (refine wpList_set_var rfl 32 (.tmp 2) (.tmp 42) rfl g2 Z rfl rfl 32 Z HS1.out.r2 HSZ.out rfl H1Z.out ?_; intro wz HWz; try simp only [Act.put, pS1, pS2, pS3])
      | fail)
    refine bodyPost_ret (v := .tuple #[.agg R, .int .i64 K]) ?_ rfl ⟨rfl, HWz.out.below w.heap.size w HS1.out.below HS1.out.o2⟩
    rw [(HF.out rfl).1, (HF.out rfl).2]
    exact results_row_tmp (p := 2) (q := 3) (ty := 32) rfl _ _ g2 32 Z (0, 0) _ rfl HWz.out.row Try.underlying32 rfl HSZ.out
  go_wp2_with fail
  refine (I2.out _ _ _ _ _ HS1.out).mono ?_
  rintro e v2 ⟨rfl, hs2⟩
  have HS2 := hidk hs2
  clear hs2 HS1 I2
  cases b2
  · skip
    go_wp2_with (first
      | (show aD 42 _ _ _ _ _ _ _ _ _ _ _; refine wpList_build_none rfl 32 rfl Z HBZ.out ?_; try simp only [Act.put, pS1, pS2, pS3])
      | (refine wpList_set_var rfl 32 (.tmp 2) (.tmp 42) rfl g2 Z rfl rfl 32 Z HS2.out.r2 HSZ.out rfl H1Z.out ?_; intro wz HWz; try simp only [Act.put, pS1, pS2, pS3])
      | fail)
    refine bodyPost_ret (v := .tuple #[.agg R, .int .i64 K]) ?_ rfl ⟨rfl, HWz.out.below w.heap.size w HS2.out.below HS2.out.o2⟩
    rw [(HF.out rfl).1, (HF.out rfl).2]
    exact results_row_tmp (p := 2) (q := 3) (ty := 32) rfl _ _ g2 32 Z (0, 0) _ rfl HWz.out.row Try.underlying32 rfl HSZ.out
  go_wp2_with fail
  refine (I3.out _ _ _ _ _ HS2.out).mono ?_
  rintro e v3 ⟨rfl, hs3⟩
  have HS3 := hidk hs3
  clear hs3 HS2 I3
  cases b3
  · skip
    go_wp2_with (first
      | (show aD 42 _ _ _ _ _ _ _ _ _ _ _; refine wpList_build_none rfl 32 rfl Z HBZ.out ?_; try simp only [Act.put, pS1, pS2, pS3])
      | (refine wpList_set_var rfl 32 (.tmp 2) (.tmp 42) rfl g2 Z rfl rfl 32 Z HS3.out.r2 HSZ.out rfl H1Z.out ?_; intro wz HWz; try simp only [Act.put, pS1, pS2, pS3])
      | fail)
    refine bodyPost_ret (v := .tuple #[.agg R, .int .i64 K]) ?_ rfl ⟨rfl, HWz.out.below w.heap.size w HS3.out.below HS3.out.o2⟩
    rw [(HF.out rfl).1, (HF.out rfl).2]
    exact results_row_tmp (p := 2) (q := 3) (ty := 32) rfl _ _ g2 32 Z (0, 0) _ rfl HWz.out.row Try.underlying32 rfl HSZ.out
  go_wp2_with fail
  refine (I4.out _ _ _ _ _ HS3.out).mono ?_
  rintro e v4 ⟨rfl, hs4⟩
  have HS4 := hidk hs4
  clear hs4 HS3 I4
  cases b4
  · skip
    go_wp2_with (first
      | (show aD 42 _ _ _ _ _ _ _ _ _ _ _; refine wpList_build_none rfl 32 rfl Z HBZ.out ?_; try simp only [Act.put, pS1, pS2, pS3])
      | (refine wpList_set_var rfl 32 (.tmp 2) (.tmp 42) rfl g2 Z rfl rfl 32 Z HS4.out.r2 HSZ.out rfl H1Z.out ?_; intro wz HWz; try simp only [Act.put, pS1, pS2, pS3])
      | fail)
    refine bodyPost_ret (v := .tuple #[.agg R, .int .i64 K]) ?_ rfl ⟨rfl, HWz.out.below w.heap.size w HS4.out.below HS4.out.o2⟩
    rw [(HF.out rfl).1, (HF.out rfl).2]
    exact results_row_tmp (p := 2) (q := 3) (ty := 32) rfl _ _ g2 32 Z (0, 0) _ rfl HWz.out.row Try.underlying32 rfl HSZ.out
  go_wp2_with fail
  refine (I5.out _ _ _ _ _ HS4.out).mono ?_
  rintro e v5 ⟨rfl, hs5⟩
  have HS5 := hidk hs5
  clear hs5 HS4 I5
  cases b5
  · skip
    go_wp2_with (first
      | (show aD 42 _ _ _ _ _ _ _ _ _ _ _; refine wpList_build_none rfl 32 rfl Z HBZ.out ?_; try simp only [Act.put, pS1, pS2, pS3])
      | (refine wpList_set_var rfl 32 (.tmp 2) (.tmp 42) rfl g2 Z rfl rfl 32 Z HS5.out.r2 HSZ.out rfl H1Z.out ?_; intro wz HWz; try simp only [Act.put, pS1, pS2, pS3])
      | fail)
    refine bodyPost_ret (v := .tuple #[.agg R, .int .i64 K]) ?_ rfl ⟨rfl, HWz.out.below w.heap.size w HS5.out.below HS5.out.o2⟩
    rw [(HF.out rfl).1, (HF.out rfl).2]
    exact results_row_tmp (p := 2) (q := 3) (ty := 32) rfl _ _ g2 32 Z (0, 0) _ rfl HWz.out.row Try.underlying32 rfl HSZ.out
  go_wp2_with fail
  refine (I6.out _ _ _ _ _ HS5.out).mono ?_
  rintro e v6 ⟨rfl, hs6⟩
  have HS6 := hidk hs6
  clear hs6 HS5 I6
  cases b6
  · skip
    go_wp2_with (first
      | (show aD 42 _ _ _ _ _ _ _ _ _ _ _; refine wpList_build_none rfl 32 rfl Z HBZ.out ?_; try simp only [Act.put, pS1, pS2, pS3])
      | (refine wpList_set_var rfl 32 (.tmp 2) (.tmp 42) rfl g2 Z rfl rfl 32 Z HS6.out.r2 HSZ.out rfl H1Z.out ?_; intro wz HWz; try simp only [Act.put, pS1, pS2, pS3])
      | fail)
    refine bodyPost_ret (v := .tuple #[.agg R, .int .i64 K]) ?_ rfl ⟨rfl, HWz.out.below w.heap.size w HS6.out.below HS6.out.o2⟩
    rw [(HF.out rfl).1, (HF.out rfl).2]
    exact results_row_tmp (p := 2) (q := 3) (ty := 32) rfl _ _ g2 32 Z (0, 0) _ rfl HWz.out.row Try.underlying32 rfl HSZ.out
  go_wp2_with (first
    | (show aD 38 _ _ _ _ _ _ _ _ _ _ _; refine wpList_load_row_w (by rfl) 32 (.tmp 4) rfl g4 rfl 32 C5 (0, 0) _ HS6.out.r4 Try.underlying32 rfl HSC.out ?_; try simp only [Act.put, pS1, pS2, pS3])
    | fail)
  refine (K1.out _).mono ?_
  rintro e vk ⟨rfl, hbk⟩
  have HSk := hidk (HS6.out.keep hbk)
  clear hbk HS6 K1
  rcases hK with ⟨rfl, rfl⟩ | ⟨rfl, rfl⟩
  · go_wp2_with (first
      | (show aD 43 _ _ _ _ _ _ _ _ _ _ _; refine wpList_load_row rfl 32 (.tmp 4) rfl g4 rfl 32 C5 (0, 0) _ HSk.out.r4 Try.underlying32 rfl HSC.out ?_; try simp only [Act.put, pS1, pS2, pS3])
      | (refine wpList_set_var rfl 32 (.tmp 2) (.tmp 43) rfl g2 C5 rfl rfl 32 Z HSk.out.r2 HSC.out HZC.out H1C.out ?_; intro wz HWz; try simp only [Act.put, pS1, pS2, pS3])
      | fail)
    refine bodyPost_ret (v := .tuple #[.agg R, .int .i64 K]) ?_ rfl ⟨rfl, HWz.out.below w.heap.size w HSk.out.below HSk.out.o2⟩
    rw [(HT.out rfl).1, (HT.out rfl).2]
    exact results_row_tmp (p := 2) (q := 3) (ty := 32) rfl _ _ g2 32 C5 (0, 0) _ rfl HWz.out.row Try.underlying32 rfl HSC.out
  · skip
    go_wp2_with (first
      | (show aD 42 _ _ _ _ _ _ _ _ _ _ _; refine wpList_build_none rfl 32 rfl Z HBZ.out ?_; try simp only [Act.put, pS1, pS2, pS3])
      | (refine wpList_set_var rfl 32 (.tmp 2) (.tmp 42) rfl g2 Z rfl rfl 32 Z HSk.out.r2 HSZ.out rfl H1Z.out ?_; intro wz HWz; try simp only [Act.put, pS1, pS2, pS3])
      | fail)
    refine bodyPost_ret (v := .tuple #[.agg R, .int .i64 K]) ?_ rfl ⟨rfl, HWz.out.below w.heap.size w HSk.out.below HSk.out.o2⟩
    rw [(HF.out rfl).1, (HF.out rfl).2]
    exact results_row_tmp (p := 2) (q := 3) (ty := 32) rfl _ _ g2 32 Z (0, 0) _ rfl HWz.out.row Try.underlying32 rfl HSZ.out
def hV (tag : Int) (fs : List (Int × ByteArray)) : HdT := getHO (tkD tag fs).data.toList
def hB (tag : Int) (fs : List (Int × ByteArray)) : Bool := tkB tag fs && (getO (tkD tag fs).data.toList).isSome
theorem hV_digs (tag : Int) (fs : List (Int × ByteArray)) : (hV tag fs).d.length = 32 := getHO_digs _
set_option maxHeartbeats 4000000 in
theorem rhead_any (W : World) (lo g : Nat) (fs : List (Int × ByteArray)) (tag : Int) (h : Rd W lo g fs) (hsz : (tkD tag fs).size ≤ 1000000) (D : Array Value) (HD : Hid (D = (hcells (hV tag fs)).toArray)) :
    Calls Try.prog 143 #[.pointer (some ⟨g, 0, none⟩), .int .i64 tag] W fun e w' => e = .returned (.tuple #[.agg D, .bool (hB tag fs)]) ∧ W.grownBy w' (some g) ∧ Rd w' lo g (tkR tag fs) := by
  obtain ⟨Z, HZ, HA, HBZ, H36⟩ := noughtsH
  have HH := hidk h
  have D1 : Hid (∀ V, Rd V lo g fs → Calls Try.prog 149 #[.pointer (some ⟨g, 0, none⟩), .int .i64 tag] V fun e w' => e = .returned (.tuple #[.string (tkD tag fs), .bool (tkB tag fs)]) ∧ V.grownBy w' (some g) ∧ Rd w' lo g (tkR tag fs)) := fun V hV => data_any V lo g fs tag hV
  have hlt := h.lt
  have hD36 : D.size = 36 := by rw [HD.out, List.size_toArray]; exact hcells_length _ (hV_digs tag fs)
  have HSD : Hid ((Try.prog.info? 32).map (·.size) = some D.size) := by show _ = _; rw [sizeH, hD36]
  have H1D : Hid (D.all (·.oneCell') = true) := by show _ = _; rw [HD.out]; exact one_cells _
  have HZD : Hid (Z.size = D.size) := by show _ = _; rw [H36.out, hD36]
  obtain ⟨E, hE⟩ : ∃ E, E = getHE (tkD tag fs).data.toList := ⟨_, rfl⟩
  have G1 : Hid (∀ V a c, Reads V a (tkD tag fs).size c (tkD tag fs).data.toList → Calls Try.prog 150 #[.slice a (tkD tag fs).size c] V fun e w' => e = .returned (.tuple #[.agg D, .int .i64 E]) ∧ Below V.heap.size V w') := fun V a c hr => by rw [hE]; exact hGet_any a _ c _ V hr hsz D HD
  have hE2 : (E = 0 ∧ (getO (tkD tag fs).data.toList).isSome = true) ∨ (E = 70 ∧ (getO (tkD tag fs).data.toList).isSome = false) := by
    rw [hE]; unfold getHE
    cases (getO (tkD tag fs).data.toList).isSome
    · exact .inr ⟨rfl, rfl⟩
    · exact .inl ⟨rfl, rfl⟩
  unfold hB
  obtain ⟨d, hd⟩ : ∃ d, d = tkD tag fs := ⟨_, rfl⟩
  obtain ⟨b, hb⟩ : ∃ b, b = tkB tag fs := ⟨_, rfl⟩
  obtain ⟨r, hr⟩ : ∃ r, r = tkR tag fs := ⟨_, rfl⟩
  simp only [← hd, ← hb, ← hr] at D1 G1 hE2 hsz ⊢
  have hml : d.size ≤ maxLen := by unfold maxLen; omega
  clear hd hb hr h HD HZ hE hD36
  rcases hE2 with ⟨rfl, hq⟩ | ⟨rfl, hq⟩
  all_goals
    rw [hq]
    clear hq
    cases b
    all_goals
      go_enter Try.func143, Try.ntmps143
      go_wp2_with (first
        | (show aD 4 _ _ _ _ _ _ _ _ _ _ _; refine wpList_new_var rfl 32 rfl Z HA.out ?_; intro g4 w1 HM4; try simp only [Act.put, pS1, pS2, pS3])
        | fail)
      refine (D1.out w1 (HH.out.below HM4.out.below)).mono ?_
      rintro e w2 ⟨rfl, hg2, hr2⟩
      have HG2 := hidk (grown_trans (grown_below HM4.out.below) hg2)
      have HR2 := hidk hr2
      have h4 : W.heap.size ≤ g4 := Nat.le_of_eq HM4.out.new.symm
      have HR4 : Hid (w2.heap[g4]? = some (.cells Z 32 (0, 0))) := (hg2.block _ (heap_lt HM4.out.row) (by intro e; cases e; omega)).trans HM4.out.row
      clear hg2 hr2 HM4 D1 HH
      go_wp2_with (first
        | (show aD 18 _ _ _ _ _ _ _ _ _ _ _; refine wpList_conv_text rfl 9 61 5 (.tmp 17) rfl d rfl Try.underlying9 Try.underlying61 Try.underlying5 hml ?_; intro a3 c3 w3 HV; try simp only [Act.put, pS1, pS2, pS3])
        | fail)
      refine (G1.out _ _ _ HV.out.1).mono ?_
      rintro e w5 ⟨rfl, hb5⟩
      have hbb := HV.out.2.trans (hb5.mono HV.out.2.size)
      have HG5 := hidk (grown_trans HG2.out (grown_below hbb))
      have HR5 := hidk (HR2.out.below hbb)
      have HR45 := hidk ((hbb.block _ (heap_lt HR4.out)).trans HR4.out)
      clear hb5 hbb HV HG2 HR2 HR4
      go_wp2_with (first
        | (show aD 8 _ _ _ _ _ _ _ _ _ _ _; refine wpList_new_var rfl 32 rfl Z HA.out ?_; intro g8 w6 HM8; try simp only [Act.put, pS1, pS2, pS3])
        | (refine wpList_set_var rfl 32 (.tmp 8) (.tmp 20) rfl g8 D rfl rfl 32 Z HM8.out.row HSD.out HZD.out H1D.out ?_; intro w7 HW8; try simp only [Act.put, pS1, pS2, pS3])
        | (show aD 22 _ _ _ _ _ _ _ _ _ _ _; refine wpList_load_row rfl 32 (.tmp 8) rfl g8 rfl 32 D (0, 0) _ HW8.out.row Try.underlying32 rfl HSD.out ?_; try simp only [Act.put, pS1, pS2, pS3])
        | (refine wpList_set_var rfl 32 (.tmp 4) (.tmp 22) rfl g4 D rfl rfl 32 Z ((HW8.out.other _ (by have e1 := HM8.out.new; have := heap_lt HR45.out; omega)).trans ((HM8.out.below.block _ (heap_lt HR45.out)).trans HR45.out)) HSD.out HZD.out H1D.out ?_; intro w8 HW4; try simp only [Act.put, pS1, pS2, pS3])
        | fail)
      have h8 : w5.heap.size ≤ g8 := Nat.le_of_eq HM8.out.new.symm
      have hg5 := HR5.out.lt
      have hs5 := HG5.out.size
      refine bodyPost_ret (v := .tuple #[.agg D, .bool _]) ?_ rfl ⟨rfl, grown_wrote (grown_wrote (grown_trans HG5.out (grown_below HM8.out.below)) HW8.out (by omega)) HW4.out h4, ((HR5.out.below HM8.out.below).wrote HW8.out (.inr (by omega))).wrote HW4.out (.inr (by omega))⟩
      exact results_row_tmp (p := 4) (q := 5) (ty := 32) rfl _ _ g4 32 D (0, 0) _ rfl HW4.out.row Try.underlying32 rfl HSD.out
set_option maxHeartbeats 2000000 in
theorem into_head (W : World) (lo g gh off : Nat) (fs : List (Int × ByteArray)) (tag : Int) (h : Rd W lo g fs) (hsz : (tkD tag fs).size ≤ 1000000) (C C' D : Array Value) (t : TypeId) (hC : W.heap[gh]? = some (.cells C t (0, 0))) (ho : off + 36 ≤ C.size) (hl : gh < lo) (HD : Hid (D = (hcells (hV tag fs)).toArray)) (HC' : Hid (C' = (C.toList.take off ++ D.toList ++ C.toList.drop (off + 36)).toArray)) :
    Calls Try.prog 142 #[.pointer (some ⟨gh, off, none⟩), .int .i64 tag, .func (.func 143) #[.pointer (some ⟨g, 0, none⟩)] #[]] W fun e w' =>
      e = .returned (.bool (hB tag fs)) ∧ w'.heap[gh]? = some (.cells C' t (0, 0)) ∧ Rd w' lo g (tkR tag fs) ∧ Went gh g W w' := by
  obtain ⟨Z, HZ, HA, HBZ, H36⟩ := noughtsH
  have N1 := hidk (rhead_any W lo g fs tag h hsz D HD)
  have hlt := h.lt
  have hD36 : D.size = 36 := by rw [HD.out, List.size_toArray]; exact hcells_length _ (hV_digs tag fs)
  have HSD : Hid ((Try.prog.info? 32).map (·.size) = some D.size) := by show _ = _; rw [sizeH, hD36]
  have H1D : Hid (D.all (·.oneCell') = true) := by show _ = _; rw [HD.out]; exact one_cells _
  have HZD : Hid (Z.size = D.size) := by show _ = _; rw [H36.out, hD36]
  have hgg : gh ≠ g := by obtain ⟨_, _, _, q, _⟩ := h; omega
  have HCC : Hid (C' = (C.toList.take off ++ D.toList ++ C.toList.drop (off + D.size)).toArray) := by show _ = _; rw [hD36, HC'.out]
  have HOO : Hid (off + D.size ≤ C.size) := by show _ ≤ _; rw [hD36]; exact ho
  have HC := hidk hC
  obtain ⟨b, hb⟩ : ∃ n, n = hB tag fs := ⟨_, rfl⟩
  rw [← hb] at N1
  rw [← hb]
  clear HC' hb hC HD hD36 HZ ho HBZ H36
  go_enter Try.func142, Try.ntmps142
  go_wp2_with fail
  refine N1.out.mono ?_
  rintro e w1 ⟨rfl, hg1, hr1⟩
  have HG := hidk hg1
  have HR := hidk hr1
  have HC1 := hidk ((hg1.block _ (heap_lt HC.out) (by intro e; cases e; exact hgg rfl)).trans HC.out)
  have hs1 := hg1.size
  clear hg1 hr1 h
  go_wp2_with (first
    | (show aD 7 _ _ _ _ _ _ _ _ _ _ _; refine wpList_new_var rfl 32 rfl Z HA.out ?_; intro g7 w2 HM7; try simp only [Act.put, pS1, pS2, pS3])
    | (refine wpList_set_var rfl 32 (.tmp 7) (.tmp 13) rfl g7 D rfl rfl 32 Z HM7.out.row HSD.out HZD.out H1D.out ?_; intro w3 HW7; try simp only [Act.put, pS1, pS2, pS3])
    | (show aD 16 _ _ _ _ _ _ _ _ _ _ _; refine wpList_load_row rfl 32 (.tmp 7) rfl g7 rfl 32 D (0, 0) _ HW7.out.row Try.underlying32 rfl HSD.out ?_; try simp only [Act.put, pS1, pS2, pS3])
    | (refine wpList_set_mid rfl 32 (.tmp 17) (.tmp 16) rfl gh off D rfl rfl t C ((HW7.out.other _ (by have e1 := HM7.out.new; have := heap_lt HC1.out; omega)).trans ((HM7.out.below.block _ (heap_lt HC1.out)).trans HC1.out)) HOO.out HSD.out H1D.out ?_; intro w4 HW; try simp only [Act.put, pS1, pS2, pS3])
    | fail)
  have h7 : w1.heap.size ≤ g7 := Nat.le_of_eq HM7.out.new.symm
  have HG2 := hidk (grown_wrote (grown_trans HG.out (grown_below HM7.out.below)) HW7.out (Nat.le_trans HG.out.size h7))
  have hb1 := HR.out.lt
  go_ret
  refine ⟨rfl, ?_, ((HR.out.below HM7.out.below).wrote HW7.out (.inr (by omega))).wrote HW.out (.inl hl), went_of HG2.out HW.out hlt⟩
  rw [HCC.out]
  exact HW.out.row
theorem gt_head {w W : World} {g2 g4 g5 lo : Nat} {Z C C' : Array Value} {T : TypeId} {fs fs' : List (Int × ByteArray)} (tag : Int) (off : Nat) (b : Bool) (h : GtS w W g2 g4 g5 lo Z C T fs) (hsz : (tkD tag fs).size ≤ 1000000) (ho : off + 36 ≤ C.size) (hC : C' = (C.toList.take off ++ hcells (hV tag fs) ++ C.toList.drop (off + 36)).toArray) (hb : b = hB tag fs) (hf : fs' = tkR tag fs) :
    Calls Try.prog 142 #[.pointer (some ⟨g4, off, none⟩), .int .i64 tag, .func (.func 143) #[.pointer (some ⟨g5, 0, none⟩)] #[]] W fun e w' => e = .returned (.bool b) ∧ GtS w w' g2 g4 g5 lo Z C' T fs' := by
  subst hb hf
  refine (into_head W lo g5 g4 off fs tag h.rd hsz C C' (hcells (hV tag fs)).toArray T h.r4 ho h.ol (hidk rfl) (by show _ = _; rw [hC])).mono ?_
  rintro e w' ⟨rfl, h1, h2, h3⟩
  exact ⟨rfl, h.went h1 h2 h3⟩
theorem readF_64 (bs : List UInt8) : ∀ f ∈ readF bs, f.2.size ≤ 65536 := by
  intro f hf
  unfold readF at hf
  by_cases h : readE bs = 0
  · rw [if_pos h] at hf
    unfold toF at hf
    obtain ⟨x, hx, rfl⟩ := List.mem_map.1 hf
    have := parse_small _ _ _ x hx
    show x.d.toArray.size ≤ 65536
    simp
    omega
  · rw [if_neg h] at hf; simp at hf
theorem tkD_le (tag : Int) (fs : List (Int × ByteArray)) (n : Nat) (h : ∀ f ∈ fs, f.2.size ≤ n) : (tkD tag fs).size ≤ n := by
  cases fs with
  | nil => exact Nat.zero_le _
  | cons f r =>
    by_cases e : f.1 = tag
    · rw [show tkD tag (f :: r) = f.2 from if_pos e]; exact h f (List.mem_cons_self ..)
    · rw [show tkD tag (f :: r) = ⟨#[]⟩ from if_neg e]; exact Nat.zero_le _
theorem hB_tk {tag : Int} {fs : List (Int × ByteArray)} (h : hB tag fs = true) : tkB tag fs = true ∧ getO (tkD tag fs).data.toList = some (hV tag fs) := by
  unfold hB at h
  simp only [Bool.and_eq_true] at h
  refine ⟨h.1, ?_⟩
  unfold hV getHO
  cases hg : getO (tkD tag fs).data.toList with
  | none => rw [hg] at h; cases h.2
  | some x => rfl
def seqS (f0 : List (Int × ByteArray)) : SgT := ⟨hV 1 f0, nV 2 (tkR 1 f0), dV 3 (tkR 2 (tkR 1 f0))⟩
def allS (f0 : List (Int × ByteArray)) : Bool := hB 1 f0 && (nB 2 (tkR 1 f0) && (dB 3 (tkR 2 (tkR 1 f0)) && (decide ((tkR 3 (tkR 2 (tkR 1 f0))).length = 0) && mayS (seqS f0))))
theorem get_seqS (bs : List UInt8) : Go.Proofs.Ytjpmmbmhkpgjcaa.getS bs = if allS (readF bs) = true then some (seqS (readF bs)) else none := by
  by_cases h0 : readE bs = 0
  · by_cases ha : allS (readF bs) = true
    · rw [if_pos ha]
      obtain ⟨f0, hf0⟩ : ∃ f, f = readF bs := ⟨_, rfl⟩
      rw [← hf0] at ha ⊢
      unfold allS at ha
      simp only [Bool.and_eq_true, decide_eq_true_eq] at ha
      obtain ⟨a1, a2, a3, a6, a7⟩ := ha
      have s1 := tk_shape (hB_tk a1).1
      have s2 := tk_shape (nB_tk a2).1
      have s3 := tk_shape (dB_tk a3).1
      have s6 := List.eq_nil_of_length_eq_zero a6
      have hh : seqS f0 = ⟨hV 1 f0, valO (tkD 2 (tkR 1 f0)).data.toList, (tkD 3 (tkR 2 (tkR 1 f0))).data.toList⟩ := by
        unfold seqS
        rw [nV_val a2, dV_yes a3]
      have hx := (dB_tk a3).2
      have hg1 := (hB_tk a1).2
      obtain ⟨x1, e1⟩ : ∃ x, x = tkD 1 f0 := ⟨_, rfl⟩
      obtain ⟨x2, e2⟩ : ∃ x, x = tkD 2 (tkR 1 f0) := ⟨_, rfl⟩
      obtain ⟨x3, e3⟩ : ∃ x, x = tkD 3 (tkR 2 (tkR 1 f0)) := ⟨_, rfl⟩
      rw [← e2, ← e3] at hh
      rw [← e3] at hx
      rw [← e1] at hg1
      have hs : readF bs = fieldsN [x1, x2, x3] := by
        rw [s6, ← e3] at s3
        rw [s3, ← e2] at s2
        rw [s2, ← e1] at s1
        rw [← hf0, s1]
        rfl
      have hp : partsO bs 3 = some [x1, x2, x3] := partsO_of h0 hs
      unfold Go.Proofs.Ytjpmmbmhkpgjcaa.getS
      rw [hp]
      show (match getO x1.data.toList with | some h => if x3.size = 32 ∧ mayS ⟨h, valO x2.data.toList, x3.data.toList⟩ = true then some (⟨h, valO x2.data.toList, x3.data.toList⟩ : SgT) else none | none => none) = _
      rw [hg1]
      show (if x3.size = 32 ∧ mayS ⟨hV 1 f0, valO x2.data.toList, x3.data.toList⟩ = true then some (⟨hV 1 f0, valO x2.data.toList, x3.data.toList⟩ : SgT) else none) = _
      rw [← hh, if_pos ⟨hx, a7⟩]
    · rw [if_neg ha]
      cases hg : Go.Proofs.Ytjpmmbmhkpgjcaa.getS bs with
      | none => rfl
      | some s =>
        exfalso
        apply ha
        unfold Go.Proofs.Ytjpmmbmhkpgjcaa.getS at hg
        split at hg
        · rename_i x1 x2 x3 hp
          split at hg
          · rename_i h1 hg1
            split at hg
            · rename_i hh
              have hr := (mayS_iff _).1 hh.2
              simp only at hr
              have hf := (partsO_fields hp).2.1
              rw [hf]
              have n2 := valO_num (l := x2.data.toList) (by omega)
              have hhv : hV 1 [((1 : Int), x1), (2, x2), (3, x3)] = h1 := by
                unfold hV getHO
                rw [tkD_hit, hg1]
                rfl
              have hhb : hB 1 [((1 : Int), x1), (2, x2), (3, x3)] = true := by
                unfold hB
                rw [tkB_hit, tkD_hit, hg1]
                rfl
              have hq : seqS [((1 : Int), x1), (2, x2), (3, x3)] = ⟨h1, valO x2.data.toList, x3.data.toList⟩ := by
                unfold seqS
                rw [hhv]
                simp only [tkR_hit, nV_hit]
                rw [dV_yes (by rw [dB_hit]; simpa using hh.1), tkD_hit]
                unfold vOf valO
                rw [if_pos n2, if_pos n2]
              show allS [((1 : Int), x1), (2, x2), (3, x3)] = true
              unfold allS
              rw [hq, hhb]
              simp only [tkR_hit, nB_hit, dB_hit, n2, hh.2, List.length_nil, Bool.true_and, Bool.and_true, decide_true]
              simpa using hh.1
            · cases hg
          · cases hg
        · cases hg
  · have hf := readF_none h0
    have hg : Go.Proofs.Ytjpmmbmhkpgjcaa.getS bs = none := by
      cases hg : partsO bs 3 with
      | none => unfold Go.Proofs.Ytjpmmbmhkpgjcaa.getS; rw [hg]
      | some l => exact absurd (partsO_fields hg).1 h0
    rw [hg, hf, if_neg]
    intro h
    cases h
theorem scells_zero (o : HdT) (h : HdT) (n : Int) (t : List UInt8) (hd : h.d.length = 32) : ((scells ⟨h, n, t⟩).toArray.toList.take 0 ++ hcells o ++ (scells ⟨h, n, t⟩).toArray.toList.drop (0 + 36)).toArray = (scells ⟨o, n, t⟩).toArray := by
  unfold scells
  congr 1
  simp [List.drop_append, hcells_length h hd]
theorem scells_node (h : HdT) (n v : Int) (t : List UInt8) (hd : h.d.length = 32) : (scells ⟨h, n, t⟩).toArray.setIfInBounds 36 (.int .i64 v) = (scells ⟨h, v, t⟩).toArray := by
  unfold scells
  rw [List.setIfInBounds_toArray]
  congr 1
  rw [List.append_assoc, List.append_assoc, List.set_append_right _ _ (by simp [hcells_length h hd])]
  simp [hcells_length h hd]
set_option maxHeartbeats 8000000 in
theorem hGetS_any (a : Option Addr) (len cap : Nat) (bs : List UInt8) (w : World) (hR : Reads w a len cap bs) (hl : len ≤ 1000000) (R : Array Value) (HR : Hid (R = (scells (getSO bs)).toArray)) :
    Calls Try.prog 140 #[.slice a len cap] w fun e w' => e = .returned (.tuple #[.agg R, .int .i64 (getSE bs)]) ∧ Below w.heap.size w w' := by
  obtain ⟨Z, HZ, HA, HBZ, H36⟩ := noughtsS
  have HSZ : Hid ((Try.prog.info? 34).map (·.size) = some Z.size) := by show _ = _; rw [sizeS, H36.out]
  have H1Z : Hid (Z.all (·.oneCell') = true) := by show _ = _; rw [HZ.out]; exact one_cellsS _
  have hnot : ∀ (x : Bool) (w : World), (Op.unary .not (.bool x)).run Try.prog w = .ok (.bool (!x)) w := fun _ _ => rfl
  obtain ⟨f0, hf0⟩ : ∃ f, f = readF bs := ⟨_, rfl⟩
  obtain ⟨f1, hf1⟩ : ∃ f, f = tkR 1 f0 := ⟨_, rfl⟩
  obtain ⟨f2, hf2⟩ : ∃ f, f = tkR 2 f1 := ⟨_, rfl⟩
  obtain ⟨f3, hf3⟩ : ∃ f, f = tkR 3 f2 := ⟨_, rfl⟩
  have hsz : (tkD 1 f0).size ≤ 1000000 := Nat.le_trans (tkD_le 1 f0 65536 (by rw [hf0]; exact readF_64 bs)) (by decide)
  obtain ⟨C1, hC1⟩ : ∃ C, C = (scells ⟨hV 1 f0, 0, List.replicate 32 0⟩).toArray := ⟨_, rfl⟩
  obtain ⟨C2, hC2⟩ : ∃ C, C = (scells ⟨hV 1 f0, nV 2 f1, List.replicate 32 0⟩).toArray := ⟨_, rfl⟩
  obtain ⟨C3, hC3⟩ : ∃ C, C = (scells ⟨hV 1 f0, nV 2 f1, dV 3 f2⟩).toArray := ⟨_, rfl⟩
  have hz1 : C1.size = 69 := by rw [hC1, List.size_toArray]; exact scells_length _ (hV_digs _ _) rfl
  have hz2 : C2.size = 69 := by rw [hC2, List.size_toArray]; exact scells_length _ (hV_digs _ _) rfl
  have hz3 : C3.size = 69 := by rw [hC3, List.size_toArray]; exact scells_length _ (hV_digs _ _) (dV_length _ _)
  obtain ⟨b1, hb1⟩ : ∃ b, b = hB 1 f0 := ⟨_, rfl⟩
  obtain ⟨b2, hb2⟩ : ∃ b, b = nB 2 f1 := ⟨_, rfl⟩
  obtain ⟨b3, hb3⟩ : ∃ b, b = dB 3 f2 := ⟨_, rfl⟩
  obtain ⟨b4, hb4⟩ : ∃ b, b = decide (f3.length = 0) := ⟨_, rfl⟩
  obtain ⟨br, hbr⟩ : ∃ b, b = mayS (seqS f0) := ⟨_, rfl⟩
  have hq : seqS f0 = ⟨hV 1 f0, nV 2 f1, dV 3 f2⟩ := by unfold seqS; rw [hf2, hf1]
  have hall : allS f0 = (b1 && (b2 && (b3 && (b4 && br)))) := by
    unfold allS
    rw [hb1, hb2, hb3, hb4, hbr, hf3, hf2, hf1]
  have hget := get_seqS bs
  rw [← hf0, hall] at hget
  obtain ⟨K, hKK⟩ : ∃ K, K = getSE bs := ⟨_, rfl⟩
  rw [← hKK]
  have HF : Hid ((b1 && (b2 && (b3 && (b4 && br)))) = false → R = Z ∧ K = 70) := fun hh => by
    rw [hh] at hget
    have hget : Go.Proofs.Ytjpmmbmhkpgjcaa.getS bs = none := hget
    rw [HR.out, HZ.out, hKK]
    unfold getSO getSE
    rw [hget]
    exact ⟨rfl, rfl⟩
  have HT : Hid ((b1 && (b2 && (b3 && (b4 && br)))) = true → R = C3 ∧ K = 0) := fun hh => by
    rw [hh] at hget
    have hget : Go.Proofs.Ytjpmmbmhkpgjcaa.getS bs = some (seqS f0) := hget
    rw [HR.out, hC3, hKK]
    unfold getSO getSE
    rw [hget, hq]
    exact ⟨rfl, rfl⟩
  have O1 : Hid (∀ W, Below w.heap.size w W → Calls Try.prog 141 #[.slice a len cap] W fun e w' => ∃ x c, e = .returned (.slice x f0.length c) ∧ Lie w' W.heap.size x c f0 ∧ Below W.heap.size W w') := fun W hb => by rw [hf0]; exact open_any a len cap bs W (hR.below hb) hl
  have I1 : Hid (∀ W g2 g4 g5 lo, GtS w W g2 g4 g5 lo Z Z 34 f0 → Calls Try.prog 142 #[.pointer (some ⟨g4, 0, none⟩), .int .i64 1, .func (.func 143) #[.pointer (some ⟨g5, 0, none⟩)] #[]] W fun e w' => e = .returned (.bool b1) ∧ GtS w w' g2 g4 g5 lo Z C1 34 f1) := fun W g2 g4 g5 lo hs => gt_head 1 0 b1 hs hsz (by rw [H36.out]; omega) (by rw [HZ.out, hC1]; exact (scells_zero (hV 1 f0) zeroH 0 (List.replicate 32 0) rfl).symm) hb1 hf1
  have I2 : Hid (∀ W g2 g4 g5 lo, GtS w W g2 g4 g5 lo Z C1 34 f1 → Calls Try.prog 144 #[.pointer (some ⟨g4, 36, none⟩), .int .i64 2, .func (.func 145) #[.pointer (some ⟨g5, 0, none⟩)] #[]] W fun e w' => e = .returned (.bool b2) ∧ GtS w w' g2 g4 g5 lo Z C2 34 f2) := fun W g2 g4 g5 lo hs => gt_int 2 36 b2 hs (by rw [hz1]; omega) (by rw [hC1, hC2]; exact (scells_node (hV 1 f0) 0 (nV 2 f1) (List.replicate 32 0) (hV_digs _ _)).symm) hb2 hf2
  have I3 : Hid (∀ W g2 g4 g5 lo, GtS w W g2 g4 g5 lo Z C2 34 f2 → Calls Try.prog 146 #[.pointer (some ⟨g4, 37, none⟩), .int .i64 3, .func (.func 147) #[.pointer (some ⟨g5, 0, none⟩)] #[]] W fun e w' => e = .returned (.bool b3) ∧ GtS w w' g2 g4 g5 lo Z C3 34 f3) := fun W g2 g4 g5 lo hs => gt_dig 3 37 b3 hs (by rw [hz2]; omega) (by rw [hC2, hC3]; exact (scells_sign (hV 1 f0) (nV 2 f1) (List.replicate 32 0) (dV 3 f2) (hV_digs _ _) rfl).symm) hb3 hf3
  have I4 : Hid (∀ W g2 g4 g5 lo, GtS w W g2 g4 g5 lo Z C3 34 f3 → Calls Try.prog 148 #[.pointer (some ⟨g5, 0, none⟩)] W fun e w' => e = .returned (.bool b4) ∧ GtS w w' g2 g4 g5 lo Z C3 34 f3) := fun W g2 g4 g5 lo hs => gt_ended b4 hs hb4
  obtain ⟨E, hE⟩ : ∃ E, E = mayS (seqS f0) := ⟨_, rfl⟩
  have hd5 : (seqS f0).h.d.length = 32 := hV_digs _ _
  have K1 : Hid (∀ W, Calls Try.prog 132 #[.agg C3] W fun e w' => e = .returned (.bool E) ∧ Below W.heap.size W w') := fun W => by rw [hE]; exact hMay_any (seqS f0) hd5 W C3 (by rw [hC3, hq]; exact hidk rfl)
  have hK : (E = true ∧ br = true) ∨ (E = false ∧ br = false) := by
    rw [hE, hbr]
    cases mayS (seqS f0)
    · exact .inr ⟨rfl, rfl⟩
    · exact .inl ⟨rfl, rfl⟩
  have HSC : Hid ((Try.prog.info? 34).map (·.size) = some C3.size) := by show _ = _; rw [sizeS, hz3]
  have H1C : Hid (C3.all (·.oneCell') = true) := by show _ = _; rw [hC3]; exact one_cellsS _
  have HZC : Hid (Z.size = C3.size) := by show _ = _; rw [H36.out, hz3]
  clear hf0 hf1 hf2 hf3 hC1 hC2 hC3 hz1 hz2 hz3 hb1 hb2 hb3 hb4 hbr hq hall hget hKK hE hd5 HR H36 hsz
  clear HZ hR
  go_enter Try.func140, Try.ntmps140
  go_wp2_with (first
    | (show aD 2 _ _ _ _ _ _ _ _ _ _ _; refine wpList_new_var rfl 34 rfl Z HA.out ?_; intro g2 w1 HM2; try simp only [Act.put, pS1, pS2, pS3])
    | (show aD 4 _ _ _ _ _ _ _ _ _ _ _; refine wpList_new_var rfl 34 rfl Z HA.out ?_; intro g4 w2 HM4; try simp only [Act.put, pS1, pS2, pS3])
    | fail)
  have HB2 : Hid (Below w.heap.size w w2) := HM2.out.below.trans (HM4.out.below.mono HM2.out.below.size)
  refine (O1.out w2 HB2.out).mono ?_
  rintro e w3 ⟨x, c, rfl, hl3, hb3⟩
  have HS0 : Hid (GtS w (w3.alloc (.cells #[.slice x f0.length c] 176)) g2 g4 w3.heap.size w2.heap.size Z Z 34 f0) := by
    have hbb := HB2.out.trans (hb3.mono HB2.out.size)
    have q2 : w2.heap[g2]? = some (.cells Z 34 (0, 0)) := (HM4.out.below.block _ (heap_lt HM2.out.row)).trans HM2.out.row
    refine ⟨hbb.alloc hbb.size _, heap_keep ((hb3.block _ (heap_lt q2)).trans q2), heap_keep ((hb3.block _ (heap_lt HM4.out.row)).trans HM4.out.row), rd_new hl3 hb3.size, Nat.le_of_eq HM2.out.new.symm, ?_, heap_lt HM4.out.row, hb3.size⟩
    rw [HM4.out.new]; exact heap_lt HM2.out.row
  obtain ⟨g5, hg5⟩ : ∃ g, g = w3.heap.size := ⟨_, rfl⟩
  obtain ⟨lo, hlo⟩ : ∃ g, g = w2.heap.size := ⟨_, rfl⟩
  rw [← hg5, ← hlo] at HS0
  clear HM2 HM4 HB2 hb3 hl3 O1 hlo
  go_wp2_with fail
  rw [← hg5]
  clear hg5
  refine (I1.out _ _ _ _ _ HS0.out).mono ?_
  rintro e v1 ⟨rfl, hs1⟩
  have HS1 := hidk hs1
  clear hs1 HS0 I1
  cases b1
  · skip
    go_wp2_with (first
      | (show aD 32 _ _ _ _ _ _ _ _ _ _ _; refine wpList_build_none rfl 34 rfl Z HBZ.out ?_; try simp only [Act.put, pS1, pS2, pS3])
      | (refine wpList_set_var rfl 34 (.tmp 2) (.tmp 32) rfl g2 Z rfl rfl 34 Z HS1.out.r2 HSZ.out rfl H1Z.out ?_; intro wz HWz; try simp only [Act.put, pS1, pS2, pS3])
      | fail)
    refine bodyPost_ret (v := .tuple #[.agg R, .int .i64 K]) ?_ rfl ⟨rfl, HWz.out.below w.heap.size w HS1.out.below HS1.out.o2⟩
    rw [(HF.out rfl).1, (HF.out rfl).2]
    exact results_row_tmp (p := 2) (q := 3) (ty := 34) rfl _ _ g2 34 Z (0, 0) _ rfl HWz.out.row Try.underlying34 rfl HSZ.out
  go_wp2_with fail
  refine (I2.out _ _ _ _ _ HS1.out).mono ?_
  rintro e v2 ⟨rfl, hs2⟩
  have HS2 := hidk hs2
  clear hs2 HS1 I2
  cases b2
  · skip
    go_wp2_with (first
      | (show aD 32 _ _ _ _ _ _ _ _ _ _ _; refine wpList_build_none rfl 34 rfl Z HBZ.out ?_; try simp only [Act.put, pS1, pS2, pS3])
      | (refine wpList_set_var rfl 34 (.tmp 2) (.tmp 32) rfl g2 Z rfl rfl 34 Z HS2.out.r2 HSZ.out rfl H1Z.out ?_; intro wz HWz; try simp only [Act.put, pS1, pS2, pS3])
      | fail)
    refine bodyPost_ret (v := .tuple #[.agg R, .int .i64 K]) ?_ rfl ⟨rfl, HWz.out.below w.heap.size w HS2.out.below HS2.out.o2⟩
    rw [(HF.out rfl).1, (HF.out rfl).2]
    exact results_row_tmp (p := 2) (q := 3) (ty := 34) rfl _ _ g2 34 Z (0, 0) _ rfl HWz.out.row Try.underlying34 rfl HSZ.out
  go_wp2_with fail
  refine (I3.out _ _ _ _ _ HS2.out).mono ?_
  rintro e v3 ⟨rfl, hs3⟩
  have HS3 := hidk hs3
  clear hs3 HS2 I3
  cases b3
  · skip
    go_wp2_with (first
      | (show aD 32 _ _ _ _ _ _ _ _ _ _ _; refine wpList_build_none rfl 34 rfl Z HBZ.out ?_; try simp only [Act.put, pS1, pS2, pS3])
      | (refine wpList_set_var rfl 34 (.tmp 2) (.tmp 32) rfl g2 Z rfl rfl 34 Z HS3.out.r2 HSZ.out rfl H1Z.out ?_; intro wz HWz; try simp only [Act.put, pS1, pS2, pS3])
      | fail)
    refine bodyPost_ret (v := .tuple #[.agg R, .int .i64 K]) ?_ rfl ⟨rfl, HWz.out.below w.heap.size w HS3.out.below HS3.out.o2⟩
    rw [(HF.out rfl).1, (HF.out rfl).2]
    exact results_row_tmp (p := 2) (q := 3) (ty := 34) rfl _ _ g2 34 Z (0, 0) _ rfl HWz.out.row Try.underlying34 rfl HSZ.out
  go_wp2_with fail
  refine (I4.out _ _ _ _ _ HS3.out).mono ?_
  rintro e v4 ⟨rfl, hs4⟩
  have HS4 := hidk hs4
  clear hs4 HS3 I4
  cases b4
  · skip
    go_wp2_with (first
      | (show aD 32 _ _ _ _ _ _ _ _ _ _ _; refine wpList_build_none rfl 34 rfl Z HBZ.out ?_; try simp only [Act.put, pS1, pS2, pS3])
      | (refine wpList_set_var rfl 34 (.tmp 2) (.tmp 32) rfl g2 Z rfl rfl 34 Z HS4.out.r2 HSZ.out rfl H1Z.out ?_; intro wz HWz; try simp only [Act.put, pS1, pS2, pS3])
      | fail)
    refine bodyPost_ret (v := .tuple #[.agg R, .int .i64 K]) ?_ rfl ⟨rfl, HWz.out.below w.heap.size w HS4.out.below HS4.out.o2⟩
    rw [(HF.out rfl).1, (HF.out rfl).2]
    exact results_row_tmp (p := 2) (q := 3) (ty := 34) rfl _ _ g2 34 Z (0, 0) _ rfl HWz.out.row Try.underlying34 rfl HSZ.out
  go_wp2_with (first
    | (show aD 28 _ _ _ _ _ _ _ _ _ _ _; refine wpList_load_row_w (by rfl) 34 (.tmp 4) rfl g4 rfl 34 C3 (0, 0) _ HS4.out.r4 Try.underlying34 rfl HSC.out ?_; try simp only [Act.put, pS1, pS2, pS3])
    | fail)
  refine (K1.out _).mono ?_
  rintro e vk ⟨rfl, hbk⟩
  have HSk := hidk (HS4.out.keep hbk)
  clear hbk HS4 K1
  rcases hK with ⟨rfl, rfl⟩ | ⟨rfl, rfl⟩
  · go_wp2_with (first
      | (show aD 33 _ _ _ _ _ _ _ _ _ _ _; refine wpList_load_row rfl 34 (.tmp 4) rfl g4 rfl 34 C3 (0, 0) _ HSk.out.r4 Try.underlying34 rfl HSC.out ?_; try simp only [Act.put, pS1, pS2, pS3])
      | (refine wpList_set_var rfl 34 (.tmp 2) (.tmp 33) rfl g2 C3 rfl rfl 34 Z HSk.out.r2 HSC.out HZC.out H1C.out ?_; intro wz HWz; try simp only [Act.put, pS1, pS2, pS3])
      | fail)
    refine bodyPost_ret (v := .tuple #[.agg R, .int .i64 K]) ?_ rfl ⟨rfl, HWz.out.below w.heap.size w HSk.out.below HSk.out.o2⟩
    rw [(HT.out rfl).1, (HT.out rfl).2]
    exact results_row_tmp (p := 2) (q := 3) (ty := 34) rfl _ _ g2 34 C3 (0, 0) _ rfl HWz.out.row Try.underlying34 rfl HSC.out
  · skip
    go_wp2_with (first
      | (show aD 32 _ _ _ _ _ _ _ _ _ _ _; refine wpList_build_none rfl 34 rfl Z HBZ.out ?_; try simp only [Act.put, pS1, pS2, pS3])
      | (refine wpList_set_var rfl 34 (.tmp 2) (.tmp 32) rfl g2 Z rfl rfl 34 Z HSk.out.r2 HSZ.out rfl H1Z.out ?_; intro wz HWz; try simp only [Act.put, pS1, pS2, pS3])
      | fail)
    refine bodyPost_ret (v := .tuple #[.agg R, .int .i64 K]) ?_ rfl ⟨rfl, HWz.out.below w.heap.size w HSk.out.below HSk.out.o2⟩
    rw [(HF.out rfl).1, (HF.out rfl).2]
    exact results_row_tmp (p := 2) (q := 3) (ty := 34) rfl _ _ g2 34 Z (0, 0) _ rfl HWz.out.row Try.underlying34 rfl HSZ.out
set_option maxHeartbeats 16000000 in
theorem eTakeE_any (n₀ : Nat) (a : Option Addr) (len cap : Nat) (fs : List (Int × ByteArray)) (w : World) (hR : FReads n₀ w a len cap fs) (hn : n₀ ≤ w.heap.size) (hfz : ∀ f ∈ fs, f.2.size ≤ 65536) (X : Array Value) (HX : Hid (X = (ecells (takeE fs)).toArray)) :
    Calls Try.prog 137 #[.slice a len cap] w fun e w' => e = .returned (.agg X) ∧ Below w.heap.size w w' := by
  obtain ⟨Z, HZ, HA, HBZ, HNZ⟩ := noughtsE
  have HSX : Hid ((Try.prog.info? 38).map (·.size) = some X.size) := by show _ = _; rw [sizeE, HX.out]; simp [ecells_length _ (takeE_ok fs)]
  have H1X : Hid (X.all (·.oneCell') = true) := by show _ = _; rw [HX.out]; exact one_cellsE _
  have HZX : Hid (Z.size = X.size) := by show _ = _; rw [HNZ.out, HX.out]; simp [ecells_length _ (takeE_ok fs)]
  have z5 := fdD_le 5 65536 fs hfz
  have z6 := fdD_le 6 65536 fs hfz
  obtain ⟨v1, Hv1⟩ : ∃ v, Hid (v = fdN 1 fs) := ⟨_, hidk rfl⟩
  have N1 : Hid (∀ W, Below w.heap.size w W → Calls Try.prog 114 #[.slice a len cap, .int .i64 1] W fun e w' => e = .returned (.int .i64 v1) ∧ Below W.heap.size W w') := fun W hb => by rw [Hv1.out]; exact eNumber_any n₀ a len cap fs 1 W (hR.below (hb.mono hn)) (Nat.le_trans hn hb.size)
  obtain ⟨v2, Hv2⟩ : ∃ v, Hid (v = fdN 2 fs) := ⟨_, hidk rfl⟩
  have N2 : Hid (∀ W, Below w.heap.size w W → Calls Try.prog 114 #[.slice a len cap, .int .i64 2] W fun e w' => e = .returned (.int .i64 v2) ∧ Below W.heap.size W w') := fun W hb => by rw [Hv2.out]; exact eNumber_any n₀ a len cap fs 2 W (hR.below (hb.mono hn)) (Nat.le_trans hn hb.size)
  obtain ⟨v3, Hv3⟩ : ∃ v, Hid (v = fdN 3 fs) := ⟨_, hidk rfl⟩
  have N3 : Hid (∀ W, Below w.heap.size w W → Calls Try.prog 114 #[.slice a len cap, .int .i64 3] W fun e w' => e = .returned (.int .i64 v3) ∧ Below W.heap.size W w') := fun W hb => by rw [Hv3.out]; exact eNumber_any n₀ a len cap fs 3 W (hR.below (hb.mono hn)) (Nat.le_trans hn hb.size)
  obtain ⟨d4, Hd4⟩ : ∃ v, Hid (v = fdD 4 fs) := ⟨_, hidk rfl⟩
  have N4 : Hid (∀ W, Below w.heap.size w W → Calls Try.prog 126 #[.slice a len cap, .int .i64 4] W fun e w' => e = .returned (.string d4) ∧ Below W.heap.size W w') := fun W hb => by rw [Hd4.out]; exact eData_any n₀ a len cap fs 4 W (hR.below (hb.mono hn)) (Nat.le_trans hn hb.size)
  obtain ⟨d5, Hd5⟩ : ∃ v, Hid (v = fdD 5 fs) := ⟨_, hidk rfl⟩
  have N5 : Hid (∀ W, Below w.heap.size w W → Calls Try.prog 126 #[.slice a len cap, .int .i64 5] W fun e w' => e = .returned (.string d5) ∧ Below W.heap.size W w') := fun W hb => by rw [Hd5.out]; exact eData_any n₀ a len cap fs 5 W (hR.below (hb.mono hn)) (Nat.le_trans hn hb.size)
  obtain ⟨d6, Hd6⟩ : ∃ v, Hid (v = fdD 6 fs) := ⟨_, hidk rfl⟩
  have N6 : Hid (∀ W, Below w.heap.size w W → Calls Try.prog 126 #[.slice a len cap, .int .i64 6] W fun e w' => e = .returned (.string d6) ∧ Below W.heap.size W w') := fun W hb => by rw [Hd6.out]; exact eData_any n₀ a len cap fs 6 W (hR.below (hb.mono hn)) (Nat.le_trans hn hb.size)
  rw [← Hd5.out] at z5
  rw [← Hd6.out] at z6
  have m5 : d5.size ≤ maxLen := by unfold maxLen; omega
  have m6 : d6.size ≤ maxLen := by unfold maxLen; omega
  have ok1 : OkE ⟨v1, v2, v3, d4, zeroS, zeroC⟩ := ⟨rfl, rfl, rfl⟩
  obtain ⟨B, HB, HSB, H1B, HNB⟩ := entry_row ⟨v1, v2, v3, d4, zeroS, zeroC⟩ ok1
  have HZB : Hid (Z.size = B.size) := by show _ = _; rw [HNZ.out, HNB.out]
  have HBO : Hid (Try.prog.built 38 [(0, .int .i64 v1), (1, .int .i64 v2), (2, .int .i64 v3), (3, .string d4)] = some B) := builtE4 v1 v2 v3 d4 B HB
  have hgS := getSO_ok d5.data.toList
  have hgC := getCO_ok d6.data.toList
  obtain ⟨Q, HQ, HSQ, H1Q, HNQ⟩ := sign_row (getSO d5.data.toList) hgS.1 hgS.2
  obtain ⟨C, HC, HSC, H1C, HNC⟩ := claim_row5 (getCO d6.data.toList) hgC
  obtain ⟨e5, He5⟩ : ∃ z, Hid (z = getSE d5.data.toList) := ⟨_, hidk rfl⟩
  obtain ⟨e6, He6⟩ : ∃ z, Hid (z = getCE d6.data.toList) := ⟨_, hidk rfl⟩
  have G5 : Hid (∀ W a c, Reads W a d5.size c d5.data.toList → Calls Try.prog 140 #[.slice a d5.size c] W fun e w' => e = .returned (.tuple #[.agg Q, .int .i64 e5]) ∧ Below W.heap.size W w') := fun W a c h => by rw [He5.out]; exact hGetS_any a d5.size c _ W h (by omega) Q HQ
  have G6 : Hid (∀ W a c, Reads W a d6.size c d6.data.toList → Calls Try.prog 80 #[.slice a d6.size c] W fun e w' => e = .returned (.tuple #[.agg C, .int .i64 e6]) ∧ Below W.heap.size W w') := fun W a c h => by rw [He6.out]; exact eGetC_any a d6.size c _ W h (by omega) C HC
  have ok2 : OkE ⟨v1, v2, v3, d4, getSO d5.data.toList, zeroC⟩ := ⟨hgS.1, hgS.2, rfl⟩
  obtain ⟨B2, HB2, HSB2, H1B2, HNB2⟩ := entry_row ⟨v1, v2, v3, d4, getSO d5.data.toList, zeroC⟩ ok2
  have HE5 : Hid ((B.toList.take 4 ++ Q.toList ++ B.toList.drop (4 + Q.size)).toArray = B2) := by
    show _ = _
    rw [HNQ.out, HB.out, HQ.out, HB2.out]
    exact eset_h ⟨v1, v2, v3, d4, zeroS, zeroC⟩ ok1 _ hgS.1 hgS.2
  have HE6 : Hid ((B2.toList.take 73 ++ C.toList ++ B2.toList.drop (73 + C.size)).toArray = X) := by
    show _ = _
    rw [HNC.out, HB2.out, HC.out, HX.out, show takeE fs = ⟨v1, v2, v3, d4, getSO d5.data.toList, getCO d6.data.toList⟩ by rw [Hv1.out, Hv2.out, Hv3.out, Hd4.out, Hd5.out, Hd6.out]; rfl]
    exact eset_m ⟨v1, v2, v3, d4, getSO d5.data.toList, zeroC⟩ ok2 _ hgC
  have F5 : Hid (4 + Q.size ≤ B.size) := by show _ ≤ _; rw [HNQ.out, HNB.out]; omega
  have F6 : Hid (73 + C.size ≤ B2.size) := by show _ ≤ _; rw [HNC.out, HNB2.out]; omega
  clear hR HX HZ HBZ HNZ HB HQ HC HB2 He5 He6 hgS hgC ok1 ok2 Hv1 Hv2 Hv3 Hd4 Hd5 Hd6 HNQ HNC HNB HNB2 hfz
  go_enter Try.func137, Try.ntmps137
  go_wp2_with (first
    | (show aD 2 _ _ _ _ _ _ _ _ _ _ _; refine wpList_new_var rfl 38 rfl Z HA.out ?_; intro g2 w1 HM2; try simp only [Act.put, pS1, pS2, pS3])
    | fail)
  have h2 : w.heap.size ≤ g2 := Nat.le_of_eq HM2.out.new.symm
  have HBc := hidk HM2.out.below
  have HR2 := hidk HM2.out.row
  clear HM2
  refine (N1.out _ HBc.out).mono ?_
  rintro e w2 ⟨rfl, hb2⟩
  replace HR2 := hidk ((hb2.block _ (heap_lt HR2.out)).trans HR2.out)
  replace HBc := hidk (HBc.out.trans (hb2.mono HBc.out.size))
  clear hb2 N1
  go_wp2_with fail
  refine (N2.out _ HBc.out).mono ?_
  rintro e w3 ⟨rfl, hb3⟩
  replace HR2 := hidk ((hb3.block _ (heap_lt HR2.out)).trans HR2.out)
  replace HBc := hidk (HBc.out.trans (hb3.mono HBc.out.size))
  clear hb3 N2
  go_wp2_with fail
  refine (N3.out _ HBc.out).mono ?_
  rintro e w4 ⟨rfl, hb4⟩
  replace HR2 := hidk ((hb4.block _ (heap_lt HR2.out)).trans HR2.out)
  replace HBc := hidk (HBc.out.trans (hb4.mono HBc.out.size))
  clear hb4 N3
  go_wp2_with fail
  refine (N4.out _ HBc.out).mono ?_
  rintro e w5 ⟨rfl, hb5⟩
  replace HR2 := hidk ((hb5.block _ (heap_lt HR2.out)).trans HR2.out)
  replace HBc := hidk (HBc.out.trans (hb5.mono HBc.out.size))
  clear hb5 N4
  go_wp2_with (first
    | (show aD 12 _ _ _ _ _ _ _ _ _ _ _; refine wpList_build_some rfl 38 _ rfl _ rfl B HBO.out ?_; try simp only [Act.put, pS1, pS2, pS3])
    | (show aD 3 _ _ _ _ _ _ _ _ _ _ _; refine wpList_new_var rfl 38 rfl Z HA.out ?_; intro g3 w6 HM3; try simp only [Act.put, pS1, pS2, pS3])
    | (refine wpList_set_var rfl 38 (.tmp 3) (.tmp 12) rfl g3 B rfl rfl 38 Z HM3.out.row HSB.out HZB.out H1B.out ?_; intro w7 HW3; try simp only [Act.put, pS1, pS2, pS3])
    | fail)
  have g23 : g2 < g3 := by rw [HM3.out.new]; exact heap_lt HR2.out
  replace HR2 := hidk ((HW3.out.other g2 (by omega)).trans ((HM3.out.below.block _ (heap_lt HR2.out)).trans HR2.out))
  have HR3 := hidk HW3.out.row
  replace HBc := hidk (HW3.out.below _ _ (HBc.out.trans (HM3.out.below.mono HBc.out.size)) (by omega))
  clear HM3 HW3
  refine (N5.out _ HBc.out).mono ?_
  rintro e w8 ⟨rfl, hb8⟩
  replace HR2 := hidk ((hb8.block _ (heap_lt HR2.out)).trans HR2.out)
  replace HR3 := hidk ((hb8.block _ (heap_lt HR3.out)).trans HR3.out)
  replace HBc := hidk (HBc.out.trans (hb8.mono HBc.out.size))
  clear hb8 N5
  go_wp2_with (first
    | (show aD 16 _ _ _ _ _ _ _ _ _ _ _; refine wpList_conv_text rfl 9 61 5 (.tmp 15) rfl d5 rfl Try.underlying9 Try.underlying61 Try.underlying5 m5 ?_; intro ax5 cx5 wx5 HV5; try simp only [Act.put, pS1, pS2, pS3])
    | fail)
  replace HR2 := hidk ((HV5.out.2.block _ (heap_lt HR2.out)).trans HR2.out)
  replace HR3 := hidk ((HV5.out.2.block _ (heap_lt HR3.out)).trans HR3.out)
  replace HBc := hidk (HBc.out.trans (HV5.out.2.mono HBc.out.size))
  refine (G5.out _ _ _ HV5.out.1).mono ?_
  rintro e wy5 ⟨rfl, hy5⟩
  replace HR2 := hidk ((hy5.block _ (heap_lt HR2.out)).trans HR2.out)
  replace HR3 := hidk ((hy5.block _ (heap_lt HR3.out)).trans HR3.out)
  replace HBc := hidk (HBc.out.trans (hy5.mono HBc.out.size))
  clear hy5 HV5 G5
  go_wp2_with (first
    | (refine wpList_set_mid rfl 34 (.tmp 20) (.tmp 18) rfl g3 4 Q rfl rfl 38 B HR3.out F5.out HSQ.out H1Q.out ?_; intro wz5 HWm; rw [HE5.out] at HWm; replace HR2 := hidk ((HWm.out.other g2 (by omega)).trans HR2.out); replace HR3 := hidk HWm.out.row; replace HBc := hidk (HWm.out.below _ _ HBc.out (by omega)); clear HWm; try simp only [Act.put, pS1, pS2, pS3])
    | fail)
  refine (N6.out _ HBc.out).mono ?_
  rintro e w9 ⟨rfl, hb9⟩
  replace HR2 := hidk ((hb9.block _ (heap_lt HR2.out)).trans HR2.out)
  replace HR3 := hidk ((hb9.block _ (heap_lt HR3.out)).trans HR3.out)
  replace HBc := hidk (HBc.out.trans (hb9.mono HBc.out.size))
  clear hb9 N6
  go_wp2_with (first
    | (show aD 24 _ _ _ _ _ _ _ _ _ _ _; refine wpList_conv_text rfl 9 61 5 (.tmp 23) rfl d6 rfl Try.underlying9 Try.underlying61 Try.underlying5 m6 ?_; intro ax6 cx6 wx6 HV6; try simp only [Act.put, pS1, pS2, pS3])
    | fail)
  replace HR2 := hidk ((HV6.out.2.block _ (heap_lt HR2.out)).trans HR2.out)
  replace HR3 := hidk ((HV6.out.2.block _ (heap_lt HR3.out)).trans HR3.out)
  replace HBc := hidk (HBc.out.trans (HV6.out.2.mono HBc.out.size))
  refine (G6.out _ _ _ HV6.out.1).mono ?_
  rintro e wy6 ⟨rfl, hy6⟩
  replace HR2 := hidk ((hy6.block _ (heap_lt HR2.out)).trans HR2.out)
  replace HR3 := hidk ((hy6.block _ (heap_lt HR3.out)).trans HR3.out)
  replace HBc := hidk (HBc.out.trans (hy6.mono HBc.out.size))
  clear hy6 HV6 G6
  go_wp2_with (first
    | (refine wpList_set_mid rfl 36 (.tmp 28) (.tmp 26) rfl g3 73 C rfl rfl 38 B2 HR3.out F6.out HSC.out H1C.out ?_; intro wz6 HWm; rw [HE6.out] at HWm; replace HR2 := hidk ((HWm.out.other g2 (by omega)).trans HR2.out); replace HR3 := hidk HWm.out.row; replace HBc := hidk (HWm.out.below _ _ HBc.out (by omega)); clear HWm; try simp only [Act.put, pS1, pS2, pS3])
    | (show aD 29 _ _ _ _ _ _ _ _ _ _ _; refine wpList_load_row rfl 38 (.tmp 3) rfl g3 rfl 38 X (0, 0) _ HR3.out Try.underlying38 rfl HSX.out ?_; try simp only [Act.put, pS1, pS2, pS3])
    | (refine wpList_set_var rfl 38 (.tmp 2) (.tmp 29) rfl g2 X rfl rfl 38 Z HR2.out HSX.out HZX.out H1X.out ?_; intro wl HW2; try simp only [Act.put, pS1, pS2, pS3])
    | fail)
  refine bodyPost_ret (v := .agg X) ?_ rfl ⟨rfl, HW2.out.below _ _ HBc.out h2⟩
  exact results_cell_row (p := 2) (ty := 38) rfl _ _ g2 38 X (0, 0) _ rfl HW2.out.row Try.underlying38 rfl HSX.out
set_option maxHeartbeats 8000000 in
theorem eReadE_any (a : Option Addr) (len cap : Nat) (bs : List UInt8) (w : World) (hR : Reads w a len cap bs) (hl : len ≤ 1000000) (R : Array Value) (HR : Hid (R = (ecells (getEO bs)).toArray)) :
    Calls Try.prog 136 #[.slice a len cap, .func (.func 137) #[] #[], .func (.func 91) #[] #[]] w fun e w' => e = .returned (.tuple #[.agg R, .int .i64 (getEE bs)]) ∧ Below w.heap.size w w' := by
  have hnot : ∀ (x : Bool) (w : World), (Op.unary .not (.bool x)).run Try.prog w = .ok (.bool (!x)) w := fun _ _ => rfl
  obtain ⟨Z, HZ, HA, HBZ, HNZ⟩ := noughtsE
  obtain ⟨fs, hfs⟩ : ∃ f, f = readF bs := ⟨_, rfl⟩
  have hfz : ∀ f ∈ fs, f.2.size ≤ 65536 := by rw [hfs]; exact readF_65 bs
  obtain ⟨x, hx⟩ : ∃ x, x = takeE fs := ⟨_, rfl⟩
  have hok : OkE x := by rw [hx]; exact takeE_ok fs
  have hin : InE x := by rw [hx]; exact takeE_in fs hfz
  obtain ⟨X, HX, HSX, H1X, HNX⟩ := entry_row x hok
  have HZX : Hid (Z.size = X.size) := by show _ = _; rw [HNZ.out, HNX.out]
  have HSZ : Hid ((Try.prog.info? 38).map (·.size) = some Z.size) := by show _ = _; rw [sizeE, HNZ.out]
  have H1Z : Hid (Z.all (·.oneCell') = true) := by show _ = _; rw [HZ.out]; exact one_cellsE _
  obtain ⟨L, hL⟩ : ∃ L, L = eB x := ⟨_, rfl⟩
  obtain ⟨E, hE⟩ : ∃ E, E = eE x := ⟨_, rfl⟩
  obtain ⟨q, hq⟩ : ∃ q : Bool, q = true ↔ L = bs := by
    by_cases h : L = bs
    · exact ⟨true, by simp [h]⟩
    · exact ⟨false, by simp [h]⟩
  obtain ⟨K, hK⟩ : ∃ K, K = getEE bs := ⟨_, rfl⟩
  have hE2 : E = 0 ∧ rightE x = true ∨ E = 60 ∧ rightE x = false := by rw [hE]; exact eE_two x
  have HT : Hid (E = 0 → q = true → R = X ∧ K = 0) := fun h0 hqt => by
    have hr : rightE x = true := by
      rcases hE2 with h | h
      · exact h.2
      · omega
    have hb : entryB x = bs := by
      have := hq.1 hqt
      rw [hL] at this
      unfold eB at this
      rw [if_pos hr] at this
      exact this
    have hh := getEO_yes (bs := bs) (by rw [← hfs, ← hx]; exact ⟨hr, hb⟩)
    rw [HR.out, HX.out, hK, hh.1, hh.2, ← hfs, ← hx]
    exact ⟨rfl, rfl⟩
  have HF : Hid (E = 60 ∨ q = false → R = Z ∧ K = 60) := fun h0 => by
    have hh := getEO_no (bs := bs) (by
      rw [← hfs, ← hx]
      rintro ⟨hr, hb⟩
      rcases h0 with h0 | h0
      · rcases hE2 with h | h
        · omega
        · rw [hr] at h; cases h.2
      · have : q = true := hq.2 (by rw [hL]; unfold eB; rw [if_pos hr]; exact hb)
        rw [h0] at this; cases this)
    rw [HR.out, HZ.out, hK, hh.1, hh.2]
    exact ⟨rfl, rfl⟩
  rw [← hK]
  have HRD : Hid (∀ W, Below w.heap.size w W → Reads W a len cap bs) := fun W hb => hR.below hb
  obtain ⟨ke, hke⟩ : ∃ k : Nat, k = readE bs := ⟨_, rfl⟩
  have R1 : Hid (∀ W, Below w.heap.size w W → Calls Try.prog 112 #[.slice a len cap] W fun e W' => ∃ a' c', e = .returned (.tuple #[.slice a' fs.length c', .int .i64 ke]) ∧ FReads W'.heap.size W' a' fs.length c' fs ∧ Below W.heap.size W W') := fun W hb => read_reads a len cap bs W (hR.below hb) hl hke.symm hfs.symm
  have T1 : Hid (∀ W a' c', FReads W.heap.size W a' fs.length c' fs → Calls Try.prog 137 #[.slice a' fs.length c'] W fun e w' => e = .returned (.agg X) ∧ Below W.heap.size W w') := fun W a' c' h => eTakeE_any W.heap.size a' fs.length c' fs W h (Nat.le_refl _) hfz X (by rw [← hx]; exact HX)
  have P1 : Hid (∀ W, Calls Try.prog 91 #[.agg X] W fun e w' => (∃ a' c', e = .returned (.tuple #[.slice a' L.length c', .int .i64 E]) ∧ Reads w' a' L.length c' L) ∧ Below W.heap.size W w') := fun W => by
    rw [hL, hE]
    exact ePutE_any x hin W X HX
  have Q1 : Hid (∀ W a' c', Reads W a' L.length c' L → Reads W a len cap bs → Calls Try.prog 113 #[.slice a' L.length c', .slice a len cap] W fun e w' => e = .returned (.bool q) ∧ w' = W) := fun W a' c' h1 h2 => eSame_any a' a L.length c' len cap L bs W h1 h2 q hq
  have hE3 : E = 0 ∨ E = 60 := by omega
  clear hR HR hfs hfz hx hok hin HX HZ HBZ HNZ HNX hL hE hq hK hE2 hke
  rcases hE3 with rfl | rfl
  all_goals
    cases q
    all_goals
      first
        | have HQ : Hid (R = Z ∧ K = 60) := HF.out (.inl rfl)
        | have HQ : Hid (R = Z ∧ K = 60) := HF.out (.inr rfl)
        | have HQ : Hid (R = X ∧ K = 0) := HT.out rfl rfl
      clear HF HT
      go_enter Try.func136, Try.ntmps136
      go_wp2_with (first
        | (show aD 6 _ _ _ _ _ _ _ _ _ _ _; refine wpList_new_var rfl 38 rfl Z HA.out ?_; intro g6 w1 HM6; try simp only [Act.put, pS1, pS2, pS3])
        | (show aD 8 _ _ _ _ _ _ _ _ _ _ _; refine wpList_new_var rfl 38 rfl Z HA.out ?_; intro g8 w2 HM8; try simp only [Act.put, pS1, pS2, pS3])
        | fail)
      have h6 : w.heap.size ≤ g6 := Nat.le_of_eq HM6.out.new.symm
      have h8 : g6 < g8 := by have e1 := HM8.out.new; have := heap_lt HM6.out.row; omega
      have HB2 : Hid (Below w.heap.size w w2) := HM6.out.below.trans (HM8.out.below.mono HM6.out.below.size)
      have HR6 := hidk ((HM8.out.below.block _ (heap_lt HM6.out.row)).trans HM6.out.row)
      have HR8 := hidk HM8.out.row
      clear HM6 HM8
      refine (R1.out w2 HB2.out).mono ?_
      rintro e w3 ⟨a3, c3, rfl, hf3, hb3⟩
      have HF3 := hidk hf3
      have HB3 := hidk (HB2.out.trans (hb3.mono HB2.out.size))
      replace HR6 := hidk ((hb3.block _ (heap_lt HR6.out)).trans HR6.out)
      replace HR8 := hidk ((hb3.block _ (heap_lt HR8.out)).trans HR8.out)
      clear hf3 hb3 HB2 R1
      go_wp2_with fail
      refine (T1.out w3 a3 c3 HF3.out).mono ?_
      rintro e w4 ⟨rfl, hb4⟩
      have HB4 := hidk (HB3.out.trans (hb4.mono HB3.out.size))
      replace HR6 := hidk ((hb4.block _ (heap_lt HR6.out)).trans HR6.out)
      replace HR8 := hidk ((hb4.block _ (heap_lt HR8.out)).trans HR8.out)
      clear hb4 HB3 HF3 T1
      go_wp2_with (first
        | (show aD 11 _ _ _ _ _ _ _ _ _ _ _; refine wpList_new_var rfl 38 rfl Z HA.out ?_; intro g11 w5 HM11; try simp only [Act.put, pS1, pS2, pS3])
        | (refine wpList_set_var rfl 38 (.tmp 11) (.tmp 21) rfl g11 X rfl rfl 38 Z HM11.out.row HSX.out HZX.out H1X.out ?_; intro w6 HW11; try simp only [Act.put, pS1, pS2, pS3])
        | (show aD 24 _ _ _ _ _ _ _ _ _ _ _; refine wpList_load_row rfl 38 (.tmp 11) rfl g11 rfl 38 X (0, 0) _ HW11.out.row Try.underlying38 rfl HSX.out ?_; try simp only [Act.put, pS1, pS2, pS3])
        | fail)
      have h11 : w4.heap.size ≤ g11 := Nat.le_of_eq HM11.out.new.symm
      have g68 := heap_lt HR8.out
      have HB6 := hidk (HW11.out.below _ _ (HB4.out.trans (HM11.out.below.mono HB4.out.size)) (Nat.le_trans HB4.out.size h11))
      replace HR6 := hidk ((HW11.out.other _ (by omega)).trans ((HM11.out.below.block _ (heap_lt HR6.out)).trans HR6.out))
      replace HR8 := hidk ((HW11.out.other _ (by omega)).trans ((HM11.out.below.block _ (heap_lt HR8.out)).trans HR8.out))
      have HR11 := hidk HW11.out.row
      clear HM11 HW11 HB4
      refine (P1.out w6).mono ?_
      rintro e w7 ⟨⟨a7, c7, rfl, hr7⟩, hb7⟩
      have HL7 := hidk hr7
      have HB7 := hidk (HB6.out.trans (hb7.mono HB6.out.size))
      replace HR6 := hidk ((hb7.block _ (heap_lt HR6.out)).trans HR6.out)
      replace HR8 := hidk ((hb7.block _ (heap_lt HR8.out)).trans HR8.out)
      replace HR11 := hidk ((hb7.block _ (heap_lt HR11.out)).trans HR11.out)
      have HRB := hidk (HRD.out w7 HB7.out)
      clear hr7 hb7 HB6 P1 HRD
      go_wp2_with (first
        | (show aD 36 _ _ _ _ _ _ _ _ _ _ _; refine wpList_load_row rfl 38 (.tmp 8) rfl g8 rfl 38 Z (0, 0) _ HR8.out Try.underlying38 rfl HSZ.out ?_; try simp only [Act.put, pS1, pS2, pS3])
        | (refine wpList_set_var rfl 38 (.tmp 6) (.tmp 36) rfl g6 Z rfl rfl 38 Z HR6.out HSZ.out rfl H1Z.out ?_; intro wz HW6; try simp only [Act.put, pS1, pS2, pS3])
        | fail)
      first
        | (obtain ⟨rfl, rfl⟩ := HQ.out
           refine bodyPost_ret (v := .tuple #[.agg R, .int .i64 60]) ?_ rfl ⟨rfl, HW6.out.below _ _ HB7.out h6⟩
           exact results_row_tmp (p := 6) (q := 7) (ty := 38) rfl _ _ g6 38 R (0, 0) _ rfl HW6.out.row Try.underlying38 rfl HSZ.out)
        | (refine (Q1.out _ _ _ HL7.out HRB.out).mono ?_
           rintro e w8 ⟨rfl, rfl⟩
           go_wp2_with (first
             | (show aD 36 _ _ _ _ _ _ _ _ _ _ _; refine wpList_load_row rfl 38 (.tmp 8) rfl g8 rfl 38 Z (0, 0) _ HR8.out Try.underlying38 rfl HSZ.out ?_; try simp only [Act.put, pS1, pS2, pS3])
             | (show aD 37 _ _ _ _ _ _ _ _ _ _ _; refine wpList_load_row rfl 38 (.tmp 11) rfl g11 rfl 38 X (0, 0) _ HR11.out Try.underlying38 rfl HSX.out ?_; try simp only [Act.put, pS1, pS2, pS3])
             | (refine wpList_set_var rfl 38 (.tmp 6) (.tmp 36) rfl g6 Z rfl rfl 38 Z HR6.out HSZ.out rfl H1Z.out ?_; intro wz HW6; try simp only [Act.put, pS1, pS2, pS3])
             | (refine wpList_set_var rfl 38 (.tmp 6) (.tmp 37) rfl g6 X rfl rfl 38 Z HR6.out HSX.out HZX.out H1X.out ?_; intro wz HW6; try simp only [Act.put, pS1, pS2, pS3])
             | fail)
           first
             | (obtain ⟨rfl, rfl⟩ := HQ.out
                refine bodyPost_ret (v := .tuple #[.agg R, .int .i64 60]) ?_ rfl ⟨rfl, HW6.out.below _ _ HB7.out h6⟩
                exact results_row_tmp (p := 6) (q := 7) (ty := 38) rfl _ _ g6 38 R (0, 0) _ rfl HW6.out.row Try.underlying38 rfl HSZ.out)
             | (obtain ⟨rfl, rfl⟩ := HQ.out
                refine bodyPost_ret (v := .tuple #[.agg R, .int .i64 0]) ?_ rfl ⟨rfl, HW6.out.below _ _ HB7.out h6⟩
                exact results_row_tmp (p := 6) (q := 7) (ty := 38) rfl _ _ g6 38 R (0, 0) _ rfl HW6.out.row Try.underlying38 rfl HSX.out))
set_option maxHeartbeats 2000000 in
theorem eGetE_any (a : Option Addr) (len cap : Nat) (bs : List UInt8) (w : World) (hR : Reads w a len cap bs) (hl : len ≤ 1000000) (R : Array Value) (HR : Hid (R = (ecells (getEO bs)).toArray)) :
    Calls Try.prog 125 #[.slice a len cap] w fun e w' => e = .returned (.tuple #[.agg R, .int .i64 (getEE bs)]) ∧ Below w.heap.size w w' := by
  obtain ⟨Z, HZ, HA, HBZ, HNZ⟩ := noughtsE
  obtain ⟨X, HX, HSX, H1X, HNX⟩ := entry_row (getEO bs) (getEO_okT bs)
  obtain rfl : X = R := by rw [HX.out, HR.out]
  have HZX : Hid (Z.size = X.size) := by show _ = _; rw [HNZ.out, HNX.out]
  obtain ⟨K, hK⟩ : ∃ K, K = getEE bs := ⟨_, rfl⟩
  have R1 : Hid (∀ W, Below w.heap.size w W → Calls Try.prog 136 #[.slice a len cap, .func (.func 137) #[] #[], .func (.func 91) #[] #[]] W fun e w' => e = .returned (.tuple #[.agg X, .int .i64 K]) ∧ Below W.heap.size W w') := fun W hb => by rw [hK]; exact eReadE_any a len cap bs W (hR.below hb) hl X HR
  rw [← hK]
  clear hR HR HX HZ HBZ HNZ HNX hK
  go_enter Try.func125, Try.ntmps125
  go_wp2_with (first
    | (show aD 2 _ _ _ _ _ _ _ _ _ _ _; refine wpList_new_var rfl 38 rfl Z HA.out ?_; intro g2 w1 HM2; try simp only [Act.put, pS1, pS2, pS3])
    | fail)
  have h2 : w.heap.size ≤ g2 := Nat.le_of_eq HM2.out.new.symm
  refine (R1.out w1 HM2.out.below).mono ?_
  rintro e w2 ⟨rfl, hb2⟩
  have HB2 := hidk (HM2.out.below.trans (hb2.mono HM2.out.below.size))
  have HR2 := hidk ((hb2.block _ (heap_lt HM2.out.row)).trans HM2.out.row)
  clear hb2 HM2 R1
  go_wp2_with (first
    | (refine wpList_set_var rfl 38 (.tmp 2) (.tmp 6) rfl g2 X rfl rfl 38 Z HR2.out HSX.out HZX.out H1X.out ?_; intro wz HW2; try simp only [Act.put, pS1, pS2, pS3])
    | fail)
  refine bodyPost_ret (v := .tuple #[.agg X, .int .i64 K]) ?_ rfl ⟨rfl, HW2.out.below _ _ HB2.out h2⟩
  exact results_row_tmp (p := 2) (q := 3) (ty := 38) rfl _ _ g2 38 X (0, 0) _ rfl HW2.out.row Try.underlying38 rfl HSX.out
theorem builtI1 (p : Int) (R : Array Value) (HR : Hid (R = (icells ⟨p, zeroE⟩).toArray)) : Try.prog.built 40 [(0, .int .i64 p)] = some R := by
  have hi := infoI
  cases hq : Try.prog.info? 40 with
  | none => rw [hq] at hi; cases hi
  | some i =>
    rw [hq] at hi
    simp only [Option.map_some, Option.some.injEq, Prod.mk.injEq] at hi
    have h3 : (Try.prog.info? 3).map (·.size) = some 1 := by kernel_rfl
    have hE := sizeE
    cases hq3 : Try.prog.info? 3 with
    | none => rw [hq3] at h3; cases h3
    | some i3 =>
    cases hqE : Try.prog.info? 38 with
    | none => rw [hqE] at hE; cases hE
    | some iE =>
    rw [hq3] at h3
    rw [hqE] at hE
    simp only [Option.map_some, Option.some.injEq] at h3 hE
    unfold Program.built
    simp only [hq, Try.underlying40, hi.1, List.mapM_cons, List.mapM_nil, hq3, hqE, h3, hE, Option.map_some, Option.bind_eq_bind, Option.bind_some, Option.pure_def]
    show Instr.fill _ (icells zeroI).toArray _ = some R
    refine (fill_val _ 0 0 1 (.int .i64 p) #[.int .i64 p] _ [] [.int .i64 0] (ecells zeroE) _ rfl rfl rfl (by simp [icells, zeroI]) rfl rfl).trans ?_
    simp only [Instr.fill, List.append_nil, Option.some.injEq]
    rw [HR.out]
    rfl
theorem iset_e (x : ItT) (ok : OkE x.e) (v : EnT) (hv : OkE v) : ((icells x).take 1 ++ ecells v ++ (icells x).drop (1 + 109)).toArray = (icells ⟨x.p, v⟩).toArray := by
  congr 1
  rw [List.drop_of_length_le (by rw [icells_length x ok]; omega), List.append_nil]
  rfl
set_option maxHeartbeats 8000000 in
theorem eTakeI_any (n₀ : Nat) (a : Option Addr) (len cap : Nat) (fs : List (Int × ByteArray)) (w : World) (hR : FReads n₀ w a len cap fs) (hn : n₀ ≤ w.heap.size) (hfz : ∀ f ∈ fs, f.2.size ≤ 65536) (X : Array Value) (HX : Hid (X = (icells (takeI fs)).toArray)) :
    Calls Try.prog 111 #[.slice a len cap] w fun e w' => e = .returned (.agg X) ∧ Below w.heap.size w w' := by
  obtain ⟨Z, HZ, HA, HBZ, HNZ⟩ := noughtsI
  have HSX : Hid ((Try.prog.info? 40).map (·.size) = some X.size) := by show _ = _; rw [sizeI, HX.out]; simp [icells_length _ (takeI_ok fs)]
  have H1X : Hid (X.all (·.oneCell') = true) := by show _ = _; rw [HX.out]; exact one_cellsI _
  have HZX : Hid (Z.size = X.size) := by show _ = _; rw [HNZ.out, HX.out]; simp [icells_length _ (takeI_ok fs)]
  have z2 := fdD_le 2 65536 fs hfz
  obtain ⟨v1, Hv1⟩ : ∃ v, Hid (v = fdN 1 fs) := ⟨_, hidk rfl⟩
  have N1 : Hid (∀ W, Below w.heap.size w W → Calls Try.prog 114 #[.slice a len cap, .int .i64 1] W fun e w' => e = .returned (.int .i64 v1) ∧ Below W.heap.size W w') := fun W hb => by rw [Hv1.out]; exact eNumber_any n₀ a len cap fs 1 W (hR.below (hb.mono hn)) (Nat.le_trans hn hb.size)
  obtain ⟨d2, Hd2⟩ : ∃ v, Hid (v = fdD 2 fs) := ⟨_, hidk rfl⟩
  have N2 : Hid (∀ W, Below w.heap.size w W → Calls Try.prog 126 #[.slice a len cap, .int .i64 2] W fun e w' => e = .returned (.string d2) ∧ Below W.heap.size W w') := fun W hb => by rw [Hd2.out]; exact eData_any n₀ a len cap fs 2 W (hR.below (hb.mono hn)) (Nat.le_trans hn hb.size)
  rw [← Hd2.out] at z2
  have m2 : d2.size ≤ maxLen := by unfold maxLen; omega
  obtain ⟨B, HB, HSB, H1B, HNB⟩ := item_row ⟨v1, zeroE⟩ zeroE_ok
  have HZB : Hid (Z.size = B.size) := by show _ = _; rw [HNZ.out, HNB.out]
  have HBO : Hid (Try.prog.built 40 [(0, .int .i64 v1)] = some B) := builtI1 v1 B HB
  have hgE := getEO_okT d2.data.toList
  obtain ⟨Q, HQ, HSQ, H1Q, HNQ⟩ := entry_row (getEO d2.data.toList) hgE
  obtain ⟨e2, He2⟩ : ∃ z, Hid (z = getEE d2.data.toList) := ⟨_, hidk rfl⟩
  have G2 : Hid (∀ W a c, Reads W a d2.size c d2.data.toList → Calls Try.prog 125 #[.slice a d2.size c] W fun e w' => e = .returned (.tuple #[.agg Q, .int .i64 e2]) ∧ Below W.heap.size W w') := fun W a c h => by rw [He2.out]; exact eGetE_any a d2.size c _ W h (by omega) Q HQ
  have HE2 : Hid ((B.toList.take 1 ++ Q.toList ++ B.toList.drop (1 + Q.size)).toArray = X) := by
    show _ = _
    rw [HNQ.out, HB.out, HQ.out, HX.out, show takeI fs = ⟨v1, getEO d2.data.toList⟩ by rw [Hv1.out, Hd2.out]; rfl]
    exact iset_e ⟨v1, zeroE⟩ zeroE_ok _ hgE
  have F2 : Hid (1 + Q.size ≤ B.size) := by show _ ≤ _; rw [HNQ.out, HNB.out]; omega
  clear hR HX HZ HBZ HNZ HB HQ He2 hgE Hv1 Hd2 HNQ HNB hfz
  go_enter Try.func111, Try.ntmps111
  go_wp2_with (first
    | (show aD 2 _ _ _ _ _ _ _ _ _ _ _; refine wpList_new_var rfl 40 rfl Z HA.out ?_; intro g2 w1 HM2; try simp only [Act.put, pS1, pS2, pS3])
    | fail)
  have h2 : w.heap.size ≤ g2 := Nat.le_of_eq HM2.out.new.symm
  have HBc := hidk HM2.out.below
  have HR2 := hidk HM2.out.row
  clear HM2
  refine (N1.out _ HBc.out).mono ?_
  rintro e w2 ⟨rfl, hb2⟩
  replace HR2 := hidk ((hb2.block _ (heap_lt HR2.out)).trans HR2.out)
  replace HBc := hidk (HBc.out.trans (hb2.mono HBc.out.size))
  clear hb2 N1
  go_wp2_with (first
    | (show aD 6 _ _ _ _ _ _ _ _ _ _ _; refine wpList_build_some rfl 40 _ rfl _ rfl B HBO.out ?_; try simp only [Act.put, pS1, pS2, pS3])
    | (show aD 3 _ _ _ _ _ _ _ _ _ _ _; refine wpList_new_var rfl 40 rfl Z HA.out ?_; intro g3 w6 HM3; try simp only [Act.put, pS1, pS2, pS3])
    | (refine wpList_set_var rfl 40 (.tmp 3) (.tmp 6) rfl g3 B rfl rfl 40 Z HM3.out.row HSB.out HZB.out H1B.out ?_; intro w7 HW3; try simp only [Act.put, pS1, pS2, pS3])
    | fail)
  have g23 : g2 < g3 := by rw [HM3.out.new]; exact heap_lt HR2.out
  replace HR2 := hidk ((HW3.out.other g2 (by omega)).trans ((HM3.out.below.block _ (heap_lt HR2.out)).trans HR2.out))
  have HR3 := hidk HW3.out.row
  replace HBc := hidk (HW3.out.below _ _ (HBc.out.trans (HM3.out.below.mono HBc.out.size)) (by omega))
  clear HM3 HW3
  refine (N2.out _ HBc.out).mono ?_
  rintro e w8 ⟨rfl, hb8⟩
  replace HR2 := hidk ((hb8.block _ (heap_lt HR2.out)).trans HR2.out)
  replace HR3 := hidk ((hb8.block _ (heap_lt HR3.out)).trans HR3.out)
  replace HBc := hidk (HBc.out.trans (hb8.mono HBc.out.size))
  clear hb8 N2
  go_wp2_with (first
    | (show aD 10 _ _ _ _ _ _ _ _ _ _ _; refine wpList_conv_text rfl 9 61 5 (.tmp 9) rfl d2 rfl Try.underlying9 Try.underlying61 Try.underlying5 m2 ?_; intro ax2 cx2 wx2 HV2; try simp only [Act.put, pS1, pS2, pS3])
    | fail)
  replace HR2 := hidk ((HV2.out.2.block _ (heap_lt HR2.out)).trans HR2.out)
  replace HR3 := hidk ((HV2.out.2.block _ (heap_lt HR3.out)).trans HR3.out)
  replace HBc := hidk (HBc.out.trans (HV2.out.2.mono HBc.out.size))
  refine (G2.out _ _ _ HV2.out.1).mono ?_
  rintro e wy2 ⟨rfl, hy2⟩
  replace HR2 := hidk ((hy2.block _ (heap_lt HR2.out)).trans HR2.out)
  replace HR3 := hidk ((hy2.block _ (heap_lt HR3.out)).trans HR3.out)
  replace HBc := hidk (HBc.out.trans (hy2.mono HBc.out.size))
  clear hy2 HV2 G2
  go_wp2_with (first
    | (refine wpList_set_mid rfl 38 (.tmp 14) (.tmp 12) rfl g3 1 Q rfl rfl 40 B HR3.out F2.out HSQ.out H1Q.out ?_; intro wz2 HWm; rw [HE2.out] at HWm; replace HR2 := hidk ((HWm.out.other g2 (by omega)).trans HR2.out); replace HR3 := hidk HWm.out.row; replace HBc := hidk (HWm.out.below _ _ HBc.out (by omega)); clear HWm; try simp only [Act.put, pS1, pS2, pS3])
    | (show aD 15 _ _ _ _ _ _ _ _ _ _ _; refine wpList_load_row rfl 40 (.tmp 3) rfl g3 rfl 40 X (0, 0) _ HR3.out Try.underlying40 rfl HSX.out ?_; try simp only [Act.put, pS1, pS2, pS3])
    | (refine wpList_set_var rfl 40 (.tmp 2) (.tmp 15) rfl g2 X rfl rfl 40 Z HR2.out HSX.out HZX.out H1X.out ?_; intro wl HW2; try simp only [Act.put, pS1, pS2, pS3])
    | fail)
  refine bodyPost_ret (v := .agg X) ?_ rfl ⟨rfl, HW2.out.below _ _ HBc.out h2⟩
  exact results_cell_row (p := 2) (ty := 40) rfl _ _ g2 40 X (0, 0) _ rfl HW2.out.row Try.underlying40 rfl HSX.out
theorem irow_row {W : World} {g : Nat} {x : ItT} {X : Array Value} (HX : Hid (X = (icells x).toArray)) {t : TypeId} (h : W.heap[g]? = some (.cells X t (0, 0))) : W.cell? ⟨g, 0, none⟩ = some (.int .i64 x.p) ∧ W.rangeAt g 1 (ecells x.e) := by
  constructor
  · rw [cell_of_row W g 0 X t (0, 0) h, HX.out]; rfl
  · intro j v hj
    rw [cell_of_row W g (1 + j) X t (0, 0) h, HX.out]
    have : (icells x)[1 + j]? = some v := by
      unfold icells
      rw [List.getElem?_append_right (by simp)]
      simpa using hj
    simpa using this
set_option maxHeartbeats 8000000 in
theorem ePutI_any (x : ItT) (hin : InI x) (w : World) (X : Array Value) (HX : Hid (X = (icells x).toArray)) :
    Calls Try.prog 75 #[.agg X] w fun e w' => BytesE (iB x) (iE x) e w' ∧ Below w.heap.size w w' := by
  have hnot : ∀ (x : Bool) (w : World), (Op.unary .not (.bool x)).run Try.prog w = .ok (.bool (!x)) w := fun _ _ => rfl
  have ok := hin.e.ok
  have HX0 : Hid ((w.alloc (.cells X 40)).heap[w.heap.size]? = some (.cells X 40 (0, 0))) := heap_alloc_new w _
  have HB : Hid (Below w.heap.size w (w.alloc (.cells X 40))) := (Below.refl _ _).alloc (Nat.le_refl _) _
  obtain ⟨Q, HQ, HSQ, H1Q, HNQ⟩ := entry_row x.e ok
  obtain ⟨k, Hk⟩ : ∃ k, Hid (k = x.p) := ⟨_, hidk rfl⟩
  have KP : Hid (∀ W : World, W.heap[w.heap.size]? = some (.cells X 40 (0, 0)) → W.cell? ⟨w.heap.size, 0, none⟩ = some (.int .i64 k)) := fun W h => by rw [Hk.out]; exact (irow_row HX h).1
  have KQ : Hid (∀ W : World, W.heap[w.heap.size]? = some (.cells X 40 (0, 0)) → W.rangeAt w.heap.size 1 Q.toList) := fun W h => by rw [HQ.out]; exact (irow_row HX h).2
  obtain ⟨l, Hl⟩ : ∃ l, Hid (l = eB x.e) := ⟨_, hidk rfl⟩
  obtain ⟨E, HE⟩ : ∃ l, Hid (l = eE x.e) := ⟨_, hidk rfl⟩
  have P1 : Hid (∀ W, Calls Try.prog 91 #[.agg Q] W fun e w' => (∃ a c, e = .returned (.tuple #[.slice a l.length c, .int .i64 E]) ∧ Reads w' a l.length c l) ∧ Below W.heap.size W w') := fun W => by rw [Hl.out, HE.out]; exact ePutE_any x.e hin.e W Q HQ
  obtain ⟨u, hu⟩ : ∃ u, (decide (1 ≤ k) && decide (k ≤ 900000000)) = u := ⟨_, rfl⟩
  have W1 : Hid (∀ W, Calls Try.prog 85 #[.int .i64 k, .int .i64 1, .int .i64 900000000] W fun e w' => e = .returned (.bool u) ∧ w' = W) := fun W => by rw [← hu]; exact eWithin_any k 1 900000000 W
  obtain ⟨n1, Hn1⟩ : ∃ n, Hid (n = nOf k) := ⟨_, hidk rfl⟩
  obtain ⟨y, Hy⟩ : ∃ y : ByteArray, Hid (y = bA l) := ⟨_, hidk rfl⟩
  have N1 : Hid (∀ W, Calls Try.prog 71 #[.int .i64 1, .int .i64 k] W fun e w' => e = .returned (.agg #[.int .i64 1, .string n1]) ∧ Below W.heap.size W w') := fun W => by rw [Hn1.out]; exact eNum_any 1 k W
  have hri : rightI x = (u && rightE x.e) := by unfold rightI; rw [← hu, Hk.out]
  obtain ⟨L, HL⟩ : ∃ l, Hid (l = iB x) := ⟨_, hidk rfl⟩
  obtain ⟨K, HK⟩ : ∃ l, Hid (l = iE x) := ⟨_, hidk rfl⟩
  have HNO : Hid (u = false ∨ E = 60 → L = [] ∧ K = 60) := fun h => by
    have hr : rightI x = false := by
      rw [hri]
      rcases h with h | h
      · rw [h]; rfl
      · rcases eE_two x.e with h2 | h2
        · rw [HE.out, h2.1] at h; cases h
        · rw [h2.2]; simp
    rw [HL.out, HK.out]
    unfold iB iE
    rw [hr]
    exact ⟨rfl, rfl⟩
  have HYES : Hid (u = true → E = 0 → L = itemB x ∧ K = 0 ∧ rightI x = true ∧ l = entryB x.e) := fun h0 h => by
    have hre : rightE x.e = true := by
      rcases eE_two x.e with h2 | h2
      · exact h2.2
      · rw [HE.out, h2.1] at h; cases h
    have hr : rightI x = true := by rw [hri, h0, hre]; rfl
    rw [HL.out, HK.out, Hl.out]
    unfold iB iE eB
    rw [if_pos hr, if_pos hr, if_pos hre]
    exact ⟨rfl, rfl, hr, rfl⟩
  have LY : Hid (u = true → E = 0 → ∀ W, Calls Try.prog 46 #[.slice (some ⟨W.heap.size, 0, none⟩) 2 2] (W.alloc (.cells #[.int .i64 1, .string n1, .int .i64 2, .string y] 85)) fun e w' => ∃ a c, e = .returned (.tuple #[.slice a L.length c, .int .i64 0]) ∧ Reads w' a L.length c L ∧ Below W.heap.size W w') := fun h0 h W => by
    obtain ⟨e1, _, hr, e4⟩ := HYES.out h0 h
    have hk := layE_iL hr ok
    have hL2 : fieldsN (iL x) = [(1, n1), (2, y)] := by rw [Hn1.out, Hy.out, e4, Hk.out]; rfl
    rw [hL2] at hk
    refine eLay_lit W _ [((1 : Int), n1), (2, y)] 2 L rfl rfl (by omega) (fun z hz => ?_) hk (by rw [e1, ← hL2]; rfl)
    simp only [List.mem_cons, List.not_mem_nil, or_false] at hz
    unfold maxLen
    rcases hz with rfl | rfl
    · have := nOf_size k; rw [← Hn1.out] at this; show n1.size ≤ _; omega
    · have h5 := bA_size l; rw [← Hy.out] at h5; have := eB_length x.e ok; rw [← Hl.out] at this; show y.size ≤ _; omega
  have hE2 : E = 0 ∨ E = 60 := by
    rw [HE.out]
    rcases eE_two x.e with h | h
    · exact .inl h.1
    · exact .inr h.1
  rw [← HL.out, ← HK.out]
  clear HX HQ Hk Hl HE hu Hn1 hri HL HK ok hin H1Q HNQ
  rcases hE2 with rfl | rfl
  · cases u
    · obtain ⟨rfl, rfl⟩ := HNO.out (.inl rfl)
      clear HNO HYES LY N1
      go_enter Try.func75, Try.ntmps75
      go_wp2_with (first
        | (show aD 8 _ _ _ _ _ _ _ _ _ _ _; refine wpList_mid rfl 38 (.tmp 7) rfl w.heap.size 1 rfl Q _ (KQ.out _ HX0.out) Try.underlying38 rfl HSQ.out ?_; try simp only [Act.put, pS1, pS2, pS3])
        | fail)
      refine (P1.out _).mono ?_
      rintro e w1 ⟨⟨a1, c1, rfl, hr1⟩, hb1⟩
      have HB1 := hidk (HB.out.trans (hb1.mono HB.out.size))
      have c0 := KP.out w1 ((hb1.block _ (heap_lt HX0.out)).trans HX0.out)
      clear hb1 hr1
      go_wp2_with fail
      refine (W1.out _).mono ?_
      rintro e w2 ⟨rfl, rfl⟩
      go_wp2
      go_ret2
      exact ⟨eBytes_no _ _, HB1.out⟩
    · obtain rfl : K = 0 := (HYES.out rfl rfl).2.1
      have LY2 := hidk (LY.out rfl rfl)
      clear HNO HYES LY
      go_enter Try.func75, Try.ntmps75
      go_wp2_with (first
        | (show aD 8 _ _ _ _ _ _ _ _ _ _ _; refine wpList_mid rfl 38 (.tmp 7) rfl w.heap.size 1 rfl Q _ (KQ.out _ HX0.out) Try.underlying38 rfl HSQ.out ?_; try simp only [Act.put, pS1, pS2, pS3])
        | fail)
      refine (P1.out _).mono ?_
      rintro e w1 ⟨⟨a1, c1, rfl, hr1⟩, hb1⟩
      have HB1 := hidk (HB.out.trans (hb1.mono HB.out.size))
      have HX1 := hidk ((hb1.block _ (heap_lt HX0.out)).trans HX0.out)
      have c0 := KP.out w1 HX1.out
      have CV : Hid (∀ W, Below w1.heap.size w1 W → Sem.run Try.prog (convert 61 9 (.slice a1 l.length c1)) W = .ok (.string y) W) := fun W h => by rw [Hy.out]; exact conv_reads (hr1.below h)
      clear hb1 hr1
      go_wp2_with fail
      refine (W1.out _).mono ?_
      rintro e w2 ⟨rfl, rfl⟩
      go_wp2
      refine wp_region_held_drew (S := (fun W => W.heap[w.heap.size]? = some (.cells X 40 (0, 0)) ∧ Below w2.heap.size w2 W)) (by kernel_rfl) ⟨HX1.out, (Below.refl _ _).drew⟩ (fun hHeld => ?_)
      refine zX 0 (.pointer (some ⟨w.heap.size, 0, none⟩)) rfl hHeld ?_
      try simp only [Act.put, pS1, pS2, pS3]
      refine zW 1 (.int .i64 k) rfl (Or.inl ⟨by rfl, by intro W hSw; have h1 := KP.out W hSw.1; go_simp⟩) hHeld ?_
      try simp only [Act.put, pS1, pS2, pS3]
      refine zX 3 (.slice a1 l.length c1) rfl hHeld ?_
      try simp only [Act.put, pS1, pS2, pS3]
      refine zW 4 (.string y) rfl (Or.inl ⟨by rfl, by intro W hSw; have h1 := CV.out W hSw.2; go_simp⟩) hHeld ?_
      try simp only [Act.put, pS1, pS2, pS3]
      refine zX 5 (.agg #[.int .i64 2, .string y]) rfl hHeld ?_
      try simp only [Act.put, pS1, pS2, pS3]
      refine wpAnyH_ready (rs := [2]) (by kernel_rfl) (by simp) ?_
      refine (AllReadyH.cons (o := { dst := some 22, op := .call { callee := .value (.func 71), args := #[.const (.int .i64 1), .tmp 21], argTypes := #[3, 3] }, type := 85, pos := "entry.go:97", after := #[zD 1], guard := none }) rfl (fun K hK => ?_) AllReadyH.nil)
      go_simp
      refine (N1.out _).mono ?_
      rintro e w3 ⟨rfl, hb3⟩
      have HBc := hidk (HB1.out.drew.trans (hb3.mono HB1.out.size))
      go_wp2_with fail
      refine hK.out _ _ ⟨(hb3.block _ (heap_lt HX1.out)).trans HX1.out, hHeld.2.trans (hb3.mono hHeld.2.size)⟩ (fun hHeld => ?_)
      clear hK K
      try simp only [Act.put, pS1, pS2, pS3]
      refine wpAnyH_ready (rs := [6]) (by kernel_rfl) (by simp) ?_
      refine (AllReadyH.cons (o := { dst := some 26, op := .buildSlice 88 2 #[(0, .tmp 22), (1, .tmp 25)], type := 88, pos := "entry.go:96", after := #[zD 2, zD 5], guard := none }) rfl (fun K hK => ?_) AllReadyH.nil)
      have HHc := hidk hHeld
      go_simp
      refine hK.out _ _ ⟨heap_keep hHeld.1, hHeld.2.alloc hHeld.2.size _⟩ (fun hHeld => ?_)
      clear hK K
      try simp only [Act.put, pS1, pS2, pS3]
      refine wpAnyH_ready (rs := [7]) (by kernel_rfl) (by simp) ?_
      refine (AllReadyH.cons (o := { dst := some 27, op := .call { callee := .value (.func 46), args := #[.tmp 26], argTypes := #[88] }, type := 81, pos := "entry.go:96", after := #[zD 6, zC 2], guard := none }) rfl (fun K hK => ?_) AllReadyH.nil)
      go_simp
      refine (LY2.out _).mono ?_
      rintro e w7 ⟨a7, c7, rfl, hrd, hb7⟩
      have HRD := hidk hrd
      have HBF := hidk (HBc.out.trans (hb7.mono HBc.out.size))
      go_wp2_with fail
      refine hK.out _ _ ⟨(hb7.block _ (heap_lt HHc.out.1)).trans HHc.out.1, HHc.out.2.trans (hb7.mono HHc.out.2.size)⟩ (fun hHeld => ?_)
      clear hK K
      try simp only [Act.put, pS1, pS2, pS3]
      refine zX 8 (.slice a7 L.length c7) rfl hHeld ?_
      try simp only [Act.put, pS1, pS2, pS3]
      refine zX 9 (.int .i64 0) rfl hHeld ?_
      try simp only [Act.put, pS1, pS2, pS3]
      refine zX 10 (.slice a7 L.length c7) rfl hHeld ?_
      try simp only [Act.put, pS1, pS2, pS3]
      refine zX 11 (.int .i64 0) rfl hHeld ?_
      try simp only [Act.put, pS1, pS2, pS3]
      refine wpAnyH_done (by kernel_rfl) ?_ _
      go_wp2
      go_ret2
      exact ⟨⟨_, _, rfl, HRD.out⟩, HBF.out⟩
  · obtain ⟨rfl, rfl⟩ := HNO.out (.inr rfl)
    clear HNO HYES LY N1
    go_enter Try.func75, Try.ntmps75
    go_wp2_with (first
      | (show aD 8 _ _ _ _ _ _ _ _ _ _ _; refine wpList_mid rfl 38 (.tmp 7) rfl w.heap.size 1 rfl Q _ (KQ.out _ HX0.out) Try.underlying38 rfl HSQ.out ?_; try simp only [Act.put, pS1, pS2, pS3])
      | fail)
    refine (P1.out _).mono ?_
    rintro e w1 ⟨⟨a1, c1, rfl, hr1⟩, hb1⟩
    have HB1 := hidk (HB.out.trans (hb1.mono HB.out.size))
    clear hb1 hr1
    go_wp2
    go_ret2
    exact ⟨eBytes_no _ _, HB1.out⟩
set_option maxHeartbeats 8000000 in
theorem eReadI_any (a : Option Addr) (len cap : Nat) (bs : List UInt8) (w : World) (hR : Reads w a len cap bs) (hl : len ≤ 1000000) (R : Array Value) (HR : Hid (R = (icells (getIO bs)).toArray)) :
    Calls Try.prog 110 #[.slice a len cap, .func (.func 111) #[] #[], .func (.func 75) #[] #[]] w fun e w' => e = .returned (.tuple #[.agg R, .int .i64 (getIE bs)]) ∧ Below w.heap.size w w' := by
  have hnot : ∀ (x : Bool) (w : World), (Op.unary .not (.bool x)).run Try.prog w = .ok (.bool (!x)) w := fun _ _ => rfl
  obtain ⟨Z, HZ, HA, HBZ, HNZ⟩ := noughtsI
  obtain ⟨fs, hfs⟩ : ∃ f, f = readF bs := ⟨_, rfl⟩
  have hfz : ∀ f ∈ fs, f.2.size ≤ 65536 := by rw [hfs]; exact readF_65 bs
  obtain ⟨x, hx⟩ : ∃ x, x = takeI fs := ⟨_, rfl⟩
  have hok : OkE x.e := by rw [hx]; exact takeI_ok fs
  have hin : InI x := by rw [hx]; exact takeI_in fs
  obtain ⟨X, HX, HSX, H1X, HNX⟩ := item_row x hok
  have HZX : Hid (Z.size = X.size) := by show _ = _; rw [HNZ.out, HNX.out]
  have HSZ : Hid ((Try.prog.info? 40).map (·.size) = some Z.size) := by show _ = _; rw [sizeI, HNZ.out]
  have H1Z : Hid (Z.all (·.oneCell') = true) := by show _ = _; rw [HZ.out]; exact one_cellsI _
  obtain ⟨L, hL⟩ : ∃ L, L = iB x := ⟨_, rfl⟩
  obtain ⟨E, hE⟩ : ∃ E, E = iE x := ⟨_, rfl⟩
  obtain ⟨q, hq⟩ : ∃ q : Bool, q = true ↔ L = bs := by
    by_cases h : L = bs
    · exact ⟨true, by simp [h]⟩
    · exact ⟨false, by simp [h]⟩
  obtain ⟨K, hK⟩ : ∃ K, K = getIE bs := ⟨_, rfl⟩
  have hE2 : E = 0 ∧ rightI x = true ∨ E = 60 ∧ rightI x = false := by rw [hE]; exact iE_two x
  have HT : Hid (E = 0 → q = true → R = X ∧ K = 0) := fun h0 hqt => by
    have hr : rightI x = true := by
      rcases hE2 with h | h
      · exact h.2
      · omega
    have hb : itemB x = bs := by
      have := hq.1 hqt
      rw [hL] at this
      unfold iB at this
      rw [if_pos hr] at this
      exact this
    have hh := getIO_yes (bs := bs) (by rw [← hfs, ← hx]; exact ⟨hr, hb⟩)
    rw [HR.out, HX.out, hK, hh.1, hh.2, ← hfs, ← hx]
    exact ⟨rfl, rfl⟩
  have HF : Hid (E = 60 ∨ q = false → R = Z ∧ K = 60) := fun h0 => by
    have hh := getIO_no (bs := bs) (by
      rw [← hfs, ← hx]
      rintro ⟨hr, hb⟩
      rcases h0 with h0 | h0
      · rcases hE2 with h | h
        · omega
        · rw [hr] at h; cases h.2
      · have : q = true := hq.2 (by rw [hL]; unfold iB; rw [if_pos hr]; exact hb)
        rw [h0] at this; cases this)
    rw [HR.out, HZ.out, hK, hh.1, hh.2]
    exact ⟨rfl, rfl⟩
  rw [← hK]
  have HRD : Hid (∀ W, Below w.heap.size w W → Reads W a len cap bs) := fun W hb => hR.below hb
  obtain ⟨ke, hke⟩ : ∃ k : Nat, k = readE bs := ⟨_, rfl⟩
  have R1 : Hid (∀ W, Below w.heap.size w W → Calls Try.prog 112 #[.slice a len cap] W fun e W' => ∃ a' c', e = .returned (.tuple #[.slice a' fs.length c', .int .i64 ke]) ∧ FReads W'.heap.size W' a' fs.length c' fs ∧ Below W.heap.size W W') := fun W hb => read_reads a len cap bs W (hR.below hb) hl hke.symm hfs.symm
  have T1 : Hid (∀ W a' c', FReads W.heap.size W a' fs.length c' fs → Calls Try.prog 111 #[.slice a' fs.length c'] W fun e w' => e = .returned (.agg X) ∧ Below W.heap.size W w') := fun W a' c' h => eTakeI_any W.heap.size a' fs.length c' fs W h (Nat.le_refl _) hfz X (by rw [← hx]; exact HX)
  have P1 : Hid (∀ W, Calls Try.prog 75 #[.agg X] W fun e w' => (∃ a' c', e = .returned (.tuple #[.slice a' L.length c', .int .i64 E]) ∧ Reads w' a' L.length c' L) ∧ Below W.heap.size W w') := fun W => by
    rw [hL, hE]
    exact ePutI_any x hin W X HX
  have Q1 : Hid (∀ W a' c', Reads W a' L.length c' L → Reads W a len cap bs → Calls Try.prog 113 #[.slice a' L.length c', .slice a len cap] W fun e w' => e = .returned (.bool q) ∧ w' = W) := fun W a' c' h1 h2 => eSame_any a' a L.length c' len cap L bs W h1 h2 q hq
  have hE3 : E = 0 ∨ E = 60 := by omega
  clear hR HR hfs hfz hx hok hin HX HZ HBZ HNZ HNX hL hE hq hK hE2 hke
  rcases hE3 with rfl | rfl
  all_goals
    cases q
    all_goals
      first
        | have HQ : Hid (R = Z ∧ K = 60) := HF.out (.inl rfl)
        | have HQ : Hid (R = Z ∧ K = 60) := HF.out (.inr rfl)
        | have HQ : Hid (R = X ∧ K = 0) := HT.out rfl rfl
      clear HF HT
      go_enter Try.func110, Try.ntmps110
      go_wp2_with (first
        | (show aD 6 _ _ _ _ _ _ _ _ _ _ _; refine wpList_new_var rfl 40 rfl Z HA.out ?_; intro g6 w1 HM6; try simp only [Act.put, pS1, pS2, pS3])
        | (show aD 8 _ _ _ _ _ _ _ _ _ _ _; refine wpList_new_var rfl 40 rfl Z HA.out ?_; intro g8 w2 HM8; try simp only [Act.put, pS1, pS2, pS3])
        | fail)
      have h6 : w.heap.size ≤ g6 := Nat.le_of_eq HM6.out.new.symm
      have h8 : g6 < g8 := by have e1 := HM8.out.new; have := heap_lt HM6.out.row; omega
      have HB2 : Hid (Below w.heap.size w w2) := HM6.out.below.trans (HM8.out.below.mono HM6.out.below.size)
      have HR6 := hidk ((HM8.out.below.block _ (heap_lt HM6.out.row)).trans HM6.out.row)
      have HR8 := hidk HM8.out.row
      clear HM6 HM8
      refine (R1.out w2 HB2.out).mono ?_
      rintro e w3 ⟨a3, c3, rfl, hf3, hb3⟩
      have HF3 := hidk hf3
      have HB3 := hidk (HB2.out.trans (hb3.mono HB2.out.size))
      replace HR6 := hidk ((hb3.block _ (heap_lt HR6.out)).trans HR6.out)
      replace HR8 := hidk ((hb3.block _ (heap_lt HR8.out)).trans HR8.out)
      clear hf3 hb3 HB2 R1
      go_wp2_with fail
      refine (T1.out w3 a3 c3 HF3.out).mono ?_
      rintro e w4 ⟨rfl, hb4⟩
      have HB4 := hidk (HB3.out.trans (hb4.mono HB3.out.size))
      replace HR6 := hidk ((hb4.block _ (heap_lt HR6.out)).trans HR6.out)
      replace HR8 := hidk ((hb4.block _ (heap_lt HR8.out)).trans HR8.out)
      clear hb4 HB3 HF3 T1
      go_wp2_with (first
        | (show aD 11 _ _ _ _ _ _ _ _ _ _ _; refine wpList_new_var rfl 40 rfl Z HA.out ?_; intro g11 w5 HM11; try simp only [Act.put, pS1, pS2, pS3])
        | (refine wpList_set_var rfl 40 (.tmp 11) (.tmp 21) rfl g11 X rfl rfl 40 Z HM11.out.row HSX.out HZX.out H1X.out ?_; intro w6 HW11; try simp only [Act.put, pS1, pS2, pS3])
        | (show aD 24 _ _ _ _ _ _ _ _ _ _ _; refine wpList_load_row rfl 40 (.tmp 11) rfl g11 rfl 40 X (0, 0) _ HW11.out.row Try.underlying40 rfl HSX.out ?_; try simp only [Act.put, pS1, pS2, pS3])
        | fail)
      have h11 : w4.heap.size ≤ g11 := Nat.le_of_eq HM11.out.new.symm
      have g68 := heap_lt HR8.out
      have HB6 := hidk (HW11.out.below _ _ (HB4.out.trans (HM11.out.below.mono HB4.out.size)) (Nat.le_trans HB4.out.size h11))
      replace HR6 := hidk ((HW11.out.other _ (by omega)).trans ((HM11.out.below.block _ (heap_lt HR6.out)).trans HR6.out))
      replace HR8 := hidk ((HW11.out.other _ (by omega)).trans ((HM11.out.below.block _ (heap_lt HR8.out)).trans HR8.out))
      have HR11 := hidk HW11.out.row
      clear HM11 HW11 HB4
      refine (P1.out w6).mono ?_
      rintro e w7 ⟨⟨a7, c7, rfl, hr7⟩, hb7⟩
      have HL7 := hidk hr7
      have HB7 := hidk (HB6.out.trans (hb7.mono HB6.out.size))
      replace HR6 := hidk ((hb7.block _ (heap_lt HR6.out)).trans HR6.out)
      replace HR8 := hidk ((hb7.block _ (heap_lt HR8.out)).trans HR8.out)
      replace HR11 := hidk ((hb7.block _ (heap_lt HR11.out)).trans HR11.out)
      have HRB := hidk (HRD.out w7 HB7.out)
      clear hr7 hb7 HB6 P1 HRD
      go_wp2_with (first
        | (show aD 36 _ _ _ _ _ _ _ _ _ _ _; refine wpList_load_row rfl 40 (.tmp 8) rfl g8 rfl 40 Z (0, 0) _ HR8.out Try.underlying40 rfl HSZ.out ?_; try simp only [Act.put, pS1, pS2, pS3])
        | (refine wpList_set_var rfl 40 (.tmp 6) (.tmp 36) rfl g6 Z rfl rfl 40 Z HR6.out HSZ.out rfl H1Z.out ?_; intro wz HW6; try simp only [Act.put, pS1, pS2, pS3])
        | fail)
      first
        | (obtain ⟨rfl, rfl⟩ := HQ.out
           refine bodyPost_ret (v := .tuple #[.agg R, .int .i64 60]) ?_ rfl ⟨rfl, HW6.out.below _ _ HB7.out h6⟩
           exact results_row_tmp (p := 6) (q := 7) (ty := 40) rfl _ _ g6 40 R (0, 0) _ rfl HW6.out.row Try.underlying40 rfl HSZ.out)
        | (refine (Q1.out _ _ _ HL7.out HRB.out).mono ?_
           rintro e w8 ⟨rfl, rfl⟩
           go_wp2_with (first
             | (show aD 36 _ _ _ _ _ _ _ _ _ _ _; refine wpList_load_row rfl 40 (.tmp 8) rfl g8 rfl 40 Z (0, 0) _ HR8.out Try.underlying40 rfl HSZ.out ?_; try simp only [Act.put, pS1, pS2, pS3])
             | (show aD 37 _ _ _ _ _ _ _ _ _ _ _; refine wpList_load_row rfl 40 (.tmp 11) rfl g11 rfl 40 X (0, 0) _ HR11.out Try.underlying40 rfl HSX.out ?_; try simp only [Act.put, pS1, pS2, pS3])
             | (refine wpList_set_var rfl 40 (.tmp 6) (.tmp 36) rfl g6 Z rfl rfl 40 Z HR6.out HSZ.out rfl H1Z.out ?_; intro wz HW6; try simp only [Act.put, pS1, pS2, pS3])
             | (refine wpList_set_var rfl 40 (.tmp 6) (.tmp 37) rfl g6 X rfl rfl 40 Z HR6.out HSX.out HZX.out H1X.out ?_; intro wz HW6; try simp only [Act.put, pS1, pS2, pS3])
             | fail)
           first
             | (obtain ⟨rfl, rfl⟩ := HQ.out
                refine bodyPost_ret (v := .tuple #[.agg R, .int .i64 60]) ?_ rfl ⟨rfl, HW6.out.below _ _ HB7.out h6⟩
                exact results_row_tmp (p := 6) (q := 7) (ty := 40) rfl _ _ g6 40 R (0, 0) _ rfl HW6.out.row Try.underlying40 rfl HSZ.out)
             | (obtain ⟨rfl, rfl⟩ := HQ.out
                refine bodyPost_ret (v := .tuple #[.agg R, .int .i64 0]) ?_ rfl ⟨rfl, HW6.out.below _ _ HB7.out h6⟩
                exact results_row_tmp (p := 6) (q := 7) (ty := 40) rfl _ _ g6 40 R (0, 0) _ rfl HW6.out.row Try.underlying40 rfl HSX.out))
set_option maxHeartbeats 2000000 in
theorem eGetI_any (a : Option Addr) (len cap : Nat) (bs : List UInt8) (w : World) (hR : Reads w a len cap bs) (hl : len ≤ 1000000) (R : Array Value) (HR : Hid (R = (icells (getIO bs)).toArray)) :
    Calls Try.prog 94 #[.slice a len cap] w fun e w' => e = .returned (.tuple #[.agg R, .int .i64 (getIE bs)]) ∧ Below w.heap.size w w' := by
  obtain ⟨Z, HZ, HA, HBZ, HNZ⟩ := noughtsI
  obtain ⟨X, HX, HSX, H1X, HNX⟩ := item_row (getIO bs) ((getIO_in bs).e.ok)
  obtain rfl : X = R := by rw [HX.out, HR.out]
  have HZX : Hid (Z.size = X.size) := by show _ = _; rw [HNZ.out, HNX.out]
  obtain ⟨K, hK⟩ : ∃ K, K = getIE bs := ⟨_, rfl⟩
  have R1 : Hid (∀ W, Below w.heap.size w W → Calls Try.prog 110 #[.slice a len cap, .func (.func 111) #[] #[], .func (.func 75) #[] #[]] W fun e w' => e = .returned (.tuple #[.agg X, .int .i64 K]) ∧ Below W.heap.size W w') := fun W hb => by rw [hK]; exact eReadI_any a len cap bs W (hR.below hb) hl X HR
  rw [← hK]
  clear hR HR HX HZ HBZ HNZ HNX hK
  go_enter Try.func94, Try.ntmps94
  go_wp2_with (first
    | (show aD 2 _ _ _ _ _ _ _ _ _ _ _; refine wpList_new_var rfl 40 rfl Z HA.out ?_; intro g2 w1 HM2; try simp only [Act.put, pS1, pS2, pS3])
    | fail)
  have h2 : w.heap.size ≤ g2 := Nat.le_of_eq HM2.out.new.symm
  refine (R1.out w1 HM2.out.below).mono ?_
  rintro e w2 ⟨rfl, hb2⟩
  have HB2 := hidk (HM2.out.below.trans (hb2.mono HM2.out.below.size))
  have HR2 := hidk ((hb2.block _ (heap_lt HM2.out.row)).trans HM2.out.row)
  clear hb2 HM2 R1
  go_wp2_with (first
    | (refine wpList_set_var rfl 40 (.tmp 2) (.tmp 6) rfl g2 X rfl rfl 40 Z HR2.out HSX.out HZX.out H1X.out ?_; intro wz HW2; try simp only [Act.put, pS1, pS2, pS3])
    | fail)
  refine bodyPost_ret (v := .tuple #[.agg X, .int .i64 K]) ?_ rfl ⟨rfl, HW2.out.below _ _ HB2.out h2⟩
  exact results_row_tmp (p := 2) (q := 3) (ty := 40) rfl _ _ g2 40 X (0, 0) _ rfl HW2.out.row Try.underlying40 rfl HSX.out
end Go.Proofs.Ytjpmmbmhkpgjcaa
/- What the calls of package entry answer, all together. -/
namespace Go.Proofs.Ytjpmmbmhkpgjcaa
open Go.RowKit Sums Nums
set_option maxRecDepth 100000
set_option linter.unusedVariables false
theorem entryC : EntryC where
  checkC := fun c hc w C HC => eCheckC_any c w C HC
  putC := fun c hc w C HC => ePutC_any c hc.d w C HC
  getC := fun a len cap bs w hR hl R HR => eGetC_any a len cap bs w hR (by omega) R HR
  check := fun x hx w X HX => eCheck_any x hx.ok w X HX
  put := fun x hx w X HX => ePutE_any x hx w X HX
  get := fun a len cap bs w hR hl R HR => eGetE_any a len cap bs w hR (by omega) R HR
  putI := fun x hx w X HX => ePutI_any x hx w X HX
  getI := fun a len cap bs w hR hl R HR => eGetI_any a len cap bs w hR (by omega) R HR
end Go.Proofs.Ytjpmmbmhkpgjcaa
