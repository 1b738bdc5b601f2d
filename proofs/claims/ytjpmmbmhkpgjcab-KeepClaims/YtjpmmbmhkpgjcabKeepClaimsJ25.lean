/- Texts of our own that the row of KeepClaims leans on, part 25. -/
import Derived.Test.YtjpmmbmhkpgjcabKeepClaimsJ1
import Derived.Test.YtjpmmbmhkpgjcabKeepClaimsJ15
import Derived.Test.YtjpmmbmhkpgjcabKeepClaimsJ17
import Derived.Test.YtjpmmbmhkpgjcabKeepClaimsJ20
import Derived.Test.YtjpmmbmhkpgjcabKeepClaimsJ22
import Derived.Test.YtjpmmbmhkpgjcabKeepClaimsJ24
import Derived.Deep.RegionHeld3

/- Slices of items in memory. -/
namespace Go.Proofs.Ytjpmmbmhkpgjcab
open Go.RowKit Nums Sums
set_option linter.unusedVariables false
set_option linter.unusedSimpArgs false
set_option maxRecDepth 100000
/-- A slice that reads as these items. -/
structure IReads (w : World) (a : Option Addr) (len cap : Nat) (l : List ItT) : Prop where
  ln : l.length = len
  cp : len ≤ cap
  mx : len ≤ maxLen
  ok : ∀ x ∈ l, OkE x.e
  lies : len = 0 ∨ ∃ g o, a = some ⟨g, o, none⟩ ∧ ∀ (i : Nat) (h : i < l.length), w.rangeAt g (o + 110 * i) (icells l[i])
theorem range_lt {w : World} {g o : Nat} {l : List Value} (h : w.rangeAt g o l) (hl : 0 < l.length) : g < w.heap.size := by
  have := h 0 l[0] (List.getElem?_eq_getElem hl)
  exact World.block_lt_of_cell? _ _ this
theorem range_below {B : Nat} {w w' : World} {g o : Nat} {l : List Value} (h : w.rangeAt g o l) (hb : Below B w w') (hg : g < B) : w'.rangeAt g o l := fun j v hj => by
  rw [hb.cell hg]; exact h j v hj
theorem IReads.at {w : World} {a : Option Addr} {len cap : Nat} {l : List ItT} (h : IReads w a len cap l) (h0 : 0 < len) : ∃ g o, a = some ⟨g, o, none⟩ ∧ g < w.heap.size := by
  rcases h.lies with h5 | ⟨g, o, ha, hl⟩
  · omega
  · have h1 := h.ln
    refine ⟨g, o, ha, range_lt (hl 0 (by omega)) ?_⟩
    rw [icells_length _ (h.ok _ (List.getElem_mem (by omega)))]
    omega
theorem IReads.below {w w' : World} {a : Option Addr} {len cap B : Nat} {l : List ItT} (h : IReads w a len cap l) (hb : Below B w w') (hB : ∀ g o, a = some ⟨g, o, none⟩ → 0 < len → g < B) : IReads w' a len cap l := by
  refine ⟨h.ln, h.cp, h.mx, h.ok, ?_⟩
  by_cases h0 : len = 0
  · exact .inl h0
  · rcases h.lies with h5 | ⟨g, o, ha, hl⟩
    · exact .inl h5
    · exact .inr ⟨g, o, ha, fun i hi => range_below (hl i hi) hb (hB g o ha (by omega))⟩
theorem IReads.keep {w w' : World} {a : Option Addr} {len cap : Nat} {l : List ItT} (h : IReads w a len cap l) (hb : Below w.heap.size w w') : IReads w' a len cap l := by
  refine h.below hb fun g o ha h0 => ?_
  obtain ⟨g', o', ha', hl⟩ := h.at h0
  rw [ha] at ha'
  cases ha'
  exact hl
theorem IReads.range {w : World} {g o len cap : Nat} {l : List ItT} (h : IReads w (some ⟨g, o, none⟩) len cap l) (i : Nat) (hi : i < l.length) : w.rangeAt g (o + 110 * i) (icells l[i]) := by
  have h1 := h.ln
  rcases h.lies with h5 | ⟨g', o', ha, hl⟩
  · omega
  · cases ha
    exact hl i hi
theorem IReads.cell {w : World} {g o len cap : Nat} {l : List ItT} (h : IReads w (some ⟨g, o, none⟩) len cap l) (i : Nat) (hi : i < l.length) (j : Nat) (v : Value) (hj : (icells l[i])[j]? = some v) : w.cell? ⟨g, o + 110 * i + j, none⟩ = some v := h.range i hi j v hj
theorem IReads.take {w : World} {a : Option Addr} {len cap : Nat} {l : List ItT} (h : IReads w a len cap l) (k : Nat) (hk : k ≤ len) : IReads w a k cap (l.take k) := by
  have h1 := h.ln
  have h2 := h.cp
  have h3 := h.mx
  refine ⟨by rw [List.length_take]; omega, by omega, by omega, fun x hx => h.ok x (List.mem_of_mem_take hx), ?_⟩
  rcases h.lies with h5 | ⟨g, o, ha, hl⟩
  · exact .inl (by omega)
  · refine .inr ⟨g, o, ha, fun i hi => ?_⟩
    rw [List.length_take] at hi
    rw [List.getElem_take]
    exact hl i (by omega)
theorem ireads_none (w : World) : IReads w none 0 0 [] := ⟨rfl, Nat.le_refl _, Nat.zero_le _, (fun x hx => by cases hx), .inl rfl⟩
/-! Parts of an item. -/
theorem icells_p (x : ItT) : (icells x)[0]? = some (.int .i64 x.p) := rfl
theorem icells_k (x : ItT) : (icells x)[1]? = some (.int .i64 x.e.k) := rfl
theorem icells_c (x : ItT) : (icells x)[2]? = some (.int .i64 x.e.c) := rfl
theorem range_entry {w : World} {g o : Nat} {x : ItT} (h : w.rangeAt g o (icells x)) : w.rangeAt g (o + 1) (ecells x.e) := fun j v hj => by
  have := h (j + 1) v (by show ([Value.int .i64 x.p] ++ ecells x.e)[j + 1]? = _; simpa using hj)
  rw [← this]
  congr 2
  omega
theorem sizeOfI (w : World) : (sizeOf 40).run Try.prog w = .ok 110 w := by
  have hz : (Try.prog.info? 40).map (·.size) = some 110 := by kernel_rfl
  cases hq : Try.prog.info? 40 with
  | none => simp [hq] at hz
  | some i => simp [hq] at hz; simp [sizeOf, typeInfo, hq, hz]
theorem slice_items (W : World) (g o len cap k : Nat) (hk : k ≤ cap) : (Instr.sliceAt 22 (.slice (some ⟨g, o, none⟩) len cap) none (some (.int .i64 k)) none).run Try.prog W = .ok (.slice (some ⟨g, o, none⟩) k cap) W := by
  simp [Instr.sliceAt, Instr.slice, Instr.sliceBounds, Instr.sliceBound, asIntOf, run_underlying Try.underlying22, sizeOfI, hk]
  rw [add_plain]
  simp
theorem slice_items_none (W : World) : (Instr.sliceAt 22 (.slice none 0 0) none (some (.int .i64 0)) none).run Try.prog W = .ok (.slice none 0 0) W := by
  simp [Instr.sliceAt, Instr.slice, Instr.sliceBounds, Instr.sliceBound, asIntOf, run_underlying Try.underlying22, sizeOfI]
theorem index_item (W : World) (g o len cap i : Nat) (k : IntKind) (hi : i < len) : (Instr.indexAt 22 (.slice (some ⟨g, o, none⟩) len cap) (.int k i)).run Try.prog W = .ok (.pointer (some ⟨g, o + 110 * i, none⟩)) W := by
  simp [Instr.indexAt, asIntOf, run_underlying Try.underlying22, sizeOfI, hi]
  rw [add_plain, Nat.mul_comm]
/-! Items put behind others. -/
def icL (l : List ItT) : List Value := l.flatMap icells
theorem icL_nil : icL [] = [] := rfl
theorem icL_cons (x : ItT) (l : List ItT) : icL (x :: l) = icells x ++ icL l := by unfold icL; rw [List.flatMap_cons]
theorem icL_append (l r : List ItT) : icL (l ++ r) = icL l ++ icL r := by unfold icL; rw [List.flatMap_append]
theorem icL_length : ∀ (l : List ItT), (∀ x ∈ l, OkE x.e) → (icL l).length = l.length * 110
  | [], _ => rfl
  | x :: l, h => by
    rw [icL_cons, List.length_append, icells_length _ (h x (by simp)), icL_length l fun y hy => h y (by simp [hy]), List.length_cons]
    omega
theorem icL_at : ∀ (l : List ItT), (∀ x ∈ l, OkE x.e) → ∀ (i : Nat) (hi : i < l.length) (j : Nat) (v : Value), (icells l[i])[j]? = some v → (icL l)[110 * i + j]? = some v
  | [], _, i, hi, _, _, _ => by cases hi
  | x :: l, h, i, hi, j, v, hj => by
    have hx := icells_length _ (h x (by simp))
    rw [icL_cons]
    cases i with
    | zero =>
      have hj' : (icells x)[j]? = some v := hj
      have : j < (icells x).length := (List.getElem?_eq_some_iff.1 hj').1
      rw [List.getElem?_append_left (by omega)]
      simpa using hj'
    | succ i =>
      rw [List.getElem?_append_right (by omega), hx]
      have := icL_at l (fun y hy => h y (by simp [hy])) i (by simpa using hi) j v (by simpa using hj)
      rw [← this]
      congr 1
      omega
theorem icL_back : ∀ (l : List ItT), (∀ x ∈ l, OkE x.e) → ∀ (j : Nat) (v : Value), (icL l)[j]? = some v → ∃ i, ∃ hi : i < l.length, ∃ k, j = 110 * i + k ∧ (icells l[i])[k]? = some v
  | [], _, j, v, hj => by simp [icL_nil] at hj
  | x :: l, h, j, v, hj => by
    have hx := icells_length _ (h x (by simp))
    rw [icL_cons] at hj
    by_cases hlt : j < 110
    · rw [List.getElem?_append_left (by omega)] at hj
      exact ⟨0, by simp, j, by omega, hj⟩
    · rw [List.getElem?_append_right (by omega), hx] at hj
      obtain ⟨i, hi, k, e, hk⟩ := icL_back l (fun y hy => h y (by simp [hy])) _ v hj
      exact ⟨i + 1, by simpa using hi, k, by omega, by simpa using hk⟩
theorem icells_one (x : ItT) : ∀ v ∈ icells x, v.oneCell' = true := by
  intro v hv
  have h := one_cellsI x
  rw [List.all_toArray, List.all_eq_true] at h
  exact h v hv
theorem icL_one (l : List ItT) : ∀ v ∈ icL l, v.oneCell' = true := by
  intro v hv
  obtain ⟨x, _, hv⟩ := List.mem_flatMap.1 hv
  exact icells_one x v hv
theorem IReads.puts {w : World} {ad : Addr} {len cap : Nat} {l : List ItT} (h : IReads w (some ad) len cap l) : ∀ j u, (icL l)[j]? = some u → w.cell? (ad.add j) = some u := fun j u hj => by
  obtain ⟨i, hi, k, rfl, hk⟩ := icL_back l h.ok j u hj
  have h1 := h.ln
  rcases h.lies with h5 | ⟨g, o, ha, hl⟩
  · omega
  · cases ha
    rw [add_plain, ← Nat.add_assoc]
    exact hl i hi k u hk
theorem infoIt : (Try.prog.info? 40).map (fun i => (i.zero, i.size, i.bytes)) = some (some (.agg (icells ⟨0, zeroE⟩).toArray), 110, 216) := by kernel_rfl
/-- Items put behind those of a list of the call's own. -/
theorem run_append_items {w : World} {a : Option Addr} {len cap : Nat} {l : List ItT} (h : IReads w a len cap l) (hc0 : a = none → cap = 0) (B n : Nat) (v : Value) (xs : List ItT)
    (hown : w.ownsRow B 40 110 v n (icL xs)) (hB : B ≤ w.heap.size) (hb : n + len ≤ 1000000) :
    ∃ v' w', (Builtin.append_ #[22, 22] 22 #[v, .slice a len cap]).run Try.prog w = .ok v' w' ∧
      w'.ownsRow B 40 110 v' (n + len) (icL (xs ++ l)) ∧ w.grownBy w' v.ownBlock := by
  obtain ⟨i0, hi, hz0, hz1, hz2⟩ := info_parts infoIt
  have h1 := h.ln
  cases a with
  | none =>
    obtain rfl : cap = 0 := hc0 rfl
    have hl0 : len = 0 := by have := h.cp; omega
    subst hl0
    obtain rfl : l = [] := List.eq_nil_of_length_eq_zero h1
    refine ⟨v, w, run_append_owned_none (P := Try.prog) w B 22 22 40 i0 110 Try.underlying22 hi _ n _ hown, ?_, World.grownBy.refl _ _⟩
    simpa using hown
  | some ad =>
    obtain ⟨v', w', hr, ho, hg, _⟩ := run_append_own (P := Try.prog) w B 22 22 40 i0 _ 110 216 Try.underlying22 hi hz0 hz1 hz2 (by rfl) (by decide) v n _ hown ad len cap (icL l) (by rw [icL_length l h.ok, h1]) h.puts (icL_one l) (by unfold maxLen; omega) (by omega) hB
    refine ⟨v', w', hr, ?_, hg⟩
    rw [icL_append]
    exact ho
theorem IReads.own {w : World} {B n : Nat} {v : Value} {l : List ItT} (h : w.ownsRow B 40 110 v n (icL l)) (hok : ∀ x ∈ l, OkE x.e) : ∃ a cap, v = .slice a n cap ∧ IReads w a n cap l ∧ (a = none → cap = 0) ∧ (∀ g o, a = some ⟨g, o, none⟩ → B ≤ g ∧ v.ownBlock = some g) := by
  have hl : l.length = n := by have := h.1; rw [icL_length l hok] at this; omega
  rcases h.2 with ⟨rfl, h0⟩ | ⟨g, cap, cur, rfl, hb, hg, hc, hm, hs, ht⟩
  · subst h0
    exact ⟨none, 0, rfl, ⟨hl, Nat.le_refl _, Nat.zero_le _, hok, .inl rfl⟩, fun _ => rfl, fun g o e => by cases e⟩
  · refine ⟨some ⟨g, 0, none⟩, cap, rfl, ⟨hl, hc, by omega, hok, .inr ⟨g, 0, rfl, fun i hi j v hj => ?_⟩⟩, (fun e => by cases e), fun g' o' e => by cases e; exact ⟨hb, rfl⟩⟩
    have := h.cells (g := g) rfl _ _ (icL_at l hok i hi j v hj)
    rw [add_plain] at this
    rw [Nat.zero_add]
    simpa using this
end Go.Proofs.Ytjpmmbmhkpgjcab

/- The document's Big, Own, Find and Old of logs. -/
namespace Go.Proofs.Ytjpmmbmhkpgjcab
open Go.RowKit Nums Sums
set_option linter.unusedVariables false
set_option linter.unusedSimpArgs false
set_option maxRecDepth 100000
def bigL (l : List ItT) : Bool := decide (60 < l.length) || l.any fun x => decide (1000 < x.e.t.size)
theorem bigL_yes {l : List ItT} (i : Nat) (hi : i < l.length) (h : 1000 < l[i].e.t.size) : bigL l = true := by
  unfold bigL
  rw [Bool.or_eq_true, List.any_eq_true]
  exact .inr ⟨l[i], List.getElem_mem hi, by simpa using h⟩
theorem bigL_no {l : List ItT} (hl : l.length ≤ 60) (h : ∀ x ∈ l, x.e.t.size ≤ 1000) : bigL l = false := by
  unfold bigL
  rw [Bool.or_eq_false_iff, List.any_eq_false]
  exact ⟨decide_eq_false (by omega), fun x hx => by have := h x hx; simp; omega⟩
theorem take_mem_succ {α : Type} {l : List α} {k : Nat} (hk : k < l.length) {P : α → Prop} (h : ∀ x ∈ l.take k, P x) (h1 : P l[k]) : ∀ x ∈ l.take (k + 1), P x := by
  intro x hx
  rw [List.take_succ_eq_append_getElem hk] at hx
  rcases List.mem_append.1 hx with hx | hx
  · exact h x hx
  · obtain rfl : x = l[k] := by simpa using hx
    exact h1
set_option maxHeartbeats 2000000 in
theorem refBig_any (a : Option Addr) (len cap : Nat) (l : List ItT) (w : World) (h : IReads w a len cap l) (ht : ∀ x ∈ l, x.e.t.size ≤ maxLen) :
    Calls Try.prog 11 #[.slice a len cap] w fun e w' => e = .returned (.bool (bigL l)) ∧ w = w' := by
  have H := hidk h
  have HL := hidk h.ln
  have HT := hidk ht
  have hmx : len ≤ 9223372036854775807 := by have := h.mx; unfold maxLen at this; omega
  by_cases h5 : len ≤ 60
  · have h5' : decide ((60 : Int) < (len : Int)) = false := by rw [decide_eq_false_iff_not]; omega
    clear h ht
    go_enter Try.func11, Try.ntmps11
    go_wp2
    go_loop [3] (fun i => ∃ k : Nat, k ≤ len ∧ i = .int .i64 k ∧ Hid (∀ s ∈ l.take k, s.e.t.size ≤ 1000)) (fun i => len - (intOf i).toNat)
    case atStart => exact ⟨0, by omega, rfl, fun s hs => by simp at hs⟩
    case round =>
      obtain ⟨k, hk, rfl, HA⟩ := hrel
      by_cases hlt : k < len
      · obtain ⟨g, o, rfl, hg⟩ := H.out.at (by omega)
        have hkl : k < l.length := by have := HL.out; omega
        obtain ⟨t, Ht⟩ : ∃ t, Hid (t = l[k].e.t) := ⟨_, hidk rfl⟩
        have hc := H.out.cell k hkl 4 (.string t) (by rw [Ht.out]; rfl)
        have hts : t.size ≤ maxLen := by rw [Ht.out]; exact HT.out _ (List.getElem_mem hkl)
        unfold maxLen at hts
        have ix := fun W => index_item W g o len cap k .i64 hlt
        have hd : decide ((k : Int) < (len : Int)) = true := by rw [decide_eq_true_eq]; omega
        have hw1 := wrap_int ((k : Int) + 1) (by omega) (by omega)
        have htm : t.size ≤ 9223372036854775807 := by omega
        by_cases h4 : t.size ≤ 1000
        · have h4' : decide ((1000 : Int) < (t.size : Int)) = false := by rw [decide_eq_false_iff_not]; omega
          have HN : Hid (∀ s ∈ l.take (k + 1), s.e.t.size ≤ 1000) := take_mem_succ hkl HA.out (by rw [← Ht.out]; exact h4)
          clear Ht hkl
          go_wp2
          go_round
          case rel => exact ⟨k + 1, by omega, by go_num, HN⟩
          case measure => simp [intOf]; omega
        · have h4' : decide ((1000 : Int) < (t.size : Int)) = true := by rw [decide_eq_true_eq]; omega
          have HN : Hid (bigL l = true) := bigL_yes k hkl (by rw [← Ht.out]; omega)
          clear Ht hkl
          go_wp2
          go_ret
          exact ⟨by rw [HN.out]; rfl, rfl⟩
      · obtain rfl : len = k := by omega
        have hd : decide ((len : Int) < (len : Int)) = false := by rw [decide_eq_false_iff_not]; omega
        have HN : Hid (bigL l = false) := bigL_no (by have := HL.out; omega) (by have := HA.out; rwa [List.take_of_length_le (by have := HL.out; omega)] at this)
        go_wp2
        go_ret
        exact ⟨by rw [HN.out]; rfl, rfl⟩
  · have h5' : decide ((60 : Int) < (len : Int)) = true := by rw [decide_eq_true_eq]; omega
    have HN : Hid (bigL l = true) := by show _ = _; unfold bigL; rw [HL.out]; simp; left; omega
    clear h ht
    go_enter Try.func11, Try.ntmps11
    go_wp2
    go_ret
    exact ⟨by rw [HN.out]; rfl, rfl⟩
end Go.Proofs.Ytjpmmbmhkpgjcab

/- The document's Lead. -/
namespace Go.Proofs.Ytjpmmbmhkpgjcab
open Go.RowKit Nums Sums
set_option linter.unusedVariables false
set_option linter.unusedSimpArgs false
set_option maxRecDepth 100000
/-- An entry, as cells. -/
def enA (x : EnT) : Array Value := (ecells x).toArray
theorem enA_fit (x : EnT) (ok : OkE x) : Fit Try.prog 38 (enA x) := ⟨by rw [sizeE]; simp [enA, ecells_length x ok], one_cellsE x⟩
theorem enA_m {x : EnT} (ok : OkE x) (j : Nat) (v : Value) (hj : (ccells x.m)[j]? = some v) : (enA x)[73 + j]? = some v := by
  unfold enA ecells
  rw [List.getElem?_toArray, List.getElem?_append_right (by simp [scells_length _ ok.h ok.g]), show 73 + j - _ = j by simp [scells_length _ ok.h ok.g]]
  exact hj
theorem lead_yes {g : Int} {l : List ItT} (hg : g ≠ 1) (k : Nat) (hk : k < l.length) (hn : ∀ y ∈ l.take k, isLd g y = false) (hy : isLd g l[k] = true) : leadL g l = l[k].e.m.n := by
  unfold leadL
  rw [if_neg hg]
  have : l.find? (isLd g) = some l[k] := by
    rw [List.find?_eq_some_iff_append]
    refine ⟨hy, l.take k, l.drop (k + 1), ?_, fun a ha => by simpa using hn a ha⟩
    rw [← List.drop_eq_getElem_cons hk, List.take_append_drop]
  rw [this]; rfl
theorem lead_none {g : Int} {l : List ItT} (hg : g ≠ 1) (hn : ∀ y ∈ l, isLd g y = false) : leadL g l = 0 := by
  unfold leadL
  rw [if_neg hg]
  have : l.find? (isLd g) = none := by
    rw [List.find?_eq_none]
    intro x hx
    simpa using hn x hx
  rw [this]; rfl
end Go.Proofs.Ytjpmmbmhkpgjcab

/- Slices of addresses in memory. -/
namespace Go.Proofs.Ytjpmmbmhkpgjcab
open Go.RowKit Nums Sums
set_option linter.unusedVariables false
set_option linter.unusedSimpArgs false
set_option maxRecDepth 100000
/-- The cells of an address. -/
def acells (a : AdT) : List Value := [.int .i64 a.r, .int .i64 a.n]
def OkA (_ : AdT) : Prop := True
theorem acells_length (a : AdT) (_ : OkA a) : (acells a).length = 2 := rfl
/-- A slice that reads as these Adrs. -/
structure AReads (w : World) (a : Option Addr) (len cap : Nat) (l : List AdT) : Prop where
  ln : l.length = len
  cp : len ≤ cap
  mx : len ≤ maxLen
  ok : ∀ x ∈ l, OkA x
  lies : len = 0 ∨ ∃ g o, a = some ⟨g, o, none⟩ ∧ ∀ (i : Nat) (h : i < l.length), w.rangeAt g (o + 2 * i) (acells l[i])
theorem rngA_lt {w : World} {g o : Nat} {l : List Value} (h : w.rangeAt g o l) (hl : 0 < l.length) : g < w.heap.size := by
  have := h 0 l[0] (List.getElem?_eq_getElem hl)
  exact World.block_lt_of_cell? _ _ this
theorem rngA_below {B : Nat} {w w' : World} {g o : Nat} {l : List Value} (h : w.rangeAt g o l) (hb : Below B w w') (hg : g < B) : w'.rangeAt g o l := fun j v hj => by
  rw [hb.cell hg]; exact h j v hj
theorem AReads.at {w : World} {a : Option Addr} {len cap : Nat} {l : List AdT} (h : AReads w a len cap l) (h0 : 0 < len) : ∃ g o, a = some ⟨g, o, none⟩ ∧ g < w.heap.size := by
  rcases h.lies with h5 | ⟨g, o, ha, hl⟩
  · omega
  · have h1 := h.ln
    refine ⟨g, o, ha, rngA_lt (hl 0 (by omega)) ?_⟩
    rw [acells_length _ (h.ok _ (List.getElem_mem (by omega)))]
    omega
theorem AReads.below {w w' : World} {a : Option Addr} {len cap B : Nat} {l : List AdT} (h : AReads w a len cap l) (hb : Below B w w') (hB : ∀ g o, a = some ⟨g, o, none⟩ → 0 < len → g < B) : AReads w' a len cap l := by
  refine ⟨h.ln, h.cp, h.mx, h.ok, ?_⟩
  by_cases h0 : len = 0
  · exact .inl h0
  · rcases h.lies with h5 | ⟨g, o, ha, hl⟩
    · exact .inl h5
    · exact .inr ⟨g, o, ha, fun i hi => rngA_below (hl i hi) hb (hB g o ha (by omega))⟩
theorem AReads.keep {w w' : World} {a : Option Addr} {len cap : Nat} {l : List AdT} (h : AReads w a len cap l) (hb : Below w.heap.size w w') : AReads w' a len cap l := by
  refine h.below hb fun g o ha h0 => ?_
  obtain ⟨g', o', ha', hl⟩ := h.at h0
  rw [ha] at ha'
  cases ha'
  exact hl
theorem AReads.range {w : World} {g o len cap : Nat} {l : List AdT} (h : AReads w (some ⟨g, o, none⟩) len cap l) (i : Nat) (hi : i < l.length) : w.rangeAt g (o + 2 * i) (acells l[i]) := by
  have h1 := h.ln
  rcases h.lies with h5 | ⟨g', o', ha, hl⟩
  · omega
  · cases ha
    exact hl i hi
theorem AReads.cell {w : World} {g o len cap : Nat} {l : List AdT} (h : AReads w (some ⟨g, o, none⟩) len cap l) (i : Nat) (hi : i < l.length) (j : Nat) (v : Value) (hj : (acells l[i])[j]? = some v) : w.cell? ⟨g, o + 2 * i + j, none⟩ = some v := h.range i hi j v hj
theorem AReads.take {w : World} {a : Option Addr} {len cap : Nat} {l : List AdT} (h : AReads w a len cap l) (k : Nat) (hk : k ≤ len) : AReads w a k cap (l.take k) := by
  have h1 := h.ln
  have h2 := h.cp
  have h3 := h.mx
  refine ⟨by rw [List.length_take]; omega, by omega, by omega, fun x hx => h.ok x (List.mem_of_mem_take hx), ?_⟩
  rcases h.lies with h5 | ⟨g, o, ha, hl⟩
  · exact .inl (by omega)
  · refine .inr ⟨g, o, ha, fun i hi => ?_⟩
    rw [List.length_take] at hi
    rw [List.getElem_take]
    exact hl i (by omega)
/-! Rows put behind others. -/
def adcL (l : List AdT) : List Value := l.flatMap acells
theorem adcL_nil : adcL [] = [] := rfl
theorem adcL_cons (x : AdT) (l : List AdT) : adcL (x :: l) = acells x ++ adcL l := by unfold adcL; rw [List.flatMap_cons]
theorem adcL_back : ∀ (l : List AdT), (∀ x ∈ l, OkA x) → ∀ (j : Nat) (v : Value), (adcL l)[j]? = some v → ∃ i, ∃ hi : i < l.length, ∃ k, j = 2 * i + k ∧ (acells l[i])[k]? = some v
  | [], _, j, v, hj => by simp [adcL_nil] at hj
  | x :: l, h, j, v, hj => by
    have hx := acells_length _ (h x (by simp))
    rw [adcL_cons] at hj
    by_cases hlt : j < 2
    · rw [List.getElem?_append_left (by omega)] at hj
      exact ⟨0, by simp, j, by omega, hj⟩
    · rw [List.getElem?_append_right (by omega), hx] at hj
      obtain ⟨i, hi, k, e, hk⟩ := adcL_back l (fun y hy => h y (by simp [hy])) _ v hj
      exact ⟨i + 1, by simpa using hi, k, by omega, by simpa using hk⟩
theorem AReads.puts {w : World} {ad : Addr} {len cap : Nat} {l : List AdT} (h : AReads w (some ad) len cap l) : ∀ j u, (adcL l)[j]? = some u → w.cell? (ad.add j) = some u := fun j u hj => by
  obtain ⟨i, hi, k, rfl, hk⟩ := adcL_back l h.ok j u hj
  have h1 := h.ln
  rcases h.lies with h5 | ⟨g, o, ha, hl⟩
  · omega
  · cases ha
    rw [add_plain, ← Nat.add_assoc]
    exact hl i hi k u hk
end Go.Proofs.Ytjpmmbmhkpgjcab

/- Slices of claims in memory. -/
namespace Go.Proofs.Ytjpmmbmhkpgjcab
open Go.RowKit Nums Sums
set_option linter.unusedVariables false
set_option linter.unusedSimpArgs false
set_option maxRecDepth 100000
def OkC (c : ClT) : Prop := c.d.length = 32
/-- A slice that reads as these Clis. -/
structure CReads (w : World) (a : Option Addr) (len cap : Nat) (l : List ClT) : Prop where
  ln : l.length = len
  cp : len ≤ cap
  mx : len ≤ maxLen
  ok : ∀ x ∈ l, OkC x
  lies : len = 0 ∨ ∃ g o, a = some ⟨g, o, none⟩ ∧ ∀ (i : Nat) (h : i < l.length), w.rangeAt g (o + 36 * i) (ccells l[i])
theorem CReads.at {w : World} {a : Option Addr} {len cap : Nat} {l : List ClT} (h : CReads w a len cap l) (h0 : 0 < len) : ∃ g o, a = some ⟨g, o, none⟩ ∧ g < w.heap.size := by
  rcases h.lies with h5 | ⟨g, o, ha, hl⟩
  · omega
  · have h1 := h.ln
    refine ⟨g, o, ha, rngA_lt (hl 0 (by omega)) ?_⟩
    rw [ccells_length _ (h.ok _ (List.getElem_mem (by omega)))]
    omega
theorem CReads.below {w w' : World} {a : Option Addr} {len cap B : Nat} {l : List ClT} (h : CReads w a len cap l) (hb : Below B w w') (hB : ∀ g o, a = some ⟨g, o, none⟩ → 0 < len → g < B) : CReads w' a len cap l := by
  refine ⟨h.ln, h.cp, h.mx, h.ok, ?_⟩
  by_cases h0 : len = 0
  · exact .inl h0
  · rcases h.lies with h5 | ⟨g, o, ha, hl⟩
    · exact .inl h5
    · exact .inr ⟨g, o, ha, fun i hi => rngA_below (hl i hi) hb (hB g o ha (by omega))⟩
theorem CReads.keep {w w' : World} {a : Option Addr} {len cap : Nat} {l : List ClT} (h : CReads w a len cap l) (hb : Below w.heap.size w w') : CReads w' a len cap l := by
  refine h.below hb fun g o ha h0 => ?_
  obtain ⟨g', o', ha', hl⟩ := h.at h0
  rw [ha] at ha'
  cases ha'
  exact hl
theorem CReads.range {w : World} {g o len cap : Nat} {l : List ClT} (h : CReads w (some ⟨g, o, none⟩) len cap l) (i : Nat) (hi : i < l.length) : w.rangeAt g (o + 36 * i) (ccells l[i]) := by
  have h1 := h.ln
  rcases h.lies with h5 | ⟨g', o', ha, hl⟩
  · omega
  · cases ha
    exact hl i hi
theorem CReads.cell {w : World} {g o len cap : Nat} {l : List ClT} (h : CReads w (some ⟨g, o, none⟩) len cap l) (i : Nat) (hi : i < l.length) (j : Nat) (v : Value) (hj : (ccells l[i])[j]? = some v) : w.cell? ⟨g, o + 36 * i + j, none⟩ = some v := h.range i hi j v hj
theorem CReads.take {w : World} {a : Option Addr} {len cap : Nat} {l : List ClT} (h : CReads w a len cap l) (k : Nat) (hk : k ≤ len) : CReads w a k cap (l.take k) := by
  have h1 := h.ln
  have h2 := h.cp
  have h3 := h.mx
  refine ⟨by rw [List.length_take]; omega, by omega, by omega, fun x hx => h.ok x (List.mem_of_mem_take hx), ?_⟩
  rcases h.lies with h5 | ⟨g, o, ha, hl⟩
  · exact .inl (by omega)
  · refine .inr ⟨g, o, ha, fun i hi => ?_⟩
    rw [List.length_take] at hi
    rw [List.getElem_take]
    exact hl i (by omega)
theorem clreads_none (w : World) : CReads w none 0 0 [] := ⟨rfl, Nat.le_refl _, Nat.zero_le _, (fun x hx => by cases hx), .inl rfl⟩
theorem sizeOfClis (w : World) : (sizeOf 29).run Try.prog w = .ok 36 w := by
  have hz : (Try.prog.info? 29).map (·.size) = some 36 := by kernel_rfl
  cases hq : Try.prog.info? 29 with
  | none => simp [hq] at hz
  | some i => simp [hq] at hz; simp [sizeOf, typeInfo, hq, hz]
theorem slice_cls (W : World) (g o len cap k : Nat) (hk : k ≤ cap) : (Instr.sliceAt 23 (.slice (some ⟨g, o, none⟩) len cap) none (some (.int .i64 k)) none).run Try.prog W = .ok (.slice (some ⟨g, o, none⟩) k cap) W := by
  simp [Instr.sliceAt, Instr.slice, Instr.sliceBounds, Instr.sliceBound, asIntOf, run_underlying Try.underlying23, sizeOfClis, hk]
  rw [add_plain]
  simp
theorem slice_cls_none (W : World) : (Instr.sliceAt 23 (.slice none 0 0) none (some (.int .i64 0)) none).run Try.prog W = .ok (.slice none 0 0) W := by
  simp [Instr.sliceAt, Instr.slice, Instr.sliceBounds, Instr.sliceBound, asIntOf, run_underlying Try.underlying23, sizeOfClis]
theorem index_cl (W : World) (g o len cap i : Nat) (k : IntKind) (hi : i < len) : (Instr.indexAt 23 (.slice (some ⟨g, o, none⟩) len cap) (.int k i)).run Try.prog W = .ok (.pointer (some ⟨g, o + 36 * i, none⟩)) W := by
  simp [Instr.indexAt, asIntOf, run_underlying Try.underlying23, sizeOfClis, hi]
  rw [add_plain, Nat.mul_comm]
/-! Rows put behind others. -/
def clcL (l : List ClT) : List Value := l.flatMap ccells
theorem clcL_nil : clcL [] = [] := rfl
theorem clcL_cons (x : ClT) (l : List ClT) : clcL (x :: l) = ccells x ++ clcL l := by unfold clcL; rw [List.flatMap_cons]
theorem clcL_append (l r : List ClT) : clcL (l ++ r) = clcL l ++ clcL r := by unfold clcL; rw [List.flatMap_append]
theorem clcL_length : ∀ (l : List ClT), (∀ x ∈ l, OkC x) → (clcL l).length = l.length * 36
  | [], _ => rfl
  | x :: l, h => by
    rw [clcL_cons, List.length_append, ccells_length _ (h x (by simp)), clcL_length l fun y hy => h y (by simp [hy]), List.length_cons]
    omega
theorem clcL_at : ∀ (l : List ClT), (∀ x ∈ l, OkC x) → ∀ (i : Nat) (hi : i < l.length) (j : Nat) (v : Value), (ccells l[i])[j]? = some v → (clcL l)[36 * i + j]? = some v
  | [], _, i, hi, _, _, _ => by cases hi
  | x :: l, h, i, hi, j, v, hj => by
    have hx := ccells_length _ (h x (by simp))
    rw [clcL_cons]
    cases i with
    | zero =>
      have hj' : (ccells x)[j]? = some v := hj
      have : j < (ccells x).length := (List.getElem?_eq_some_iff.1 hj').1
      rw [List.getElem?_append_left (by omega)]
      simpa using hj'
    | succ i =>
      rw [List.getElem?_append_right (by omega), hx]
      have := clcL_at l (fun y hy => h y (by simp [hy])) i (by simpa using hi) j v (by simpa using hj)
      rw [← this]
      congr 1
      omega
theorem clcL_back : ∀ (l : List ClT), (∀ x ∈ l, OkC x) → ∀ (j : Nat) (v : Value), (clcL l)[j]? = some v → ∃ i, ∃ hi : i < l.length, ∃ k, j = 36 * i + k ∧ (ccells l[i])[k]? = some v
  | [], _, j, v, hj => by simp [clcL_nil] at hj
  | x :: l, h, j, v, hj => by
    have hx := ccells_length _ (h x (by simp))
    rw [clcL_cons] at hj
    by_cases hlt : j < 36
    · rw [List.getElem?_append_left (by omega)] at hj
      exact ⟨0, by simp, j, by omega, hj⟩
    · rw [List.getElem?_append_right (by omega), hx] at hj
      obtain ⟨i, hi, k, e, hk⟩ := clcL_back l (fun y hy => h y (by simp [hy])) _ v hj
      exact ⟨i + 1, by simpa using hi, k, by omega, by simpa using hk⟩
theorem ccells_one (x : ClT) : ∀ v ∈ ccells x, v.oneCell' = true := by
  intro v hv
  unfold ccells at hv
  rcases List.mem_append.1 hv with h | h
  · simp at h
    rcases h with rfl | rfl | rfl | rfl <;> rfl
  · unfold cellsOf at h
    obtain ⟨b, _, rfl⟩ := List.mem_map.1 h
    rfl
theorem clcL_one (l : List ClT) : ∀ v ∈ clcL l, v.oneCell' = true := by
  intro v hv
  obtain ⟨x, _, hv⟩ := List.mem_flatMap.1 hv
  exact ccells_one x v hv
theorem CReads.puts {w : World} {ad : Addr} {len cap : Nat} {l : List ClT} (h : CReads w (some ad) len cap l) : ∀ j u, (clcL l)[j]? = some u → w.cell? (ad.add j) = some u := fun j u hj => by
  obtain ⟨i, hi, k, rfl, hk⟩ := clcL_back l h.ok j u hj
  have h1 := h.ln
  rcases h.lies with h5 | ⟨g, o, ha, hl⟩
  · omega
  · cases ha
    rw [add_plain, ← Nat.add_assoc]
    exact hl i hi k u hk
theorem infoClis : (Try.prog.info? 29).map (fun i => (i.zero, i.size, i.bytes)) = some (some (.agg (ccells ⟨0, 0, 0, 0, List.replicate 32 0⟩).toArray), 36, 64) := by kernel_rfl
/-- Rows put behind those of a list of the call's own. -/
theorem run_append_cls {w : World} {a : Option Addr} {len cap : Nat} {l : List ClT} (h : CReads w a len cap l) (hc0 : a = none → cap = 0) (B n : Nat) (v : Value) (xs : List ClT)
    (hown : w.ownsRow B 29 36 v n (clcL xs)) (hB : B ≤ w.heap.size) (hb : n + len ≤ 1000000) :
    ∃ v' w', (Builtin.append_ #[23, 23] 23 #[v, .slice a len cap]).run Try.prog w = .ok v' w' ∧
      w'.ownsRow B 29 36 v' (n + len) (clcL (xs ++ l)) ∧ w.grownBy w' v.ownBlock := by
  obtain ⟨i0, hi, hz0, hz1, hz2⟩ := info_parts infoClis
  have h1 := h.ln
  cases a with
  | none =>
    obtain rfl : cap = 0 := hc0 rfl
    have hl0 : len = 0 := by have := h.cp; omega
    subst hl0
    obtain rfl : l = [] := List.eq_nil_of_length_eq_zero h1
    refine ⟨v, w, run_append_owned_none (P := Try.prog) w B 23 23 29 i0 36 Try.underlying23 hi _ n _ hown, ?_, World.grownBy.refl _ _⟩
    simpa using hown
  | some ad =>
    obtain ⟨v', w', hr, ho, hg, _⟩ := run_append_own (P := Try.prog) w B 23 23 29 i0 _ 36 64 Try.underlying23 hi hz0 hz1 hz2 (by rfl) (by decide) v n _ hown ad len cap (clcL l) (by rw [clcL_length l h.ok, h1]) h.puts (clcL_one l) (by unfold maxLen; omega) (by omega) hB
    refine ⟨v', w', hr, ?_, hg⟩
    rw [clcL_append]
    exact ho
theorem CReads.own {w : World} {B n : Nat} {v : Value} {l : List ClT} (h : w.ownsRow B 29 36 v n (clcL l)) (hok : ∀ x ∈ l, OkC x) : ∃ a cap, v = .slice a n cap ∧ CReads w a n cap l ∧ (a = none → cap = 0) ∧ (∀ g o, a = some ⟨g, o, none⟩ → B ≤ g ∧ v.ownBlock = some g) := by
  have hl : l.length = n := by have := h.1; rw [clcL_length l hok] at this; omega
  rcases h.2 with ⟨rfl, h0⟩ | ⟨g, cap, cur, rfl, hb, hg, hc, hm, hs, ht⟩
  · subst h0
    exact ⟨none, 0, rfl, ⟨hl, Nat.le_refl _, Nat.zero_le _, hok, .inl rfl⟩, fun _ => rfl, fun g o e => by cases e⟩
  · refine ⟨some ⟨g, 0, none⟩, cap, rfl, ⟨hl, hc, by omega, hok, .inr ⟨g, 0, rfl, fun i hi j v hj => ?_⟩⟩, (fun e => by cases e), fun g' o' e => by cases e; exact ⟨hb, rfl⟩⟩
    have := h.cells (g := g) rfl _ _ (clcL_at l hok i hi j v hj)
    rw [add_plain] at this
    rw [Nat.zero_add]
    simpa using this
end Go.Proofs.Ytjpmmbmhkpgjcab

/- The document's Same and Right of logs. -/
namespace Go.Proofs.Ytjpmmbmhkpgjcab
open Go.RowKit Nums Sums
set_option linter.unusedVariables false
set_option linter.unusedSimpArgs false
set_option maxRecDepth 100000
set_option maxHeartbeats 2000000 in
theorem refSame_any (a1 a2 : Option Addr) (len c1 c2 : Nat) (l : List ItT) (w : World) (h1 : IReads w a1 len c1 l) (h2 : IReads w a2 len c2 l) :
    Calls Try.prog 9 #[.slice a1 len c1, .slice a2 len c2] w fun e w' => e = .returned (.bool true) ∧ Below w.heap.size w w' := by
  have hlen := h1.ln
  have hmx : len ≤ 9223372036854775807 := by have := h1.mx; unfold maxLen at this; omega
  have H1 := hidk h1
  have H2 := hidk h2
  clear h1 h2
  have hdn : (!((len : Int) == (len : Int))) = false := by simp
  go_enter Try.func9, Try.ntmps9
  go_wp2
  go_loopw [5] (fun v wr => ∃ i : Nat, i ≤ len ∧ v = .int .i64 i ∧ Below w.heap.size w wr) (fun v _ => len - (intOf v).toNat)
  case atStart => exact ⟨0, by omega, rfl, Below.refl _ _⟩
  case round =>
    obtain ⟨i, hi, rfl, hB⟩ := hrel
    by_cases hlt : i < len
    · have hdi : decide ((i : Int) < (len : Int)) = true := by rw [decide_eq_true_eq]; omega
      have hw := wrap_int ((i : Int) + 1) (by omega) (by omega)
      obtain ⟨g1, o1, rfl, hg1⟩ := H1.out.at (by omega)
      obtain ⟨g2, o2, rfl, hg2⟩ := H2.out.at (by omega)
      have hil : i < l.length := by omega
      obtain ⟨A, HA⟩ : ∃ A, Hid (A = icells l[i]) := ⟨_, hidk rfl⟩
      have hok := H1.out.ok _ (List.getElem_mem hil)
      have z0 : (Try.prog.info? 40).map (·.size) = some A.length := by rw [sizeI, HA.out, icells_length _ hok]
      have hne := fun W => neqItem l[i] l[i] hok hok A.toArray A.toArray (by show _ = _; rw [HA.out]) (by show _ = _; rw [HA.out]) false (by simp) W
      have hS : wr.rangeAt g1 (o1 + 110 * i) A ∧ wr.rangeAt g2 (o2 + 110 * i) A := by
        rw [HA.out]
        exact ⟨(H1.out.keep hB).range i hil, (H2.out.keep hB).range i hil⟩
      have ix1 := fun W => index_item W g1 o1 len c1 i .i64 hlt
      have ix2 := fun W => index_item W g2 o2 len c2 i .i64 hlt
      clear HA hok hil
      go_wp2
      refine wp_region_held_drew (S := (fun W => W.rangeAt g1 (o1 + 110 * i) A ∧ W.rangeAt g2 (o2 + 110 * i) A)) (by kernel_rfl) hS (fun hHeld => ?_)
      refine wpAnyH_take (i := 0) (oi := { dst := some 17, op := Op.move (Operand.tmp 0), type := 22, pos := "ref.go:131", after := #[], guard := none }) (v := .slice (some ⟨g1, o1, none⟩) len c1) rfl (by kernel_rfl) (by kernel_rfl) (by kernel_rfl) (fun _ _ _ h => h) (Or.inl ⟨by rfl, by intro w hSw; go_simp⟩) hHeld ?_
      try simp only [Act.put, List.setIfInBounds_toArray, List.set_cons_zero, List.set_cons_succ]
      refine wpAnyH_take (i := 1) (oi := { dst := some 18, op := Op.move (Operand.tmp 5), type := 3, pos := "ref.go:131", after := #[], guard := none }) (v := .int .i64 i) rfl (by kernel_rfl) (by kernel_rfl) (by kernel_rfl) (fun _ _ _ h => h) (Or.inl ⟨by rfl, by intro w hSw; go_simp⟩) hHeld ?_
      try simp only [Act.put, List.setIfInBounds_toArray, List.set_cons_zero, List.set_cons_succ]
      refine wpAnyH_take (i := 2) (oi := { dst := some 19, op := Op.indexAddr 22 (Operand.tmp 17) (Operand.tmp 18), type := 0, pos := "ref.go:131", after := #[{ on := 0, ground := Ground.data }, { on := 1, ground := Ground.data }], guard := none }) (v := .pointer (some ⟨g1, o1 + 110 * i, none⟩)) rfl (by kernel_rfl) (by kernel_rfl) (by kernel_rfl) (fun _ _ _ h => h) (Or.inl ⟨by rfl, by intro W hSw; have := ix1 W; go_simp⟩) hHeld ?_
      try simp only [Act.put, List.setIfInBounds_toArray, List.set_cons_zero, List.set_cons_succ]
      refine wpAnyH_take (i := 3) (oi := { dst := some 20, op := Op.load 40 (Operand.tmp 19), type := 40, pos := "ref.go:131", after := #[{ on := 2, ground := Ground.data }], guard := none }) (v := .agg A.toArray) rfl (by kernel_rfl) (by kernel_rfl) (by kernel_rfl) (fun _ _ _ h => h) (yieldsIf_load_mid (by rfl) 40 (.tmp 19) rfl _ _ rfl A _ (fun _ h => h.1) Try.underlying40 rfl z0) hHeld ?_
      try simp only [Act.put, List.setIfInBounds_toArray, List.set_cons_zero, List.set_cons_succ]
      refine wpAnyH_take (i := 4) (oi := { dst := some 21, op := Op.move (Operand.tmp 1), type := 22, pos := "ref.go:131", after := #[], guard := none }) (v := .slice (some ⟨g2, o2, none⟩) len c2) rfl (by kernel_rfl) (by kernel_rfl) (by kernel_rfl) (fun _ _ _ h => h) (Or.inl ⟨by rfl, by intro w hSw; go_simp⟩) hHeld ?_
      try simp only [Act.put, List.setIfInBounds_toArray, List.set_cons_zero, List.set_cons_succ]
      refine wpAnyH_take (i := 5) (oi := { dst := some 22, op := Op.move (Operand.tmp 5), type := 3, pos := "ref.go:131", after := #[], guard := none }) (v := .int .i64 i) rfl (by kernel_rfl) (by kernel_rfl) (by kernel_rfl) (fun _ _ _ h => h) (Or.inl ⟨by rfl, by intro w hSw; go_simp⟩) hHeld ?_
      try simp only [Act.put, List.setIfInBounds_toArray, List.set_cons_zero, List.set_cons_succ]
      refine wpAnyH_take (i := 6) (oi := { dst := some 23, op := Op.indexAddr 22 (Operand.tmp 21) (Operand.tmp 22), type := 0, pos := "ref.go:131", after := #[{ on := 4, ground := Ground.data }, { on := 5, ground := Ground.data }], guard := none }) (v := .pointer (some ⟨g2, o2 + 110 * i, none⟩)) rfl (by kernel_rfl) (by kernel_rfl) (by kernel_rfl) (fun _ _ _ h => h) (Or.inl ⟨by rfl, by intro W hSw; have := ix2 W; go_simp⟩) hHeld ?_
      try simp only [Act.put, List.setIfInBounds_toArray, List.set_cons_zero, List.set_cons_succ]
      refine wpAnyH_take (i := 7) (oi := { dst := some 24, op := Op.load 40 (Operand.tmp 23), type := 40, pos := "ref.go:131", after := #[{ on := 6, ground := Ground.data }], guard := none }) (v := .agg A.toArray) rfl (by kernel_rfl) (by kernel_rfl) (by kernel_rfl) (fun _ _ _ h => h) (yieldsIf_load_mid (by rfl) 40 (.tmp 23) rfl _ _ rfl A _ (fun _ h => h.2) Try.underlying40 rfl z0) hHeld ?_
      try simp only [Act.put, List.setIfInBounds_toArray, List.set_cons_zero, List.set_cons_succ]
      refine wpAnyH_take (i := 8) (oi := { dst := some 25, op := Op.binOp BinOp.neq 40 (Operand.tmp 20) (Operand.tmp 24) 40, type := 4, pos := "ref.go:131", after := #[{ on := 3, ground := Ground.data }, { on := 7, ground := Ground.data }], guard := none }) (v := .bool false) rfl (by kernel_rfl) (by kernel_rfl) (by kernel_rfl) (fun _ _ _ h => h) (Or.inl ⟨by rfl, by intro W hSw; have := hne W; go_simp⟩) hHeld ?_
      try simp only [Act.put, List.setIfInBounds_toArray, List.set_cons_zero, List.set_cons_succ]
      refine wpAnyH_done (by kernel_rfl) ?_ _
      go_wp2
      go_roundw
      case rel => exact ⟨i + 1, by omega, by go_num, hB.drew⟩
      case measure => simp [intOf]; omega
    · obtain rfl : len = i := by omega
      go_wp2
      go_ret
      exact ⟨rfl, hB⟩
theorem right_yes {l : List ItT} (hl : l.length ≤ 2000) (h : rightK l l.length = true) : rightL l = true := by
  unfold rightL; rw [h, decide_eq_true hl]; rfl
theorem right_no {l : List ItT} {k : Nat} (hk : k < l.length) (h : okAt l k = false) : rightL l = false := by
  rw [Bool.eq_false_iff]
  intro hr
  have := ((rightL_iff l).1 hr).2 k hk
  rw [h] at this
  cases this
theorem right_long {l : List ItT} (h : 2000 < l.length) : rightL l = false := by
  unfold rightL; rw [decide_eq_false (by omega)]; rfl
end Go.Proofs.Ytjpmmbmhkpgjcab

/- The document's own answers on addresses: are two the same, does one stand ahead, is one there. -/
namespace Go.Proofs.Ytjpmmbmhkpgjcab
open Go.RowKit Nums Sums
set_option linter.unusedVariables false
set_option linter.unusedSimpArgs false
set_option maxRecDepth 100000
/-- A struct of two cells, new in its block. -/
theorem range_two_new (w : World) (x y : Value) (t : TypeId) : (w.alloc (.cells #[x, y] t)).rangeAt w.heap.size 0 [x, y] := fun j v hj => by
  rw [cell_of_row _ _ _ _ t (0, 0) (heap_alloc_new w _)]
  simpa using hj
end Go.Proofs.Ytjpmmbmhkpgjcab

/- The document's Addrs and Same: rows that read the same are the same. -/
namespace Go.Proofs.Ytjpmmbmhkpgjcab
open Go.RowKit Nums Sums
set_option linter.unusedVariables false
set_option linter.unusedSimpArgs false
set_option maxRecDepth 100000
set_option maxHeartbeats 2000000 in
theorem refSameC_any (a1 a2 : Option Addr) (len c1 c2 : Nat) (l : List ClT) (w : World) (h1 : CReads w a1 len c1 l) (h2 : CReads w a2 len c2 l) :
    Calls Try.prog 19 #[.slice a1 len c1, .slice a2 len c2] w fun e w' => e = .returned (.bool true) ∧ Below w.heap.size w w' := by
  have hlen := h1.ln
  have hmx : len ≤ 9223372036854775807 := by have := h1.mx; unfold maxLen at this; omega
  have H1 := hidk h1
  have H2 := hidk h2
  clear h1 h2
  have hdn : (!((len : Int) == (len : Int))) = false := by simp
  go_enter Try.func19, Try.ntmps19
  go_wp2
  go_loopw [5] (fun v wr => ∃ i : Nat, i ≤ len ∧ v = .int .i64 i ∧ Below w.heap.size w wr) (fun v _ => len - (intOf v).toNat)
  case atStart => exact ⟨0, by omega, rfl, Below.refl _ _⟩
  case round =>
    obtain ⟨i, hi, rfl, hB⟩ := hrel
    by_cases hlt : i < len
    · have hdi : decide ((i : Int) < (len : Int)) = true := by rw [decide_eq_true_eq]; omega
      have hw := wrap_int ((i : Int) + 1) (by omega) (by omega)
      obtain ⟨g1, o1, rfl, hg1⟩ := H1.out.at (by omega)
      obtain ⟨g2, o2, rfl, hg2⟩ := H2.out.at (by omega)
      have hil : i < l.length := by omega
      obtain ⟨A, HA⟩ : ∃ A, Hid (A = ccells l[i]) := ⟨_, hidk rfl⟩
      have hok := H1.out.ok _ (List.getElem_mem hil)
      have z0 : (Try.prog.info? 29).map (·.size) = some A.length := by rw [sizeC, HA.out, ccells_length _ hok]
      have hne := fun W => neqClaim l[i] l[i] hok hok A.toArray A.toArray (by show _ = _; rw [HA.out]) (by show _ = _; rw [HA.out]) false (by simp) W
      have hS : wr.rangeAt g1 (o1 + 36 * i) A ∧ wr.rangeAt g2 (o2 + 36 * i) A := by
        rw [HA.out]
        exact ⟨(H1.out.keep hB).range i hil, (H2.out.keep hB).range i hil⟩
      have ix1 := fun W => index_cl W g1 o1 len c1 i .i64 hlt
      have ix2 := fun W => index_cl W g2 o2 len c2 i .i64 hlt
      clear HA hok hil
      go_wp2
      refine wp_region_held_drew (S := (fun W => W.rangeAt g1 (o1 + 36 * i) A ∧ W.rangeAt g2 (o2 + 36 * i) A)) (by kernel_rfl) hS (fun hHeld => ?_)
      refine wpAnyH_take (i := 0) (oi := { dst := some 17, op := Op.move (Operand.tmp 0), type := 23, pos := "ref.go:119", after := #[], guard := none }) (v := .slice (some ⟨g1, o1, none⟩) len c1) rfl (by kernel_rfl) (by kernel_rfl) (by kernel_rfl) (fun _ _ _ h => h) (Or.inl ⟨by rfl, by intro w hSw; go_simp⟩) hHeld ?_
      try simp only [Act.put, List.setIfInBounds_toArray, List.set_cons_zero, List.set_cons_succ]
      refine wpAnyH_take (i := 1) (oi := { dst := some 18, op := Op.move (Operand.tmp 5), type := 3, pos := "ref.go:119", after := #[], guard := none }) (v := .int .i64 i) rfl (by kernel_rfl) (by kernel_rfl) (by kernel_rfl) (fun _ _ _ h => h) (Or.inl ⟨by rfl, by intro w hSw; go_simp⟩) hHeld ?_
      try simp only [Act.put, List.setIfInBounds_toArray, List.set_cons_zero, List.set_cons_succ]
      refine wpAnyH_take (i := 2) (oi := { dst := some 19, op := Op.indexAddr 23 (Operand.tmp 17) (Operand.tmp 18), type := 0, pos := "ref.go:119", after := #[{ on := 0, ground := Ground.data }, { on := 1, ground := Ground.data }], guard := none }) (v := .pointer (some ⟨g1, o1 + 36 * i, none⟩)) rfl (by kernel_rfl) (by kernel_rfl) (by kernel_rfl) (fun _ _ _ h => h) (Or.inl ⟨by rfl, by intro W hSw; have := ix1 W; go_simp⟩) hHeld ?_
      try simp only [Act.put, List.setIfInBounds_toArray, List.set_cons_zero, List.set_cons_succ]
      refine wpAnyH_take (i := 3) (oi := { dst := some 20, op := Op.load 29 (Operand.tmp 19), type := 29, pos := "ref.go:119", after := #[{ on := 2, ground := Ground.data }], guard := none }) (v := .agg A.toArray) rfl (by kernel_rfl) (by kernel_rfl) (by kernel_rfl) (fun _ _ _ h => h) (yieldsIf_load_mid (by rfl) 29 (.tmp 19) rfl _ _ rfl A _ (fun _ h => h.1) Try.underlying29 rfl z0) hHeld ?_
      try simp only [Act.put, List.setIfInBounds_toArray, List.set_cons_zero, List.set_cons_succ]
      refine wpAnyH_take (i := 4) (oi := { dst := some 21, op := Op.move (Operand.tmp 1), type := 23, pos := "ref.go:119", after := #[], guard := none }) (v := .slice (some ⟨g2, o2, none⟩) len c2) rfl (by kernel_rfl) (by kernel_rfl) (by kernel_rfl) (fun _ _ _ h => h) (Or.inl ⟨by rfl, by intro w hSw; go_simp⟩) hHeld ?_
      try simp only [Act.put, List.setIfInBounds_toArray, List.set_cons_zero, List.set_cons_succ]
      refine wpAnyH_take (i := 5) (oi := { dst := some 22, op := Op.move (Operand.tmp 5), type := 3, pos := "ref.go:119", after := #[], guard := none }) (v := .int .i64 i) rfl (by kernel_rfl) (by kernel_rfl) (by kernel_rfl) (fun _ _ _ h => h) (Or.inl ⟨by rfl, by intro w hSw; go_simp⟩) hHeld ?_
      try simp only [Act.put, List.setIfInBounds_toArray, List.set_cons_zero, List.set_cons_succ]
      refine wpAnyH_take (i := 6) (oi := { dst := some 23, op := Op.indexAddr 23 (Operand.tmp 21) (Operand.tmp 22), type := 0, pos := "ref.go:119", after := #[{ on := 4, ground := Ground.data }, { on := 5, ground := Ground.data }], guard := none }) (v := .pointer (some ⟨g2, o2 + 36 * i, none⟩)) rfl (by kernel_rfl) (by kernel_rfl) (by kernel_rfl) (fun _ _ _ h => h) (Or.inl ⟨by rfl, by intro W hSw; have := ix2 W; go_simp⟩) hHeld ?_
      try simp only [Act.put, List.setIfInBounds_toArray, List.set_cons_zero, List.set_cons_succ]
      refine wpAnyH_take (i := 7) (oi := { dst := some 24, op := Op.load 29 (Operand.tmp 23), type := 29, pos := "ref.go:119", after := #[{ on := 6, ground := Ground.data }], guard := none }) (v := .agg A.toArray) rfl (by kernel_rfl) (by kernel_rfl) (by kernel_rfl) (fun _ _ _ h => h) (yieldsIf_load_mid (by rfl) 29 (.tmp 23) rfl _ _ rfl A _ (fun _ h => h.2) Try.underlying29 rfl z0) hHeld ?_
      try simp only [Act.put, List.setIfInBounds_toArray, List.set_cons_zero, List.set_cons_succ]
      refine wpAnyH_take (i := 8) (oi := { dst := some 25, op := Op.binOp BinOp.neq 29 (Operand.tmp 20) (Operand.tmp 24) 29, type := 4, pos := "ref.go:119", after := #[{ on := 3, ground := Ground.data }, { on := 7, ground := Ground.data }], guard := none }) (v := .bool false) rfl (by kernel_rfl) (by kernel_rfl) (by kernel_rfl) (fun _ _ _ h => h) (Or.inl ⟨by rfl, by intro W hSw; have := hne W; go_simp⟩) hHeld ?_
      try simp only [Act.put, List.setIfInBounds_toArray, List.set_cons_zero, List.set_cons_succ]
      refine wpAnyH_done (by kernel_rfl) ?_ _
      go_wp2
      go_roundw
      case rel => exact ⟨i + 1, by omega, by go_num, hB.drew⟩
      case measure => simp [intOf]; omega
    · obtain rfl : len = i := by omega
      go_wp2
      go_ret
      exact ⟨rfl, hB⟩
end Go.Proofs.Ytjpmmbmhkpgjcab

/- The document's Enough. -/
namespace Go.Proofs.Ytjpmmbmhkpgjcab
open Go.RowKit Nums Sums
set_option linter.unusedVariables false
set_option linter.unusedSimpArgs false
set_option maxRecDepth 100000

end Go.Proofs.Ytjpmmbmhkpgjcab

/- The document's Add. -/
namespace Go.Proofs.Ytjpmmbmhkpgjcab
open Go.RowKit Nums Sums
set_option linter.unusedVariables false
set_option linter.unusedSimpArgs false
set_option maxRecDepth 100000

end Go.Proofs.Ytjpmmbmhkpgjcab

/- The document's own answers on claims: does one stand ahead of another. -/
namespace Go.Proofs.Ytjpmmbmhkpgjcab
open Go.RowKit Nums Sums
set_option linter.unusedVariables false
set_option linter.unusedSimpArgs false
set_option maxRecDepth 100000

end Go.Proofs.Ytjpmmbmhkpgjcab

/- The library's cmp, and the two orders of the program's claims. -/
namespace Go.Proofs.Ytjpmmbmhkpgjcab
open Go.RowKit Nums Sums
set_option linter.unusedVariables false
set_option linter.unusedSimpArgs false
set_option maxRecDepth 100000
/-- What cmp.Compare tells. -/
def cmpI (x y : Int) : Int := if x < y then -1 else if y < x then 1 else 0
/-- What cmp.Or tells of two. -/
def orI (a b : Int) : Int := if a = 0 then b else a
theorem isNaN_any (x : Int) (w : World) : Calls Try.prog 50 #[.int .i64 x] w fun e w' => e = .returned (.bool false) ∧ w = w' := by
  have h : (!(x == x)) = false := by simp
  go_enter Try.func50, Try.ntmps50
  go_wp2
  go_ret
  exact ⟨rfl, rfl⟩
theorem compare_any (x y : Int) (w : World) : Calls Try.prog 44 #[.int .i64 x, .int .i64 y] w fun e w' => e = .returned (.int .i64 (cmpI x y)) ∧ w = w' := by
  have N1 := hidk (isNaN_any x w)
  have N2 := hidk (isNaN_any y w)
  obtain ⟨P, hP⟩ : ∃ b, decide (x < y) = b := ⟨_, rfl⟩
  obtain ⟨Q, hQ⟩ : ∃ b, decide (y < x) = b := ⟨_, rfl⟩
  have HE : Hid (cmpI x y = if P = true then -1 else if Q = true then 1 else 0) := by
    show _ = _
    unfold cmpI
    rw [← hP, ← hQ]
    simp only [decide_eq_true_eq]
  go_enter Try.func44, Try.ntmps44
  go_wp2_with fail
  refine N1.out.mono ?_
  rintro e w1 ⟨rfl, rfl⟩
  go_wp2_with fail
  refine N2.out.mono ?_
  rintro e w1 ⟨rfl, rfl⟩
  cases P
  · cases Q
    · go_wp2
      go_ret
      exact ⟨by rw [HE.out]; rfl, rfl⟩
    · go_wp2
      go_ret
      exact ⟨by rw [HE.out]; rfl, rfl⟩
  · go_wp2
    go_ret
    exact ⟨by rw [HE.out]; rfl, rfl⟩
theorem or_any (g : Nat) (a b : Int) (w : World) (h0 : w.cell? ⟨g, 0, none⟩ = some (.int .i64 a)) (h1 : w.cell? ⟨g, 1, none⟩ = some (.int .i64 b)) :
    Calls Try.prog 43 #[.slice (some ⟨g, 0, none⟩) 2 2] w fun e w' => e = .returned (.int .i64 (orI a b)) ∧ w = w' := by
  by_cases ha : a = 0
  · by_cases hb : b = 0
    · have HE : Hid (orI a b = 0) := by show _ = _; unfold orI; rw [if_pos ha, hb]
      subst ha
      subst hb
      go_enter Try.func43, Try.ntmps43
      go_wp2
      go_loop [5, 8] (fun x i => ∃ k : Nat, k ≤ 2 ∧ i = .int .i64 k) (fun _ i => 2 - (intOf i).toNat)
      case atStart => exact ⟨0, by omega, rfl⟩
      case round =>
        obtain ⟨k, hk, rfl⟩ := hrel
        obtain rfl | rfl | rfl : k = 0 ∨ k = 1 ∨ k = 2 := by omega
        · go_wp2
          go_round
          case rel => exact ⟨1, by omega, rfl⟩
          case measure => simp [intOf]
        · go_wp2
          go_round
          case rel => exact ⟨2, by omega, rfl⟩
          case measure => simp [intOf]
        · go_wp2
          go_ret
          exact ⟨by rw [HE.out]; rfl, rfl⟩
    · have HE : Hid (orI a b = b) := by show _ = _; unfold orI; rw [if_pos ha]
      have hn : (!(b == 0)) = true := by simp [hb]
      subst ha
      go_enter Try.func43, Try.ntmps43
      go_wp2
      go_loop [5, 8] (fun x i => ∃ k : Nat, k ≤ 1 ∧ i = .int .i64 k) (fun _ i => 2 - (intOf i).toNat)
      case atStart => exact ⟨0, by omega, rfl⟩
      case round =>
        obtain ⟨k, hk, rfl⟩ := hrel
        obtain rfl | rfl : k = 0 ∨ k = 1 := by omega
        · go_wp2
          go_round
          case rel => exact ⟨1, by omega, rfl⟩
          case measure => simp [intOf]
        · go_wp2
          go_ret
          exact ⟨by rw [HE.out]; rfl, rfl⟩
  · have HE : Hid (orI a b = a) := by show _ = _; unfold orI; rw [if_neg ha]
    have hn : (!(a == 0)) = true := by simp [ha]
    go_enter Try.func43, Try.ntmps43
    go_wp2
    go_loop [5, 8] (fun x i => i = .int .i64 0) (fun _ i => 2 - (intOf i).toNat)
    case atStart => exact rfl
    case round =>
      obtain rfl := hrel
      go_wp2
      go_ret
      exact ⟨by rw [HE.out]; rfl, rfl⟩
end Go.Proofs.Ytjpmmbmhkpgjcab

/- The document's Find of claims. -/
namespace Go.Proofs.Ytjpmmbmhkpgjcab
open Go.RowKit Nums Sums
set_option linter.unusedVariables false
set_option linter.unusedSimpArgs false
set_option maxRecDepth 100000
def foundC (l : List ClT) (r e : Int) : ClT := (findC l r e).getD zeroC
theorem findC_yes {l : List ClT} {r e : Int} (k : Nat) (hk : k < l.length) (h0 : ∀ x ∈ l.take k, isC x r e = false) (h1 : isC l[k] r e = true) : findC l r e = some l[k] := by
  obtain ⟨x, hx⟩ : ∃ x, l[k] = x := ⟨_, rfl⟩
  have e0 : l = l.take k ++ (x :: l.drop (k + 1)) := by rw [← hx, ← List.drop_eq_getElem_cons hk, List.take_append_drop]
  rw [hx] at h1 ⊢
  unfold findC
  rw [e0, List.find?_append, List.find?_eq_none.2 (fun x hx => by rw [h0 x hx]; simp), Option.none_or]
  exact List.find?_cons_of_pos h1
theorem findC_no {l : List ClT} {r e : Int} (h0 : ∀ x ∈ l, isC x r e = false) : findC l r e = none := by
  unfold findC
  exact List.find?_eq_none.2 fun x hx => by rw [h0 x hx]; simp
end Go.Proofs.Ytjpmmbmhkpgjcab

/- The document's Find and Old of logs. -/
namespace Go.Proofs.Ytjpmmbmhkpgjcab
open Go.RowKit Nums Sums
set_option linter.unusedVariables false
set_option linter.unusedSimpArgs false
set_option maxRecDepth 100000

end Go.Proofs.Ytjpmmbmhkpgjcab

/- The document's May of logs. -/
namespace Go.Proofs.Ytjpmmbmhkpgjcab
open Go.RowKit Nums Sums
set_option linter.unusedVariables false
set_option linter.unusedSimpArgs false
set_option maxRecDepth 100000
theorem mayE_form {l : List ItT} {x : ItT} (h : rightL l = false ∨ rightI x = false) : mayE l x = 100 := by unfold mayE; rw [if_pos h]
theorem mayE_low {l : List ItT} {x : ItT} (h1 : rightL l = true) (h2 : rightI x = true) (h : lowB l x.p = true) : mayE l x = 102 := by unfold mayE; rw [if_neg (by rw [h1, h2]; decide), if_pos h]
theorem mayE_full {l : List ItT} {x : ItT} (h1 : rightL l = true) (h2 : rightI x = true) (h : lowB l x.p = false) (h3 : l.length = 2000) : mayE l x = 2 := by unfold mayE; rw [if_neg (by rw [h1, h2]; decide), if_neg (by rw [h]; decide), if_pos h3]
theorem mayE_last {l : List ItT} {x : ItT} (h1 : rightL l = true) (h2 : rightI x = true) (h : lowB l x.p = false) (h3 : l.length ≠ 2000) : mayE l x = if x.e.k = 1 ∧ oldL l x.e.c x.e.s = true then 101 else 0 := by unfold mayE; rw [if_neg (by rw [h1, h2]; decide), if_neg (by rw [h]; decide), if_neg h3]
theorem lowB_none {l : List ItT} {p : Int} (h : l.length = 0) : lowB l p = false := by
  obtain rfl : l = [] := List.eq_nil_of_length_eq_zero h
  rfl
theorem lowB_some {l : List ItT} {p : Int} {j : Nat} (h : j + 1 = l.length) : lowB l p = decide (p < (l[j]'(by omega)).p) := by
  unfold lowB
  have : l.getLast? = some (l[j]'(by omega)) := by rw [List.getLast?_eq_getElem?, show l.length - 1 = j by omega]; exact List.getElem?_eq_getElem _
  rw [this]
end Go.Proofs.Ytjpmmbmhkpgjcab

/- The document's Right of claims. -/
namespace Go.Proofs.Ytjpmmbmhkpgjcab
open Go.RowKit Nums Sums
set_option linter.unusedVariables false
set_option linter.unusedSimpArgs false
set_option maxRecDepth 100000
theorem rightCK_le {l : List ClT} {k : Nat} (h : rightCK l k = true) : ∀ i, i < k → okC l i = true := by
  unfold rightCK at h
  intro i hi
  exact List.all_eq_true.1 h i (List.mem_range.2 hi)
theorem rightCs_no {l : List ClT} {k : Nat} (hk : k < l.length) (h : okC l k = false) : rightCs l = false := by
  rw [Bool.eq_false_iff]
  intro hr
  have := rightCK_le hr k hk
  rw [h] at this
  cases this
end Go.Proofs.Ytjpmmbmhkpgjcab
