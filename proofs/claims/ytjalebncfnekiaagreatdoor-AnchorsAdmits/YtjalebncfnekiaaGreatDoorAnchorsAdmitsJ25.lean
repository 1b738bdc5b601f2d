/- Texts of our own that the row of AnchorsAdmits leans on, part 25. -/
import Derived.Test.YtjalebncfnekiaaGreatDoorAnchorsAdmitsJ0
import Derived.Test.YtjalebncfnekiaaGreatDoorAnchorsAdmitsJ15
import Derived.Test.YtjalebncfnekiaaGreatDoorAnchorsAdmitsJ17
import Derived.Test.YtjalebncfnekiaaGreatDoorAnchorsAdmitsJ20
import Derived.Test.YtjalebncfnekiaaGreatDoorAnchorsAdmitsJ22
import Derived.Test.YtjalebncfnekiaaGreatDoorAnchorsAdmitsJ24
import Derived.Deep.RegionHeld3
/- Slices of items in memory. -/
namespace Go.Proofs.YtjalebncfnekiaaGreatDoor
open Go.RowKit Nums Sums
set_option linter.unusedVariables false
set_option linter.unusedSimpArgs false
set_option maxRecDepth 100000
structure IReads (w : World) (a : Option Addr) (len cap : Nat) (l : List ItT) : Prop where
  ln : l.length = len
  cp : len ≤ cap
  mx : len ≤ maxLen
  ok : ∀ x ∈ l, OkE x.e
  lies : len = 0 ∨ ∃ g o, a = some ⟨g, o, none⟩ ∧ ∀ (i : Nat) (h : i < l.length), w.rangeAt g (o + 110 * i) (icells l[i])
theorem range_lt {w : World} {g o : Nat} {l : List Value} (h : w.rangeAt g o l) (hl : 0 < l.length) : g < w.heap.size := by
  have := h 0 l[0] (List.getElem?_eq_getElem hl)
  exact World.block_lt_of_cell? _ _ this
theorem range_below {B : Nat} {w w' : World} {g o : Nat} {l : List Value} (h : w.rangeAt g o l) (hb : Below B w w') (hg : g < B) : w'.rangeAt g o l := fun j v hj => by
  rw [hb.cell hg]; exact h j v hj
theorem IReads.at {w : World} {a : Option Addr} {len cap : Nat} {l : List ItT} (h : IReads w a len cap l) (h0 : 0 < len) : ∃ g o, a = some ⟨g, o, none⟩ ∧ g < w.heap.size := by
  rcases h.lies with h5 | ⟨g, o, ha, hl⟩
  · omega
  · have h1 := h.ln
    refine ⟨g, o, ha, range_lt (hl 0 (by omega)) ?_⟩
    rw [icells_length _ (h.ok _ (List.getElem_mem (by omega)))]
    omega
theorem IReads.below {w w' : World} {a : Option Addr} {len cap B : Nat} {l : List ItT} (h : IReads w a len cap l) (hb : Below B w w') (hB : ∀ g o, a = some ⟨g, o, none⟩ → 0 < len → g < B) : IReads w' a len cap l := by
  refine ⟨h.ln, h.cp, h.mx, h.ok, ?_⟩
  by_cases h0 : len = 0
  · exact .inl h0
  · rcases h.lies with h5 | ⟨g, o, ha, hl⟩
    · exact .inl h5
    · exact .inr ⟨g, o, ha, fun i hi => range_below (hl i hi) hb (hB g o ha (by omega))⟩
theorem IReads.keep {w w' : World} {a : Option Addr} {len cap : Nat} {l : List ItT} (h : IReads w a len cap l) (hb : Below w.heap.size w w') : IReads w' a len cap l := by
  refine h.below hb fun g o ha h0 => ?_
  obtain ⟨g', o', ha', hl⟩ := h.at h0
  rw [ha] at ha'
  cases ha'
  exact hl
theorem IReads.range {w : World} {g o len cap : Nat} {l : List ItT} (h : IReads w (some ⟨g, o, none⟩) len cap l) (i : Nat) (hi : i < l.length) : w.rangeAt g (o + 110 * i) (icells l[i]) := by
  have h1 := h.ln
  rcases h.lies with h5 | ⟨g', o', ha, hl⟩
  · omega
  · cases ha
    exact hl i hi
theorem IReads.cell {w : World} {g o len cap : Nat} {l : List ItT} (h : IReads w (some ⟨g, o, none⟩) len cap l) (i : Nat) (hi : i < l.length) (j : Nat) (v : Value) (hj : (icells l[i])[j]? = some v) : w.cell? ⟨g, o + 110 * i + j, none⟩ = some v := h.range i hi j v hj
theorem IReads.take {w : World} {a : Option Addr} {len cap : Nat} {l : List ItT} (h : IReads w a len cap l) (k : Nat) (hk : k ≤ len) : IReads w a k cap (l.take k) := by
  have h1 := h.ln
  have h2 := h.cp
  have h3 := h.mx
  refine ⟨by rw [List.length_take]; omega, by omega, by omega, fun x hx => h.ok x (List.mem_of_mem_take hx), ?_⟩
  rcases h.lies with h5 | ⟨g, o, ha, hl⟩
  · exact .inl (by omega)
  · refine .inr ⟨g, o, ha, fun i hi => ?_⟩
    rw [List.length_take] at hi
    rw [List.getElem_take]
    exact hl i (by omega)
theorem ireads_none (w : World) : IReads w none 0 0 [] := ⟨rfl, Nat.le_refl _, Nat.zero_le _, (fun x hx => by cases hx), .inl rfl⟩
theorem icells_p (x : ItT) : (icells x)[0]? = some (.int .i64 x.p) := rfl
theorem icells_k (x : ItT) : (icells x)[1]? = some (.int .i64 x.e.k) := rfl
theorem range_entry {w : World} {g o : Nat} {x : ItT} (h : w.rangeAt g o (icells x)) : w.rangeAt g (o + 1) (ecells x.e) := fun j v hj => by
  have := h (j + 1) v (by show ([Value.int .i64 x.p] ++ ecells x.e)[j + 1]? = _; simpa using hj)
  rw [← this]
  congr 2
  omega
theorem sizeOfI (w : World) : (sizeOf 47).run Tryz.prog w = .ok 110 w := by
  have hz : (Tryz.prog.info? 47).map (·.size) = some 110 := by kernel_rfl
  cases hq : Tryz.prog.info? 47 with
  | none => simp [hq] at hz
  | some i => simp [hq] at hz; simp [sizeOf, typeInfo, hq, hz]
theorem index_item (W : World) (g o len cap i : Nat) (k : IntKind) (hi : i < len) : (Instr.indexAt 24 (.slice (some ⟨g, o, none⟩) len cap) (.int k i)).run Tryz.prog W = .ok (.pointer (some ⟨g, o + 110 * i, none⟩)) W := by
  simp [Instr.indexAt, asIntOf, run_underlying Tryz.underlying24, sizeOfI, hi]
  rw [add_plain, Nat.mul_comm]
def icL (l : List ItT) : List Value := l.flatMap icells
theorem icL_nil : icL [] = [] := rfl
theorem icL_cons (x : ItT) (l : List ItT) : icL (x :: l) = icells x ++ icL l := by unfold icL; rw [List.flatMap_cons]
theorem icL_append (l r : List ItT) : icL (l ++ r) = icL l ++ icL r := by unfold icL; rw [List.flatMap_append]
theorem icL_length : ∀ (l : List ItT), (∀ x ∈ l, OkE x.e) → (icL l).length = l.length * 110
  | [], _ => rfl
  | x :: l, h => by
    rw [icL_cons, List.length_append, icells_length _ (h x (by simp)), icL_length l fun y hy => h y (by simp [hy]), List.length_cons]
    omega
theorem icL_at : ∀ (l : List ItT), (∀ x ∈ l, OkE x.e) → ∀ (i : Nat) (hi : i < l.length) (j : Nat) (v : Value), (icells l[i])[j]? = some v → (icL l)[110 * i + j]? = some v
  | [], _, i, hi, _, _, _ => by cases hi
  | x :: l, h, i, hi, j, v, hj => by
    have hx := icells_length _ (h x (by simp))
    rw [icL_cons]
    cases i with
    | zero =>
      have hj' : (icells x)[j]? = some v := hj
      have : j < (icells x).length := (List.getElem?_eq_some_iff.1 hj').1
      rw [List.getElem?_append_left (by omega)]
      simpa using hj'
    | succ i =>
      rw [List.getElem?_append_right (by omega), hx]
      have := icL_at l (fun y hy => h y (by simp [hy])) i (by simpa using hi) j v (by simpa using hj)
      rw [← this]
      congr 1
      omega
theorem icL_back : ∀ (l : List ItT), (∀ x ∈ l, OkE x.e) → ∀ (j : Nat) (v : Value), (icL l)[j]? = some v → ∃ i, ∃ hi : i < l.length, ∃ k, j = 110 * i + k ∧ (icells l[i])[k]? = some v
  | [], _, j, v, hj => by simp [icL_nil] at hj
  | x :: l, h, j, v, hj => by
    have hx := icells_length _ (h x (by simp))
    rw [icL_cons] at hj
    by_cases hlt : j < 110
    · rw [List.getElem?_append_left (by omega)] at hj
      exact ⟨0, by simp, j, by omega, hj⟩
    · rw [List.getElem?_append_right (by omega), hx] at hj
      obtain ⟨i, hi, k, e, hk⟩ := icL_back l (fun y hy => h y (by simp [hy])) _ v hj
      exact ⟨i + 1, by simpa using hi, k, by omega, by simpa using hk⟩
theorem icells_one (x : ItT) : ∀ v ∈ icells x, v.oneCell' = true := by
  intro v hv
  have h := one_cellsI x
  rw [List.all_toArray, List.all_eq_true] at h
  exact h v hv
theorem icL_one (l : List ItT) : ∀ v ∈ icL l, v.oneCell' = true := by
  intro v hv
  obtain ⟨x, _, hv⟩ := List.mem_flatMap.1 hv
  exact icells_one x v hv
theorem IReads.puts {w : World} {ad : Addr} {len cap : Nat} {l : List ItT} (h : IReads w (some ad) len cap l) : ∀ j u, (icL l)[j]? = some u → w.cell? (ad.add j) = some u := fun j u hj => by
  obtain ⟨i, hi, k, rfl, hk⟩ := icL_back l h.ok j u hj
  have h1 := h.ln
  rcases h.lies with h5 | ⟨g, o, ha, hl⟩
  · omega
  · cases ha
    rw [add_plain, ← Nat.add_assoc]
    exact hl i hi k u hk
theorem infoIt : (Tryz.prog.info? 47).map (fun i => (i.zero, i.size, i.bytes)) = some (some (.agg (icells ⟨0, zeroE⟩).toArray), 110, 216) := by kernel_rfl
theorem run_append_items {w : World} {a : Option Addr} {len cap : Nat} {l : List ItT} (h : IReads w a len cap l) (hc0 : a = none → cap = 0) (B n : Nat) (v : Value) (xs : List ItT)
    (hown : w.ownsRow B 47 110 v n (icL xs)) (hB : B ≤ w.heap.size) (hb : n + len ≤ 1000000) :
    ∃ v' w', (Builtin.append_ #[24, 24] 24 #[v, .slice a len cap]).run Tryz.prog w = .ok v' w' ∧
      w'.ownsRow B 47 110 v' (n + len) (icL (xs ++ l)) ∧ w.grownBy w' v.ownBlock := by
  obtain ⟨i0, hi, hz0, hz1, hz2⟩ := info_parts infoIt
  have h1 := h.ln
  cases a with
  | none =>
    obtain rfl : cap = 0 := hc0 rfl
    have hl0 : len = 0 := by have := h.cp; omega
    subst hl0
    obtain rfl : l = [] := List.eq_nil_of_length_eq_zero h1
    refine ⟨v, w, run_append_owned_none (P := Tryz.prog) w B 24 24 47 i0 110 Tryz.underlying24 hi _ n _ hown, ?_, World.grownBy.refl _ _⟩
    simpa using hown
  | some ad =>
    obtain ⟨v', w', hr, ho, hg, _⟩ := run_append_own (P := Tryz.prog) w B 24 24 47 i0 _ 110 216 Tryz.underlying24 hi hz0 hz1 hz2 (by rfl) (by decide) v n _ hown ad len cap (icL l) (by rw [icL_length l h.ok, h1]) h.puts (icL_one l) (by unfold maxLen; omega) (by omega) hB
    refine ⟨v', w', hr, ?_, hg⟩
    rw [icL_append]
    exact ho
theorem IReads.own {w : World} {B n : Nat} {v : Value} {l : List ItT} (h : w.ownsRow B 47 110 v n (icL l)) (hok : ∀ x ∈ l, OkE x.e) : ∃ a cap, v = .slice a n cap ∧ IReads w a n cap l ∧ (a = none → cap = 0) ∧ (∀ g o, a = some ⟨g, o, none⟩ → B ≤ g ∧ v.ownBlock = some g) := by
  have hl : l.length = n := by have := h.1; rw [icL_length l hok] at this; omega
  rcases h.2 with ⟨rfl, h0⟩ | ⟨g, cap, cur, rfl, hb, hg, hc, hm, hs, ht⟩
  · subst h0
    exact ⟨none, 0, rfl, ⟨hl, Nat.le_refl _, Nat.zero_le _, hok, .inl rfl⟩, fun _ => rfl, fun g o e => by cases e⟩
  · refine ⟨some ⟨g, 0, none⟩, cap, rfl, ⟨hl, hc, by omega, hok, .inr ⟨g, 0, rfl, fun i hi j v hj => ?_⟩⟩, (fun e => by cases e), fun g' o' e => by cases e; exact ⟨hb, rfl⟩⟩
    have := h.cells (g := g) rfl _ _ (icL_at l hok i hi j v hj)
    rw [add_plain] at this
    rw [Nat.zero_add]
    simpa using this
def bigL (l : List ItT) : Bool := decide (60 < l.length) || l.any fun x => decide (1000 < x.e.t.size)
theorem bigL_yes {l : List ItT} (i : Nat) (hi : i < l.length) (h : 1000 < l[i].e.t.size) : bigL l = true := by
  unfold bigL
  rw [Bool.or_eq_true, List.any_eq_true]
  exact .inr ⟨l[i], List.getElem_mem hi, by simpa using h⟩
theorem bigL_no {l : List ItT} (hl : l.length ≤ 60) (h : ∀ x ∈ l, x.e.t.size ≤ 1000) : bigL l = false := by
  unfold bigL
  rw [Bool.or_eq_false_iff, List.any_eq_false]
  exact ⟨decide_eq_false (by omega), fun x hx => by have := h x hx; simp; omega⟩
theorem bigL_false {l : List ItT} (h : bigL l = false) : l.length ≤ 60 ∧ ∀ x ∈ l, x.e.t.size ≤ 1000 := by
  unfold bigL at h
  rw [Bool.or_eq_false_iff, List.any_eq_false] at h
  refine ⟨by have := h.1; simp at this; omega, fun x hx => by have := h.2 x hx; simp at this; omega⟩
theorem take_mem_succ {α : Type} {l : List α} {k : Nat} (hk : k < l.length) {P : α → Prop} (h : ∀ x ∈ l.take k, P x) (h1 : P l[k]) : ∀ x ∈ l.take (k + 1), P x := by
  intro x hx
  rw [List.take_succ_eq_append_getElem hk] at hx
  rcases List.mem_append.1 hx with hx | hx
  · exact h x hx
  · obtain rfl : x = l[k] := by simpa using hx
    exact h1
set_option maxHeartbeats 2000000 in
theorem refBig_any (a : Option Addr) (len cap : Nat) (l : List ItT) (w : World) (h : IReads w a len cap l) (ht : ∀ x ∈ l, x.e.t.size ≤ maxLen) :
    Calls Tryz.prog 4 #[.slice a len cap] w fun e w' => e = .returned (.bool (bigL l)) ∧ w = w' := by
  have H := hidk h
  have HL := hidk h.ln
  have HT := hidk ht
  have hmx : len ≤ 9223372036854775807 := by have := h.mx; unfold maxLen at this; omega
  by_cases h5 : len ≤ 60
  · have h5' : decide ((60 : Int) < (len : Int)) = false := by rw [decide_eq_false_iff_not]; omega
    clear h ht
    go_enter Tryz.func4, Tryz.ntmps4
    go_wp2
    go_loop [3] (fun i => ∃ k : Nat, k ≤ len ∧ i = .int .i64 k ∧ Hid (∀ s ∈ l.take k, s.e.t.size ≤ 1000)) (fun i => len - (intOf i).toNat)
    case atStart => exact ⟨0, by omega, rfl, fun s hs => by simp at hs⟩
    case round =>
      obtain ⟨k, hk, rfl, HA⟩ := hrel
      by_cases hlt : k < len
      · obtain ⟨g, o, rfl, hg⟩ := H.out.at (by omega)
        have hkl : k < l.length := by have := HL.out; omega
        obtain ⟨t, Ht⟩ : ∃ t, Hid (t = l[k].e.t) := ⟨_, hidk rfl⟩
        have hc := H.out.cell k hkl 4 (.string t) (by rw [Ht.out]; rfl)
        have hts : t.size ≤ maxLen := by rw [Ht.out]; exact HT.out _ (List.getElem_mem hkl)
        unfold maxLen at hts
        have ix := fun W => index_item W g o len cap k .i64 hlt
        have hd : decide ((k : Int) < (len : Int)) = true := by rw [decide_eq_true_eq]; omega
        have hw1 := wrap_int ((k : Int) + 1) (by omega) (by omega)
        have htm : t.size ≤ 9223372036854775807 := by omega
        by_cases h4 : t.size ≤ 1000
        · have h4' : decide ((1000 : Int) < (t.size : Int)) = false := by rw [decide_eq_false_iff_not]; omega
          have HN : Hid (∀ s ∈ l.take (k + 1), s.e.t.size ≤ 1000) := take_mem_succ hkl HA.out (by rw [← Ht.out]; exact h4)
          clear Ht hkl
          go_wp2
          go_round
          case rel => exact ⟨k + 1, by omega, by go_num, HN⟩
          case measure => simp [intOf]; omega
        · have h4' : decide ((1000 : Int) < (t.size : Int)) = true := by rw [decide_eq_true_eq]; omega
          have HN : Hid (bigL l = true) := bigL_yes k hkl (by rw [← Ht.out]; omega)
          clear Ht hkl
          go_wp2
          go_ret
          exact ⟨by rw [HN.out]; rfl, rfl⟩
      · obtain rfl : len = k := by omega
        have hd : decide ((len : Int) < (len : Int)) = false := by rw [decide_eq_false_iff_not]; omega
        have HN : Hid (bigL l = false) := bigL_no (by have := HL.out; omega) (by have := HA.out; rwa [List.take_of_length_le (by have := HL.out; omega)] at this)
        go_wp2
        go_ret
        exact ⟨by rw [HN.out]; rfl, rfl⟩
  · have h5' : decide ((60 : Int) < (len : Int)) = true := by rw [decide_eq_true_eq]; omega
    have HN : Hid (bigL l = true) := by show _ = _; unfold bigL; rw [HL.out]; simp; left; omega
    clear h ht
    go_enter Tryz.func4, Tryz.ntmps4
    go_wp2
    go_ret
    exact ⟨by rw [HN.out]; rfl, rfl⟩
set_option maxHeartbeats 2000000 in
theorem refOwn_any (a : Option Addr) (len cap : Nat) (l : List ItT) (w : World) (h : IReads w a len cap l) (hc0 : a = none → cap = 0) (hlen : len ≤ 1000000) :
    Calls Tryz.prog 5 #[.slice a len cap] w fun e w' => ∃ v, e = .returned v ∧ w'.ownsRow w.heap.size 47 110 v len (icL l) ∧ Below w.heap.size w w' := by
  obtain ⟨v, w', hr, ho, hg⟩ := run_append_items h hc0 w.heap.size 0 (.slice none 0 0) [] ⟨rfl, .inl ⟨rfl, rfl⟩⟩ (Nat.le_refl _) (by omega)
  have HB : Hid (Below w.heap.size w w') := (Below.refl _ _).grown hg (Nat.le_refl _) (fun k e => by cases e)
  rw [List.nil_append, Nat.zero_add] at ho
  have HO := hidk ho
  clear ho hg h
  go_enter Tryz.func5, Tryz.ntmps5
  go_wp2_with (first
    | (show aD 6 _ _ _ _ _ _ _ _ _ _ _; refine wpList_append_run rfl (.tmp 4) (.tmp 5) 24 24 rfl (.slice none 0 0) (.slice a len cap) v w' rfl rfl hr ?_; try simp only [Act.put, pS1, pS2, pS3])
    | fail)
  go_ret
  exact ⟨v, rfl, HO.out, HB.out⟩
set_option maxHeartbeats 2000000 in
theorem refSame_any (a1 a2 : Option Addr) (len c1 c2 : Nat) (l : List ItT) (w : World) (h1 : IReads w a1 len c1 l) (h2 : IReads w a2 len c2 l) :
    Calls Tryz.prog 12 #[.slice a1 len c1, .slice a2 len c2] w fun e w' => e = .returned (.bool true) ∧ Below w.heap.size w w' := by
  have hlen := h1.ln
  have hmx : len ≤ 9223372036854775807 := by have := h1.mx; unfold maxLen at this; omega
  have H1 := hidk h1
  have H2 := hidk h2
  clear h1 h2
  have hdn : (!((len : Int) == (len : Int))) = false := by simp
  go_enter Tryz.func12, Tryz.ntmps12
  go_wp2
  go_loopw [5] (fun v wr => ∃ i : Nat, i ≤ len ∧ v = .int .i64 i ∧ Below w.heap.size w wr) (fun v _ => len - (intOf v).toNat)
  case atStart => exact ⟨0, by omega, rfl, Below.refl _ _⟩
  case round =>
    obtain ⟨i, hi, rfl, hB⟩ := hrel
    by_cases hlt : i < len
    · have hdi : decide ((i : Int) < (len : Int)) = true := by rw [decide_eq_true_eq]; omega
      have hw := wrap_int ((i : Int) + 1) (by omega) (by omega)
      obtain ⟨g1, o1, rfl, hg1⟩ := H1.out.at (by omega)
      obtain ⟨g2, o2, rfl, hg2⟩ := H2.out.at (by omega)
      have hil : i < l.length := by omega
      obtain ⟨A, HA⟩ : ∃ A, Hid (A = icells l[i]) := ⟨_, hidk rfl⟩
      have hok := H1.out.ok _ (List.getElem_mem hil)
      have z0 : (Tryz.prog.info? 47).map (·.size) = some A.length := by rw [sizeI, HA.out, icells_length _ hok]
      have hne := fun W => neqItem l[i] l[i] hok hok A.toArray A.toArray (by show _ = _; rw [HA.out]) (by show _ = _; rw [HA.out]) false (by simp) W
      have hS : wr.rangeAt g1 (o1 + 110 * i) A ∧ wr.rangeAt g2 (o2 + 110 * i) A := by
        rw [HA.out]
        exact ⟨(H1.out.keep hB).range i hil, (H2.out.keep hB).range i hil⟩
      have ix1 := fun W => index_item W g1 o1 len c1 i .i64 hlt
      have ix2 := fun W => index_item W g2 o2 len c2 i .i64 hlt
      clear HA hok hil
      go_wp2
      refine wp_region_held_drew (S := (fun W => W.rangeAt g1 (o1 + 110 * i) A ∧ W.rangeAt g2 (o2 + 110 * i) A)) (by kernel_rfl) hS (fun hHeld => ?_)
      refine zW 0 (.slice (some ⟨g1, o1, none⟩) len c1) rfl (Or.inl ⟨by rfl, by intro w hSw; go_simp⟩) hHeld ?_
      try simp only [Act.put, pS1, pS2, pS3]
      refine zW 1 (.int .i64 i) rfl (Or.inl ⟨by rfl, by intro w hSw; go_simp⟩) hHeld ?_
      try simp only [Act.put, pS1, pS2, pS3]
      refine zW 2 (.pointer (some ⟨g1, o1 + 110 * i, none⟩)) rfl (Or.inl ⟨by rfl, by intro W hSw; have := ix1 W; go_simp⟩) hHeld ?_
      try simp only [Act.put, pS1, pS2, pS3]
      refine zW 3 (.agg A.toArray) rfl (yieldsIf_load_mid (by rfl) 47 (.tmp 19) rfl _ _ rfl A _ (fun _ h => h.1) Tryz.underlying47 rfl z0) hHeld ?_
      try simp only [Act.put, pS1, pS2, pS3]
      refine zW 4 (.slice (some ⟨g2, o2, none⟩) len c2) rfl (Or.inl ⟨by rfl, by intro w hSw; go_simp⟩) hHeld ?_
      try simp only [Act.put, pS1, pS2, pS3]
      refine zW 5 (.int .i64 i) rfl (Or.inl ⟨by rfl, by intro w hSw; go_simp⟩) hHeld ?_
      try simp only [Act.put, pS1, pS2, pS3]
      refine zW 6 (.pointer (some ⟨g2, o2 + 110 * i, none⟩)) rfl (Or.inl ⟨by rfl, by intro W hSw; have := ix2 W; go_simp⟩) hHeld ?_
      try simp only [Act.put, pS1, pS2, pS3]
      refine zW 7 (.agg A.toArray) rfl (yieldsIf_load_mid (by rfl) 47 (.tmp 23) rfl _ _ rfl A _ (fun _ h => h.2) Tryz.underlying47 rfl z0) hHeld ?_
      try simp only [Act.put, pS1, pS2, pS3]
      refine zW 8 (.bool false) rfl (Or.inl ⟨by rfl, by intro W hSw; have := hne W; go_simp⟩) hHeld ?_
      try simp only [Act.put, pS1, pS2, pS3]
      refine wpAnyH_done (by kernel_rfl) ?_ _
      go_wp2
      go_roundw
      case rel => exact ⟨i + 1, by omega, by go_num, hB.drew⟩
      case measure => simp [intOf]; omega
    · obtain rfl : len = i := by omega
      go_wp2
      go_ret
      exact ⟨rfl, hB⟩
theorem right_yes {l : List ItT} (hl : l.length ≤ 2000) (h : rightK l l.length = true) : rightL l = true := by
  unfold rightL; rw [h, decide_eq_true hl]; rfl
theorem right_no {l : List ItT} {k : Nat} (hk : k < l.length) (h : okAt l k = false) : rightL l = false := by
  rw [Bool.eq_false_iff]
  intro hr
  have := ((rightL_iff l).1 hr).2 k hk
  rw [h] at this
  cases this
theorem right_long {l : List ItT} (h : 2000 < l.length) : rightL l = false := by
  unfold rightL; rw [decide_eq_false (by omega)]; rfl
theorem okAt_zero {l : List ItT} (h : 0 < l.length) : okAt l 0 = rightI l[0] := by
  unfold okAt; rw [List.getElem?_eq_getElem h]; simp
theorem okAt_succ {l : List ItT} {j : Nat} (h : j + 1 < l.length) : okAt l (j + 1) = (rightI l[j + 1] && decide (l[j].p ≤ l[j + 1].p)) := by
  unfold okAt
  rw [List.getElem?_eq_getElem h, Nat.add_sub_cancel, List.getElem?_eq_getElem (show j < l.length by omega)]
  simp
theorem keepR {W W' : World} {g o q r : Nat} {X : List Value} {v u : Value} (hb : Below W.heap.size W W') (h : W.rangeAt g o X ∧ W.cell? ⟨g, q, none⟩ = some v ∧ W.cell? ⟨g, r, none⟩ = some u) :
    W'.rangeAt g o X ∧ W'.cell? ⟨g, q, none⟩ = some v ∧ W'.cell? ⟨g, r, none⟩ = some u := by
  have hg : g < W.heap.size := World.block_lt_of_cell? _ _ h.2.1
  exact ⟨range_below h.1 hb hg, by rw [hb.cell hg]; exact h.2.1, by rw [hb.cell hg]; exact h.2.2⟩
set_option maxHeartbeats 8000000 in
theorem refRightL_any (a : Option Addr) (len cap : Nat) (l : List ItT) (w : World) (h : IReads w a len cap l) :
    Calls Tryz.prog 22 #[.slice a len cap] w fun e w' => e = .returned (.bool (rightL l)) ∧ Below w.heap.size w w' := by
  have H := hidk h
  have HL := hidk h.ln
  have hmx : len ≤ 9223372036854775807 := by have := h.mx; unfold maxLen at this; omega
  clear h
  by_cases h5 : len ≤ 2000
  · have h5' : decide ((2000 : Int) < (len : Int)) = false := by rw [decide_eq_false_iff_not]; omega
    go_enter Tryz.func22, Tryz.ntmps22
    go_wp2
    go_loopw [3] (fun v wr => ∃ k : Nat, k ≤ len ∧ v = .int .i64 k ∧ Hid (Below w.heap.size w wr) ∧ Hid (rightK l k = true)) (fun v _ => len - (intOf v).toNat)
    case atStart => exact ⟨0, by omega, rfl, Below.refl _ _, hidk rfl⟩
    case round =>
      obtain ⟨k, hk, rfl, HB, HN⟩ := hrel
      by_cases hlt : k < len
      · have hd : decide ((k : Int) < (len : Int)) = true := by rw [decide_eq_true_eq]; omega
        have hw1 := wrap_int ((k : Int) + 1) (by omega) (by omega)
        obtain ⟨g, o, rfl, hg⟩ := H.out.at (by omega)
        have hkl : k < l.length := by have := HL.out; omega
        obtain ⟨j, HJ, hj2⟩ : ∃ j, Hid (j = k - 1) ∧ j < len := ⟨_, hidk rfl, by omega⟩
        have hjl : j < l.length := by have := HL.out; omega
        obtain ⟨X, HX⟩ : ∃ X, Hid (X = icells l[k]) := ⟨_, hidk rfl⟩
        obtain ⟨px, hpx⟩ : ∃ p, l[k].p = p := ⟨_, rfl⟩
        obtain ⟨py, hpy⟩ : ∃ p, l[j].p = p := ⟨_, rfl⟩
        obtain ⟨ri, hri⟩ : ∃ b, rightI l[k] = b := ⟨_, rfl⟩
        have hok := H.out.ok _ (List.getElem_mem hkl)
        have z0 : (Tryz.prog.info? 47).map (·.size) = some X.length := by rw [sizeI, HX.out, icells_length _ hok]
        have hS : wr.rangeAt g (o + 110 * k) X ∧ wr.cell? ⟨g, o + 110 * k, none⟩ = some (.int .i64 px) ∧ wr.cell? ⟨g, o + 110 * j, none⟩ = some (.int .i64 py) := by
          rw [HX.out, ← hpx, ← hpy]
          have hr := H.out.keep HB.out
          exact ⟨hr.range k hkl, hr.cell k hkl 0 _ rfl, hr.cell j hjl 0 _ rfl⟩
        have RI : Hid (∀ W, Calls Tryz.prog 39 #[.agg X.toArray] W fun e w' => e = .returned (.bool ri) ∧ Below W.heap.size W w') := fun W => by rw [← hri]; exact refRightI_any l[k] hok W X.toArray (by show _ = _; rw [HX.out])
        have ix1 := fun W => index_item W g o len cap k .i64 hlt
        have ix2 := fun W => index_item W g o len cap j .i64 hj2
        have HF : Hid ((k = 0 → okAt l k = ri) ∧ (0 < k → okAt l k = (ri && decide (py ≤ px)))) := by
          refine ⟨fun h0 => ?_, fun h0 => ?_⟩
          · subst h0; rw [okAt_zero hkl, hri]
          · obtain ⟨i, rfl⟩ : ∃ i, k = i + 1 := ⟨k - 1, by omega⟩
            obtain rfl : j = i := by have := HJ.out; omega
            rw [okAt_succ hkl, hri, hpx, hpy]
        have HNO : Hid (okAt l k = false → rightL l = false) := right_no hkl
        have HYE : Hid (okAt l k = true → rightK l (k + 1) = true) := fun hh => by rw [rightK_succ, HN.out, hh]; rfl
        clear hri hpx hpy HX HN hok hkl hjl
        cases ri
        · have hko : okAt l k = false := by
            by_cases h0 : k = 0
            · exact HF.out.1 h0
            · exact HF.out.2 (by omega)
          clear HF
          go_wp2
          refine wp_region_held_drew (S := (fun W => W.rangeAt g (o + 110 * k) X ∧ W.cell? ⟨g, o + 110 * k, none⟩ = some (.int .i64 px) ∧ W.cell? ⟨g, o + 110 * j, none⟩ = some (.int .i64 py))) (by kernel_rfl) hS (fun hHeld => ?_)
          refine zW 0 (.slice (some ⟨g, o, none⟩) len cap) rfl (Or.inl ⟨by rfl, by intro w hSw; go_simp⟩) hHeld ?_
          try simp only [Act.put, pS1, pS2, pS3]
          refine zW 1 (.int .i64 k) rfl (Or.inl ⟨by rfl, by intro w hSw; go_simp⟩) hHeld ?_
          try simp only [Act.put, pS1, pS2, pS3]
          refine zW 2 (.pointer (some ⟨g, o + 110 * k, none⟩)) rfl (Or.inl ⟨by rfl, by intro W hSw; have := ix1 W; go_simp⟩) hHeld ?_
          try simp only [Act.put, pS1, pS2, pS3]
          refine zW 3 (.agg X.toArray) rfl (yieldsIf_load_mid (by rfl) 47 (.tmp 15) rfl _ _ rfl X _ (fun _ h => h.1) Tryz.underlying47 rfl z0) hHeld ?_
          try simp only [Act.put, pS1, pS2, pS3]
          refine wpAnyH_ready (rs := [4]) (by kernel_rfl) (by simp) ?_
          refine AllReadyH.cons (o := { dst := some 17, op := .call { callee := .value (.func 39), args := #[.tmp 16], argTypes := #[47] }, type := 4, pos := "ref.go:17", after := #[zD 3], guard := none }) rfl (fun K hK => ?_) AllReadyH.nil
          go_simp
          refine (RI.out _).mono ?_
          rintro e w1 ⟨rfl, hb1⟩
          go_wp2_with fail
          refine hK.out _ _ (keepR (Below.trans (Below.refl _ _).drew hb1) hS) (fun hHeld => ?_)
          clear hK K
          try simp only [Act.put, pS1, pS2, pS3]
          refine zW 5 (.bool true) rfl (Or.inl ⟨by rfl, by intro w hSw; go_simp⟩) hHeld ?_
          try simp only [Act.put, pS1, pS2, pS3]
          refine zW 6 (.bool true) rfl (Or.inl ⟨by rfl, by intro w hSw; go_simp⟩) hHeld ?_
          try simp only [Act.put, pS1, pS2, pS3]
          refine zW 7 (undef) rfl (Or.inr ⟨by rfl, rfl⟩) hHeld ?_
          try simp only [Act.put, pS1, pS2, pS3]
          refine zW 8 (undef) rfl (Or.inr ⟨by rfl, rfl⟩) hHeld ?_
          try simp only [Act.put, pS1, pS2, pS3]
          refine zW 9 (undef) rfl (Or.inr ⟨by rfl, rfl⟩) hHeld ?_
          try simp only [Act.put, pS1, pS2, pS3]
          refine zW 10 (undef) rfl (Or.inr ⟨by rfl, rfl⟩) hHeld ?_
          try simp only [Act.put, pS1, pS2, pS3]
          refine zW 11 (undef) rfl (Or.inr ⟨by rfl, rfl⟩) hHeld ?_
          try simp only [Act.put, pS1, pS2, pS3]
          refine zW 12 (undef) rfl (Or.inr ⟨by rfl, rfl⟩) hHeld ?_
          try simp only [Act.put, pS1, pS2, pS3]
          refine zW 13 (undef) rfl (Or.inr ⟨by rfl, rfl⟩) hHeld ?_
          try simp only [Act.put, pS1, pS2, pS3]
          refine zW 14 (undef) rfl (Or.inr ⟨by rfl, rfl⟩) hHeld ?_
          try simp only [Act.put, pS1, pS2, pS3]
          refine zW 15 (undef) rfl (Or.inr ⟨by rfl, rfl⟩) hHeld ?_
          try simp only [Act.put, pS1, pS2, pS3]
          refine zW 16 (undef) rfl (Or.inr ⟨by rfl, rfl⟩) hHeld ?_
          try simp only [Act.put, pS1, pS2, pS3]
          refine zW 17 (undef) rfl (Or.inr ⟨by rfl, rfl⟩) hHeld ?_
          try simp only [Act.put, pS1, pS2, pS3]
          refine zW 18 (undef) rfl (Or.inr ⟨by rfl, rfl⟩) hHeld ?_
          try simp only [Act.put, pS1, pS2, pS3]
          refine zW 19 (undef) rfl (Or.inr ⟨by rfl, rfl⟩) hHeld ?_
          try simp only [Act.put, pS1, pS2, pS3]
          refine zW 20 (undef) rfl (Or.inr ⟨by rfl, rfl⟩) hHeld ?_
          try simp only [Act.put, pS1, pS2, pS3]
          refine zW 21 (undef) rfl (Or.inr ⟨by rfl, rfl⟩) hHeld ?_
          try simp only [Act.put, pS1, pS2, pS3]
          refine zW 22 (undef) rfl (Or.inr ⟨by rfl, rfl⟩) hHeld ?_
          try simp only [Act.put, pS1, pS2, pS3]
          refine zW 23 (.bool true) rfl (Or.inl ⟨by rfl, by intro w hSw; go_simp⟩) hHeld ?_
          try simp only [Act.put, pS1, pS2, pS3]
          refine wpAnyH_done (by kernel_rfl) ?_ _
          go_wp2
          go_ret
          exact ⟨by rw [HNO.out hko]; rfl, HB.out.trans ((Below.trans (Below.refl _ _).drew hb1).mono HB.out.size)⟩
        · by_cases h0 : k = 0
          · have h0' : decide ((0 : Int) < (k : Int)) = false := by rw [decide_eq_false_iff_not]; omega
            have hko : okAt l k = true := HF.out.1 h0
            clear HF
            go_wp2
            refine wp_region_held_drew (S := (fun W => W.rangeAt g (o + 110 * k) X ∧ W.cell? ⟨g, o + 110 * k, none⟩ = some (.int .i64 px) ∧ W.cell? ⟨g, o + 110 * j, none⟩ = some (.int .i64 py))) (by kernel_rfl) hS (fun hHeld => ?_)
            refine zW 0 (.slice (some ⟨g, o, none⟩) len cap) rfl (Or.inl ⟨by rfl, by intro w hSw; go_simp⟩) hHeld ?_
            try simp only [Act.put, pS1, pS2, pS3]
            refine zW 1 (.int .i64 k) rfl (Or.inl ⟨by rfl, by intro w hSw; go_simp⟩) hHeld ?_
            try simp only [Act.put, pS1, pS2, pS3]
            refine zW 2 (.pointer (some ⟨g, o + 110 * k, none⟩)) rfl (Or.inl ⟨by rfl, by intro W hSw; have := ix1 W; go_simp⟩) hHeld ?_
            try simp only [Act.put, pS1, pS2, pS3]
            refine zW 3 (.agg X.toArray) rfl (yieldsIf_load_mid (by rfl) 47 (.tmp 15) rfl _ _ rfl X _ (fun _ h => h.1) Tryz.underlying47 rfl z0) hHeld ?_
            try simp only [Act.put, pS1, pS2, pS3]
            refine wpAnyH_ready (rs := [4]) (by kernel_rfl) (by simp) ?_
            refine AllReadyH.cons (o := { dst := some 17, op := .call { callee := .value (.func 39), args := #[.tmp 16], argTypes := #[47] }, type := 4, pos := "ref.go:17", after := #[zD 3], guard := none }) rfl (fun K hK => ?_) AllReadyH.nil
            go_simp
            refine (RI.out _).mono ?_
            rintro e w1 ⟨rfl, hb1⟩
            go_wp2_with fail
            refine hK.out _ _ (keepR (Below.trans (Below.refl _ _).drew hb1) hS) (fun hHeld => ?_)
            clear hK K
            try simp only [Act.put, pS1, pS2, pS3]
            refine zW 5 (.bool false) rfl (Or.inl ⟨by rfl, by intro w hSw; go_simp⟩) hHeld ?_
            try simp only [Act.put, pS1, pS2, pS3]
            refine zW 6 (.bool false) rfl (Or.inl ⟨by rfl, by intro w hSw; go_simp⟩) hHeld ?_
            try simp only [Act.put, pS1, pS2, pS3]
            refine zW 7 (.int .i64 k) rfl (Or.inl ⟨by rfl, by intro w hSw; go_simp⟩) hHeld ?_
            try simp only [Act.put, pS1, pS2, pS3]
            refine zW 8 (.bool false) rfl (Or.inl ⟨by rfl, by intro w hSw; go_simp⟩) hHeld ?_
            try simp only [Act.put, pS1, pS2, pS3]
            refine zW 9 (.bool false) rfl (Or.inl ⟨by rfl, by intro w hSw; go_simp⟩) hHeld ?_
            try simp only [Act.put, pS1, pS2, pS3]
            refine zW 10 (undef) rfl (Or.inr ⟨by rfl, rfl⟩) hHeld ?_
            try simp only [Act.put, pS1, pS2, pS3]
            refine zW 11 (undef) rfl (Or.inr ⟨by rfl, rfl⟩) hHeld ?_
            try simp only [Act.put, pS1, pS2, pS3]
            refine zW 12 (undef) rfl (Or.inr ⟨by rfl, rfl⟩) hHeld ?_
            try simp only [Act.put, pS1, pS2, pS3]
            refine zW 13 (undef) rfl (Or.inr ⟨by rfl, rfl⟩) hHeld ?_
            try simp only [Act.put, pS1, pS2, pS3]
            refine zW 14 (undef) rfl (Or.inr ⟨by rfl, rfl⟩) hHeld ?_
            try simp only [Act.put, pS1, pS2, pS3]
            refine zW 15 (undef) rfl (Or.inr ⟨by rfl, rfl⟩) hHeld ?_
            try simp only [Act.put, pS1, pS2, pS3]
            refine zW 16 (undef) rfl (Or.inr ⟨by rfl, rfl⟩) hHeld ?_
            try simp only [Act.put, pS1, pS2, pS3]
            refine zW 17 (undef) rfl (Or.inr ⟨by rfl, rfl⟩) hHeld ?_
            try simp only [Act.put, pS1, pS2, pS3]
            refine zW 18 (undef) rfl (Or.inr ⟨by rfl, rfl⟩) hHeld ?_
            try simp only [Act.put, pS1, pS2, pS3]
            refine zW 19 (undef) rfl (Or.inr ⟨by rfl, rfl⟩) hHeld ?_
            try simp only [Act.put, pS1, pS2, pS3]
            refine zW 20 (undef) rfl (Or.inr ⟨by rfl, rfl⟩) hHeld ?_
            try simp only [Act.put, pS1, pS2, pS3]
            refine zW 21 (undef) rfl (Or.inr ⟨by rfl, rfl⟩) hHeld ?_
            try simp only [Act.put, pS1, pS2, pS3]
            refine zW 22 (.bool false) rfl (Or.inl ⟨by rfl, by intro w hSw; go_simp⟩) hHeld ?_
            try simp only [Act.put, pS1, pS2, pS3]
            refine zW 23 (.bool false) rfl (Or.inl ⟨by rfl, by intro w hSw; go_simp⟩) hHeld ?_
            try simp only [Act.put, pS1, pS2, pS3]
            refine wpAnyH_done (by kernel_rfl) ?_ _
            go_wp2
            go_roundw
            case rel => exact ⟨k + 1, by omega, by go_num, HB.out.trans ((Below.trans (Below.refl _ _).drew hb1).mono HB.out.size), HYE.out hko⟩
            case measure => simp [intOf]; omega
          · have h0' : decide ((0 : Int) < (k : Int)) = true := by rw [decide_eq_true_eq]; omega
            have hsub : IntKind.i64.wrap ((k : Int) - 1) = (j : Int) := by rw [wrap_int _ (by omega) (by omega)]; have := HJ.out; omega
            have h0n : 0 < k := by omega
            by_cases hlow : py ≤ px
            · have hl' : decide (px < py) = false := by rw [decide_eq_false_iff_not]; omega
              have hko : okAt l k = true := by rw [HF.out.2 (by omega), decide_eq_true hlow]; rfl
              clear HF
              go_wp2
              refine wp_region_held_drew (S := (fun W => W.rangeAt g (o + 110 * k) X ∧ W.cell? ⟨g, o + 110 * k, none⟩ = some (.int .i64 px) ∧ W.cell? ⟨g, o + 110 * j, none⟩ = some (.int .i64 py))) (by kernel_rfl) hS (fun hHeld => ?_)
              refine zW 0 (.slice (some ⟨g, o, none⟩) len cap) rfl (Or.inl ⟨by rfl, by intro w hSw; go_simp⟩) hHeld ?_
              try simp only [Act.put, pS1, pS2, pS3]
              refine zW 1 (.int .i64 k) rfl (Or.inl ⟨by rfl, by intro w hSw; go_simp⟩) hHeld ?_
              try simp only [Act.put, pS1, pS2, pS3]
              refine zW 2 (.pointer (some ⟨g, o + 110 * k, none⟩)) rfl (Or.inl ⟨by rfl, by intro W hSw; have := ix1 W; go_simp⟩) hHeld ?_
              try simp only [Act.put, pS1, pS2, pS3]
              refine zW 3 (.agg X.toArray) rfl (yieldsIf_load_mid (by rfl) 47 (.tmp 15) rfl _ _ rfl X _ (fun _ h => h.1) Tryz.underlying47 rfl z0) hHeld ?_
              try simp only [Act.put, pS1, pS2, pS3]
              refine wpAnyH_ready (rs := [4]) (by kernel_rfl) (by simp) ?_
              refine AllReadyH.cons (o := { dst := some 17, op := .call { callee := .value (.func 39), args := #[.tmp 16], argTypes := #[47] }, type := 4, pos := "ref.go:17", after := #[zD 3], guard := none }) rfl (fun K hK => ?_) AllReadyH.nil
              go_simp
              refine (RI.out _).mono ?_
              rintro e w1 ⟨rfl, hb1⟩
              go_wp2_with fail
              refine hK.out _ _ (keepR (Below.trans (Below.refl _ _).drew hb1) hS) (fun hHeld => ?_)
              clear hK K
              try simp only [Act.put, pS1, pS2, pS3]
              refine zW 5 (.bool false) rfl (Or.inl ⟨by rfl, by intro w hSw; go_simp⟩) hHeld ?_
              try simp only [Act.put, pS1, pS2, pS3]
              refine zW 6 (.bool false) rfl (Or.inl ⟨by rfl, by intro w hSw; go_simp⟩) hHeld ?_
              try simp only [Act.put, pS1, pS2, pS3]
              refine zW 7 (.int .i64 k) rfl (Or.inl ⟨by rfl, by intro w hSw; go_simp⟩) hHeld ?_
              try simp only [Act.put, pS1, pS2, pS3]
              refine zW 8 (.bool true) rfl (Or.inl ⟨by rfl, by intro w hSw; go_simp⟩) hHeld ?_
              try simp only [Act.put, pS1, pS2, pS3]
              refine zW 9 (.bool true) rfl (Or.inl ⟨by rfl, by intro w hSw; go_simp⟩) hHeld ?_
              try simp only [Act.put, pS1, pS2, pS3]
              refine zW 10 (.slice (some ⟨g, o, none⟩) len cap) rfl (Or.inl ⟨by rfl, by intro w hSw; go_simp⟩) hHeld ?_
              try simp only [Act.put, pS1, pS2, pS3]
              refine zW 11 (.int .i64 k) rfl (Or.inl ⟨by rfl, by intro w hSw; go_simp⟩) hHeld ?_
              try simp only [Act.put, pS1, pS2, pS3]
              refine zW 12 (.int .i64 j) rfl (Or.inl ⟨by rfl, by intro W hSw; have := hsub; go_simp⟩) hHeld ?_
              try simp only [Act.put, pS1, pS2, pS3]
              refine zW 13 (.pointer (some ⟨g, o + 110 * j, none⟩)) rfl (Or.inl ⟨by rfl, by intro W hSw; have := ix2 W; go_simp⟩) hHeld ?_
              try simp only [Act.put, pS1, pS2, pS3]
              refine zW 14 (.pointer (some ⟨g, o + 110 * j, none⟩)) rfl (Or.inl ⟨by rfl, by intro w hSw; go_simp⟩) hHeld ?_
              try simp only [Act.put, pS1, pS2, pS3]
              refine zW 15 (.int .i64 py) rfl (Or.inl ⟨by rfl, by intro W hSw; have h1 := hSw.2.2; go_simp⟩) hHeld ?_
              try simp only [Act.put, pS1, pS2, pS3]
              refine zW 16 (.slice (some ⟨g, o, none⟩) len cap) rfl (Or.inl ⟨by rfl, by intro w hSw; go_simp⟩) hHeld ?_
              try simp only [Act.put, pS1, pS2, pS3]
              refine zW 17 (.int .i64 k) rfl (Or.inl ⟨by rfl, by intro w hSw; go_simp⟩) hHeld ?_
              try simp only [Act.put, pS1, pS2, pS3]
              refine zW 18 (.pointer (some ⟨g, o + 110 * k, none⟩)) rfl (Or.inl ⟨by rfl, by intro W hSw; have := ix1 W; go_simp⟩) hHeld ?_
              try simp only [Act.put, pS1, pS2, pS3]
              refine zW 19 (.pointer (some ⟨g, o + 110 * k, none⟩)) rfl (Or.inl ⟨by rfl, by intro w hSw; go_simp⟩) hHeld ?_
              try simp only [Act.put, pS1, pS2, pS3]
              refine zW 20 (.int .i64 px) rfl (Or.inl ⟨by rfl, by intro W hSw; have h1 := hSw.2.1; go_simp⟩) hHeld ?_
              try simp only [Act.put, pS1, pS2, pS3]
              refine zW 21 (.bool false) rfl (Or.inl ⟨by rfl, by intro w hSw; go_simp⟩) hHeld ?_
              try simp only [Act.put, pS1, pS2, pS3]
              refine zW 22 (.bool false) rfl (Or.inl ⟨by rfl, by intro w hSw; go_simp⟩) hHeld ?_
              try simp only [Act.put, pS1, pS2, pS3]
              refine zW 23 (.bool false) rfl (Or.inl ⟨by rfl, by intro w hSw; go_simp⟩) hHeld ?_
              try simp only [Act.put, pS1, pS2, pS3]
              refine wpAnyH_done (by kernel_rfl) ?_ _
              go_wp2
              go_roundw
              case rel => exact ⟨k + 1, by omega, by go_num, HB.out.trans ((Below.trans (Below.refl _ _).drew hb1).mono HB.out.size), HYE.out hko⟩
              case measure => simp [intOf]; omega
            · have hl' : decide (px < py) = true := by rw [decide_eq_true_eq]; omega
              have hko : okAt l k = false := by rw [HF.out.2 (by omega), decide_eq_false hlow]; rfl
              clear HF
              go_wp2
              refine wp_region_held_drew (S := (fun W => W.rangeAt g (o + 110 * k) X ∧ W.cell? ⟨g, o + 110 * k, none⟩ = some (.int .i64 px) ∧ W.cell? ⟨g, o + 110 * j, none⟩ = some (.int .i64 py))) (by kernel_rfl) hS (fun hHeld => ?_)
              refine zW 0 (.slice (some ⟨g, o, none⟩) len cap) rfl (Or.inl ⟨by rfl, by intro w hSw; go_simp⟩) hHeld ?_
              try simp only [Act.put, pS1, pS2, pS3]
              refine zW 1 (.int .i64 k) rfl (Or.inl ⟨by rfl, by intro w hSw; go_simp⟩) hHeld ?_
              try simp only [Act.put, pS1, pS2, pS3]
              refine zW 2 (.pointer (some ⟨g, o + 110 * k, none⟩)) rfl (Or.inl ⟨by rfl, by intro W hSw; have := ix1 W; go_simp⟩) hHeld ?_
              try simp only [Act.put, pS1, pS2, pS3]
              refine zW 3 (.agg X.toArray) rfl (yieldsIf_load_mid (by rfl) 47 (.tmp 15) rfl _ _ rfl X _ (fun _ h => h.1) Tryz.underlying47 rfl z0) hHeld ?_
              try simp only [Act.put, pS1, pS2, pS3]
              refine wpAnyH_ready (rs := [4]) (by kernel_rfl) (by simp) ?_
              refine AllReadyH.cons (o := { dst := some 17, op := .call { callee := .value (.func 39), args := #[.tmp 16], argTypes := #[47] }, type := 4, pos := "ref.go:17", after := #[zD 3], guard := none }) rfl (fun K hK => ?_) AllReadyH.nil
              go_simp
              refine (RI.out _).mono ?_
              rintro e w1 ⟨rfl, hb1⟩
              go_wp2_with fail
              refine hK.out _ _ (keepR (Below.trans (Below.refl _ _).drew hb1) hS) (fun hHeld => ?_)
              clear hK K
              try simp only [Act.put, pS1, pS2, pS3]
              refine zW 5 (.bool false) rfl (Or.inl ⟨by rfl, by intro w hSw; go_simp⟩) hHeld ?_
              try simp only [Act.put, pS1, pS2, pS3]
              refine zW 6 (.bool false) rfl (Or.inl ⟨by rfl, by intro w hSw; go_simp⟩) hHeld ?_
              try simp only [Act.put, pS1, pS2, pS3]
              refine zW 7 (.int .i64 k) rfl (Or.inl ⟨by rfl, by intro w hSw; go_simp⟩) hHeld ?_
              try simp only [Act.put, pS1, pS2, pS3]
              refine zW 8 (.bool true) rfl (Or.inl ⟨by rfl, by intro w hSw; go_simp⟩) hHeld ?_
              try simp only [Act.put, pS1, pS2, pS3]
              refine zW 9 (.bool true) rfl (Or.inl ⟨by rfl, by intro w hSw; go_simp⟩) hHeld ?_
              try simp only [Act.put, pS1, pS2, pS3]
              refine zW 10 (.slice (some ⟨g, o, none⟩) len cap) rfl (Or.inl ⟨by rfl, by intro w hSw; go_simp⟩) hHeld ?_
              try simp only [Act.put, pS1, pS2, pS3]
              refine zW 11 (.int .i64 k) rfl (Or.inl ⟨by rfl, by intro w hSw; go_simp⟩) hHeld ?_
              try simp only [Act.put, pS1, pS2, pS3]
              refine zW 12 (.int .i64 j) rfl (Or.inl ⟨by rfl, by intro W hSw; have := hsub; go_simp⟩) hHeld ?_
              try simp only [Act.put, pS1, pS2, pS3]
              refine zW 13 (.pointer (some ⟨g, o + 110 * j, none⟩)) rfl (Or.inl ⟨by rfl, by intro W hSw; have := ix2 W; go_simp⟩) hHeld ?_
              try simp only [Act.put, pS1, pS2, pS3]
              refine zW 14 (.pointer (some ⟨g, o + 110 * j, none⟩)) rfl (Or.inl ⟨by rfl, by intro w hSw; go_simp⟩) hHeld ?_
              try simp only [Act.put, pS1, pS2, pS3]
              refine zW 15 (.int .i64 py) rfl (Or.inl ⟨by rfl, by intro W hSw; have h1 := hSw.2.2; go_simp⟩) hHeld ?_
              try simp only [Act.put, pS1, pS2, pS3]
              refine zW 16 (.slice (some ⟨g, o, none⟩) len cap) rfl (Or.inl ⟨by rfl, by intro w hSw; go_simp⟩) hHeld ?_
              try simp only [Act.put, pS1, pS2, pS3]
              refine zW 17 (.int .i64 k) rfl (Or.inl ⟨by rfl, by intro w hSw; go_simp⟩) hHeld ?_
              try simp only [Act.put, pS1, pS2, pS3]
              refine zW 18 (.pointer (some ⟨g, o + 110 * k, none⟩)) rfl (Or.inl ⟨by rfl, by intro W hSw; have := ix1 W; go_simp⟩) hHeld ?_
              try simp only [Act.put, pS1, pS2, pS3]
              refine zW 19 (.pointer (some ⟨g, o + 110 * k, none⟩)) rfl (Or.inl ⟨by rfl, by intro w hSw; go_simp⟩) hHeld ?_
              try simp only [Act.put, pS1, pS2, pS3]
              refine zW 20 (.int .i64 px) rfl (Or.inl ⟨by rfl, by intro W hSw; have h1 := hSw.2.1; go_simp⟩) hHeld ?_
              try simp only [Act.put, pS1, pS2, pS3]
              refine zW 21 (.bool true) rfl (Or.inl ⟨by rfl, by intro w hSw; go_simp⟩) hHeld ?_
              try simp only [Act.put, pS1, pS2, pS3]
              refine zW 22 (.bool true) rfl (Or.inl ⟨by rfl, by intro w hSw; go_simp⟩) hHeld ?_
              try simp only [Act.put, pS1, pS2, pS3]
              refine zW 23 (.bool true) rfl (Or.inl ⟨by rfl, by intro w hSw; go_simp⟩) hHeld ?_
              try simp only [Act.put, pS1, pS2, pS3]
              refine wpAnyH_done (by kernel_rfl) ?_ _
              go_wp2
              go_ret
              exact ⟨by rw [HNO.out hko]; rfl, HB.out.trans ((Below.trans (Below.refl _ _).drew hb1).mono HB.out.size)⟩
      · obtain rfl : len = k := by omega
        have hd : decide ((len : Int) < (len : Int)) = false := by rw [decide_eq_false_iff_not]; omega
        have HE : Hid (rightL l = true) := right_yes (by have := HL.out; omega) (by rw [HL.out]; exact HN.out)
        go_wp2
        go_ret
        exact ⟨by rw [HE.out]; rfl, HB.out⟩
  · have h5' : decide ((2000 : Int) < (len : Int)) = true := by rw [decide_eq_true_eq]; omega
    have HE : Hid (rightL l = false) := right_long (by have := HL.out; omega)
    go_enter Tryz.func22, Tryz.ntmps22
    go_wp2
    go_ret
    exact ⟨by rw [HE.out]; rfl, Below.refl _ _⟩
theorem icells_r (x : ItT) : (icells x)[5]? = some (.int .i64 x.e.h.h.r) := rfl
theorem anch_new (w : World) (x : ItT) (X : Array Value) (HX : Hid (X = (icells x).toArray)) (t : TypeId) : (w.alloc (.cells X t)).cell? ⟨w.heap.size, 1, none⟩ = some (.int .i64 x.e.k) ∧ (w.alloc (.cells X t)).cell? ⟨w.heap.size, 5, none⟩ = some (.int .i64 x.e.h.h.r) := by
  have each : ∀ j u, (icells x)[j]? = some u → (w.alloc (.cells X t)).cell? ⟨w.heap.size, j, none⟩ = some u := fun j u hj => by
    rw [cell_of_row _ _ j _ t (0, 0) (heap_alloc_new w _), HX.out]
    simpa using hj
  exact ⟨each 1 _ (icells_k x), each 5 _ (icells_r x)⟩
theorem range_head {w : World} {g o : Nat} {x : ItT} (h : w.rangeAt g o (icells x)) : w.rangeAt g (o + 5) (scells x.e.h) := fun j v hj => by
  have hj' : (icells x)[5 + j]? = some v := by
    show (([.int .i64 x.p, .int .i64 x.e.k, .int .i64 x.e.c, .int .i64 x.e.s, .string x.e.t] : List Value) ++ (scells x.e.h ++ ccells x.e.m))[5 + j]? = some v
    rw [List.getElem?_append_right (by simp)]
    have hlt : j < (scells x.e.h).length := by
      rcases Nat.lt_or_ge j (scells x.e.h).length with h1 | h1
      · exact h1
      · rw [List.getElem?_eq_none h1] at hj; cases hj
    have e : 5 + j - ([.int .i64 x.p, .int .i64 x.e.k, .int .i64 x.e.c, .int .i64 x.e.s, .string x.e.t] : List Value).length = j := by simp
    rw [e, List.getElem?_append_left hlt]
    exact hj
  have := h (5 + j) v hj'
  rwa [← Nat.add_assoc] at this
set_option maxHeartbeats 2000000 in
theorem refAnchor_any (x : ItT) (r : Int) (w : World) (X : Array Value) (HX : Hid (X = (icells x).toArray)) :
    Calls Tryz.prog 42 #[.agg X, .int .i64 r] w fun e w' => e = .returned (.bool (isAn x r)) ∧ Below w.heap.size w w' := by
  have HB : Hid (Below w.heap.size w (w.alloc (.cells X 47))) := (Below.refl _ _).alloc (Nat.le_refl _) _
  obtain ⟨c1, c5⟩ := anch_new w x X HX 47
  have HI := hidk (isAn_iff x r)
  obtain ⟨kk, hkk⟩ : ∃ k, x.e.k = k := ⟨_, rfl⟩
  obtain ⟨rr, hrr⟩ : ∃ k, x.e.h.h.r = k := ⟨_, rfl⟩
  rw [hkk, hrr] at HI
  rw [hkk] at c1
  rw [hrr] at c5
  clear HX hkk hrr
  by_cases h1 : kk = 2
  · by_cases h2 : rr = r
    · have b1 : (kk == (2 : Int)) = true := by rw [beq_iff_eq]; exact h1
      have d1 : decide (kk = (2 : Int)) = true := decide_eq_true h1
      have b2 : (rr == r) = true := by rw [beq_iff_eq]; exact h2
      have d2 : decide (rr = r) = true := decide_eq_true h2
      have e : isAn x r = true := HI.out.2 ⟨h1, h2⟩
      go_enter Tryz.func42, Tryz.ntmps42
      go_wp2
      go_ret
      exact ⟨by rw [e]; rfl, HB.out⟩
    · have b1 : (kk == (2 : Int)) = true := by rw [beq_iff_eq]; exact h1
      have d1 : decide (kk = (2 : Int)) = true := decide_eq_true h1
      have b2 : (rr == r) = false := by rw [beq_eq_false_iff_ne]; exact h2
      have d2 : decide (rr = r) = false := decide_eq_false h2
      have e : isAn x r = false := by rw [Bool.eq_false_iff]; intro hh; exact h2 (HI.out.1 hh).2
      go_enter Tryz.func42, Tryz.ntmps42
      go_wp2
      go_ret
      exact ⟨by rw [e]; rfl, HB.out⟩
  · have b1 : (kk == (2 : Int)) = false := by rw [beq_eq_false_iff_ne]; exact h1
    have d1 : decide (kk = (2 : Int)) = false := decide_eq_false h1
    have e : isAn x r = false := by rw [Bool.eq_false_iff]; intro hh; exact h1 (HI.out.1 hh).1
    go_enter Tryz.func42, Tryz.ntmps42
    go_wp2
    go_ret
    exact ⟨by rw [e]; rfl, HB.out⟩
def latS (l : List ItT) (r : Int) : SgT := (latA l r).getD zeroS
theorem latS_ok {l : List ItT} {r : Int} (h : ∀ x ∈ l, OkE x.e) : (latS l r).h.d.length = 32 ∧ (latS l r).g.length = 32 := by
  unfold latS
  cases e : latA l r with
  | none => exact ⟨rfl, rfl⟩
  | some s =>
    obtain ⟨x, hx, _, rfl⟩ := latA_mem e
    exact ⟨(h x hx).h, (h x hx).g⟩
set_option maxHeartbeats 8000000 in
theorem refLatest_any (a : Option Addr) (len cap : Nat) (l : List ItT) (r : Int) (w : World) (h : IReads w a len cap l) (hlen : len ≤ 1000000) (R : Array Value) (HRR : Hid (R = (scells (latS l r)).toArray)) :
    Calls Tryz.prog 24 #[.slice a len cap, .int .i64 r] w fun e w' => e = .returned (.tuple #[.agg R, .bool (latA l r).isSome]) ∧ Below w.heap.size w w' := by
  have H := hidk h
  have HL := hidk h.ln
  have hmx : len ≤ 9223372036854775807 := by omega
  obtain ⟨Z, HZ, HA, HBZ, H69⟩ := noughtsS
  have HSZ : Hid ((Tryz.prog.info? 29).map (·.size) = some Z.size) := by show _ = _; rw [sizeS, H69.out]
  have H1Z : Hid (Z.all (·.oneCell') = true) := by show _ = _; rw [HZ.out]; exact one_cellsS _
  clear h
  go_enter Tryz.func24, Tryz.ntmps24
  go_wp2_with (first
    | (show aD 4 _ _ _ _ _ _ _ _ _ _ _; refine wpList_new_var rfl 29 rfl Z HA.out ?_; intro g4 wa HMA; try simp only [Act.put, pS1, pS2, pS3])
    | (show aD 9 _ _ _ _ _ _ _ _ _ _ _; refine wpList_build_some rfl 29 _ rfl [] rfl Z HBZ.out ?_; try simp only [Act.put, pS1, pS2, pS3])
    | (show aD 6 _ _ _ _ _ _ _ _ _ _ _; refine wpList_new_var rfl 29 rfl Z HA.out ?_; intro g6 wb HMB; have HG6 := hidk HMB.out.row; try simp only [Act.put, pS1, pS2, pS3])
    | (refine wpList_set_var rfl 29 (.tmp 6) (.tmp 9) rfl g6 Z rfl rfl 29 Z HG6.out HSZ.out rfl H1Z.out ?_; intro wc HWC; try simp only [Act.put, pS1, pS2, pS3])
    | fail)
  have hg46 : g4 < g6 := by rw [HMB.out.new]; exact heap_lt HMA.out.row
  have hg4 : w.heap.size ≤ g4 := Nat.le_of_eq HMA.out.new.symm
  have H4 : Hid (wc.heap[g4]? = some (.cells Z 29 (0, 0))) := by
    show _ = _
    rw [HWC.out.other g4 (by omega), HMB.out.below.block _ (heap_lt HMA.out.row)]
    exact HMA.out.row
  have H6 : Hid (wc.heap[g6]? = some (.cells Z 29 (0, 0))) := HWC.out.row
  have HBC : Hid (Below w.heap.size w wc) := HWC.out.below w.heap.size w (HMA.out.below.trans (HMB.out.below.mono HMA.out.below.size)) (by omega)
  clear HMA HMB HWC HG6
  go_loopw [7, 8] (fun u v wr => ∃ k : Nat, k ≤ len ∧ v = .int .i64 k ∧ u = .bool (latA (l.take k) r).isSome ∧ Hid (Below w.heap.size w wr) ∧ Hid (wr.heap[g4]? = some (.cells Z 29 (0, 0))) ∧ Hid (wr.heap[g6]? = some (.cells (scells (latS (l.take k) r)).toArray 29 (0, 0)))) (fun _ v _ => len - (intOf v).toNat)
  case atStart => exact ⟨0, by omega, rfl, rfl, HBC, H4, by show _ = _; rw [H6.out, HZ.out]; rfl⟩
  case round =>
    obtain ⟨k, hk, rfl, rfl, HB, H4, H6⟩ := hrel
    by_cases hlt : k < len
    · have hd : decide ((k : Int) < (len : Int)) = true := by rw [decide_eq_true_eq]; omega
      have hw1 := wrap_int ((k : Int) + 1) (by omega) (by omega)
      obtain ⟨g, o, rfl, hg⟩ := H.out.at (by omega)
      have hkl : k < l.length := by have := HL.out; omega
      obtain ⟨x, HX⟩ : ∃ x, Hid (x = l[k]) := ⟨_, hidk rfl⟩
      have hok : OkE x.e := by rw [HX.out]; exact H.out.ok _ (List.getElem_mem hkl)
      obtain ⟨X, HXX⟩ : ∃ X : Array Value, Hid (X = (icells x).toArray) := ⟨_, hidk rfl⟩
      have HR : Hid (wr.rangeAt g (o + 110 * k) X.toList) := by
        show World.rangeAt _ _ _ _
        rw [HXX.out, HX.out]
        have h0 := (H.out.keep HB.out).range k hkl
        simpa using h0
      have HSX : Hid ((Tryz.prog.info? 47).map (·.size) = some X.size) := by show _ = _; rw [sizeI, HXX.out]; simp [icells_length _ hok]
      have ix := fun W => index_item W g o len cap k .i64 hlt
      obtain ⟨an, han⟩ : ∃ b, isAn x r = b := ⟨_, rfl⟩
      have HAN : Hid (∀ W, Calls Tryz.prog 42 #[.agg X, .int .i64 r] W fun e w' => e = .returned (.bool an) ∧ Below W.heap.size W w') := fun W => by rw [← han]; exact refAnchor_any x r W X HXX
      obtain ⟨Q, HQ⟩ : ∃ Q : Array Value, Hid (Q = (scells x.e.h).toArray) := ⟨_, hidk rfl⟩
      obtain ⟨P, HP⟩ : ∃ P : Array Value, Hid (P = (scells (latS (l.take k) r)).toArray) := ⟨_, hidk rfl⟩
      have HSQ : Hid ((Tryz.prog.info? 29).map (·.size) = some Q.size) := by show _ = _; rw [sizeS, HQ.out]; simp [scells_length _ hok.h hok.g]
      have hlo := latS_ok (l := l.take k) (r := r) (fun y hy => H.out.ok y (List.mem_of_mem_take hy))
      have HPQ : Hid (P.size = Q.size) := by show _ = _; rw [HP.out, HQ.out]; simp [scells_length _ hok.h hok.g, scells_length _ hlo.1 hlo.2]
      have H1Q : Hid (Q.all (·.oneCell') = true) := by show _ = _; rw [HQ.out]; exact one_cellsS _
      have HRQ : Hid (∀ W, Below wr.heap.size wr W → W.rangeAt g (o + 110 * k + 5) Q.toList) := fun W hb => by
        have h0 := range_head (((H.out.keep HB.out).keep hb).range k hkl)
        rw [HQ.out, HX.out]
        simpa using h0
      have HT := hidk (latA_take l r k hkl)
      rw [← HX.out, han] at HT
      have hlat : latS (l.take (k + 1)) r = if an = true then x.e.h else latS (l.take k) r := by
        unfold latS
        rw [HT.out]
        cases an <;> rfl
      have HLA := hidk hlat
      rw [← HP.out] at H6
      clear HX hkl hok HXX han hlat hlo
      cases an
      · go_wp2_with (first
          | (show aD 19 _ _ _ _ _ _ _ _ _ _ _; refine wpList_mid_w (by rfl) 47 (.tmp 18) rfl g (o + 110 * k) rfl X _ HR.out Tryz.underlying47 rfl HSX.out ?_; try simp only [Act.put, pS1, pS2, pS3])
          | fail)
        refine (HAN.out _).mono ?_
        rintro e w1 ⟨rfl, hb1⟩
        go_wp2
        go_roundw
        case rel =>
          refine ⟨k + 1, by omega, by go_num, ?_, HB.out.trans (hb1.mono HB.out.size), ?_, ?_⟩
          · rw [HT.out]; rfl
          · show _ = _; rw [hb1.block _ (heap_lt H4.out)]; exact H4.out
          · show _ = _; rw [hb1.block _ (heap_lt H6.out), H6.out, HLA.out, HP.out]; rfl
        case measure => simp [intOf]; omega
      · go_wp2_with (first
          | (show aD 19 _ _ _ _ _ _ _ _ _ _ _; refine wpList_mid_w (by rfl) 47 (.tmp 18) rfl g (o + 110 * k) rfl X _ HR.out Tryz.underlying47 rfl HSX.out ?_; try simp only [Act.put, pS1, pS2, pS3])
          | fail)
        refine (HAN.out _).mono ?_
        rintro e w1 ⟨rfl, hb1⟩
        have HR5 := hidk (HRQ.out w1 hb1)
        have H6' : Hid (w1.heap[g6]? = some (.cells P 29 (0, 0))) := by show _ = _; rw [hb1.block _ (heap_lt H6.out)]; exact H6.out
        have H4' : Hid (w1.heap[g4]? = some (.cells Z 29 (0, 0))) := by show _ = _; rw [hb1.block _ (heap_lt H4.out)]; exact H4.out
        have HB' := hidk (HB.out.trans (hb1.mono HB.out.size))
        clear hb1 H4 H6 HB HRQ HR
        go_wp2_with (first
          | (show aD 27 _ _ _ _ _ _ _ _ _ _ _; refine wpList_mid_w (by rfl) 29 (.tmp 26) rfl g (o + 110 * k + 5) rfl Q _ HR5.out Tryz.underlying29 rfl HSQ.out ?_; try simp only [Act.put, pS1, pS2, pS3])
          | (refine wpList_set_var rfl 29 (.tmp 6) (.tmp 27) rfl g6 Q rfl rfl 29 P H6'.out HSQ.out HPQ.out H1Q.out ?_; intro w2 HW; try simp only [Act.put, pS1, pS2, pS3])
          | fail)
        go_roundw
        case rel =>
          refine ⟨k + 1, by omega, by go_num, ?_, HW.out.below _ _ HB'.out (by omega), ?_, ?_⟩
          · rw [HT.out]; rfl
          · show _ = _; rw [HW.out.other g4 (by omega)]; exact H4'.out
          · show _ = _; rw [HW.out.row, HLA.out, HQ.out]; rfl
        case measure => simp [intOf]; omega
    · obtain rfl : len = k := by omega
      have hd : decide ((len : Int) < (len : Int)) = false := by rw [decide_eq_false_iff_not]; omega
      have hall : l.take len = l := List.take_of_length_le (by have := HL.out; omega)
      rw [hall, ← HRR.out] at H6
      rw [hall]
      have hlo := latS_ok (l := l) (r := r) (fun y hy => H.out.ok y hy)
      have HSR : Hid ((Tryz.prog.info? 29).map (·.size) = some R.size) := by show _ = _; rw [sizeS, HRR.out]; simp [scells_length _ hlo.1 hlo.2]
      have HZR : Hid (Z.size = R.size) := by show _ = _; rw [H69.out, HRR.out]; simp [scells_length _ hlo.1 hlo.2]
      have H1R : Hid (R.all (·.oneCell') = true) := by show _ = _; rw [HRR.out]; exact one_cellsS _
      clear hall hlo HRR
      go_wp2_with (first
        | (show aD 28 _ _ _ _ _ _ _ _ _ _ _; refine wpList_load_row_w (by rfl) 29 (.tmp 6) rfl g6 rfl 29 R (0, 0) _ H6.out Tryz.underlying29 rfl HSR.out ?_; try simp only [Act.put, pS1, pS2, pS3])
        | (refine wpList_set_var rfl 29 (.tmp 4) (.tmp 28) rfl g4 R rfl rfl 29 Z H4.out HSR.out HZR.out H1R.out ?_; intro w2 HW; try simp only [Act.put, pS1, pS2, pS3])
        | fail)
      refine bodyPost_ret (v := .tuple #[.agg R, .bool (latA l r).isSome]) ?_ rfl ⟨rfl, HW.out.below _ _ HB.out (by omega)⟩
      exact results_row_tmp (p := 4) (q := 5) (ty := 29) rfl _ _ g4 29 R (0, 0) _ rfl HW.out.row Tryz.underlying29 rfl HSR.out
end Go.Proofs.YtjalebncfnekiaaGreatDoor
/- A head that is admitted (chapter 13). -/
namespace Go.Proofs.YtjalebncfnekiaaGreatDoor
open Nums Sums
set_option linter.unusedVariables false
set_option maxRecDepth 100000
def admE (master : List UInt8) (l : List ItT) (s : SgT) (m : Int) (proof : List (List UInt8)) : Int :=
  if rightL l = false then 120 else if verE master s = 0 then
    (if s.h.e < (lastH (latA l s.h.r)).e ∨ s.h.s < (lastH (latA l s.h.r)).s ∨ m ≠ (lastH (latA l s.h.r)).s then 122
     else if P5.conE m (lastH (latA l s.h.r)).d s.h.s s.h.d proof = 0 then 0 else 121)
  else verE master s
end Go.Proofs.YtjalebncfnekiaaGreatDoor
/- The document's Find and Old of logs. -/
namespace Go.Proofs.YtjalebncfnekiaaGreatDoor
open Go.RowKit Nums Sums
set_option linter.unusedVariables false
set_option linter.unusedSimpArgs false
set_option maxRecDepth 100000
end Go.Proofs.YtjalebncfnekiaaGreatDoor
