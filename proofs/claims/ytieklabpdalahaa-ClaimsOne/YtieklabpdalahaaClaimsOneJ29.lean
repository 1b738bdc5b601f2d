/- Texts of our own that the row of ClaimsOne leans on, part 29. -/
import Derived.Test.YtieklabpdalahaaClaimsOneJ24
import Derived.Test.YtieklabpdalahaaClaimsOneJ25
import Derived.Test.YtieklabpdalahaaClaimsOneJ28
import Derived.Maps.OwnSet
import Derived.DeepKeys4

/- The program's Enough: who has recorded, as a map of addresses. -/
namespace Go.Proofs.Ytieklabpdalahaa
open Go.RowKit Nums Sums Go.Maps
set_option linter.unusedVariables false
set_option linter.unusedSimpArgs false
set_option maxRecDepth 100000
def InA (a : AdT) : Prop := In64 a.r ∧ In64 a.n
theorem laidOutA : laidOutB Try.prog = true := by kernel_rfl
theorem rowA : (40 : TypeId) < Try.prog.types.size := of_decide_eq_true (by kernel_rfl)
theorem wideA : (match Try.prog.underlying 40 with | some (.array _ _) | some (.struct _) => true | _ => false) = true := by rw [Try.underlying40]
theorem lawA : Keyed Try.prog 40 := Keyed.of_law (deep_law_laid laidOutA (m := 2) (by omega) rowA (by kernel_rfl) wideA)
theorem cellsA : Try.prog.cellsOf 40 = 2 := by kernel_rfl
theorem cellsI : Try.prog.cellsOf 3 = 1 := by kernel_rfl
theorem keyTA : Try.prog.keyType 40 = true := by kernel_rfl
/-- What an address is as a key. -/
def kL (a : AdT) : Lit := .string (keyBytes [.int .i64 a.r, .int .i64 a.n])
theorem wf64 {n : Int} (h : In64 n) : (Lit.int .i64 n).wf = true := by
  unfold In64 at h
  have h1 : IntKind.i64.min = -9223372036854775808 := rfl
  have h2 : IntKind.i64.max = 9223372036854775807 := rfl
  simp [Lit.wf, h1, h2]
  omega
theorem typesA : ∃ m, Try.prog.types.size = m + 1 := by
  have h0 : 0 < Try.prog.types.size := Nat.lt_of_le_of_lt (Nat.zero_le _) rowA
  exact ⟨Try.prog.types.size - 1, (Nat.succ_pred_eq_of_pos h0).symm⟩
theorem keyA (a : AdT) (h : InA a) : keyOf Try.prog 40 (.agg #[.int .i64 a.r, .int .i64 a.n]) = some (kL a) := by
  obtain ⟨m, hm⟩ := typesA
  have hf : (Value.agg #[.int .i64 a.r, .int .i64 a.n]).formed Try.prog 40 = true := by
    simp [Value.formed, Try.underlying40, cellsA]
  have h1 : Try.prog.keyLits (m + 1) 3 [.int .i64 a.r] = some [.int .i64 a.r] := by
    simp [Program.keyLits, Try.underlying3, wf64 h.1]
  have h2 : Try.prog.keyLits (m + 1) 3 [.int .i64 a.n] = some [.int .i64 a.n] := by
    simp [Program.keyLits, Try.underlying3, wf64 h.2]
  unfold keyOf
  rw [Try.underlying40]
  simp only [keyTA, hf, Bool.and_self, if_true]
  rw [hm]
  unfold Program.keyLits
  rw [Try.underlying40]
  simp [Value.cells, cellsA, cellsI, h1, h2]
  rfl
theorem kL_inj {a b : AdT} (ha : InA a) (hb : InA b) (h : kL a = kL b) : a = b := by
  have h1 := keyA a ha
  rw [h] at h1
  have := lawA.inj h1 (keyA b hb)
  simp at this
  exact AdT.ext' this.1 this.2
theorem kL_key (a : AdT) : WideAt.IsKeyLit (kL a) := trivial
/-- Block b is a map that has just these addresses. -/
def SetIs (w : World) (b : Nat) (l : List AdT) : Prop := ∃ (n : Nat) (D : DataW Unit), n ≤ l.length ∧ w.ownsMap Try.prog 40 (unitElem (H := Unit)) b n D ∧ ∀ a, InA a → Maps.has D (kL a) = memA a l
theorem SetIs.made (w : World) : SetIs (w.alloc (.map #[] 0)) w.heap.size [] :=
  ⟨0, _, Nat.le_refl _, World.ownsMap_made w Try.prog 40 unitElem, fun a _ => by simp [Maps.has, memA]⟩
theorem SetIs.keep {w w' : World} {b : Nat} {l : List AdT} (h : SetIs w b l) (hb : Below w.heap.size w w') : SetIs w' b l := by
  obtain ⟨n, D, h1, h2, h3⟩ := h
  exact ⟨n, D, h1, h2.kept (row := none) ⟨hb.os, hb.tape, hb.output, hb.size, fun j hj _ => hb.block j hj⟩ (by simp), h3⟩
theorem SetIs.lt {w : World} {b : Nat} {l : List AdT} (h : SetIs w b l) : b < w.heap.size := by
  obtain ⟨n, D, h1, h2, h3⟩ := h
  exact h2.lt
theorem wpList_setput {w : World} {ops : Array Oper} {rest : List Oper} {o : Oper} {a : Act} {Q : Exit → Act → World → Prop} (hg : o.guard = none) (m x v : Operand) (hop : o.op = Op.mapUpdate 68 m x v)
    (b : Nat) (l : List AdT) (hm : a.eval m = .map (some b)) (hS : SetIs w b l) (hl : l.length ≤ 1000000) (c : AdT) (hc : InA c) (C : Array Value) (HC : Hid (C = (acells c).toArray)) (hx : a.eval x = .agg C) (hv : a.eval v = .agg #[])
    (hK : ∀ w', Hid (SetIs w' b (l ++ [c]) ∧ w.grownBy w' (some b)) → wpList Try.prog ops Q rest (a.put o.dst undef) w') : wpList Try.prog ops Q (o :: rest) a w := by
  obtain ⟨n, D, h1, h2, h3⟩ := hS
  refine wpList_mapUpdate_own w hg m x v 68 hop 40 80 lawA Try.underlying68 unitElem b n D hm h2 (by unfold maxLen; omega) _ _ (kL c) hx hv (by rw [HC.out]; exact keyA c hc) (.agg []) [] unitElem_mk ?_
  intro w' k1 k2
  refine hK w' ⟨⟨n + 1, _, by simp; omega, k1, fun y hy => ?_⟩, k2⟩
  by_cases e : y = c
  · subst e
    rw [Maps.has_put_same h2.isMap (kL_key y)]
    exact (memA_iff.2 (by simp)).symm
  · rw [Maps.has_put_other (fun k => e (kL_inj hy hc k)), h3 y hy, Bool.eq_iff_iff, memA_iff, memA_iff]
    simp [e]
theorem wpList_sethas {w : World} {ops : Array Oper} {rest : List Oper} {o : Oper} {a : Act} {Q : Exit → Act → World → Prop} (hg : o.guard = none) (m x : Operand) (hop : o.op = Op.lookup 68 m x true)
    (b : Nat) (l : List AdT) (hm : a.eval m = .map (some b)) (hS : SetIs w b l) (c : AdT) (hc : InA c) (hx : a.eval x = .agg #[.int .i64 c.r, .int .i64 c.n]) (y : Bool) (hy : memA c l = y)
    (hK : wpList Try.prog ops Q rest (a.put o.dst (.tuple #[.agg #[], .bool y])) w) : wpList Try.prog ops Q (o :: rest) a w := by
  obtain ⟨n, D, h1, h2, h3⟩ := hS
  refine wpList_lookup_own_unit w hg m x 68 hop 40 80 lawA Try.underlying68 (by kernel_rfl) b n D hm h2 _ (kL c) hx (keyA c hc) ?_
  rw [h3 c hc, hy]
  exact hK
theorem infoA2 : ∃ Z : Array Value, Hid (Z = (acells ⟨0, 0⟩).toArray) ∧ Hid ((Try.prog.info? 40).map (fun i => (i.zero, i.size)) = some (some (.agg Z), Z.size)) ∧ Hid (Z.size = 2) := by
  refine ⟨_, hidk rfl, ?_, hidk rfl⟩
  show _ = _
  obtain ⟨i0, hi, hz0, hz1, hz2⟩ := info_parts infoAdrs
  rw [hi]
  simp [hz0, hz1]
  rfl
theorem makeMapA (n : Int) (w : World) : (Instr.makeMap 68 (some (.int .i64 n))).run Try.prog w = .ok (.map (some w.heap.size)) (w.alloc (.map #[] 0)) := by
  simp [Instr.makeMap, run_underlying Try.underlying68, asInt, asIntOf]
set_option maxHeartbeats 4000000 in
theorem recorded_any (ad : Option Addr) (len cap : Nat) (l : List AdT) (w : World) (h : AReads w ad len cap l) (hin : ∀ x ∈ l, InA x) (hlen : len ≤ 1000000) :
    Calls Try.prog 37 #[.slice ad len cap] w fun e w' => ∃ b, e = .returned (.map (some b)) ∧ SetIs w' b l ∧ Below w.heap.size w w' := by
  have H := hidk h
  have HL := hidk h.ln
  have HIN := hidk hin
  have hmx : len ≤ 9223372036854775807 := by omega
  have hmm := makeMapA (len : Int)
  obtain ⟨Z, HZ, HA, H2⟩ := infoA2
  clear h hin
  go_enter Try.func37, Try.ntmps37
  go_wp2
  go_loopw [5, 11] (fun _ v wr => ∃ k : Nat, k ≤ len ∧ v = .int .i64 k ∧ Hid (SetIs wr w.heap.size (l.take k)) ∧ Hid (Below w.heap.size w wr)) (fun _ v _ => len - (intOf v).toNat)
  case atStart => exact ⟨0, by omega, rfl, SetIs.made w, (Below.refl _ _).alloc (Nat.le_refl _) _⟩
  case round =>
    obtain ⟨k, hk, rfl, HS, HB⟩ := hrel
    by_cases hlt : k < len
    · have hd : decide ((k : Int) < (len : Int)) = true := by rw [decide_eq_true_eq]; omega
      have hw1 := wrap_int ((k : Int) + 1) (by omega) (by omega)
      obtain ⟨g, o, rfl, hg⟩ := H.out.at (by omega)
      have hkl : k < l.length := by have := HL.out; omega
      obtain ⟨Y, HY⟩ : ∃ Y, Hid (Y = (acells l[k]).toArray) := ⟨_, hidk rfl⟩
      have HSY : Hid ((Try.prog.info? 40).map (·.size) = some Y.size) := by show _ = _; rw [sizeA, HY.out]; rfl
      have HZY : Hid (Z.size = Y.size) := by show _ = _; rw [H2.out, HY.out]; rfl
      have H1Y : Hid (Y.all (·.oneCell') = true) := by show _ = _; rw [HY.out, List.all_toArray, List.all_eq_true]; exact acells_one _
      have HRY : Hid (wr.rangeAt g (o + 2 * k) Y.toList) := by show World.rangeAt _ _ _ _; rw [HY.out]; exact (H.out.keep HB.out).range k hkl
      have ix := fun W => index_ad W g o len cap k .i64 hlt
      have HIK := hidk (HIN.out _ (List.getElem_mem hkl))
      have HTK : Hid (l.take k ++ [l[k]] = l.take (k + 1)) := (List.take_succ_eq_append_getElem hkl).symm
      have HTL : Hid ((l.take k).length ≤ 1000000) := by show _ ≤ _; rw [List.length_take]; omega
      obtain ⟨x, hx⟩ : ∃ x, l[k] = x := ⟨_, rfl⟩
      rw [hx] at HY HIK HTK
      clear hx hkl
      go_wp2_with (first
        | (show wpList _ _ _ ({ dst := some 14, op := _, type := _, pos := _, after := _, guard := _ } :: _) _ _; refine wpList_mid_w (by rfl) 40 (.tmp 13) rfl g (o + 2 * k) rfl Y _ HRY.out Try.underlying40 rfl HSY.out ?_; try simp only [Act.put, List.setIfInBounds_toArray, List.set_cons_zero, List.set_cons_succ])
        | (show wpList _ _ _ ({ dst := some 5, op := _, type := _, pos := _, after := _, guard := _ } :: _) _ _; refine wpList_new_var rfl 40 rfl Z HA.out ?_; intro g5 w2 HM; have HG := hidk HM.out.row; try simp only [Act.put, List.setIfInBounds_toArray, List.set_cons_zero, List.set_cons_succ])
        | (show wpList _ _ _ ({ dst := none, op := Op.store 40 _ _, type := _, pos := _, after := _, guard := _ } :: _) _ _; refine wpList_set_var rfl 40 (.tmp 5) (.tmp 14) rfl g5 Y rfl rfl 40 Z HG.out HSY.out HZY.out H1Y.out ?_; intro w3 HW; have HB3 : Hid (Below wr.heap.size wr w3) := HW.out.below _ _ HM.out.below (by rw [HM.out.new]; exact Nat.le_refl _); have HR3 : Hid (w3.rangeAt g5 0 Y.toList) := range_row (t := 40) (fr := (0, 0)) (by rw [Array.toArray_toList]; exact HW.out.row); have HS3 := hidk (HS.out.keep HB3.out); try simp only [Act.put, List.setIfInBounds_toArray, List.set_cons_zero, List.set_cons_succ])
        | (show wpList _ _ _ ({ dst := some 16, op := _, type := _, pos := _, after := _, guard := _ } :: _) _ _; refine wpList_mid_w (by rfl) 40 (.tmp 5) rfl g5 0 rfl Y _ HR3.out Try.underlying40 rfl HSY.out ?_; try simp only [Act.put, List.setIfInBounds_toArray, List.set_cons_zero, List.set_cons_succ])
        | (show wpList _ _ _ ({ dst := none, op := Op.mapUpdate 68 _ _ _, type := _, pos := _, after := _, guard := _ } :: _) _ _; refine wpList_setput rfl (.tmp 15) (.tmp 16) (.tmp 17) rfl w.heap.size (l.take k) rfl HS3.out HTL.out x HIK.out Y HY rfl rfl ?_; intro w4 HS4; try simp only [Act.put, List.setIfInBounds_toArray, List.set_cons_zero, List.set_cons_succ])
        | fail)
      have HSN : Hid (SetIs w4 w.heap.size (l.take (k + 1))) := by show SetIs _ _ _; rw [← HTK.out]; exact HS4.out.1
      have HBN : Hid (Below w.heap.size w w4) := (HB.out.trans (HB3.out.mono HB.out.size)).grown HS4.out.2 (Nat.le_trans HB.out.size HB3.out.size) (fun j e => by cases e; exact Nat.le_refl _)
      clear HS4 HM HG HW HB3 HR3 HS3
      go_wp2
      go_roundw
      case rel => exact ⟨k + 1, by omega, by go_num, HSN, HBN⟩
      case measure => simp [intOf]; omega
    · obtain rfl : len = k := by omega
      have hd : decide ((len : Int) < (len : Int)) = false := by rw [decide_eq_false_iff_not]; omega
      have HE : Hid (SetIs wr w.heap.size l) := by
        have := HS.out
        rwa [List.take_of_length_le (by have := HL.out; omega)] at this
      go_wp2
      go_ret
      exact ⟨_, rfl, HE.out, HB.out⟩
end Go.Proofs.Ytieklabpdalahaa

/- The program's Enough. -/
namespace Go.Proofs.Ytieklabpdalahaa
open Go.RowKit Nums Sums Go.Maps
set_option linter.unusedVariables false
set_option linter.unusedSimpArgs false
set_option maxRecDepth 100000
def HrO (w : World) (b : Nat) (l : List AdT) (r : Int) (c i : Value) (wr : World) : Prop := ∃ q y : Nat, q ≤ 3 ∧ y ≤ q ∧ c = .int .i64 (y : Int) ∧ i = .int .i64 ((q : Int) + 1) ∧ y = cntK l r q ∧ SetIs wr b l ∧ Below w.heap.size w wr
set_option maxHeartbeats 4000000 in
theorem hasRec_any (b : Nat) (l : List AdT) (r : Int) (w : World) (h : SetIs w b l) (hr : 1 ≤ r ∧ r ≤ 5) :
    Calls Try.prog 38 #[.map (some b), .int .i64 r] w fun e w' => e = .returned (.bool (hasR l r)) ∧ Below w.heap.size w w' := by
  have H := hidk h
  clear h
  go_enter Try.func38, Try.ntmps38
  go_wp2
  go_loopw [5, 6, 7, 8] (fun c i _ _ wr => HrO w b l r c i wr) (fun _ i _ _ _ => 4 - (intOf i).toNat)
  case atStart => exact ⟨0, 0, by omega, Nat.le_refl _, rfl, rfl, rfl, H.out, Below.refl _ _⟩
  case round =>
    obtain ⟨q, y, hq, hy, rfl, rfl, HY', HS', HB'⟩ := hrel
    have HY := hidk HY'
    have HS := hidk HS'
    have HB := hidk HB'
    clear HY' HS' HB'
    by_cases hql : q < 3
    · have hdq : decide ((q : Int) + 1 ≤ 3) = true := decide_eq_true (by omega)
      have hw1 := wrap_int ((q : Int) + 1 + 1) (by omega) (by omega)
      have hw2 := wrap_int ((y : Int) + 1) (by omega) (by omega)
      have HIA : Hid (InA ⟨r, (q : Int) + 1⟩) := by
        refine ⟨?_, ?_⟩
        · show In64 r; unfold In64; omega
        · show In64 ((q : Int) + 1); unfold In64; omega
      obtain ⟨bb, hbb⟩ : ∃ b, memA (⟨r, (q : Int) + 1⟩ : AdT) l = b := ⟨_, rfl⟩
      have HBB := hidk hbb
      have HC : Hid (cntK l r (q + 1) = y + (if bb = true then 1 else 0)) := by
        show _ = _
        rw [cntK, ← HY.out, ← hbb]
        simp
      clear hbb
      have HS2 : Hid (SetIs (wr.alloc (.cells #[] 80)) b l) := HS.out.keep ((Below.refl _ _).alloc (Nat.le_refl _) _)
      have HB2 : Hid (Below w.heap.size w (wr.alloc (.cells #[] 80))) := HB.out.alloc HB.out.size _
      cases bb
      · go_wp2_with (first
          | (show wpList _ _ _ ({ dst := some 18, op := _, type := _, pos := _, after := _, guard := _ } :: _) _ _; refine wpList_sethas rfl (.tmp 14) (.tmp 17) rfl b l rfl HS.out ⟨r, (q : Int) + 1⟩ HIA.out rfl false HBB.out ?_; try simp only [Act.put, List.setIfInBounds_toArray, List.set_cons_zero, List.set_cons_succ])
          | fail)
        go_roundw
        case rel => exact ⟨q + 1, y, by omega, by omega, rfl, by go_num, by rw [HC.out]; simp, HS2.out, HB2.out⟩
        case measure => simp [intOf]; omega
      · go_wp2_with (first
          | (show wpList _ _ _ ({ dst := some 18, op := _, type := _, pos := _, after := _, guard := _ } :: _) _ _; refine wpList_sethas rfl (.tmp 14) (.tmp 17) rfl b l rfl HS.out ⟨r, (q : Int) + 1⟩ HIA.out rfl true HBB.out ?_; try simp only [Act.put, List.setIfInBounds_toArray, List.set_cons_zero, List.set_cons_succ])
          | fail)
        go_roundw
        case rel => exact ⟨q + 1, y + 1, by omega, by omega, by go_num, by go_num, by rw [HC.out]; simp, HS2.out, HB2.out⟩
        case measure => simp [intOf]; omega
    · obtain rfl : q = 3 := by omega
      have hdq : decide (((3 : Nat) : Int) + 1 ≤ 3) = false := by decide
      have HE : Hid (hasR l r = decide (2 ≤ (y : Int))) := by
        show _ = _
        rw [hasR_cnt, ← cntK_three, ← HY.out, Bool.eq_iff_iff, decide_eq_true_eq, decide_eq_true_eq]
        omega
      obtain ⟨R, hR⟩ : ∃ b, decide (2 ≤ (y : Int)) = b := ⟨_, rfl⟩
      rw [hR] at HE
      go_wp2
      go_ret
      exact ⟨by rw [HE.out]; rfl, HB.out⟩
theorem haveN_next (r : Int) (l : List AdT) (k : Nat) (P R : Bool) (hP : ((k : Int) + 1 == r) = P) (hR : hasR l ((k : Int) + 1) = R) : haveN r l (k + 1) = haveN r l k + (if (!P && R) = true then 1 else 0) := by
  rw [haveN]
  congr 1
  have e : ((k + 1 : Nat) : Int) = (k : Int) + 1 := by omega
  rw [e, hR, ← hP]
  by_cases h : (k : Int) + 1 = r
  · simp [h]
  · simp [h]
set_option maxHeartbeats 8000000 in
theorem kEnough_not (m r : Int) (ad : Option Addr) (len cap : Nat) (l : List AdT) (w : World) (h : ¬ (3 ≤ m ∧ m ≤ 5 ∧ 1 ≤ r ∧ r ≤ m)) :
    Calls Try.prog 22 #[.int .i64 m, .int .i64 r, .slice ad len cap] w fun e w' => e = .returned (.bool (enoughB m r l)) ∧ Below w.heap.size w w' := by
  have HE := hidk (enough_not (l := l) h)
  by_cases h3 : m < 3
  · have d3 : decide (m < 3) = true := decide_eq_true h3
    clear h h3
    go_enter Try.func22, Try.ntmps22
    go_wp2
    go_ret
    exact ⟨by rw [HE.out]; rfl, Below.refl _ _⟩
  · have d3 : decide (m < 3) = false := decide_eq_false h3
    by_cases h5 : 5 < m
    · have d5 : decide (5 < m) = true := decide_eq_true h5
      clear h h3 h5
      go_enter Try.func22, Try.ntmps22
      go_wp2
      go_ret
      exact ⟨by rw [HE.out]; rfl, Below.refl _ _⟩
    · have d5 : decide (5 < m) = false := decide_eq_false h5
      by_cases hr : r < 1
      · have d1 : decide (r < 1) = true := decide_eq_true hr
        clear h hr h3 h5
        go_enter Try.func22, Try.ntmps22
        go_wp2
        go_ret
        exact ⟨by rw [HE.out]; rfl, Below.refl _ _⟩
      · have d1 : decide (r < 1) = false := decide_eq_false hr
        have d2 : decide (m < r) = true := decide_eq_true (by omega)
        clear h hr h3 h5
        go_enter Try.func22, Try.ntmps22
        go_wp2
        go_ret
        exact ⟨by rw [HE.out]; rfl, Below.refl _ _⟩
/-- What the rounds over the regions keep. -/
def EnK (w : World) (M : Nat) (r : Int) (l : List AdT) (b : Nat) (c i : Value) (wr : World) : Prop := ∃ k x : Nat, k ≤ M ∧ x ≤ k ∧ c = .int .i64 (x : Int) ∧ i = .int .i64 ((k : Int) + 1) ∧ x = haveN r l k ∧ SetIs wr b l ∧ Below w.heap.size w wr
set_option maxHeartbeats 16000000 in
theorem kEnough_in (M : Nat) (r : Int) (ad : Option Addr) (len cap : Nat) (l : List AdT) (w : World) (h : AReads w ad len cap l) (hin : ∀ x ∈ l, InA x) (hlen : len ≤ 1000000) (hr : 3 ≤ (M : Int) ∧ (M : Int) ≤ 5 ∧ 1 ≤ r ∧ r ≤ (M : Int)) :
    Calls Try.prog 22 #[.int .i64 (M : Int), .int .i64 r, .slice ad len cap] w fun e w' => e = .returned (.bool (enoughB M r l)) ∧ Below w.heap.size w w' := by
  have RE := hidk (recorded_any ad len cap l w h hin hlen)
  have HE := hidk (enough_of (l := l) hr)
  have d1 : decide (r < 1) = false := decide_eq_false (by omega)
  have d2 : decide ((M : Int) < r) = false := decide_eq_false (by omega)
  have d3 : decide ((M : Int) < 3) = false := decide_eq_false (by omega)
  have d5 : decide (5 < (M : Int)) = false := decide_eq_false (by omega)
  have n3 : ¬ M < 3 := by omega
  have n5 : ¬ 5 < M := by omega
  have m3 : 3 ≤ M := by omega
  have hM : M ≤ 5 := by omega
  have hws := wrap_int ((M : Int) - 1) (by omega) (by omega)
  clear h hin
  go_enter Try.func22, Try.ntmps22
  go_wp2_with fail
  refine RE.out.mono ?_
  rintro e w1 ⟨b, rfl, hs1, hb1⟩
  have HS1 := hidk hs1
  have HB1 := hidk hb1
  clear hs1 hb1 RE
  go_wp2
  go_loopw [8, 9] (fun c i wr => EnK w M r l b c i wr) (fun _ i _ => M + 1 - (intOf i).toNat)
  case atStart => exact ⟨0, 0, by omega, Nat.le_refl _, rfl, rfl, rfl, HS1.out, HB1.out⟩
  case round =>
    obtain ⟨k, x, hk, hx, rfl, rfl, HX', HS', HB'⟩ := hrel
    have HX := hidk HX'
    have HS := hidk HS'
    have HB := hidk HB'
    clear HX' HS' HB' HS1 HB1
    by_cases hlt : k < M
    · have hd : decide ((k : Int) + 1 ≤ (M : Int)) = true := decide_eq_true (by omega)
      have hw1 := wrap_int ((k : Int) + 1 + 1) (by omega) (by omega)
      have hw2 := wrap_int ((x : Int) + 1) (by omega) (by omega)
      have HR := hidk (hasRec_any b l ((k : Int) + 1) wr HS.out (by omega))
      obtain ⟨P, hP⟩ : ∃ b, ((k : Int) + 1 == r) = b := ⟨_, rfl⟩
      obtain ⟨R, hR⟩ : ∃ b, hasR l ((k : Int) + 1) = b := ⟨_, rfl⟩
      have HN := hidk (haveN_next r l k P R hP hR)
      rw [hR] at HR
      rw [← HX.out] at HN
      clear hR
      cases P
      · have e1 : ¬ (k : Int) + 1 = r := by simpa using hP
        have e2 : decide ((k : Int) + 1 = r) = false := decide_eq_false e1
        have e3 : (!((k : Int) + 1 == r)) = true := by rw [hP]; rfl
        go_wp2_with fail
        refine HR.out.mono ?_
        rintro e w2 ⟨rfl, hb2⟩
        have HB2 := hidk (HB.out.trans (hb2.mono HB.out.size))
        have HS2 := hidk (HS.out.keep hb2)
        clear hb2
        cases R
        · go_wp2
          go_roundw
          case rel => exact ⟨k + 1, x, by omega, by omega, rfl, by go_num, by rw [HN.out]; simp, HS2.out, HB2.out⟩
          case measure => simp [intOf]; omega
        · go_wp2
          go_roundw
          case rel => exact ⟨k + 1, x + 1, by omega, by omega, by go_num, by go_num, by rw [HN.out]; simp, HS2.out, HB2.out⟩
          case measure => simp [intOf]; omega
      · have e1 : (k : Int) + 1 = r := by simpa using hP
        have e2 : decide ((k : Int) + 1 = r) = true := decide_eq_true e1
        have e3 : (!((k : Int) + 1 == r)) = false := by rw [hP]; rfl
        go_wp2
        go_roundw
        case rel => exact ⟨k + 1, x, by omega, by omega, rfl, by go_num, by rw [HN.out]; simp, HS.out, HB.out⟩
        case measure => simp [intOf]; omega
    · obtain rfl : k = M := by omega
      have hd : decide ((k : Int) + 1 ≤ (k : Int)) = false := decide_eq_false (by omega)
      have hw1 := wrap_int (2 * (x : Int)) (by omega) (by omega)
      rw [← HX.out] at HE
      obtain ⟨R, hR⟩ : ∃ b, decide ((k : Int) - 1 < 2 * (x : Int)) = b := ⟨_, rfl⟩
      rw [hR] at HE
      go_wp2
      go_ret
      exact ⟨by rw [HE.out]; rfl, HB.out⟩
/-- P12.3. -/
theorem kEnough_any (m r : Int) (ad : Option Addr) (len cap : Nat) (l : List AdT) (w : World) (h : AReads w ad len cap l) (hin : ∀ x ∈ l, InA x) (hlen : len ≤ 1000000) :
    Calls Try.prog 22 #[.int .i64 m, .int .i64 r, .slice ad len cap] w fun e w' => e = .returned (.bool (enoughB m r l)) ∧ Below w.heap.size w w' := by
  by_cases hr : 3 ≤ m ∧ m ≤ 5 ∧ 1 ≤ r ∧ r ≤ m
  · obtain ⟨M, rfl⟩ : ∃ M : Nat, m = M := ⟨m.toNat, by omega⟩
    exact kEnough_in M r ad len cap l w h hin hlen hr
  · exact kEnough_not m r ad len cap l w hr
end Go.Proofs.Ytieklabpdalahaa

/- What the statements of chapter 12 ask first: rows of addresses. -/
namespace Go.Proofs.Ytieklabpdalahaa
open Go.RowKit Nums Sums Go.Maps
set_option linter.unusedVariables false
set_option linter.unusedSimpArgs false
set_option maxRecDepth 100000
theorem wpList_build_someA {P : Program} {ops : Array Oper} {rest : List Oper} {o : Oper} {a : Act} {w : World} {Q : Exit → Act → World → Prop} (hg : o.guard = none) (t : TypeId) (parts : Array (Nat × Operand)) (ho : o.op = .build t parts) (vals : List (Nat × Value)) (hv : (parts.toList.map fun p => (p.1, a.eval p.2)) = vals)
    (cs : Array Value) (hb : P.built t vals = some cs) (h : wpList P ops Q rest (a.put o.dst (.agg cs)) w) : wpList P ops Q (o :: rest) a w := by
  refine wpList_build_row hg t parts ho cs ?_ h
  rw [← hb, ← hv, Array.toList_map]
/-! A literal of addresses. -/
theorem run_build_ads (w : World) (n : Nat) (l : List AdT) (hn : l.length = n) (h1 : 0 < n) (h2 : n ≤ 100) (parts : Array (Nat × Value)) (hp : parts.toList = ((l.map acells).zipIdx 0).map fun x => (x.2, Value.agg x.1.toArray)) :
    (Instr.buildSlice 38 n parts).run Try.prog w = .ok (.slice (some ⟨w.heap.size, 0, none⟩) n n) (w.alloc (.cells (adcL l).toArray 40)) := by
  obtain ⟨ie, hie, hz, hs, hy⟩ := info_parts infoAdrs
  refine run_buildSlice w 38 40 n parts _ ie _ Try.underlying38 hie hz (by rw [hs]; omega) (by rw [hs]; omega) ?_
  rw [hs, hp]
  have e : (l.map acells).flatten = adcL l := by unfold adcL; rw [List.flatMap_def]
  generalize hcs : Array.map _ (Array.range (n * 2)) = cs
  have hcz : cs.size = n * 2 := by rw [← hcs]; simp
  rw [fill_rowsK 2 (l.map acells) 0 cs [] cs.toList rfl (by simp) (fun d h => by
    obtain ⟨x, hx, rfl⟩ := List.mem_map.1 h
    rfl) (by simp [hcz, hn]), e]
  rfl
theorem AReads.new (W : World) (l : List AdT) (n : Nat) (hn : l.length = n) (h1 : n ≤ 100) (L : Array Value) (HL : Hid (L = (adcL l).toArray)) : AReads (W.alloc (.cells L 40)) (some ⟨W.heap.size, 0, none⟩) n n l := by
  refine ⟨hn, Nat.le_refl _, by unfold maxLen; omega, fun _ _ => trivial, .inr ⟨_, _, rfl, fun i hi j v hj => ?_⟩⟩
  have := adcL_at l (fun _ _ => trivial) i hi j v hj
  rw [cell_of_row _ _ _ _ 40 (0, 0) (heap_alloc_new W _), HL.out, Nat.zero_add]
  simpa using this
theorem builtA (r n : Int) : Try.prog.built 40 [(0, .int .i64 r), (1, .int .i64 n)] = some (acells ⟨r, n⟩).toArray := by kernel_rfl
set_option maxHeartbeats 2000000 in
theorem at_any (r n : Int) (w : World) : Calls Try.prog 25 #[.int .i64 r, .int .i64 n] w fun e w' => e = .returned (.agg #[.int .i64 r, .int .i64 n]) ∧ Below w.heap.size w w' := by
  obtain ⟨Z, HZ, HA, H2⟩ := infoA2
  obtain ⟨X, HX⟩ : ∃ X, Hid (X = (acells ⟨r, n⟩).toArray) := ⟨_, hidk rfl⟩
  have HBX : Hid (Try.prog.built 40 [(0, .int .i64 r), (1, .int .i64 n)] = some X) := by show _ = _; rw [HX.out]; exact builtA r n
  have HSX : Hid ((Try.prog.info? 40).map (·.size) = some X.size) := by show _ = _; rw [sizeA, HX.out]; rfl
  have HZX : Hid (Z.size = X.size) := by show _ = _; rw [H2.out, HX.out]; rfl
  have H1X : Hid (X.all (·.oneCell') = true) := by show _ = _; rw [HX.out, List.all_toArray, List.all_eq_true]; exact acells_one _
  go_enter Try.func25, Try.ntmps25
  go_wp2_with (first
    | (show wpList _ _ _ ({ dst := some 4, op := _, type := _, pos := _, after := _, guard := _ } :: _) _ _; refine wpList_new_var rfl 40 rfl Z HA.out ?_; intro g4 w1 HM; have HG := hidk HM.out.row; try simp only [Act.put, List.setIfInBounds_toArray, List.set_cons_zero, List.set_cons_succ])
    | (show wpList _ _ _ ({ dst := some 7, op := _, type := _, pos := _, after := _, guard := _ } :: _) _ _; refine wpList_build_someA rfl 40 _ rfl [(0, .int .i64 r), (1, .int .i64 n)] rfl X HBX.out ?_; try simp only [Act.put, List.setIfInBounds_toArray, List.set_cons_zero, List.set_cons_succ])
    | (refine wpList_set_var rfl 40 (.tmp 4) (.tmp 7) rfl g4 X rfl rfl 40 Z HG.out HSX.out HZX.out H1X.out ?_; intro w2 HW; try simp only [Act.put, List.setIfInBounds_toArray, List.set_cons_zero, List.set_cons_succ])
    | fail)
  refine bodyPost_ret (v := .agg X) ?_ rfl ⟨by rw [HX.out]; rfl, HW.out.below w.heap.size w HM.out.below (by rw [HM.out.new]; exact Nat.le_refl _)⟩
  exact results_cell_row (p := 4) (ty := 40) rfl _ _ g4 40 X (0, 0) _ rfl HW.out.row Try.underlying40 rfl HSX.out
def e0L : List AdT := [⟨2, 1⟩, ⟨3, 1⟩]
def e1L : List AdT := [⟨2, 1⟩, ⟨2, 3⟩, ⟨3, 1⟩]
def e2L : List AdT := [⟨2, 1⟩, ⟨2, 3⟩, ⟨3, 1⟩, ⟨3, 2⟩]
def e3L : List AdT := [⟨2, 1⟩, ⟨2, 2⟩, ⟨3, 1⟩, ⟨3, 2⟩]
def e4L : List AdT := [⟨1, 1⟩, ⟨1, 2⟩, ⟨2, 1⟩, ⟨2, 2⟩]
theorem e1_is : addA e0L ⟨2, 3⟩ = e1L := by kernel_rfl
theorem e2_is : addA e1L ⟨3, 2⟩ = e2L := by kernel_rfl
theorem en1 : enoughB 3 1 e1L = false := by decide
theorem en2 : enoughB 3 1 e2L = true := by decide
theorem en3 : enoughB 4 1 e3L = true := by decide
theorem en4 : enoughB 3 1 e4L = false := by decide
theorem in_small {l : List AdT} (h : ∀ x ∈ l, 0 ≤ x.r ∧ x.r ≤ 9 ∧ 0 ≤ x.n ∧ x.n ≤ 9) : ∀ x ∈ l, InA x := fun x hx => by
  have := h x hx
  refine ⟨?_, ?_⟩ <;> unfold In64 <;> omega
theorem in_e1 : ∀ x ∈ e1L, InA x := in_small (by decide)
theorem in_e2 : ∀ x ∈ e2L, InA x := in_small (by decide)
theorem in_e3 : ∀ x ∈ e3L, InA x := in_small (by decide)
theorem in_e4 : ∀ x ∈ e4L, InA x := in_small (by decide)
/-- A row of addresses that a call handed out, wherever it is looked at. -/
structure OutA (B : Nat) (w : World) (v : Value) (l : List AdT) (a : Option Addr) (cap : Nat) : Prop where
  val : v = .slice a l.length cap
  rd : AReads w a l.length cap l
  nil : a = none → cap = 0
theorem outA {w : World} {B : Nat} {v : Value} {l : List AdT} (h : w.ownsRow B 40 2 v l.length (adcL l)) : ∃ a cap, OutA B w v l a cap := by
  obtain ⟨a, cap, h1, h2, h3, _⟩ := AReads.own h (fun _ _ => trivial)
  exact ⟨a, cap, h1, h2, h3⟩
set_option maxHeartbeats 16000000 in
/-- The document's rows of addresses come out. -/
theorem enough_true (w : World) : Calls Try.prog 21 #[] w fun e w' => e = .returned (.bool true) ∧ Below w.heap.size w w' := by
  have ENB : Hid (∀ (m r : Int) (ad : Option Addr) (len cap : Nat) (l : List AdT) (W : World), AReads W ad len cap l → (∀ x ∈ l, InA x) → len ≤ 1000 → ∀ b, enoughB m r l = b → Calls Try.prog 22 #[.int .i64 m, .int .i64 r, .slice ad len cap] W fun e w' => e = .returned (.bool b) ∧ Below W.heap.size W w') := fun m r ad len cap l W h1 h2 h3 b hb => by rw [← hb]; exact kEnough_any m r ad len cap l W h1 h2 (by omega)
  have ADD : Hid (∀ (ad : Option Addr) (len cap : Nat) (l : List AdT) (a : AdT) (W : World), AReads W ad len cap l → (ad = none → cap = 0) → len ≤ 1000 → ∀ l2, addA l a = l2 → Calls Try.prog 18 #[.slice ad len cap, .agg #[.int .i64 a.r, .int .i64 a.n]] W fun e w' => ∃ v, e = .returned v ∧ w'.ownsRow W.heap.size 40 2 v l2.length (adcL l2) ∧ Below W.heap.size W w') := fun ad len cap l a W h1 h2 h3 l2 h4 => by rw [← h4]; exact kAdd_any ad len cap l a _ (hidk rfl) W h1 h2 (by omega)
  have eq23 := fun W => eqAddr ⟨2, 3⟩ ⟨2, 3⟩ true (by simp) W
  go_enter Try.func21, Try.ntmps21
  go_wp2_with fail
  refine (at_any 2 1 _).mono ?_
  rintro e v1 ⟨rfl, hc1⟩
  go_wp2_with fail
  refine (at_any 3 1 _).mono ?_
  rintro e v2 ⟨rfl, hc2⟩
  have BU := run_build_ads v2 2 e0L rfl (by omega) (by omega) #[(0, .agg #[.int .i64 2, .int .i64 1]), (1, .agg #[.int .i64 3, .int .i64 1])] rfl
  go_wp2_with (first
    | (show wpList _ _ _ ({ dst := some 4, op := _, type := _, pos := _, after := _, guard := _ } :: _) _ _; refine wpList_build_run rfl 38 2 _ rfl _ rfl _ _ BU ?_; try simp only [Act.put, List.setIfInBounds_toArray, List.set_cons_zero, List.set_cons_succ])
    | fail)
  refine (at_any 2 3 _).mono ?_
  rintro e v3 ⟨rfl, hc3⟩
  have hR0 := (AReads.new v2 e0L 2 rfl (by omega) _ (hidk rfl)).keep hc3
  have hB0 : Below w.heap.size w v3 := ((hc1.trans (hc2.mono hc1.size)).alloc (Nat.le_trans hc1.size hc2.size) _).trans (hc3.mono (by have := hc1.size; have := hc2.size; simp; omega))
  clear hc1 hc2 hc3 BU
  go_wp2_with fail
  refine (ADD.out _ 2 2 e0L ⟨2, 3⟩ _ hR0 (fun e => by cases e) (by omega) e1L e1_is).mono ?_
  rintro e w1 ⟨x1, rfl, ho1, hb1⟩
  obtain ⟨a1, c1, ou1⟩ := outA ho1
  have hx1 : x1 = .slice a1 3 c1 := ou1.val
  subst hx1
  have HR1 : Hid (AReads w1 a1 3 c1 e1L) := ou1.rd
  have HN1 : Hid (a1 = none → c1 = 0) := ou1.nil
  have HB1 := hidk (hB0.trans (hb1.mono hB0.size))
  obtain ⟨g1, o1, hg1, _⟩ := HR1.out.at (by omega)
  subst hg1
  have ix1 := fun W => index_ad W g1 o1 3 c1 1 .i64 (by omega)
  clear ho1 hb1 ou1 hR0 hB0
  go_wp2
  refine wp_region_held_drew (S := (fun W => Below w1.heap.size w1 W)) (by kernel_rfl) (Below.refl _ _).drew (fun hHeld => ?_)
  refine wpAnyH_take (i := 0) (oi := { dst := some 7, op := Op.move (Operand.tmp 1), type := 38, pos := "law.go:53", after := #[], guard := none }) (v := .slice (some ⟨g1, o1, none⟩) 3 c1) rfl (by kernel_rfl) (by kernel_rfl) (by kernel_rfl) (fun _ _ _ h => h) (Or.inl ⟨by rfl, by intro w hSw; go_simp⟩) hHeld ?_
  try simp only [Act.put, List.setIfInBounds_toArray, List.set_cons_zero, List.set_cons_succ]
  refine wpAnyH_take (i := 1) (oi := { dst := some 8, op := Op.call { callee := Callee.builtin Builtin.len, args := #[Operand.tmp 7], argTypes := #[38] }, type := 3, pos := "law.go:53", after := #[{ on := 0, ground := Ground.data }], guard := none }) (v := .int .i64 3) rfl (by kernel_rfl) (by kernel_rfl) (by kernel_rfl) (fun _ _ _ h => h) (Or.inl ⟨by rfl, by intro w hSw; go_simp⟩) hHeld ?_
  try simp only [Act.put, List.setIfInBounds_toArray, List.set_cons_zero, List.set_cons_succ]
  refine wpAnyH_take (i := 2) (oi := { dst := some 9, op := Op.binOp BinOp.eql 3 (Operand.tmp 8) (Operand.const (Value.int IntKind.i64 3)) 3, type := 4, pos := "law.go:53", after := #[{ on := 1, ground := Ground.data }], guard := none }) (v := .bool true) rfl (by kernel_rfl) (by kernel_rfl) (by kernel_rfl) (fun _ _ _ h => h) (Or.inl ⟨by rfl, by intro w hSw; go_simp⟩) hHeld ?_
  try simp only [Act.put, List.setIfInBounds_toArray, List.set_cons_zero, List.set_cons_succ]
  refine wpAnyH_take (i := 3) (oi := { dst := some 10, op := Op.move (Operand.tmp 9), type := 4, pos := "law.go:53", after := #[{ on := 2, ground := Ground.data }], guard := none }) (v := .bool true) rfl (by kernel_rfl) (by kernel_rfl) (by kernel_rfl) (fun _ _ _ h => h) (Or.inl ⟨by rfl, by intro w hSw; go_simp⟩) hHeld ?_
  try simp only [Act.put, List.setIfInBounds_toArray, List.set_cons_zero, List.set_cons_succ]
  refine wpAnyH_take (i := 4) (oi := { dst := some 11, op := Op.move (Operand.tmp 1), type := 38, pos := "law.go:53", after := #[{ on := 3, ground := Ground.guard }], guard := some (3, true) }) (v := .slice (some ⟨g1, o1, none⟩) 3 c1) rfl (by kernel_rfl) (by kernel_rfl) (by kernel_rfl) (fun _ _ _ h => h) (Or.inl ⟨by rfl, by intro w hSw; go_simp⟩) hHeld ?_
  try simp only [Act.put, List.setIfInBounds_toArray, List.set_cons_zero, List.set_cons_succ]
  refine wpAnyH_take (i := 5) (oi := { dst := some 12, op := Op.indexAddr 38 (Operand.tmp 11) (Operand.const (Value.int IntKind.i64 1)), type := 0, pos := "law.go:53", after := #[{ on := 4, ground := Ground.data }, { on := 3, ground := Ground.guard }], guard := some (3, true) }) (v := .pointer (some ⟨g1, o1 + 2 * 1, none⟩)) rfl (by kernel_rfl) (by kernel_rfl) (by kernel_rfl) (fun _ _ _ h => h) (Or.inl ⟨by rfl, by intro W hSw; have := ix1 W; go_simp⟩) hHeld ?_
  try simp only [Act.put, List.setIfInBounds_toArray, List.set_cons_zero, List.set_cons_succ]
  refine wpAnyH_take (i := 6) (oi := { dst := some 13, op := Op.load 40 (Operand.tmp 12), type := 40, pos := "law.go:53", after := #[{ on := 5, ground := Ground.data }, { on := 3, ground := Ground.guard }], guard := some (3, true) }) (v := .agg #[.int .i64 2, .int .i64 3]) rfl (by kernel_rfl) (by kernel_rfl) (by kernel_rfl) (fun _ _ _ h => h) (yieldsIf_mid (by rfl) 40 (.tmp 12) rfl g1 (o1 + 2 * 1) rfl #[.int .i64 2, .int .i64 3] _ (fun _ h => (HR1.out.keep h).range 1 (by decide)) Try.underlying40 rfl sizeA) hHeld ?_
  try simp only [Act.put, List.setIfInBounds_toArray, List.set_cons_zero, List.set_cons_succ]
  refine wpAnyH_ready (rs := [7]) (by kernel_rfl) (by simp) ?_
  refine AllReadyH.cons (o := { dst := some 14, op := Op.call { callee := Callee.value (Operand.func 25), args := #[Operand.const (Value.int IntKind.i64 2), Operand.const (Value.int IntKind.i64 3)], argTypes := #[3, 3] }, type := 40, pos := "law.go:53", after := #[{ on := 3, ground := Ground.chain }, { on := 3, ground := Ground.guard }], guard := some (3, true) }) rfl (fun K hK => ?_) AllReadyH.nil
  go_simp
  refine (at_any 2 3 _).mono ?_
  rintro e w7 ⟨rfl, hb7⟩
  go_wp2_with fail
  refine hK.out _ _ (hHeld.trans (hb7.mono hHeld.size)) (fun hHeld => ?_)
  clear hK K
  try simp only [Act.put, List.setIfInBounds_toArray, List.set_cons_zero, List.set_cons_succ]
  refine wpAnyH_take (i := 8) (oi := { dst := some 15, op := Op.binOp BinOp.eql 40 (Operand.tmp 13) (Operand.tmp 14) 40, type := 4, pos := "law.go:53", after := #[{ on := 6, ground := Ground.data }, { on := 7, ground := Ground.data }, { on := 3, ground := Ground.guard }], guard := some (3, true) }) (v := .bool true) rfl (by kernel_rfl) (by kernel_rfl) (by kernel_rfl) (fun _ _ _ h => h) (Or.inl ⟨by rfl, by intro W hSw; have := eq23 W; go_simp⟩) hHeld ?_
  try simp only [Act.put, List.setIfInBounds_toArray, List.set_cons_zero, List.set_cons_succ]
  refine wpAnyH_take (i := 9) (oi := { dst := some 16, op := Op.pick (Operand.tmp 10) (Operand.tmp 15) (Operand.const (Value.bool false)), type := 4, pos := "law.go:53", after := #[{ on := 3, ground := Ground.data }, { on := 8, ground := Ground.data }], guard := none }) (v := .bool true) rfl (by kernel_rfl) (by kernel_rfl) (by kernel_rfl) (fun _ _ _ h => h) (Or.inl ⟨by rfl, by intro w hSw; go_simp⟩) hHeld ?_
  try simp only [Act.put, List.setIfInBounds_toArray, List.set_cons_zero, List.set_cons_succ]
  refine wpAnyH_take (i := 10) (oi := { dst := some 17, op := Op.move (Operand.tmp 16), type := 4, pos := "law.go:53", after := #[{ on := 9, ground := Ground.data }, { on := 7, ground := Ground.chain }], guard := none }) (v := .bool true) rfl (by kernel_rfl) (by kernel_rfl) (by kernel_rfl) (fun _ _ _ h => h) (Or.inl ⟨by rfl, by intro w hSw; go_simp⟩) hHeld ?_
  try simp only [Act.put, List.setIfInBounds_toArray, List.set_cons_zero, List.set_cons_succ]
  refine wpAnyH_take (i := 11) (oi := { dst := some 18, op := Op.move (Operand.tmp 1), type := 38, pos := "law.go:53", after := #[{ on := 10, ground := Ground.guard }], guard := some (10, true) }) (v := .slice (some ⟨g1, o1, none⟩) 3 c1) rfl (by kernel_rfl) (by kernel_rfl) (by kernel_rfl) (fun _ _ _ h => h) (Or.inl ⟨by rfl, by intro w hSw; go_simp⟩) hHeld ?_
  try simp only [Act.put, List.setIfInBounds_toArray, List.set_cons_zero, List.set_cons_succ]
  refine wpAnyH_ready (rs := [12]) (by kernel_rfl) (by simp) ?_
  refine AllReadyH.cons (o := { dst := some 19, op := Op.call { callee := Callee.value (Operand.func 22), args := #[Operand.const (Value.int IntKind.i64 3), Operand.const (Value.int IntKind.i64 1), Operand.tmp 18], argTypes := #[3, 3, 38] }, type := 4, pos := "law.go:53", after := #[{ on := 11, ground := Ground.data }, { on := 10, ground := Ground.chain }, { on := 10, ground := Ground.guard }], guard := some (10, true) }) rfl (fun K hK => ?_) AllReadyH.nil
  go_simp
  refine (ENB.out 3 1 _ 3 c1 e1L _ (HR1.out.keep hHeld) in_e1 (by omega) false en1).mono ?_
  rintro e w12 ⟨rfl, hb12⟩
  go_wp2_with fail
  refine hK.out _ _ (hHeld.trans (hb12.mono hHeld.size)) (fun hHeld => ?_)
  clear hK K
  try simp only [Act.put, List.setIfInBounds_toArray, List.set_cons_zero, List.set_cons_succ]
  refine wpAnyH_take (i := 13) (oi := { dst := some 20, op := Op.unOp UnOp.not 4 (Operand.tmp 19), type := 4, pos := "law.go:53", after := #[{ on := 12, ground := Ground.data }, { on := 10, ground := Ground.guard }], guard := some (10, true) }) (v := .bool true) rfl (by kernel_rfl) (by kernel_rfl) (by kernel_rfl) (fun _ _ _ h => h) (Or.inl ⟨by rfl, by intro w hSw; go_simp⟩) hHeld ?_
  try simp only [Act.put, List.setIfInBounds_toArray, List.set_cons_zero, List.set_cons_succ]
  refine wpAnyH_take (i := 14) (oi := { dst := some 21, op := Op.pick (Operand.tmp 17) (Operand.tmp 20) (Operand.const (Value.bool false)), type := 4, pos := "law.go:53", after := #[{ on := 10, ground := Ground.data }, { on := 13, ground := Ground.data }], guard := none }) (v := .bool true) rfl (by kernel_rfl) (by kernel_rfl) (by kernel_rfl) (fun _ _ _ h => h) (Or.inl ⟨by rfl, by intro w hSw; go_simp⟩) hHeld ?_
  try simp only [Act.put, List.setIfInBounds_toArray, List.set_cons_zero, List.set_cons_succ]
  refine wpAnyH_take (i := 15) (oi := { dst := some 22, op := Op.move (Operand.tmp 21), type := 4, pos := "law.go:53", after := #[{ on := 14, ground := Ground.data }, { on := 12, ground := Ground.chain }], guard := none }) (v := .bool true) rfl (by kernel_rfl) (by kernel_rfl) (by kernel_rfl) (fun _ _ _ h => h) (Or.inl ⟨by rfl, by intro w hSw; go_simp⟩) hHeld ?_
  try simp only [Act.put, List.setIfInBounds_toArray, List.set_cons_zero, List.set_cons_succ]
  refine wpAnyH_take (i := 16) (oi := { dst := some 23, op := Op.move (Operand.tmp 1), type := 38, pos := "law.go:53", after := #[{ on := 15, ground := Ground.guard }], guard := some (15, true) }) (v := .slice (some ⟨g1, o1, none⟩) 3 c1) rfl (by kernel_rfl) (by kernel_rfl) (by kernel_rfl) (fun _ _ _ h => h) (Or.inl ⟨by rfl, by intro w hSw; go_simp⟩) hHeld ?_
  try simp only [Act.put, List.setIfInBounds_toArray, List.set_cons_zero, List.set_cons_succ]
  refine wpAnyH_ready (rs := [17]) (by kernel_rfl) (by simp) ?_
  refine AllReadyH.cons (o := { dst := some 24, op := Op.call { callee := Callee.value (Operand.func 25), args := #[Operand.const (Value.int IntKind.i64 3), Operand.const (Value.int IntKind.i64 2)], argTypes := #[3, 3] }, type := 40, pos := "law.go:53", after := #[{ on := 15, ground := Ground.chain }, { on := 15, ground := Ground.guard }], guard := some (15, true) }) rfl (fun K hK => ?_) AllReadyH.nil
  go_simp
  refine (at_any 3 2 _).mono ?_
  rintro e w17 ⟨rfl, hb17⟩
  go_wp2_with fail
  refine hK.out _ _ (hHeld.trans (hb17.mono hHeld.size)) (fun hHeld => ?_)
  clear hK K
  try simp only [Act.put, List.setIfInBounds_toArray, List.set_cons_zero, List.set_cons_succ]
  refine wpAnyH_ready (rs := [18]) (by kernel_rfl) (by simp) ?_
  refine AllReadyH.cons (o := { dst := some 25, op := Op.call { callee := Callee.value (Operand.func 18), args := #[Operand.tmp 23, Operand.tmp 24], argTypes := #[38, 40] }, type := 38, pos := "law.go:53", after := #[{ on := 16, ground := Ground.data }, { on := 17, ground := Ground.data }, { on := 17, ground := Ground.chain }, { on := 15, ground := Ground.guard }], guard := some (15, true) }) rfl (fun K hK => ?_) AllReadyH.nil
  go_simp
  refine (ADD.out _ 3 c1 e1L ⟨3, 2⟩ _ (HR1.out.keep hHeld) HN1.out (by omega) e2L e2_is).mono ?_
  rintro e w18 ⟨v2, rfl, ho2, hb18⟩
  obtain ⟨a2, c2, ou2⟩ := outA ho2
  have hv2 : v2 = .slice a2 4 c2 := ou2.val
  subst hv2
  go_wp2_with fail
  refine hK.out _ _ (hHeld.trans (hb18.mono hHeld.size)) (fun hHeld => ?_)
  clear hK K
  try simp only [Act.put, List.setIfInBounds_toArray, List.set_cons_zero, List.set_cons_succ]
  refine wpAnyH_ready (rs := [19]) (by kernel_rfl) (by simp) ?_
  refine AllReadyH.cons (o := { dst := some 26, op := Op.call { callee := Callee.value (Operand.func 22), args := #[Operand.const (Value.int IntKind.i64 3), Operand.const (Value.int IntKind.i64 1), Operand.tmp 25], argTypes := #[3, 3, 38] }, type := 4, pos := "law.go:53", after := #[{ on := 18, ground := Ground.data }, { on := 18, ground := Ground.chain }, { on := 15, ground := Ground.guard }], guard := some (15, true) }) rfl (fun K hK => ?_) AllReadyH.nil
  go_simp
  refine (ENB.out 3 1 a2 4 c2 e2L _ ou2.rd in_e2 (by omega) true en2).mono ?_
  rintro e w19 ⟨rfl, hb19⟩
  go_wp2_with fail
  refine hK.out _ _ (hHeld.trans (hb19.mono hHeld.size)) (fun hHeld => ?_)
  clear hK K
  try simp only [Act.put, List.setIfInBounds_toArray, List.set_cons_zero, List.set_cons_succ]
  refine wpAnyH_take (i := 20) (oi := { dst := some 27, op := Op.pick (Operand.tmp 22) (Operand.tmp 26) (Operand.const (Value.bool false)), type := 4, pos := "law.go:53", after := #[{ on := 15, ground := Ground.data }, { on := 19, ground := Ground.data }], guard := none }) (v := .bool true) rfl (by kernel_rfl) (by kernel_rfl) (by kernel_rfl) (fun _ _ _ h => h) (Or.inl ⟨by rfl, by intro w hSw; go_simp⟩) hHeld ?_
  try simp only [Act.put, List.setIfInBounds_toArray, List.set_cons_zero, List.set_cons_succ]
  refine wpAnyH_take (i := 21) (oi := { dst := some 28, op := Op.move (Operand.tmp 27), type := 4, pos := "law.go:53", after := #[{ on := 20, ground := Ground.data }, { on := 19, ground := Ground.chain }], guard := none }) (v := .bool true) rfl (by kernel_rfl) (by kernel_rfl) (by kernel_rfl) (fun _ _ _ h => h) (Or.inl ⟨by rfl, by intro w hSw; go_simp⟩) hHeld ?_
  try simp only [Act.put, List.setIfInBounds_toArray, List.set_cons_zero, List.set_cons_succ]
  refine wpAnyH_ready (rs := [22]) (by kernel_rfl) (by simp) ?_
  refine AllReadyH.cons (o := { dst := some 29, op := Op.call { callee := Callee.value (Operand.func 25), args := #[Operand.const (Value.int IntKind.i64 2), Operand.const (Value.int IntKind.i64 1)], argTypes := #[3, 3] }, type := 40, pos := "law.go:53", after := #[{ on := 21, ground := Ground.chain }, { on := 21, ground := Ground.guard }], guard := some (21, true) }) rfl (fun K hK => ?_) AllReadyH.nil
  go_simp
  refine (at_any 2 1 _).mono ?_
  rintro e w22 ⟨rfl, hb22⟩
  go_wp2_with fail
  refine hK.out _ _ (hHeld.trans (hb22.mono hHeld.size)) (fun hHeld => ?_)
  clear hK K
  try simp only [Act.put, List.setIfInBounds_toArray, List.set_cons_zero, List.set_cons_succ]
  refine wpAnyH_ready (rs := [23]) (by kernel_rfl) (by simp) ?_
  refine AllReadyH.cons (o := { dst := some 30, op := Op.call { callee := Callee.value (Operand.func 25), args := #[Operand.const (Value.int IntKind.i64 2), Operand.const (Value.int IntKind.i64 2)], argTypes := #[3, 3] }, type := 40, pos := "law.go:53", after := #[{ on := 22, ground := Ground.chain }, { on := 21, ground := Ground.guard }], guard := some (21, true) }) rfl (fun K hK => ?_) AllReadyH.nil
  go_simp
  refine (at_any 2 2 _).mono ?_
  rintro e w23 ⟨rfl, hb23⟩
  go_wp2_with fail
  refine hK.out _ _ (hHeld.trans (hb23.mono hHeld.size)) (fun hHeld => ?_)
  clear hK K
  try simp only [Act.put, List.setIfInBounds_toArray, List.set_cons_zero, List.set_cons_succ]
  refine wpAnyH_ready (rs := [24]) (by kernel_rfl) (by simp) ?_
  refine AllReadyH.cons (o := { dst := some 31, op := Op.call { callee := Callee.value (Operand.func 25), args := #[Operand.const (Value.int IntKind.i64 3), Operand.const (Value.int IntKind.i64 1)], argTypes := #[3, 3] }, type := 40, pos := "law.go:53", after := #[{ on := 23, ground := Ground.chain }, { on := 21, ground := Ground.guard }], guard := some (21, true) }) rfl (fun K hK => ?_) AllReadyH.nil
  go_simp
  refine (at_any 3 1 _).mono ?_
  rintro e w24 ⟨rfl, hb24⟩
  go_wp2_with fail
  refine hK.out _ _ (hHeld.trans (hb24.mono hHeld.size)) (fun hHeld => ?_)
  clear hK K
  try simp only [Act.put, List.setIfInBounds_toArray, List.set_cons_zero, List.set_cons_succ]
  refine wpAnyH_ready (rs := [25]) (by kernel_rfl) (by simp) ?_
  refine AllReadyH.cons (o := { dst := some 32, op := Op.call { callee := Callee.value (Operand.func 25), args := #[Operand.const (Value.int IntKind.i64 3), Operand.const (Value.int IntKind.i64 2)], argTypes := #[3, 3] }, type := 40, pos := "law.go:53", after := #[{ on := 24, ground := Ground.chain }, { on := 21, ground := Ground.guard }], guard := some (21, true) }) rfl (fun K hK => ?_) AllReadyH.nil
  go_simp
  refine (at_any 3 2 _).mono ?_
  rintro e w25 ⟨rfl, hb25⟩
  go_wp2_with fail
  refine hK.out _ _ (hHeld.trans (hb25.mono hHeld.size)) (fun hHeld => ?_)
  clear hK K
  try simp only [Act.put, List.setIfInBounds_toArray, List.set_cons_zero, List.set_cons_succ]
  refine wpAnyH_ready (rs := [26]) (by kernel_rfl) (by simp) ?_
  refine AllReadyH.cons (o := { dst := some 33, op := Op.buildSlice 38 4 #[(0, Operand.tmp 29), (1, Operand.tmp 30), (2, Operand.tmp 31), (3, Operand.tmp 32)], type := 38, pos := "law.go:53", after := #[{ on := 22, ground := Ground.data }, { on := 23, ground := Ground.data }, { on := 24, ground := Ground.data }, { on := 25, ground := Ground.data }, { on := 21, ground := Ground.guard }], guard := some (21, true) }) rfl (fun K hK => ?_) AllReadyH.nil
  refine step_build_run (by rfl) 38 4 _ rfl #[(0, .agg #[.int .i64 2, .int .i64 1]), (1, .agg #[.int .i64 2, .int .i64 2]), (2, .agg #[.int .i64 3, .int .i64 1]), (3, .agg #[.int .i64 3, .int .i64 2])] rfl _ _ (run_build_ads _ 4 e3L rfl (by omega) (by omega) _ rfl) ?_
  refine hK.out _ _ (hHeld.alloc hHeld.size _) (fun hHeld => ?_)
  clear hK K
  try simp only [Act.put, List.setIfInBounds_toArray, List.set_cons_zero, List.set_cons_succ]
  refine wpAnyH_ready (rs := [27]) (by kernel_rfl) (by simp) ?_
  refine AllReadyH.cons (o := { dst := some 34, op := Op.call { callee := Callee.value (Operand.func 22), args := #[Operand.const (Value.int IntKind.i64 4), Operand.const (Value.int IntKind.i64 1), Operand.tmp 33], argTypes := #[3, 3, 38] }, type := 4, pos := "law.go:53", after := #[{ on := 26, ground := Ground.data }, { on := 25, ground := Ground.chain }, { on := 21, ground := Ground.guard }], guard := some (21, true) }) rfl (fun K hK => ?_) AllReadyH.nil
  go_simp
  refine (ENB.out 4 1 _ 4 4 e3L _ (AReads.new _ e3L 4 rfl (by omega) _ (hidk rfl)) in_e3 (by omega) true en3).mono ?_
  rintro e w27 ⟨rfl, hb27⟩
  go_wp2_with fail
  refine hK.out _ _ (hHeld.trans (hb27.mono hHeld.size)) (fun hHeld => ?_)
  clear hK K
  try simp only [Act.put, List.setIfInBounds_toArray, List.set_cons_zero, List.set_cons_succ]
  refine wpAnyH_take (i := 28) (oi := { dst := some 35, op := Op.pick (Operand.tmp 28) (Operand.tmp 34) (Operand.const (Value.bool false)), type := 4, pos := "law.go:53", after := #[{ on := 21, ground := Ground.data }, { on := 27, ground := Ground.data }], guard := none }) (v := .bool true) rfl (by kernel_rfl) (by kernel_rfl) (by kernel_rfl) (fun _ _ _ h => h) (Or.inl ⟨by rfl, by intro w hSw; go_simp⟩) hHeld ?_
  try simp only [Act.put, List.setIfInBounds_toArray, List.set_cons_zero, List.set_cons_succ]
  refine wpAnyH_take (i := 29) (oi := { dst := some 36, op := Op.move (Operand.tmp 35), type := 4, pos := "law.go:53", after := #[{ on := 28, ground := Ground.data }, { on := 27, ground := Ground.chain }], guard := none }) (v := .bool true) rfl (by kernel_rfl) (by kernel_rfl) (by kernel_rfl) (fun _ _ _ h => h) (Or.inl ⟨by rfl, by intro w hSw; go_simp⟩) hHeld ?_
  try simp only [Act.put, List.setIfInBounds_toArray, List.set_cons_zero, List.set_cons_succ]
  refine wpAnyH_ready (rs := [30]) (by kernel_rfl) (by simp) ?_
  refine AllReadyH.cons (o := { dst := some 37, op := Op.call { callee := Callee.value (Operand.func 25), args := #[Operand.const (Value.int IntKind.i64 1), Operand.const (Value.int IntKind.i64 1)], argTypes := #[3, 3] }, type := 40, pos := "law.go:53", after := #[{ on := 29, ground := Ground.chain }, { on := 29, ground := Ground.guard }], guard := some (29, true) }) rfl (fun K hK => ?_) AllReadyH.nil
  go_simp
  refine (at_any 1 1 _).mono ?_
  rintro e w30 ⟨rfl, hb30⟩
  go_wp2_with fail
  refine hK.out _ _ (hHeld.trans (hb30.mono hHeld.size)) (fun hHeld => ?_)
  clear hK K
  try simp only [Act.put, List.setIfInBounds_toArray, List.set_cons_zero, List.set_cons_succ]
  refine wpAnyH_ready (rs := [31]) (by kernel_rfl) (by simp) ?_
  refine AllReadyH.cons (o := { dst := some 38, op := Op.call { callee := Callee.value (Operand.func 25), args := #[Operand.const (Value.int IntKind.i64 1), Operand.const (Value.int IntKind.i64 2)], argTypes := #[3, 3] }, type := 40, pos := "law.go:53", after := #[{ on := 30, ground := Ground.chain }, { on := 29, ground := Ground.guard }], guard := some (29, true) }) rfl (fun K hK => ?_) AllReadyH.nil
  go_simp
  refine (at_any 1 2 _).mono ?_
  rintro e w31 ⟨rfl, hb31⟩
  go_wp2_with fail
  refine hK.out _ _ (hHeld.trans (hb31.mono hHeld.size)) (fun hHeld => ?_)
  clear hK K
  try simp only [Act.put, List.setIfInBounds_toArray, List.set_cons_zero, List.set_cons_succ]
  refine wpAnyH_ready (rs := [32]) (by kernel_rfl) (by simp) ?_
  refine AllReadyH.cons (o := { dst := some 39, op := Op.call { callee := Callee.value (Operand.func 25), args := #[Operand.const (Value.int IntKind.i64 2), Operand.const (Value.int IntKind.i64 1)], argTypes := #[3, 3] }, type := 40, pos := "law.go:53", after := #[{ on := 31, ground := Ground.chain }, { on := 29, ground := Ground.guard }], guard := some (29, true) }) rfl (fun K hK => ?_) AllReadyH.nil
  go_simp
  refine (at_any 2 1 _).mono ?_
  rintro e w32 ⟨rfl, hb32⟩
  go_wp2_with fail
  refine hK.out _ _ (hHeld.trans (hb32.mono hHeld.size)) (fun hHeld => ?_)
  clear hK K
  try simp only [Act.put, List.setIfInBounds_toArray, List.set_cons_zero, List.set_cons_succ]
  refine wpAnyH_ready (rs := [33]) (by kernel_rfl) (by simp) ?_
  refine AllReadyH.cons (o := { dst := some 40, op := Op.call { callee := Callee.value (Operand.func 25), args := #[Operand.const (Value.int IntKind.i64 2), Operand.const (Value.int IntKind.i64 2)], argTypes := #[3, 3] }, type := 40, pos := "law.go:53", after := #[{ on := 32, ground := Ground.chain }, { on := 29, ground := Ground.guard }], guard := some (29, true) }) rfl (fun K hK => ?_) AllReadyH.nil
  go_simp
  refine (at_any 2 2 _).mono ?_
  rintro e w33 ⟨rfl, hb33⟩
  go_wp2_with fail
  refine hK.out _ _ (hHeld.trans (hb33.mono hHeld.size)) (fun hHeld => ?_)
  clear hK K
  try simp only [Act.put, List.setIfInBounds_toArray, List.set_cons_zero, List.set_cons_succ]
  refine wpAnyH_ready (rs := [34]) (by kernel_rfl) (by simp) ?_
  refine AllReadyH.cons (o := { dst := some 41, op := Op.buildSlice 38 4 #[(0, Operand.tmp 37), (1, Operand.tmp 38), (2, Operand.tmp 39), (3, Operand.tmp 40)], type := 38, pos := "law.go:53", after := #[{ on := 30, ground := Ground.data }, { on := 31, ground := Ground.data }, { on := 32, ground := Ground.data }, { on := 33, ground := Ground.data }, { on := 29, ground := Ground.guard }], guard := some (29, true) }) rfl (fun K hK => ?_) AllReadyH.nil
  refine step_build_run (by rfl) 38 4 _ rfl #[(0, .agg #[.int .i64 1, .int .i64 1]), (1, .agg #[.int .i64 1, .int .i64 2]), (2, .agg #[.int .i64 2, .int .i64 1]), (3, .agg #[.int .i64 2, .int .i64 2])] rfl _ _ (run_build_ads _ 4 e4L rfl (by omega) (by omega) _ rfl) ?_
  refine hK.out _ _ (hHeld.alloc hHeld.size _) (fun hHeld => ?_)
  clear hK K
  try simp only [Act.put, List.setIfInBounds_toArray, List.set_cons_zero, List.set_cons_succ]
  refine wpAnyH_ready (rs := [35]) (by kernel_rfl) (by simp) ?_
  refine AllReadyH.cons (o := { dst := some 42, op := Op.call { callee := Callee.value (Operand.func 22), args := #[Operand.const (Value.int IntKind.i64 3), Operand.const (Value.int IntKind.i64 1), Operand.tmp 41], argTypes := #[3, 3, 38] }, type := 4, pos := "law.go:53", after := #[{ on := 34, ground := Ground.data }, { on := 33, ground := Ground.chain }, { on := 29, ground := Ground.guard }], guard := some (29, true) }) rfl (fun K hK => ?_) AllReadyH.nil
  go_simp
  refine (ENB.out 3 1 _ 4 4 e4L _ (AReads.new _ e4L 4 rfl (by omega) _ (hidk rfl)) in_e4 (by omega) false en4).mono ?_
  rintro e w35 ⟨rfl, hb35⟩
  go_wp2_with fail
  refine hK.out _ _ (hHeld.trans (hb35.mono hHeld.size)) (fun hHeld => ?_)
  clear hK K
  try simp only [Act.put, List.setIfInBounds_toArray, List.set_cons_zero, List.set_cons_succ]
  refine wpAnyH_take (i := 36) (oi := { dst := some 43, op := Op.unOp UnOp.not 4 (Operand.tmp 42), type := 4, pos := "law.go:53", after := #[{ on := 35, ground := Ground.data }, { on := 29, ground := Ground.guard }], guard := some (29, true) }) (v := .bool true) rfl (by kernel_rfl) (by kernel_rfl) (by kernel_rfl) (fun _ _ _ h => h) (Or.inl ⟨by rfl, by intro w hSw; go_simp⟩) hHeld ?_
  try simp only [Act.put, List.setIfInBounds_toArray, List.set_cons_zero, List.set_cons_succ]
  refine wpAnyH_take (i := 37) (oi := { dst := some 44, op := Op.pick (Operand.tmp 36) (Operand.tmp 43) (Operand.const (Value.bool false)), type := 4, pos := "law.go:53", after := #[{ on := 29, ground := Ground.data }, { on := 36, ground := Ground.data }], guard := none }) (v := .bool true) rfl (by kernel_rfl) (by kernel_rfl) (by kernel_rfl) (fun _ _ _ h => h) (Or.inl ⟨by rfl, by intro w hSw; go_simp⟩) hHeld ?_
  try simp only [Act.put, List.setIfInBounds_toArray, List.set_cons_zero, List.set_cons_succ]
  refine wpAnyH_take (i := 38) (oi := { dst := some 0, op := Op.assign (Operand.tmp 44), type := 4, pos := "law.go:53", after := #[{ on := 37, ground := Ground.data }, { on := 35, ground := Ground.chain }, { on := 0, ground := Ground.phase }, { on := 1, ground := Ground.phase }, { on := 2, ground := Ground.phase }, { on := 3, ground := Ground.phase }, { on := 4, ground := Ground.phase }, { on := 5, ground := Ground.phase }, { on := 6, ground := Ground.phase }, { on := 7, ground := Ground.phase }, { on := 8, ground := Ground.phase }, { on := 9, ground := Ground.phase }, { on := 10, ground := Ground.phase }, { on := 11, ground := Ground.phase }, { on := 12, ground := Ground.phase }, { on := 13, ground := Ground.phase }, { on := 14, ground := Ground.phase }, { on := 15, ground := Ground.phase }, { on := 16, ground := Ground.phase }, { on := 17, ground := Ground.phase }, { on := 18, ground := Ground.phase }, { on := 19, ground := Ground.phase }, { on := 20, ground := Ground.phase }, { on := 21, ground := Ground.phase }, { on := 22, ground := Ground.phase }, { on := 23, ground := Ground.phase }, { on := 24, ground := Ground.phase }, { on := 25, ground := Ground.phase }, { on := 26, ground := Ground.phase }, { on := 27, ground := Ground.phase }, { on := 28, ground := Ground.phase }, { on := 29, ground := Ground.phase }, { on := 30, ground := Ground.phase }, { on := 31, ground := Ground.phase }, { on := 32, ground := Ground.phase }, { on := 33, ground := Ground.phase }, { on := 34, ground := Ground.phase }, { on := 35, ground := Ground.phase }, { on := 36, ground := Ground.phase }, { on := 37, ground := Ground.phase }], guard := none }) (v := .bool true) rfl (by kernel_rfl) (by kernel_rfl) (by kernel_rfl) (fun _ _ _ h => h) (Or.inl ⟨by rfl, by intro w hSw; go_simp⟩) hHeld ?_
  try simp only [Act.put, List.setIfInBounds_toArray, List.set_cons_zero, List.set_cons_succ]
  refine wpAnyH_done (by kernel_rfl) ?_ _
  go_wp2
  go_ret
  exact ⟨rfl, HB1.out.trans (hHeld.mono HB1.out.size)⟩
end Go.Proofs.Ytieklabpdalahaa

/- What the statements of chapter 12 ask first: rows of claims. -/
namespace Go.Proofs.Ytieklabpdalahaa
open Go.RowKit Nums Sums Go.Maps
set_option linter.unusedVariables false
set_option linter.unusedSimpArgs false
set_option maxRecDepth 100000
theorem yieldsIf_buildC {P : Program} {ops : Array Oper} {S : World → Prop} {o : Oper} {a : Act} (hw : Region.wanted o (yielded ops a.tmps) = true) (t : TypeId) (parts : Array (Nat × Operand)) (ho : o.op = .build t parts) (vals : Array (Nat × Value)) (hv : (parts.toList.map fun p => (p.1, a.eval p.2)) = vals.toList)
    (cs : Array Value) (hb : P.built t vals.toList = some cs) : YieldsIf P ops S o (.agg cs) a :=
  .inl ⟨hw, fun w _ => by
    have hv' : (parts.map fun (i, x) => (i, a.eval x)) = vals := by
      apply Array.ext'
      rw [Array.toList_map, ← hv]
    subst hv'
    unfold execOp
    simp only [ho, Sem.run_bind, run_build w t _ cs hb, Result.andThen_ok]
    rfl⟩
def oneK : ClT := ⟨1, 2, 1, 0, List.replicate 32 0⟩
def twoK : ClT := ⟨1, 2, 2, 0, List.replicate 32 0⟩
theorem builtOneK : Try.prog.built 26 [(0, .int .i64 1), (1, .int .i64 2), (2, .int .i64 1)] = some (ccells oneK).toArray := by kernel_rfl
theorem set_two : (ccells oneK).toArray.setIfInBounds 2 (.int .i64 2) = (ccells twoK).toArray := by rw [List.setIfInBounds_toArray]; rfl
theorem k1 : recL [] oneK = [oneK] ∧ recE [] oneK = 0 := ⟨by kernel_rfl, by kernel_rfl⟩
theorem k2 : recL [oneK] oneK = [oneK] ∧ recE [oneK] oneK = 0 := ⟨by kernel_rfl, by kernel_rfl⟩
theorem k3 : recL [oneK] twoK = [] ∧ recE [oneK] twoK = 111 := ⟨by kernel_rfl, by kernel_rfl⟩
theorem k4 : foundC [oneK] 1 2 = oneK ∧ (findC [oneK] 1 2).isSome = true := ⟨by kernel_rfl, by kernel_rfl⟩
theorem k5 : foundC [oneK] 2 2 = zeroC ∧ (findC [oneK] 2 2).isSome = false := ⟨by kernel_rfl, by kernel_rfl⟩
theorem k6 : chkE [oneK] = 0 := by kernel_rfl
theorem k7 : chkE [zeroC] = 110 := by kernel_rfl
/-- What Record hands out, as a slice that reads. -/
theorem recOut {l : List ClT} {c : ClT} (ad : Option Addr) (len cap : Nat) (X : Array Value) (HX : Hid (X = (ccells c).toArray)) (hx : OkC c) (w : World) (h : CReads w ad len cap l) (hc0 : ad = none → cap = 0) (hlen : len ≤ 800000) (l2 : List ClT) (e2 : Int) (n2 : Nat) (h2 : recL l c = l2) (he : recE l c = e2) (hn : l2.length = n2) :
    Calls Try.prog 13 #[.slice ad len cap, .agg X] w fun x w' => ∃ a cp, x = .returned (.tuple #[.slice a n2 cp, .int .i64 e2]) ∧ CReads w' a n2 cp l2 ∧ (a = none → cp = 0) ∧ w'.ownsRow w.heap.size 26 36 (.slice a n2 cp) n2 (clcL l2) ∧ Below w.heap.size w w' := by
  refine (kRecord_any ad len cap l c X HX hx w h hc0 hlen).mono ?_
  rintro x w' ⟨v, rfl, ho, hb⟩
  have hok : ∀ y ∈ recL l c, OkC y := fun y hy => by
    by_cases hz : recE l c = 0
    · rcases (recL_mem hz y).1 hy with rfl | hy
      · exact hx
      · exact h.ok y hy
    · unfold recL at hy
      rw [if_neg hz] at hy
      cases hy
  obtain ⟨a, cp, hv, hr, hn', _⟩ := CReads.own ho hok
  subst hv
  rw [h2, hn] at ho hr ⊢
  rw [he]
  exact ⟨a, cp, rfl, hr, hn', ho, hb⟩
set_option maxHeartbeats 2000000 in
theorem oneClm_any (w : World) (X : Array Value) (HX : Hid (X = (ccells oneK).toArray)) : Calls Try.prog 32 #[] w fun e w' => e = .returned (.agg X) ∧ Below w.heap.size w w' := by
  obtain ⟨Z, HZ, HA, HBZ, H36⟩ := noughtsC
  have HBX : Hid (Try.prog.built 26 [(0, .int .i64 1), (1, .int .i64 2), (2, .int .i64 1)] = some X) := by show _ = _; rw [HX.out]; exact builtOneK
  have HSX : Hid ((Try.prog.info? 26).map (·.size) = some X.size) := by show _ = _; rw [sizeC, HX.out]; rfl
  have HZX : Hid (Z.size = X.size) := by show _ = _; rw [H36.out, HX.out]; rfl
  have H1X : Hid (X.all (·.oneCell') = true) := by show _ = _; rw [HX.out]; exact one_cellsC _
  go_enter Try.func32, Try.ntmps32
  go_wp2_with (first
    | (show wpList _ _ _ ({ dst := some 0, op := _, type := _, pos := _, after := _, guard := _ } :: _) _ _; refine wpList_new_var rfl 26 rfl Z HA.out ?_; intro g0 w1 HM; have HG := hidk HM.out.row; try simp only [Act.put, List.setIfInBounds_toArray, List.set_cons_zero, List.set_cons_succ])
    | (show wpList _ _ _ ({ dst := some 1, op := _, type := _, pos := _, after := _, guard := _ } :: _) _ _; refine wpList_build_someC rfl 26 _ rfl [(0, .int .i64 1), (1, .int .i64 2), (2, .int .i64 1)] rfl X HBX.out ?_; try simp only [Act.put, List.setIfInBounds_toArray, List.set_cons_zero, List.set_cons_succ])
    | (refine wpList_set_var rfl 26 (.tmp 0) (.tmp 1) rfl g0 X rfl rfl 26 Z HG.out HSX.out HZX.out H1X.out ?_; intro w2 HW; try simp only [Act.put, List.setIfInBounds_toArray, List.set_cons_zero, List.set_cons_succ])
    | fail)
  refine bodyPost_ret (v := .agg X) ?_ rfl ⟨rfl, HW.out.below w.heap.size w HM.out.below (by rw [HM.out.new]; exact Nat.le_refl _)⟩
  exact results_cell_row (p := 0) (ty := 26) rfl _ _ g0 26 X (0, 0) _ rfl HW.out.row Try.underlying26 rfl HSX.out
set_option maxHeartbeats 16000000 in
/-- The document's rows of claims come out. -/
theorem records_true (w : World) : Calls Try.prog 16 #[] w fun e w' => e = .returned (.bool true) ∧ Below w.heap.size w w' := by
  obtain ⟨Z, HZ, HA, HBZ, H36⟩ := noughtsC
  obtain ⟨O, HO⟩ : ∃ X, Hid (X = (ccells oneK).toArray) := ⟨_, hidk rfl⟩
  obtain ⟨O2, HO2⟩ : ∃ X, Hid (X = (ccells twoK).toArray) := ⟨_, hidk rfl⟩
  have HSO : Hid ((Try.prog.info? 26).map (·.size) = some O.size) := by show _ = _; rw [sizeC, HO.out]; rfl
  have HSO2 : Hid ((Try.prog.info? 26).map (·.size) = some O2.size) := by show _ = _; rw [sizeC, HO2.out]; rfl
  have HSZ : Hid ((Try.prog.info? 26).map (·.size) = some Z.size) := by show _ = _; rw [sizeC, HZ.out]; rfl
  have HZO : Hid (Z.size = O.size) := by show _ = _; rw [H36.out, HO.out]; rfl
  have H1O : Hid (O.all (·.oneCell') = true) := by show _ = _; rw [HO.out]; exact one_cellsC _
  have H1Z : Hid (Z.all (·.oneCell') = true) := by show _ = _; rw [HZ.out]; exact one_cellsC _
  have HST : Hid (O.setIfInBounds 2 (.int .i64 2) = O2) := by show _ = _; rw [HO.out, HO2.out]; exact set_two
  have H36O : Hid (O.size = 36) := by show _ = _; rw [HO.out]; rfl
  have ONE : Hid (∀ W, Calls Try.prog 32 #[] W fun e w' => e = .returned (.agg O) ∧ Below W.heap.size W w') := fun W => oneClm_any W O HO
  have eqO := fun W => eqClaim oneK oneK rfl rfl O O HO HO true (by simp) W
  go_enter Try.func16, Try.ntmps16
  go_wp2_with fail
  refine (ONE.out _).mono ?_
  rintro e w1 ⟨rfl, hb1⟩
  have HB1 := hidk hb1
  clear hb1
  go_wp2_with (first
    | (show wpList _ _ _ ({ dst := some 1, op := _, type := _, pos := _, after := _, guard := _ } :: _) _ _; refine wpList_new_var rfl 26 rfl Z HA.out ?_; intro g1 w2 HM; have HG := hidk HM.out.row; try simp only [Act.put, List.setIfInBounds_toArray, List.set_cons_zero, List.set_cons_succ])
    | (show wpList _ _ _ ({ dst := none, op := Op.store 26 _ _, type := _, pos := _, after := _, guard := _ } :: _) _ _; refine wpList_set_var rfl 26 (.tmp 1) (.tmp 12) rfl g1 O rfl rfl 26 Z HG.out HSO.out HZO.out H1O.out ?_; intro w3 HW; have hc3 : ∃ v, w3.cell? ⟨g1, 2, none⟩ = some v := ⟨_, (cell_of_row _ _ 2 _ _ (0, 0) HW.out.row).trans (Array.getElem?_eq_getElem (by rw [H36O.out]; omega))⟩; obtain ⟨ov, hc3⟩ := hc3; have hf3 := frozen_of_row w3 g1 2 O _ HW.out.row; try simp only [Act.put, List.setIfInBounds_toArray, List.set_cons_zero, List.set_cons_succ])
    | fail)
  have hg1 : w1.heap.size ≤ g1 := by rw [HM.out.new]; exact Nat.le_refl _
  have HBS : Hid (Below w.heap.size w (w3.setCell ⟨g1, 2, none⟩ (.int .i64 2))) := (HW.out.below _ _ (HB1.out.trans (HM.out.below.mono HB1.out.size)) (Nat.le_trans HB1.out.size hg1)).setCell (Nat.le_trans HB1.out.size hg1) _
  have HRS : Hid ((w3.setCell ⟨g1, 2, none⟩ (.int .i64 2)).rangeAt g1 0 O2.toList) := by
    refine range_row (t := 26) (fr := (0, 0)) ?_
    rw [Array.toArray_toList, ← HST.out]
    exact Go.heap_setCell_same w3 g1 2 O _ (.int .i64 2) HW.out.row
  obtain ⟨w4, hw4⟩ : ∃ W, w3.setCell ⟨g1, 2, none⟩ (.int .i64 2) = W := ⟨_, rfl⟩
  rw [hw4] at HBS HRS ⊢
  clear hw4 hc3 hf3 HM HG HW hg1 HST
  refine (ONE.out _).mono ?_
  rintro e w5 ⟨rfl, hb5⟩
  have HB5 := hidk (HBS.out.trans (hb5.mono HBS.out.size))
  have HR5 := hidk (range_keep hb5 HRS.out)
  clear hb5 HRS HBS
  go_wp2_with fail
  refine (recOut none 0 0 O HO rfl w5 (clreads_none _) (fun _ => rfl) (by omega) [oneK] 0 1 k1.1 k1.2 rfl).mono ?_
  rintro e w6 ⟨a2, c2, rfl, hr6, hn6, _, hb6⟩
  have HB6 := hidk (HB5.out.trans (hb6.mono HB5.out.size))
  have HR6 := hidk (range_keep hb6 HR5.out)
  have HL6 := hidk hr6
  obtain ⟨g2, o2, hga, _⟩ := hr6.at (by omega)
  subst hga
  clear hb6 HR5 hr6 hn6
  go_wp2_with fail
  refine (ONE.out _).mono ?_
  rintro e w7 ⟨rfl, hb7⟩
  have HB7 := hidk (HB6.out.trans (hb7.mono HB6.out.size))
  have HR7 := hidk (range_keep hb7 HR6.out)
  have HL7 := hidk (HL6.out.keep hb7)
  clear hb7 HR6 HL6
  go_wp2_with fail
  refine (recOut _ 1 c2 O HO rfl w7 HL7.out (fun e => by cases e) (by omega) [oneK] 0 1 k2.1 k2.2 rfl).mono ?_
  rintro e w8 ⟨a4, c4, rfl, hr8, hn8, _, hb8⟩
  have HB8 := hidk (HB7.out.trans (hb8.mono HB7.out.size))
  have HR8 := hidk (range_keep hb8 HR7.out)
  have HL8 := hidk (HL7.out.keep hb8)
  clear hb8 HR7 HL7 hr8 hn8
  go_wp2_with (first
    | (show wpList _ _ _ ({ dst := some 27, op := _, type := _, pos := _, after := _, guard := _ } :: _) _ _; refine wpList_mid_w (by rfl) 26 (.tmp 1) rfl g1 0 rfl O2 _ HR8.out Try.underlying26 rfl HSO2.out ?_; try simp only [Act.put, List.setIfInBounds_toArray, List.set_cons_zero, List.set_cons_succ])
    | fail)
  refine (recOut _ 1 c2 O2 HO2 rfl w8 HL8.out (fun e => by cases e) (by omega) [] 111 0 k3.1 k3.2 rfl).mono ?_
  rintro e wa ⟨a6, c6, rfl, _, _, _, hba⟩
  have HBa := hidk (HB8.out.trans (hba.mono HB8.out.size))
  have HLa := hidk (HL8.out.keep hba)
  clear hba HR8 HL8
  go_wp2_with fail
  have FI1 := hidk (kFind_any (some ⟨g2, o2, none⟩) 1 c2 [oneK] 1 2 wa HLa.out (by omega) O (by show _ = _; rw [k4.1]; exact HO.out))
  rw [k4.2] at FI1
  refine FI1.out.mono ?_
  rintro e wb ⟨rfl, hbb⟩
  have HBb := hidk (HBa.out.trans (hbb.mono HBa.out.size))
  have HLb := hidk (HLa.out.keep hbb)
  clear hbb HLa FI1
  go_wp2_with (first
    | (show wpList _ _ _ ({ dst := some 8, op := _, type := _, pos := _, after := _, guard := _ } :: _) _ _; refine wpList_new_var rfl 26 rfl Z HA.out ?_; intro g8 wbb HM8; have HG8 := hidk HM8.out.row; try simp only [Act.put, List.setIfInBounds_toArray, List.set_cons_zero, List.set_cons_succ])
    | (show wpList _ _ _ ({ dst := none, op := Op.store 26 _ _, type := _, pos := _, after := _, guard := _ } :: _) _ _; refine wpList_set_var rfl 26 (.tmp 8) (.tmp 34) rfl g8 O rfl rfl 26 Z HG8.out HSO.out HZO.out H1O.out ?_; intro wc HW8; try simp only [Act.put, List.setIfInBounds_toArray, List.set_cons_zero, List.set_cons_succ])
    | fail)
  have hbc : Below wb.heap.size wb wc := HW8.out.below _ _ HM8.out.below (by rw [HM8.out.new]; exact Nat.le_refl _)
  have HBc := hidk (HBb.out.trans (hbc.mono HBb.out.size))
  have HLc := hidk (HLb.out.keep hbc)
  have HRc : Hid (wc.rangeAt g8 0 O.toList) := range_row (t := 26) (fr := (0, 0)) (by rw [Array.toArray_toList]; exact HW8.out.row)
  clear hbc HM8 HG8 HW8 HLb
  have FI2 := hidk (kFind_any (some ⟨g2, o2, none⟩) 1 c2 [oneK] 2 2 wc HLc.out (by omega) Z (by show _ = _; rw [k5.1]; exact HZ.out))
  rw [k5.2] at FI2
  refine FI2.out.mono ?_
  rintro e wd ⟨rfl, hbd⟩
  have HBd := hidk (HBc.out.trans (hbd.mono HBc.out.size))
  have HLd := hidk (HLc.out.keep hbd)
  have HRd := hidk (range_keep hbd HRc.out)
  clear hbd HLc HRc FI2
  go_wp2_with (first
    | (show wpList _ _ _ ({ dst := some 10, op := _, type := _, pos := _, after := _, guard := _ } :: _) _ _; refine wpList_new_var rfl 26 rfl Z HA.out ?_; intro g10 wdd HM10; have HG10 := hidk HM10.out.row; try simp only [Act.put, List.setIfInBounds_toArray, List.set_cons_zero, List.set_cons_succ])
    | (show wpList _ _ _ ({ dst := none, op := Op.store 26 _ _, type := _, pos := _, after := _, guard := _ } :: _) _ _; refine wpList_set_var rfl 26 (.tmp 10) (.tmp 39) rfl g10 Z rfl rfl 26 Z HG10.out HSZ.out rfl H1Z.out ?_; intro w9 HW10; try simp only [Act.put, List.setIfInBounds_toArray, List.set_cons_zero, List.set_cons_succ])
    | fail)
  have hbe : Below wd.heap.size wd w9 := HW10.out.below _ _ HM10.out.below (by rw [HM10.out.new]; exact Nat.le_refl _)
  have HB9 := hidk (HBd.out.trans (hbe.mono HBd.out.size))
  have HL9 := hidk (HLd.out.keep hbe)
  have HR8 := hidk (range_keep hbe HRd.out)
  clear hbe HM10 HG10 HW10 HLd HRd
  have HRO : Hid (∀ W, Below w9.heap.size w9 W → W.rangeAt g2 o2 O.toList) := fun W hW => by rw [HO.out]; exact (HL9.out.keep hW).range 0 (by decide)
  have ix0 : ∀ W : World, (Instr.indexAt 22 (.slice (some ⟨g2, o2, none⟩) 1 c2) (.int .i64 0)).run Try.prog W = .ok (.pointer (some ⟨g2, o2, none⟩)) W := fun W => index_cl W g2 o2 1 c2 0 .i64 (by omega)
  have CH1 : Hid (∀ W, Below w9.heap.size w9 W → Calls Try.prog 10 #[.slice (some ⟨g2, o2, none⟩) 1 c2] W fun e w' => e = .returned (.int .i64 0) ∧ Below W.heap.size W w') := fun W hW => by
    have := kCheck_any (some ⟨g2, o2, none⟩) 1 c2 [oneK] W (HL9.out.keep hW) (by omega)
    rwa [k6] at this
  have CH2 : Hid (∀ (W : World) (a : Option Addr), CReads W a 1 1 [zeroC] → Calls Try.prog 10 #[.slice a 1 1] W fun e w' => e = .returned (.int .i64 110) ∧ Below W.heap.size W w') := fun W a hR => by
    have := kCheck_any a 1 1 [zeroC] W hR (by omega)
    rwa [k7] at this
  refine wp_region_held_drew (S := (fun W => Below w9.heap.size w9 W)) (by kernel_rfl) (Below.refl _ _).drew (fun hHeld => ?_)
  refine wpAnyH_take (i := 0) (oi := { dst := some 41, op := Op.move (Operand.tmp 3), type := 28, pos := "law.go:26", after := #[], guard := none }) (v := .int .i64 0) rfl (by kernel_rfl) (by kernel_rfl) (by kernel_rfl) (fun _ _ _ h => h) (Or.inl ⟨by rfl, by intro w hSw; go_simp⟩) hHeld ?_
  try simp only [Act.put, List.setIfInBounds_toArray, List.set_cons_zero, List.set_cons_succ]
  refine wpAnyH_take (i := 1) (oi := { dst := some 42, op := Op.binOp BinOp.eql 28 (Operand.tmp 41) (Operand.const (Value.int IntKind.i64 0)) 28, type := 4, pos := "law.go:26", after := #[{ on := 0, ground := Ground.data }], guard := none }) (v := .bool true) rfl (by kernel_rfl) (by kernel_rfl) (by kernel_rfl) (fun _ _ _ h => h) (Or.inl ⟨by rfl, by intro w hSw; go_simp⟩) hHeld ?_
  try simp only [Act.put, List.setIfInBounds_toArray, List.set_cons_zero, List.set_cons_succ]
  refine wpAnyH_take (i := 2) (oi := { dst := some 43, op := Op.move (Operand.tmp 42), type := 4, pos := "law.go:26", after := #[{ on := 1, ground := Ground.data }], guard := none }) (v := .bool true) rfl (by kernel_rfl) (by kernel_rfl) (by kernel_rfl) (fun _ _ _ h => h) (Or.inl ⟨by rfl, by intro w hSw; go_simp⟩) hHeld ?_
  try simp only [Act.put, List.setIfInBounds_toArray, List.set_cons_zero, List.set_cons_succ]
  refine wpAnyH_take (i := 3) (oi := { dst := some 44, op := Op.move (Operand.tmp 2), type := 22, pos := "law.go:26", after := #[{ on := 2, ground := Ground.guard }], guard := some (2, true) }) (v := .slice (some ⟨g2, o2, none⟩) 1 c2) rfl (by kernel_rfl) (by kernel_rfl) (by kernel_rfl) (fun _ _ _ h => h) (Or.inl ⟨by rfl, by intro w hSw; go_simp⟩) hHeld ?_
  try simp only [Act.put, List.setIfInBounds_toArray, List.set_cons_zero, List.set_cons_succ]
  refine wpAnyH_take (i := 4) (oi := { dst := some 45, op := Op.call { callee := Callee.builtin Builtin.len, args := #[Operand.tmp 44], argTypes := #[22] }, type := 3, pos := "law.go:26", after := #[{ on := 3, ground := Ground.data }, { on := 2, ground := Ground.guard }], guard := some (2, true) }) (v := .int .i64 1) rfl (by kernel_rfl) (by kernel_rfl) (by kernel_rfl) (fun _ _ _ h => h) (Or.inl ⟨by rfl, by intro w hSw; go_simp⟩) hHeld ?_
  try simp only [Act.put, List.setIfInBounds_toArray, List.set_cons_zero, List.set_cons_succ]
  refine wpAnyH_take (i := 5) (oi := { dst := some 46, op := Op.binOp BinOp.eql 3 (Operand.tmp 45) (Operand.const (Value.int IntKind.i64 1)) 3, type := 4, pos := "law.go:26", after := #[{ on := 4, ground := Ground.data }, { on := 2, ground := Ground.guard }], guard := some (2, true) }) (v := .bool true) rfl (by kernel_rfl) (by kernel_rfl) (by kernel_rfl) (fun _ _ _ h => h) (Or.inl ⟨by rfl, by intro w hSw; go_simp⟩) hHeld ?_
  try simp only [Act.put, List.setIfInBounds_toArray, List.set_cons_zero, List.set_cons_succ]
  refine wpAnyH_take (i := 6) (oi := { dst := some 47, op := Op.pick (Operand.tmp 43) (Operand.tmp 46) (Operand.const (Value.bool false)), type := 4, pos := "law.go:26", after := #[{ on := 2, ground := Ground.data }, { on := 5, ground := Ground.data }], guard := none }) (v := .bool true) rfl (by kernel_rfl) (by kernel_rfl) (by kernel_rfl) (fun _ _ _ h => h) (Or.inl ⟨by rfl, by intro w hSw; go_simp⟩) hHeld ?_
  try simp only [Act.put, List.setIfInBounds_toArray, List.set_cons_zero, List.set_cons_succ]
  refine wpAnyH_take (i := 7) (oi := { dst := some 48, op := Op.move (Operand.tmp 47), type := 4, pos := "law.go:26", after := #[{ on := 6, ground := Ground.data }, { on := 2, ground := Ground.chain }], guard := none }) (v := .bool true) rfl (by kernel_rfl) (by kernel_rfl) (by kernel_rfl) (fun _ _ _ h => h) (Or.inl ⟨by rfl, by intro w hSw; go_simp⟩) hHeld ?_
  try simp only [Act.put, List.setIfInBounds_toArray, List.set_cons_zero, List.set_cons_succ]
  refine wpAnyH_take (i := 8) (oi := { dst := some 49, op := Op.move (Operand.tmp 2), type := 22, pos := "law.go:26", after := #[{ on := 7, ground := Ground.guard }], guard := some (7, true) }) (v := .slice (some ⟨g2, o2, none⟩) 1 c2) rfl (by kernel_rfl) (by kernel_rfl) (by kernel_rfl) (fun _ _ _ h => h) (Or.inl ⟨by rfl, by intro w hSw; go_simp⟩) hHeld ?_
  try simp only [Act.put, List.setIfInBounds_toArray, List.set_cons_zero, List.set_cons_succ]
  refine wpAnyH_take (i := 9) (oi := { dst := some 50, op := Op.indexAddr 22 (Operand.tmp 49) (Operand.const (Value.int IntKind.i64 0)), type := 0, pos := "law.go:26", after := #[{ on := 8, ground := Ground.data }, { on := 7, ground := Ground.guard }], guard := some (7, true) }) (v := .pointer (some ⟨g2, o2, none⟩)) rfl (by kernel_rfl) (by kernel_rfl) (by kernel_rfl) (fun _ _ _ h => h) (Or.inl ⟨by rfl, by intro W hSw; have := ix0 W; go_simp⟩) hHeld ?_
  try simp only [Act.put, List.setIfInBounds_toArray, List.set_cons_zero, List.set_cons_succ]
  refine wpAnyH_take (i := 10) (oi := { dst := some 51, op := Op.load 26 (Operand.tmp 50), type := 26, pos := "law.go:26", after := #[{ on := 9, ground := Ground.data }, { on := 7, ground := Ground.guard }], guard := some (7, true) }) (v := .agg O) rfl (by kernel_rfl) (by kernel_rfl) (by kernel_rfl) (fun _ _ _ h => h) (yieldsIf_mid (by rfl) 26 (.tmp 50) rfl g2 o2 rfl O _ (fun _ h => HRO.out _ h) Try.underlying26 rfl HSO.out) hHeld ?_
  try simp only [Act.put, List.setIfInBounds_toArray, List.set_cons_zero, List.set_cons_succ]
  refine wpAnyH_ready (rs := [11]) (by kernel_rfl) (by simp) ?_
  refine AllReadyH.cons (o := { dst := some 52, op := Op.call { callee := Callee.value (Operand.func 32), args := #[], argTypes := #[] }, type := 26, pos := "law.go:26", after := #[{ on := 7, ground := Ground.chain }, { on := 7, ground := Ground.guard }], guard := some (7, true) }) rfl (fun K hK => ?_) AllReadyH.nil
  go_simp
  refine (ONE.out _).mono ?_
  rintro e w11 ⟨rfl, hb11⟩
  go_wp2_with fail
  refine hK.out _ _ (hHeld.trans (hb11.mono hHeld.size)) (fun hHeld => ?_)
  clear hK K
  try simp only [Act.put, List.setIfInBounds_toArray, List.set_cons_zero, List.set_cons_succ]
  refine wpAnyH_take (i := 12) (oi := { dst := some 53, op := Op.binOp BinOp.eql 26 (Operand.tmp 51) (Operand.tmp 52) 26, type := 4, pos := "law.go:26", after := #[{ on := 10, ground := Ground.data }, { on := 11, ground := Ground.data }, { on := 7, ground := Ground.guard }], guard := some (7, true) }) (v := .bool true) rfl (by kernel_rfl) (by kernel_rfl) (by kernel_rfl) (fun _ _ _ h => h) (Or.inl ⟨by rfl, by intro W hSw; have := eqO W; go_simp⟩) hHeld ?_
  try simp only [Act.put, List.setIfInBounds_toArray, List.set_cons_zero, List.set_cons_succ]
  refine wpAnyH_take (i := 13) (oi := { dst := some 54, op := Op.pick (Operand.tmp 48) (Operand.tmp 53) (Operand.const (Value.bool false)), type := 4, pos := "law.go:26", after := #[{ on := 7, ground := Ground.data }, { on := 12, ground := Ground.data }], guard := none }) (v := .bool true) rfl (by kernel_rfl) (by kernel_rfl) (by kernel_rfl) (fun _ _ _ h => h) (Or.inl ⟨by rfl, by intro w hSw; go_simp⟩) hHeld ?_
  try simp only [Act.put, List.setIfInBounds_toArray, List.set_cons_zero, List.set_cons_succ]
  refine wpAnyH_take (i := 14) (oi := { dst := some 55, op := Op.move (Operand.tmp 54), type := 4, pos := "law.go:26", after := #[{ on := 13, ground := Ground.data }, { on := 11, ground := Ground.chain }], guard := none }) (v := .bool true) rfl (by kernel_rfl) (by kernel_rfl) (by kernel_rfl) (fun _ _ _ h => h) (Or.inl ⟨by rfl, by intro w hSw; go_simp⟩) hHeld ?_
  try simp only [Act.put, List.setIfInBounds_toArray, List.set_cons_zero, List.set_cons_succ]
  refine wpAnyH_take (i := 15) (oi := { dst := some 56, op := Op.move (Operand.tmp 5), type := 28, pos := "law.go:26", after := #[{ on := 14, ground := Ground.guard }], guard := some (14, true) }) (v := .int .i64 0) rfl (by kernel_rfl) (by kernel_rfl) (by kernel_rfl) (fun _ _ _ h => h) (Or.inl ⟨by rfl, by intro w hSw; go_simp⟩) hHeld ?_
  try simp only [Act.put, List.setIfInBounds_toArray, List.set_cons_zero, List.set_cons_succ]
  refine wpAnyH_take (i := 16) (oi := { dst := some 57, op := Op.binOp BinOp.eql 28 (Operand.tmp 56) (Operand.const (Value.int IntKind.i64 0)) 28, type := 4, pos := "law.go:26", after := #[{ on := 15, ground := Ground.data }, { on := 14, ground := Ground.guard }], guard := some (14, true) }) (v := .bool true) rfl (by kernel_rfl) (by kernel_rfl) (by kernel_rfl) (fun _ _ _ h => h) (Or.inl ⟨by rfl, by intro w hSw; go_simp⟩) hHeld ?_
  try simp only [Act.put, List.setIfInBounds_toArray, List.set_cons_zero, List.set_cons_succ]
  refine wpAnyH_take (i := 17) (oi := { dst := some 58, op := Op.pick (Operand.tmp 55) (Operand.tmp 57) (Operand.const (Value.bool false)), type := 4, pos := "law.go:26", after := #[{ on := 14, ground := Ground.data }, { on := 16, ground := Ground.data }], guard := none }) (v := .bool true) rfl (by kernel_rfl) (by kernel_rfl) (by kernel_rfl) (fun _ _ _ h => h) (Or.inl ⟨by rfl, by intro w hSw; go_simp⟩) hHeld ?_
  try simp only [Act.put, List.setIfInBounds_toArray, List.set_cons_zero, List.set_cons_succ]
  refine wpAnyH_take (i := 18) (oi := { dst := some 59, op := Op.move (Operand.tmp 58), type := 4, pos := "law.go:26", after := #[{ on := 17, ground := Ground.data }, { on := 14, ground := Ground.chain }], guard := none }) (v := .bool true) rfl (by kernel_rfl) (by kernel_rfl) (by kernel_rfl) (fun _ _ _ h => h) (Or.inl ⟨by rfl, by intro w hSw; go_simp⟩) hHeld ?_
  try simp only [Act.put, List.setIfInBounds_toArray, List.set_cons_zero, List.set_cons_succ]
  refine wpAnyH_take (i := 19) (oi := { dst := some 60, op := Op.move (Operand.tmp 4), type := 22, pos := "law.go:26", after := #[{ on := 18, ground := Ground.guard }], guard := some (18, true) }) (v := .slice a4 1 c4) rfl (by kernel_rfl) (by kernel_rfl) (by kernel_rfl) (fun _ _ _ h => h) (Or.inl ⟨by rfl, by intro w hSw; go_simp⟩) hHeld ?_
  try simp only [Act.put, List.setIfInBounds_toArray, List.set_cons_zero, List.set_cons_succ]
  refine wpAnyH_take (i := 20) (oi := { dst := some 61, op := Op.call { callee := Callee.builtin Builtin.len, args := #[Operand.tmp 60], argTypes := #[22] }, type := 3, pos := "law.go:26", after := #[{ on := 19, ground := Ground.data }, { on := 18, ground := Ground.guard }], guard := some (18, true) }) (v := .int .i64 1) rfl (by kernel_rfl) (by kernel_rfl) (by kernel_rfl) (fun _ _ _ h => h) (Or.inl ⟨by rfl, by intro w hSw; go_simp⟩) hHeld ?_
  try simp only [Act.put, List.setIfInBounds_toArray, List.set_cons_zero, List.set_cons_succ]
  refine wpAnyH_take (i := 21) (oi := { dst := some 62, op := Op.binOp BinOp.eql 3 (Operand.tmp 61) (Operand.const (Value.int IntKind.i64 1)) 3, type := 4, pos := "law.go:26", after := #[{ on := 20, ground := Ground.data }, { on := 18, ground := Ground.guard }], guard := some (18, true) }) (v := .bool true) rfl (by kernel_rfl) (by kernel_rfl) (by kernel_rfl) (fun _ _ _ h => h) (Or.inl ⟨by rfl, by intro w hSw; go_simp⟩) hHeld ?_
  try simp only [Act.put, List.setIfInBounds_toArray, List.set_cons_zero, List.set_cons_succ]
  refine wpAnyH_take (i := 22) (oi := { dst := some 63, op := Op.pick (Operand.tmp 59) (Operand.tmp 62) (Operand.const (Value.bool false)), type := 4, pos := "law.go:26", after := #[{ on := 18, ground := Ground.data }, { on := 21, ground := Ground.data }], guard := none }) (v := .bool true) rfl (by kernel_rfl) (by kernel_rfl) (by kernel_rfl) (fun _ _ _ h => h) (Or.inl ⟨by rfl, by intro w hSw; go_simp⟩) hHeld ?_
  try simp only [Act.put, List.setIfInBounds_toArray, List.set_cons_zero, List.set_cons_succ]
  refine wpAnyH_take (i := 23) (oi := { dst := some 64, op := Op.move (Operand.tmp 63), type := 4, pos := "law.go:26", after := #[{ on := 22, ground := Ground.data }, { on := 18, ground := Ground.chain }], guard := none }) (v := .bool true) rfl (by kernel_rfl) (by kernel_rfl) (by kernel_rfl) (fun _ _ _ h => h) (Or.inl ⟨by rfl, by intro w hSw; go_simp⟩) hHeld ?_
  try simp only [Act.put, List.setIfInBounds_toArray, List.set_cons_zero, List.set_cons_succ]
  refine wpAnyH_take (i := 24) (oi := { dst := some 65, op := Op.move (Operand.tmp 7), type := 28, pos := "law.go:26", after := #[{ on := 23, ground := Ground.guard }], guard := some (23, true) }) (v := .int .i64 111) rfl (by kernel_rfl) (by kernel_rfl) (by kernel_rfl) (fun _ _ _ h => h) (Or.inl ⟨by rfl, by intro w hSw; go_simp⟩) hHeld ?_
  try simp only [Act.put, List.setIfInBounds_toArray, List.set_cons_zero, List.set_cons_succ]
  refine wpAnyH_take (i := 25) (oi := { dst := some 66, op := Op.binOp BinOp.eql 28 (Operand.tmp 65) (Operand.const (Value.int IntKind.i64 111)) 28, type := 4, pos := "law.go:26", after := #[{ on := 24, ground := Ground.data }, { on := 23, ground := Ground.guard }], guard := some (23, true) }) (v := .bool true) rfl (by kernel_rfl) (by kernel_rfl) (by kernel_rfl) (fun _ _ _ h => h) (Or.inl ⟨by rfl, by intro w hSw; go_simp⟩) hHeld ?_
  try simp only [Act.put, List.setIfInBounds_toArray, List.set_cons_zero, List.set_cons_succ]
  refine wpAnyH_take (i := 26) (oi := { dst := some 67, op := Op.pick (Operand.tmp 64) (Operand.tmp 66) (Operand.const (Value.bool false)), type := 4, pos := "law.go:26", after := #[{ on := 23, ground := Ground.data }, { on := 25, ground := Ground.data }], guard := none }) (v := .bool true) rfl (by kernel_rfl) (by kernel_rfl) (by kernel_rfl) (fun _ _ _ h => h) (Or.inl ⟨by rfl, by intro w hSw; go_simp⟩) hHeld ?_
  try simp only [Act.put, List.setIfInBounds_toArray, List.set_cons_zero, List.set_cons_succ]
  refine wpAnyH_take (i := 27) (oi := { dst := some 68, op := Op.move (Operand.tmp 67), type := 4, pos := "law.go:26", after := #[{ on := 26, ground := Ground.data }, { on := 23, ground := Ground.chain }], guard := none }) (v := .bool true) rfl (by kernel_rfl) (by kernel_rfl) (by kernel_rfl) (fun _ _ _ h => h) (Or.inl ⟨by rfl, by intro w hSw; go_simp⟩) hHeld ?_
  try simp only [Act.put, List.setIfInBounds_toArray, List.set_cons_zero, List.set_cons_succ]
  refine wpAnyH_take (i := 28) (oi := { dst := some 69, op := Op.move (Operand.tmp 9), type := 4, pos := "law.go:26", after := #[{ on := 27, ground := Ground.guard }], guard := some (27, true) }) (v := .bool true) rfl (by kernel_rfl) (by kernel_rfl) (by kernel_rfl) (fun _ _ _ h => h) (Or.inl ⟨by rfl, by intro w hSw; go_simp⟩) hHeld ?_
  try simp only [Act.put, List.setIfInBounds_toArray, List.set_cons_zero, List.set_cons_succ]
  refine wpAnyH_take (i := 29) (oi := { dst := some 70, op := Op.pick (Operand.tmp 68) (Operand.tmp 69) (Operand.const (Value.bool false)), type := 4, pos := "law.go:26", after := #[{ on := 27, ground := Ground.data }, { on := 28, ground := Ground.data }], guard := none }) (v := .bool true) rfl (by kernel_rfl) (by kernel_rfl) (by kernel_rfl) (fun _ _ _ h => h) (Or.inl ⟨by rfl, by intro w hSw; go_simp⟩) hHeld ?_
  try simp only [Act.put, List.setIfInBounds_toArray, List.set_cons_zero, List.set_cons_succ]
  refine wpAnyH_take (i := 30) (oi := { dst := some 71, op := Op.move (Operand.tmp 70), type := 4, pos := "law.go:26", after := #[{ on := 29, ground := Ground.data }, { on := 27, ground := Ground.chain }], guard := none }) (v := .bool true) rfl (by kernel_rfl) (by kernel_rfl) (by kernel_rfl) (fun _ _ _ h => h) (Or.inl ⟨by rfl, by intro w hSw; go_simp⟩) hHeld ?_
  try simp only [Act.put, List.setIfInBounds_toArray, List.set_cons_zero, List.set_cons_succ]
  refine wpAnyH_take (i := 31) (oi := { dst := some 72, op := Op.load 26 (Operand.tmp 8), type := 26, pos := "law.go:26", after := #[{ on := 30, ground := Ground.guard }], guard := some (30, true) }) (v := .agg O) rfl (by kernel_rfl) (by kernel_rfl) (by kernel_rfl) (fun _ _ _ h => h) (yieldsIf_mid (by rfl) 26 (.tmp 8) rfl g8 0 rfl O _ (fun _ h => range_keep h HR8.out) Try.underlying26 rfl HSO.out) hHeld ?_
  try simp only [Act.put, List.setIfInBounds_toArray, List.set_cons_zero, List.set_cons_succ]
  refine wpAnyH_ready (rs := [32]) (by kernel_rfl) (by simp) ?_
  refine AllReadyH.cons (o := { dst := some 73, op := Op.call { callee := Callee.value (Operand.func 32), args := #[], argTypes := #[] }, type := 26, pos := "law.go:26", after := #[{ on := 30, ground := Ground.chain }, { on := 30, ground := Ground.guard }], guard := some (30, true) }) rfl (fun K hK => ?_) AllReadyH.nil
  go_simp
  refine (ONE.out _).mono ?_
  rintro e w32 ⟨rfl, hb32⟩
  go_wp2_with fail
  refine hK.out _ _ (hHeld.trans (hb32.mono hHeld.size)) (fun hHeld => ?_)
  clear hK K
  try simp only [Act.put, List.setIfInBounds_toArray, List.set_cons_zero, List.set_cons_succ]
  refine wpAnyH_take (i := 33) (oi := { dst := some 74, op := Op.binOp BinOp.eql 26 (Operand.tmp 72) (Operand.tmp 73) 26, type := 4, pos := "law.go:26", after := #[{ on := 31, ground := Ground.data }, { on := 32, ground := Ground.data }, { on := 30, ground := Ground.guard }], guard := some (30, true) }) (v := .bool true) rfl (by kernel_rfl) (by kernel_rfl) (by kernel_rfl) (fun _ _ _ h => h) (Or.inl ⟨by rfl, by intro W hSw; have := eqO W; go_simp⟩) hHeld ?_
  try simp only [Act.put, List.setIfInBounds_toArray, List.set_cons_zero, List.set_cons_succ]
  refine wpAnyH_take (i := 34) (oi := { dst := some 75, op := Op.pick (Operand.tmp 71) (Operand.tmp 74) (Operand.const (Value.bool false)), type := 4, pos := "law.go:26", after := #[{ on := 30, ground := Ground.data }, { on := 33, ground := Ground.data }], guard := none }) (v := .bool true) rfl (by kernel_rfl) (by kernel_rfl) (by kernel_rfl) (fun _ _ _ h => h) (Or.inl ⟨by rfl, by intro w hSw; go_simp⟩) hHeld ?_
  try simp only [Act.put, List.setIfInBounds_toArray, List.set_cons_zero, List.set_cons_succ]
  refine wpAnyH_take (i := 35) (oi := { dst := some 76, op := Op.move (Operand.tmp 75), type := 4, pos := "law.go:26", after := #[{ on := 34, ground := Ground.data }, { on := 32, ground := Ground.chain }], guard := none }) (v := .bool true) rfl (by kernel_rfl) (by kernel_rfl) (by kernel_rfl) (fun _ _ _ h => h) (Or.inl ⟨by rfl, by intro w hSw; go_simp⟩) hHeld ?_
  try simp only [Act.put, List.setIfInBounds_toArray, List.set_cons_zero, List.set_cons_succ]
  refine wpAnyH_take (i := 36) (oi := { dst := some 77, op := Op.move (Operand.tmp 11), type := 4, pos := "law.go:26", after := #[{ on := 35, ground := Ground.guard }], guard := some (35, true) }) (v := .bool false) rfl (by kernel_rfl) (by kernel_rfl) (by kernel_rfl) (fun _ _ _ h => h) (Or.inl ⟨by rfl, by intro w hSw; go_simp⟩) hHeld ?_
  try simp only [Act.put, List.setIfInBounds_toArray, List.set_cons_zero, List.set_cons_succ]
  refine wpAnyH_take (i := 37) (oi := { dst := some 78, op := Op.unOp UnOp.not 4 (Operand.tmp 77), type := 4, pos := "law.go:26", after := #[{ on := 36, ground := Ground.data }, { on := 35, ground := Ground.guard }], guard := some (35, true) }) (v := .bool true) rfl (by kernel_rfl) (by kernel_rfl) (by kernel_rfl) (fun _ _ _ h => h) (Or.inl ⟨by rfl, by intro w hSw; go_simp⟩) hHeld ?_
  try simp only [Act.put, List.setIfInBounds_toArray, List.set_cons_zero, List.set_cons_succ]
  refine wpAnyH_take (i := 38) (oi := { dst := some 79, op := Op.pick (Operand.tmp 76) (Operand.tmp 78) (Operand.const (Value.bool false)), type := 4, pos := "law.go:26", after := #[{ on := 35, ground := Ground.data }, { on := 37, ground := Ground.data }], guard := none }) (v := .bool true) rfl (by kernel_rfl) (by kernel_rfl) (by kernel_rfl) (fun _ _ _ h => h) (Or.inl ⟨by rfl, by intro w hSw; go_simp⟩) hHeld ?_
  try simp only [Act.put, List.setIfInBounds_toArray, List.set_cons_zero, List.set_cons_succ]
  refine wpAnyH_take (i := 39) (oi := { dst := some 80, op := Op.move (Operand.tmp 79), type := 4, pos := "law.go:26", after := #[{ on := 38, ground := Ground.data }, { on := 35, ground := Ground.chain }], guard := none }) (v := .bool true) rfl (by kernel_rfl) (by kernel_rfl) (by kernel_rfl) (fun _ _ _ h => h) (Or.inl ⟨by rfl, by intro w hSw; go_simp⟩) hHeld ?_
  try simp only [Act.put, List.setIfInBounds_toArray, List.set_cons_zero, List.set_cons_succ]
  refine wpAnyH_take (i := 40) (oi := { dst := some 81, op := Op.move (Operand.tmp 2), type := 22, pos := "law.go:26", after := #[{ on := 39, ground := Ground.guard }], guard := some (39, true) }) (v := .slice (some ⟨g2, o2, none⟩) 1 c2) rfl (by kernel_rfl) (by kernel_rfl) (by kernel_rfl) (fun _ _ _ h => h) (Or.inl ⟨by rfl, by intro w hSw; go_simp⟩) hHeld ?_
  try simp only [Act.put, List.setIfInBounds_toArray, List.set_cons_zero, List.set_cons_succ]
  refine wpAnyH_ready (rs := [41]) (by kernel_rfl) (by simp) ?_
  refine AllReadyH.cons (o := { dst := some 82, op := Op.call { callee := Callee.value (Operand.func 10), args := #[Operand.tmp 81], argTypes := #[22] }, type := 28, pos := "law.go:26", after := #[{ on := 40, ground := Ground.data }, { on := 39, ground := Ground.chain }, { on := 39, ground := Ground.guard }], guard := some (39, true) }) rfl (fun K hK => ?_) AllReadyH.nil
  go_simp
  refine (CH1.out _ hHeld).mono ?_
  rintro e w41 ⟨rfl, hb41⟩
  go_wp2_with fail
  refine hK.out _ _ (hHeld.trans (hb41.mono hHeld.size)) (fun hHeld => ?_)
  clear hK K
  try simp only [Act.put, List.setIfInBounds_toArray, List.set_cons_zero, List.set_cons_succ]
  refine wpAnyH_take (i := 42) (oi := { dst := some 83, op := Op.binOp BinOp.eql 28 (Operand.tmp 82) (Operand.const (Value.int IntKind.i64 0)) 28, type := 4, pos := "law.go:26", after := #[{ on := 41, ground := Ground.data }, { on := 39, ground := Ground.guard }], guard := some (39, true) }) (v := .bool true) rfl (by kernel_rfl) (by kernel_rfl) (by kernel_rfl) (fun _ _ _ h => h) (Or.inl ⟨by rfl, by intro w hSw; go_simp⟩) hHeld ?_
  try simp only [Act.put, List.setIfInBounds_toArray, List.set_cons_zero, List.set_cons_succ]
  refine wpAnyH_take (i := 43) (oi := { dst := some 84, op := Op.pick (Operand.tmp 80) (Operand.tmp 83) (Operand.const (Value.bool false)), type := 4, pos := "law.go:26", after := #[{ on := 39, ground := Ground.data }, { on := 42, ground := Ground.data }], guard := none }) (v := .bool true) rfl (by kernel_rfl) (by kernel_rfl) (by kernel_rfl) (fun _ _ _ h => h) (Or.inl ⟨by rfl, by intro w hSw; go_simp⟩) hHeld ?_
  try simp only [Act.put, List.setIfInBounds_toArray, List.set_cons_zero, List.set_cons_succ]
  refine wpAnyH_take (i := 44) (oi := { dst := some 85, op := Op.move (Operand.tmp 84), type := 4, pos := "law.go:26", after := #[{ on := 43, ground := Ground.data }, { on := 41, ground := Ground.chain }], guard := none }) (v := .bool true) rfl (by kernel_rfl) (by kernel_rfl) (by kernel_rfl) (fun _ _ _ h => h) (Or.inl ⟨by rfl, by intro w hSw; go_simp⟩) hHeld ?_
  try simp only [Act.put, List.setIfInBounds_toArray, List.set_cons_zero, List.set_cons_succ]
  refine wpAnyH_take (i := 45) (oi := { dst := some 86, op := Op.build 26 #[], type := 26, pos := "law.go:26", after := #[{ on := 44, ground := Ground.guard }], guard := some (44, true) }) (v := .agg Z) rfl (by kernel_rfl) (by kernel_rfl) (by kernel_rfl) (fun _ _ _ h => h) (yieldsIf_buildC (by rfl) 26 _ rfl #[] rfl Z HBZ.out) hHeld ?_
  try simp only [Act.put, List.setIfInBounds_toArray, List.set_cons_zero, List.set_cons_succ]
  refine wpAnyH_ready (rs := [46]) (by kernel_rfl) (by simp) ?_
  refine AllReadyH.cons (o := { dst := some 87, op := Op.buildSlice 22 1 #[(0, Operand.tmp 86)], type := 22, pos := "law.go:26", after := #[{ on := 45, ground := Ground.data }, { on := 44, ground := Ground.guard }], guard := some (44, true) }) rfl (fun K hK => ?_) AllReadyH.nil
  refine step_build_run (by rfl) 22 1 _ rfl #[(0, .agg Z)] rfl _ _ (buildOneC _ zeroC Z HZ rfl) ?_
  refine hK.out _ _ (hHeld.alloc hHeld.size _) (fun hHeld => ?_)
  clear hK K
  try simp only [Act.put, List.setIfInBounds_toArray, List.set_cons_zero, List.set_cons_succ]
  refine wpAnyH_ready (rs := [47]) (by kernel_rfl) (by simp) ?_
  refine AllReadyH.cons (o := { dst := some 88, op := Op.call { callee := Callee.value (Operand.func 10), args := #[Operand.tmp 87], argTypes := #[22] }, type := 28, pos := "law.go:26", after := #[{ on := 46, ground := Ground.data }, { on := 44, ground := Ground.chain }, { on := 44, ground := Ground.guard }], guard := some (44, true) }) rfl (fun K hK => ?_) AllReadyH.nil
  go_simp
  refine (CH2.out _ _ (oneRdC _ zeroC Z HZ rfl)).mono ?_
  rintro e w47 ⟨rfl, hb47⟩
  go_wp2_with fail
  refine hK.out _ _ (hHeld.trans (hb47.mono hHeld.size)) (fun hHeld => ?_)
  clear hK K
  try simp only [Act.put, List.setIfInBounds_toArray, List.set_cons_zero, List.set_cons_succ]
  refine wpAnyH_take (i := 48) (oi := { dst := some 89, op := Op.binOp BinOp.eql 28 (Operand.tmp 88) (Operand.const (Value.int IntKind.i64 110)) 28, type := 4, pos := "law.go:26", after := #[{ on := 47, ground := Ground.data }, { on := 44, ground := Ground.guard }], guard := some (44, true) }) (v := .bool true) rfl (by kernel_rfl) (by kernel_rfl) (by kernel_rfl) (fun _ _ _ h => h) (Or.inl ⟨by rfl, by intro w hSw; go_simp⟩) hHeld ?_
  try simp only [Act.put, List.setIfInBounds_toArray, List.set_cons_zero, List.set_cons_succ]
  refine wpAnyH_take (i := 49) (oi := { dst := some 90, op := Op.pick (Operand.tmp 85) (Operand.tmp 89) (Operand.const (Value.bool false)), type := 4, pos := "law.go:26", after := #[{ on := 44, ground := Ground.data }, { on := 48, ground := Ground.data }], guard := none }) (v := .bool true) rfl (by kernel_rfl) (by kernel_rfl) (by kernel_rfl) (fun _ _ _ h => h) (Or.inl ⟨by rfl, by intro w hSw; go_simp⟩) hHeld ?_
  try simp only [Act.put, List.setIfInBounds_toArray, List.set_cons_zero, List.set_cons_succ]
  refine wpAnyH_take (i := 50) (oi := { dst := some 0, op := Op.assign (Operand.tmp 90), type := 4, pos := "law.go:26", after := #[{ on := 49, ground := Ground.data }, { on := 47, ground := Ground.chain }, { on := 0, ground := Ground.phase }, { on := 1, ground := Ground.phase }, { on := 2, ground := Ground.phase }, { on := 3, ground := Ground.phase }, { on := 4, ground := Ground.phase }, { on := 5, ground := Ground.phase }, { on := 6, ground := Ground.phase }, { on := 7, ground := Ground.phase }, { on := 8, ground := Ground.phase }, { on := 9, ground := Ground.phase }, { on := 10, ground := Ground.phase }, { on := 11, ground := Ground.phase }, { on := 12, ground := Ground.phase }, { on := 13, ground := Ground.phase }, { on := 14, ground := Ground.phase }, { on := 15, ground := Ground.phase }, { on := 16, ground := Ground.phase }, { on := 17, ground := Ground.phase }, { on := 18, ground := Ground.phase }, { on := 19, ground := Ground.phase }, { on := 20, ground := Ground.phase }, { on := 21, ground := Ground.phase }, { on := 22, ground := Ground.phase }, { on := 23, ground := Ground.phase }, { on := 24, ground := Ground.phase }, { on := 25, ground := Ground.phase }, { on := 26, ground := Ground.phase }, { on := 27, ground := Ground.phase }, { on := 28, ground := Ground.phase }, { on := 29, ground := Ground.phase }, { on := 30, ground := Ground.phase }, { on := 31, ground := Ground.phase }, { on := 32, ground := Ground.phase }, { on := 33, ground := Ground.phase }, { on := 34, ground := Ground.phase }, { on := 35, ground := Ground.phase }, { on := 36, ground := Ground.phase }, { on := 37, ground := Ground.phase }, { on := 38, ground := Ground.phase }, { on := 39, ground := Ground.phase }, { on := 40, ground := Ground.phase }, { on := 41, ground := Ground.phase }, { on := 42, ground := Ground.phase }, { on := 43, ground := Ground.phase }, { on := 44, ground := Ground.phase }, { on := 45, ground := Ground.phase }, { on := 46, ground := Ground.phase }, { on := 47, ground := Ground.phase }, { on := 48, ground := Ground.phase }, { on := 49, ground := Ground.phase }], guard := none }) (v := .bool true) rfl (by kernel_rfl) (by kernel_rfl) (by kernel_rfl) (fun _ _ _ h => h) (Or.inl ⟨by rfl, by intro w hSw; go_simp⟩) hHeld ?_
  try simp only [Act.put, List.setIfInBounds_toArray, List.set_cons_zero, List.set_cons_succ]
  refine wpAnyH_done (by kernel_rfl) ?_ _
  go_wp2
  go_ret
  exact ⟨rfl, HB9.out.trans (hHeld.mono HB9.out.size)⟩
end Go.Proofs.Ytieklabpdalahaa
