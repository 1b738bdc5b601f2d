/- Texts of our own that the row of ClaimsMore leans on, part 29. -/
import Derived.Test.YtieklabpdalahaaClaimsMoreJ24
import Derived.Test.YtieklabpdalahaaClaimsMoreJ25
import Derived.Test.YtieklabpdalahaaClaimsMoreJ28
import Derived.Maps.OwnSet
import Derived.DeepKeys4

/- The program's Enough: who has recorded, as a map of addresses. -/
namespace Go.Proofs.Ytieklabpdalahaa
open Go.RowKit Nums Sums Go.Maps
set_option linter.unusedVariables false
set_option linter.unusedSimpArgs false
set_option maxRecDepth 100000
def InA (a : AdT) : Prop := In64 a.r ∧ In64 a.n
theorem laidOutA : laidOutB Try.prog = true := by kernel_rfl
theorem rowA : (40 : TypeId) < Try.prog.types.size := of_decide_eq_true (by kernel_rfl)
theorem wideA : (match Try.prog.underlying 40 with | some (.array _ _) | some (.struct _) => true | _ => false) = true := by rw [Try.underlying40]
theorem lawA : Keyed Try.prog 40 := Keyed.of_law (deep_law_laid laidOutA (m := 2) (by omega) rowA (by kernel_rfl) wideA)
theorem cellsA : Try.prog.cellsOf 40 = 2 := by kernel_rfl
theorem cellsI : Try.prog.cellsOf 3 = 1 := by kernel_rfl
theorem keyTA : Try.prog.keyType 40 = true := by kernel_rfl
/-- What an address is as a key. -/
def kL (a : AdT) : Lit := .string (keyBytes [.int .i64 a.r, .int .i64 a.n])
theorem wf64 {n : Int} (h : In64 n) : (Lit.int .i64 n).wf = true := by
  unfold In64 at h
  have h1 : IntKind.i64.min = -9223372036854775808 := rfl
  have h2 : IntKind.i64.max = 9223372036854775807 := rfl
  simp [Lit.wf, h1, h2]
  omega
theorem typesA : ∃ m, Try.prog.types.size = m + 1 := by
  have h0 : 0 < Try.prog.types.size := Nat.lt_of_le_of_lt (Nat.zero_le _) rowA
  exact ⟨Try.prog.types.size - 1, (Nat.succ_pred_eq_of_pos h0).symm⟩
theorem keyA (a : AdT) (h : InA a) : keyOf Try.prog 40 (.agg #[.int .i64 a.r, .int .i64 a.n]) = some (kL a) := by
  obtain ⟨m, hm⟩ := typesA
  have hf : (Value.agg #[.int .i64 a.r, .int .i64 a.n]).formed Try.prog 40 = true := by
    simp [Value.formed, Try.underlying40, cellsA]
  have h1 : Try.prog.keyLits (m + 1) 3 [.int .i64 a.r] = some [.int .i64 a.r] := by
    simp [Program.keyLits, Try.underlying3, wf64 h.1]
  have h2 : Try.prog.keyLits (m + 1) 3 [.int .i64 a.n] = some [.int .i64 a.n] := by
    simp [Program.keyLits, Try.underlying3, wf64 h.2]
  unfold keyOf
  rw [Try.underlying40]
  simp only [keyTA, hf, Bool.and_self, if_true]
  rw [hm]
  unfold Program.keyLits
  rw [Try.underlying40]
  simp [Value.cells, cellsA, cellsI, h1, h2]
  rfl
theorem kL_inj {a b : AdT} (ha : InA a) (hb : InA b) (h : kL a = kL b) : a = b := by
  have h1 := keyA a ha
  rw [h] at h1
  have := lawA.inj h1 (keyA b hb)
  simp at this
  exact AdT.ext' this.1 this.2
theorem kL_key (a : AdT) : WideAt.IsKeyLit (kL a) := trivial
/-- Block b is a map that has just these addresses. -/
def SetIs (w : World) (b : Nat) (l : List AdT) : Prop := ∃ (n : Nat) (D : DataW Unit), n ≤ l.length ∧ w.ownsMap Try.prog 40 (unitElem (H := Unit)) b n D ∧ ∀ a, InA a → Maps.has D (kL a) = memA a l
theorem SetIs.made (w : World) : SetIs (w.alloc (.map #[] 0)) w.heap.size [] :=
  ⟨0, _, Nat.le_refl _, World.ownsMap_made w Try.prog 40 unitElem, fun a _ => by simp [Maps.has, memA]⟩
theorem SetIs.keep {w w' : World} {b : Nat} {l : List AdT} (h : SetIs w b l) (hb : Below w.heap.size w w') : SetIs w' b l := by
  obtain ⟨n, D, h1, h2, h3⟩ := h
  exact ⟨n, D, h1, h2.kept (row := none) ⟨hb.os, hb.tape, hb.output, hb.size, fun j hj _ => hb.block j hj⟩ (by simp), h3⟩
theorem SetIs.lt {w : World} {b : Nat} {l : List AdT} (h : SetIs w b l) : b < w.heap.size := by
  obtain ⟨n, D, h1, h2, h3⟩ := h
  exact h2.lt
theorem wpList_setput {w : World} {ops : Array Oper} {rest : List Oper} {o : Oper} {a : Act} {Q : Exit → Act → World → Prop} (hg : o.guard = none) (m x v : Operand) (hop : o.op = Op.mapUpdate 68 m x v)
    (b : Nat) (l : List AdT) (hm : a.eval m = .map (some b)) (hS : SetIs w b l) (hl : l.length ≤ 1000000) (c : AdT) (hc : InA c) (C : Array Value) (HC : Hid (C = (acells c).toArray)) (hx : a.eval x = .agg C) (hv : a.eval v = .agg #[])
    (hK : ∀ w', Hid (SetIs w' b (l ++ [c]) ∧ w.grownBy w' (some b)) → wpList Try.prog ops Q rest (a.put o.dst undef) w') : wpList Try.prog ops Q (o :: rest) a w := by
  obtain ⟨n, D, h1, h2, h3⟩ := hS
  refine wpList_mapUpdate_own w hg m x v 68 hop 40 80 lawA Try.underlying68 unitElem b n D hm h2 (by unfold maxLen; omega) _ _ (kL c) hx hv (by rw [HC.out]; exact keyA c hc) (.agg []) [] unitElem_mk ?_
  intro w' k1 k2
  refine hK w' ⟨⟨n + 1, _, by simp; omega, k1, fun y hy => ?_⟩, k2⟩
  by_cases e : y = c
  · subst e
    rw [Maps.has_put_same h2.isMap (kL_key y)]
    exact (memA_iff.2 (by simp)).symm
  · rw [Maps.has_put_other (fun k => e (kL_inj hy hc k)), h3 y hy, Bool.eq_iff_iff, memA_iff, memA_iff]
    simp [e]
theorem wpList_sethas {w : World} {ops : Array Oper} {rest : List Oper} {o : Oper} {a : Act} {Q : Exit → Act → World → Prop} (hg : o.guard = none) (m x : Operand) (hop : o.op = Op.lookup 68 m x true)
    (b : Nat) (l : List AdT) (hm : a.eval m = .map (some b)) (hS : SetIs w b l) (c : AdT) (hc : InA c) (hx : a.eval x = .agg #[.int .i64 c.r, .int .i64 c.n]) (y : Bool) (hy : memA c l = y)
    (hK : wpList Try.prog ops Q rest (a.put o.dst (.tuple #[.agg #[], .bool y])) w) : wpList Try.prog ops Q (o :: rest) a w := by
  obtain ⟨n, D, h1, h2, h3⟩ := hS
  refine wpList_lookup_own_unit w hg m x 68 hop 40 80 lawA Try.underlying68 (by kernel_rfl) b n D hm h2 _ (kL c) hx (keyA c hc) ?_
  rw [h3 c hc, hy]
  exact hK
theorem infoA2 : ∃ Z : Array Value, Hid (Z = (acells ⟨0, 0⟩).toArray) ∧ Hid ((Try.prog.info? 40).map (fun i => (i.zero, i.size)) = some (some (.agg Z), Z.size)) ∧ Hid (Z.size = 2) := by
  refine ⟨_, hidk rfl, ?_, hidk rfl⟩
  show _ = _
  obtain ⟨i0, hi, hz0, hz1, hz2⟩ := info_parts infoAdrs
  rw [hi]
  simp [hz0, hz1]
  rfl
theorem makeMapA (n : Int) (w : World) : (Instr.makeMap 68 (some (.int .i64 n))).run Try.prog w = .ok (.map (some w.heap.size)) (w.alloc (.map #[] 0)) := by
  simp [Instr.makeMap, run_underlying Try.underlying68, asInt, asIntOf]
set_option maxHeartbeats 4000000 in
theorem recorded_any (ad : Option Addr) (len cap : Nat) (l : List AdT) (w : World) (h : AReads w ad len cap l) (hin : ∀ x ∈ l, InA x) (hlen : len ≤ 1000000) :
    Calls Try.prog 37 #[.slice ad len cap] w fun e w' => ∃ b, e = .returned (.map (some b)) ∧ SetIs w' b l ∧ Below w.heap.size w w' := by
  have H := hidk h
  have HL := hidk h.ln
  have HIN := hidk hin
  have hmx : len ≤ 9223372036854775807 := by omega
  have hmm := makeMapA (len : Int)
  obtain ⟨Z, HZ, HA, H2⟩ := infoA2
  clear h hin
  go_enter Try.func37, Try.ntmps37
  go_wp2
  go_loopw [5, 11] (fun _ v wr => ∃ k : Nat, k ≤ len ∧ v = .int .i64 k ∧ Hid (SetIs wr w.heap.size (l.take k)) ∧ Hid (Below w.heap.size w wr)) (fun _ v _ => len - (intOf v).toNat)
  case atStart => exact ⟨0, by omega, rfl, SetIs.made w, (Below.refl _ _).alloc (Nat.le_refl _) _⟩
  case round =>
    obtain ⟨k, hk, rfl, HS, HB⟩ := hrel
    by_cases hlt : k < len
    · have hd : decide ((k : Int) < (len : Int)) = true := by rw [decide_eq_true_eq]; omega
      have hw1 := wrap_int ((k : Int) + 1) (by omega) (by omega)
      obtain ⟨g, o, rfl, hg⟩ := H.out.at (by omega)
      have hkl : k < l.length := by have := HL.out; omega
      obtain ⟨Y, HY⟩ : ∃ Y, Hid (Y = (acells l[k]).toArray) := ⟨_, hidk rfl⟩
      have HSY : Hid ((Try.prog.info? 40).map (·.size) = some Y.size) := by show _ = _; rw [sizeA, HY.out]; rfl
      have HZY : Hid (Z.size = Y.size) := by show _ = _; rw [H2.out, HY.out]; rfl
      have H1Y : Hid (Y.all (·.oneCell') = true) := by show _ = _; rw [HY.out, List.all_toArray, List.all_eq_true]; exact acells_one _
      have HRY : Hid (wr.rangeAt g (o + 2 * k) Y.toList) := by show World.rangeAt _ _ _ _; rw [HY.out]; exact (H.out.keep HB.out).range k hkl
      have ix := fun W => index_ad W g o len cap k .i64 hlt
      have HIK := hidk (HIN.out _ (List.getElem_mem hkl))
      have HTK : Hid (l.take k ++ [l[k]] = l.take (k + 1)) := (List.take_succ_eq_append_getElem hkl).symm
      have HTL : Hid ((l.take k).length ≤ 1000000) := by show _ ≤ _; rw [List.length_take]; omega
      obtain ⟨x, hx⟩ : ∃ x, l[k] = x := ⟨_, rfl⟩
      rw [hx] at HY HIK HTK
      clear hx hkl
      go_wp2_with (first
        | (show wpList _ _ _ ({ dst := some 14, op := _, type := _, pos := _, after := _, guard := _ } :: _) _ _; refine wpList_mid_w (by rfl) 40 (.tmp 13) rfl g (o + 2 * k) rfl Y _ HRY.out Try.underlying40 rfl HSY.out ?_; try simp only [Act.put, List.setIfInBounds_toArray, List.set_cons_zero, List.set_cons_succ])
        | (show wpList _ _ _ ({ dst := some 5, op := _, type := _, pos := _, after := _, guard := _ } :: _) _ _; refine wpList_new_var rfl 40 rfl Z HA.out ?_; intro g5 w2 HM; have HG := hidk HM.out.row; try simp only [Act.put, List.setIfInBounds_toArray, List.set_cons_zero, List.set_cons_succ])
        | (show wpList _ _ _ ({ dst := none, op := Op.store 40 _ _, type := _, pos := _, after := _, guard := _ } :: _) _ _; refine wpList_set_var rfl 40 (.tmp 5) (.tmp 14) rfl g5 Y rfl rfl 40 Z HG.out HSY.out HZY.out H1Y.out ?_; intro w3 HW; have HB3 : Hid (Below wr.heap.size wr w3) := HW.out.below _ _ HM.out.below (by rw [HM.out.new]; exact Nat.le_refl _); have HR3 : Hid (w3.rangeAt g5 0 Y.toList) := range_row (t := 40) (fr := (0, 0)) (by rw [Array.toArray_toList]; exact HW.out.row); have HS3 := hidk (HS.out.keep HB3.out); try simp only [Act.put, List.setIfInBounds_toArray, List.set_cons_zero, List.set_cons_succ])
        | (show wpList _ _ _ ({ dst := some 16, op := _, type := _, pos := _, after := _, guard := _ } :: _) _ _; refine wpList_mid_w (by rfl) 40 (.tmp 5) rfl g5 0 rfl Y _ HR3.out Try.underlying40 rfl HSY.out ?_; try simp only [Act.put, List.setIfInBounds_toArray, List.set_cons_zero, List.set_cons_succ])
        | (show wpList _ _ _ ({ dst := none, op := Op.mapUpdate 68 _ _ _, type := _, pos := _, after := _, guard := _ } :: _) _ _; refine wpList_setput rfl (.tmp 15) (.tmp 16) (.tmp 17) rfl w.heap.size (l.take k) rfl HS3.out HTL.out x HIK.out Y HY rfl rfl ?_; intro w4 HS4; try simp only [Act.put, List.setIfInBounds_toArray, List.set_cons_zero, List.set_cons_succ])
        | fail)
      have HSN : Hid (SetIs w4 w.heap.size (l.take (k + 1))) := by show SetIs _ _ _; rw [← HTK.out]; exact HS4.out.1
      have HBN : Hid (Below w.heap.size w w4) := (HB.out.trans (HB3.out.mono HB.out.size)).grown HS4.out.2 (Nat.le_trans HB.out.size HB3.out.size) (fun j e => by cases e; exact Nat.le_refl _)
      clear HS4 HM HG HW HB3 HR3 HS3
      go_wp2
      go_roundw
      case rel => exact ⟨k + 1, by omega, by go_num, HSN, HBN⟩
      case measure => simp [intOf]; omega
    · obtain rfl : len = k := by omega
      have hd : decide ((len : Int) < (len : Int)) = false := by rw [decide_eq_false_iff_not]; omega
      have HE : Hid (SetIs wr w.heap.size l) := by
        have := HS.out
        rwa [List.take_of_length_le (by have := HL.out; omega)] at this
      go_wp2
      go_ret
      exact ⟨_, rfl, HE.out, HB.out⟩
end Go.Proofs.Ytieklabpdalahaa

/- The program's Enough. -/
namespace Go.Proofs.Ytieklabpdalahaa
open Go.RowKit Nums Sums Go.Maps
set_option linter.unusedVariables false
set_option linter.unusedSimpArgs false
set_option maxRecDepth 100000
def HrO (w : World) (b : Nat) (l : List AdT) (r : Int) (c i : Value) (wr : World) : Prop := ∃ q y : Nat, q ≤ 3 ∧ y ≤ q ∧ c = .int .i64 (y : Int) ∧ i = .int .i64 ((q : Int) + 1) ∧ y = cntK l r q ∧ SetIs wr b l ∧ Below w.heap.size w wr
set_option maxHeartbeats 4000000 in
theorem hasRec_any (b : Nat) (l : List AdT) (r : Int) (w : World) (h : SetIs w b l) (hr : 1 ≤ r ∧ r ≤ 5) :
    Calls Try.prog 38 #[.map (some b), .int .i64 r] w fun e w' => e = .returned (.bool (hasR l r)) ∧ Below w.heap.size w w' := by
  have H := hidk h
  clear h
  go_enter Try.func38, Try.ntmps38
  go_wp2
  go_loopw [5, 6, 7, 8] (fun c i _ _ wr => HrO w b l r c i wr) (fun _ i _ _ _ => 4 - (intOf i).toNat)
  case atStart => exact ⟨0, 0, by omega, Nat.le_refl _, rfl, rfl, rfl, H.out, Below.refl _ _⟩
  case round =>
    obtain ⟨q, y, hq, hy, rfl, rfl, HY', HS', HB'⟩ := hrel
    have HY := hidk HY'
    have HS := hidk HS'
    have HB := hidk HB'
    clear HY' HS' HB'
    by_cases hql : q < 3
    · have hdq : decide ((q : Int) + 1 ≤ 3) = true := decide_eq_true (by omega)
      have hw1 := wrap_int ((q : Int) + 1 + 1) (by omega) (by omega)
      have hw2 := wrap_int ((y : Int) + 1) (by omega) (by omega)
      have HIA : Hid (InA ⟨r, (q : Int) + 1⟩) := by
        refine ⟨?_, ?_⟩
        · show In64 r; unfold In64; omega
        · show In64 ((q : Int) + 1); unfold In64; omega
      obtain ⟨bb, hbb⟩ : ∃ b, memA (⟨r, (q : Int) + 1⟩ : AdT) l = b := ⟨_, rfl⟩
      have HBB := hidk hbb
      have HC : Hid (cntK l r (q + 1) = y + (if bb = true then 1 else 0)) := by
        show _ = _
        rw [cntK, ← HY.out, ← hbb]
        simp
      clear hbb
      have HS2 : Hid (SetIs (wr.alloc (.cells #[] 80)) b l) := HS.out.keep ((Below.refl _ _).alloc (Nat.le_refl _) _)
      have HB2 : Hid (Below w.heap.size w (wr.alloc (.cells #[] 80))) := HB.out.alloc HB.out.size _
      cases bb
      · go_wp2_with (first
          | (show wpList _ _ _ ({ dst := some 18, op := _, type := _, pos := _, after := _, guard := _ } :: _) _ _; refine wpList_sethas rfl (.tmp 14) (.tmp 17) rfl b l rfl HS.out ⟨r, (q : Int) + 1⟩ HIA.out rfl false HBB.out ?_; try simp only [Act.put, List.setIfInBounds_toArray, List.set_cons_zero, List.set_cons_succ])
          | fail)
        go_roundw
        case rel => exact ⟨q + 1, y, by omega, by omega, rfl, by go_num, by rw [HC.out]; simp, HS2.out, HB2.out⟩
        case measure => simp [intOf]; omega
      · go_wp2_with (first
          | (show wpList _ _ _ ({ dst := some 18, op := _, type := _, pos := _, after := _, guard := _ } :: _) _ _; refine wpList_sethas rfl (.tmp 14) (.tmp 17) rfl b l rfl HS.out ⟨r, (q : Int) + 1⟩ HIA.out rfl true HBB.out ?_; try simp only [Act.put, List.setIfInBounds_toArray, List.set_cons_zero, List.set_cons_succ])
          | fail)
        go_roundw
        case rel => exact ⟨q + 1, y + 1, by omega, by omega, by go_num, by go_num, by rw [HC.out]; simp, HS2.out, HB2.out⟩
        case measure => simp [intOf]; omega
    · obtain rfl : q = 3 := by omega
      have hdq : decide (((3 : Nat) : Int) + 1 ≤ 3) = false := by decide
      have HE : Hid (hasR l r = decide (2 ≤ (y : Int))) := by
        show _ = _
        rw [hasR_cnt, ← cntK_three, ← HY.out, Bool.eq_iff_iff, decide_eq_true_eq, decide_eq_true_eq]
        omega
      obtain ⟨R, hR⟩ : ∃ b, decide (2 ≤ (y : Int)) = b := ⟨_, rfl⟩
      rw [hR] at HE
      go_wp2
      go_ret
      exact ⟨by rw [HE.out]; rfl, HB.out⟩
theorem haveN_next (r : Int) (l : List AdT) (k : Nat) (P R : Bool) (hP : ((k : Int) + 1 == r) = P) (hR : hasR l ((k : Int) + 1) = R) : haveN r l (k + 1) = haveN r l k + (if (!P && R) = true then 1 else 0) := by
  rw [haveN]
  congr 1
  have e : ((k + 1 : Nat) : Int) = (k : Int) + 1 := by omega
  rw [e, hR, ← hP]
  by_cases h : (k : Int) + 1 = r
  · simp [h]
  · simp [h]
set_option maxHeartbeats 8000000 in
theorem kEnough_not (m r : Int) (ad : Option Addr) (len cap : Nat) (l : List AdT) (w : World) (h : ¬ (3 ≤ m ∧ m ≤ 5 ∧ 1 ≤ r ∧ r ≤ m)) :
    Calls Try.prog 22 #[.int .i64 m, .int .i64 r, .slice ad len cap] w fun e w' => e = .returned (.bool (enoughB m r l)) ∧ Below w.heap.size w w' := by
  have HE := hidk (enough_not (l := l) h)
  by_cases h3 : m < 3
  · have d3 : decide (m < 3) = true := decide_eq_true h3
    clear h h3
    go_enter Try.func22, Try.ntmps22
    go_wp2
    go_ret
    exact ⟨by rw [HE.out]; rfl, Below.refl _ _⟩
  · have d3 : decide (m < 3) = false := decide_eq_false h3
    by_cases h5 : 5 < m
    · have d5 : decide (5 < m) = true := decide_eq_true h5
      clear h h3 h5
      go_enter Try.func22, Try.ntmps22
      go_wp2
      go_ret
      exact ⟨by rw [HE.out]; rfl, Below.refl _ _⟩
    · have d5 : decide (5 < m) = false := decide_eq_false h5
      by_cases hr : r < 1
      · have d1 : decide (r < 1) = true := decide_eq_true hr
        clear h hr h3 h5
        go_enter Try.func22, Try.ntmps22
        go_wp2
        go_ret
        exact ⟨by rw [HE.out]; rfl, Below.refl _ _⟩
      · have d1 : decide (r < 1) = false := decide_eq_false hr
        have d2 : decide (m < r) = true := decide_eq_true (by omega)
        clear h hr h3 h5
        go_enter Try.func22, Try.ntmps22
        go_wp2
        go_ret
        exact ⟨by rw [HE.out]; rfl, Below.refl _ _⟩
/-- What the rounds over the regions keep. -/
def EnK (w : World) (M : Nat) (r : Int) (l : List AdT) (b : Nat) (c i : Value) (wr : World) : Prop := ∃ k x : Nat, k ≤ M ∧ x ≤ k ∧ c = .int .i64 (x : Int) ∧ i = .int .i64 ((k : Int) + 1) ∧ x = haveN r l k ∧ SetIs wr b l ∧ Below w.heap.size w wr
set_option maxHeartbeats 16000000 in
theorem kEnough_in (M : Nat) (r : Int) (ad : Option Addr) (len cap : Nat) (l : List AdT) (w : World) (h : AReads w ad len cap l) (hin : ∀ x ∈ l, InA x) (hlen : len ≤ 1000000) (hr : 3 ≤ (M : Int) ∧ (M : Int) ≤ 5 ∧ 1 ≤ r ∧ r ≤ (M : Int)) :
    Calls Try.prog 22 #[.int .i64 (M : Int), .int .i64 r, .slice ad len cap] w fun e w' => e = .returned (.bool (enoughB M r l)) ∧ Below w.heap.size w w' := by
  have RE := hidk (recorded_any ad len cap l w h hin hlen)
  have HE := hidk (enough_of (l := l) hr)
  have d1 : decide (r < 1) = false := decide_eq_false (by omega)
  have d2 : decide ((M : Int) < r) = false := decide_eq_false (by omega)
  have d3 : decide ((M : Int) < 3) = false := decide_eq_false (by omega)
  have d5 : decide (5 < (M : Int)) = false := decide_eq_false (by omega)
  have n3 : ¬ M < 3 := by omega
  have n5 : ¬ 5 < M := by omega
  have m3 : 3 ≤ M := by omega
  have hM : M ≤ 5 := by omega
  have hws := wrap_int ((M : Int) - 1) (by omega) (by omega)
  clear h hin
  go_enter Try.func22, Try.ntmps22
  go_wp2_with fail
  refine RE.out.mono ?_
  rintro e w1 ⟨b, rfl, hs1, hb1⟩
  have HS1 := hidk hs1
  have HB1 := hidk hb1
  clear hs1 hb1 RE
  go_wp2
  go_loopw [8, 9] (fun c i wr => EnK w M r l b c i wr) (fun _ i _ => M + 1 - (intOf i).toNat)
  case atStart => exact ⟨0, 0, by omega, Nat.le_refl _, rfl, rfl, rfl, HS1.out, HB1.out⟩
  case round =>
    obtain ⟨k, x, hk, hx, rfl, rfl, HX', HS', HB'⟩ := hrel
    have HX := hidk HX'
    have HS := hidk HS'
    have HB := hidk HB'
    clear HX' HS' HB' HS1 HB1
    by_cases hlt : k < M
    · have hd : decide ((k : Int) + 1 ≤ (M : Int)) = true := decide_eq_true (by omega)
      have hw1 := wrap_int ((k : Int) + 1 + 1) (by omega) (by omega)
      have hw2 := wrap_int ((x : Int) + 1) (by omega) (by omega)
      have HR := hidk (hasRec_any b l ((k : Int) + 1) wr HS.out (by omega))
      obtain ⟨P, hP⟩ : ∃ b, ((k : Int) + 1 == r) = b := ⟨_, rfl⟩
      obtain ⟨R, hR⟩ : ∃ b, hasR l ((k : Int) + 1) = b := ⟨_, rfl⟩
      have HN := hidk (haveN_next r l k P R hP hR)
      rw [hR] at HR
      rw [← HX.out] at HN
      clear hR
      cases P
      · have e1 : ¬ (k : Int) + 1 = r := by simpa using hP
        have e2 : decide ((k : Int) + 1 = r) = false := decide_eq_false e1
        have e3 : (!((k : Int) + 1 == r)) = true := by rw [hP]; rfl
        go_wp2_with fail
        refine HR.out.mono ?_
        rintro e w2 ⟨rfl, hb2⟩
        have HB2 := hidk (HB.out.trans (hb2.mono HB.out.size))
        have HS2 := hidk (HS.out.keep hb2)
        clear hb2
        cases R
        · go_wp2
          go_roundw
          case rel => exact ⟨k + 1, x, by omega, by omega, rfl, by go_num, by rw [HN.out]; simp, HS2.out, HB2.out⟩
          case measure => simp [intOf]; omega
        · go_wp2
          go_roundw
          case rel => exact ⟨k + 1, x + 1, by omega, by omega, by go_num, by go_num, by rw [HN.out]; simp, HS2.out, HB2.out⟩
          case measure => simp [intOf]; omega
      · have e1 : (k : Int) + 1 = r := by simpa using hP
        have e2 : decide ((k : Int) + 1 = r) = true := decide_eq_true e1
        have e3 : (!((k : Int) + 1 == r)) = false := by rw [hP]; rfl
        go_wp2
        go_roundw
        case rel => exact ⟨k + 1, x, by omega, by omega, rfl, by go_num, by rw [HN.out]; simp, HS.out, HB.out⟩
        case measure => simp [intOf]; omega
    · obtain rfl : k = M := by omega
      have hd : decide ((k : Int) + 1 ≤ (k : Int)) = false := decide_eq_false (by omega)
      have hw1 := wrap_int (2 * (x : Int)) (by omega) (by omega)
      rw [← HX.out] at HE
      obtain ⟨R, hR⟩ : ∃ b, decide ((k : Int) - 1 < 2 * (x : Int)) = b := ⟨_, rfl⟩
      rw [hR] at HE
      go_wp2
      go_ret
      exact ⟨by rw [HE.out]; rfl, HB.out⟩
/-- P12.3. -/
theorem kEnough_any (m r : Int) (ad : Option Addr) (len cap : Nat) (l : List AdT) (w : World) (h : AReads w ad len cap l) (hin : ∀ x ∈ l, InA x) (hlen : len ≤ 1000000) :
    Calls Try.prog 22 #[.int .i64 m, .int .i64 r, .slice ad len cap] w fun e w' => e = .returned (.bool (enoughB m r l)) ∧ Below w.heap.size w w' := by
  by_cases hr : 3 ≤ m ∧ m ≤ 5 ∧ 1 ≤ r ∧ r ≤ m
  · obtain ⟨M, rfl⟩ : ∃ M : Nat, m = M := ⟨m.toNat, by omega⟩
    exact kEnough_in M r ad len cap l w h hin hlen hr
  · exact kEnough_not m r ad len cap l w hr
end Go.Proofs.Ytieklabpdalahaa

/- What the statements of chapter 12 ask first: rows of addresses. -/
namespace Go.Proofs.Ytieklabpdalahaa
open Go.RowKit Nums Sums Go.Maps
set_option linter.unusedVariables false
set_option linter.unusedSimpArgs false
set_option maxRecDepth 100000
theorem wpList_build_someA {P : Program} {ops : Array Oper} {rest : List Oper} {o : Oper} {a : Act} {w : World} {Q : Exit → Act → World → Prop} (hg : o.guard = none) (t : TypeId) (parts : Array (Nat × Operand)) (ho : o.op = .build t parts) (vals : List (Nat × Value)) (hv : (parts.toList.map fun p => (p.1, a.eval p.2)) = vals)
    (cs : Array Value) (hb : P.built t vals = some cs) (h : wpList P ops Q rest (a.put o.dst (.agg cs)) w) : wpList P ops Q (o :: rest) a w := by
  refine wpList_build_row hg t parts ho cs ?_ h
  rw [← hb, ← hv, Array.toList_map]
/-! A literal of addresses. -/
theorem run_build_ads (w : World) (n : Nat) (l : List AdT) (hn : l.length = n) (h1 : 0 < n) (h2 : n ≤ 100) (parts : Array (Nat × Value)) (hp : parts.toList = ((l.map acells).zipIdx 0).map fun x => (x.2, Value.agg x.1.toArray)) :
    (Instr.buildSlice 38 n parts).run Try.prog w = .ok (.slice (some ⟨w.heap.size, 0, none⟩) n n) (w.alloc (.cells (adcL l).toArray 40)) := by
  obtain ⟨ie, hie, hz, hs, hy⟩ := info_parts infoAdrs
  refine run_buildSlice w 38 40 n parts _ ie _ Try.underlying38 hie hz (by rw [hs]; omega) (by rw [hs]; omega) ?_
  rw [hs, hp]
  have e : (l.map acells).flatten = adcL l := by unfold adcL; rw [List.flatMap_def]
  generalize hcs : Array.map _ (Array.range (n * 2)) = cs
  have hcz : cs.size = n * 2 := by rw [← hcs]; simp
  rw [fill_rowsK 2 (l.map acells) 0 cs [] cs.toList rfl (by simp) (fun d h => by
    obtain ⟨x, hx, rfl⟩ := List.mem_map.1 h
    rfl) (by simp [hcz, hn]), e]
  rfl
theorem AReads.new (W : World) (l : List AdT) (n : Nat) (hn : l.length = n) (h1 : n ≤ 100) (L : Array Value) (HL : Hid (L = (adcL l).toArray)) : AReads (W.alloc (.cells L 40)) (some ⟨W.heap.size, 0, none⟩) n n l := by
  refine ⟨hn, Nat.le_refl _, by unfold maxLen; omega, fun _ _ => trivial, .inr ⟨_, _, rfl, fun i hi j v hj => ?_⟩⟩
  have := adcL_at l (fun _ _ => trivial) i hi j v hj
  rw [cell_of_row _ _ _ _ 40 (0, 0) (heap_alloc_new W _), HL.out, Nat.zero_add]
  simpa using this
theorem builtA (r n : Int) : Try.prog.built 40 [(0, .int .i64 r), (1, .int .i64 n)] = some (acells ⟨r, n⟩).toArray := by kernel_rfl
set_option maxHeartbeats 2000000 in
theorem at_any (r n : Int) (w : World) : Calls Try.prog 25 #[.int .i64 r, .int .i64 n] w fun e w' => e = .returned (.agg #[.int .i64 r, .int .i64 n]) ∧ Below w.heap.size w w' := by
  obtain ⟨Z, HZ, HA, H2⟩ := infoA2
  obtain ⟨X, HX⟩ : ∃ X, Hid (X = (acells ⟨r, n⟩).toArray) := ⟨_, hidk rfl⟩
  have HBX : Hid (Try.prog.built 40 [(0, .int .i64 r), (1, .int .i64 n)] = some X) := by show _ = _; rw [HX.out]; exact builtA r n
  have HSX : Hid ((Try.prog.info? 40).map (·.size) = some X.size) := by show _ = _; rw [sizeA, HX.out]; rfl
  have HZX : Hid (Z.size = X.size) := by show _ = _; rw [H2.out, HX.out]; rfl
  have H1X : Hid (X.all (·.oneCell') = true) := by show _ = _; rw [HX.out, List.all_toArray, List.all_eq_true]; exact acells_one _
  go_enter Try.func25, Try.ntmps25
  go_wp2_with (first
    | (show wpList _ _ _ ({ dst := some 4, op := _, type := _, pos := _, after := _, guard := _ } :: _) _ _; refine wpList_new_var rfl 40 rfl Z HA.out ?_; intro g4 w1 HM; have HG := hidk HM.out.row; try simp only [Act.put, List.setIfInBounds_toArray, List.set_cons_zero, List.set_cons_succ])
    | (show wpList _ _ _ ({ dst := some 7, op := _, type := _, pos := _, after := _, guard := _ } :: _) _ _; refine wpList_build_someA rfl 40 _ rfl [(0, .int .i64 r), (1, .int .i64 n)] rfl X HBX.out ?_; try simp only [Act.put, List.setIfInBounds_toArray, List.set_cons_zero, List.set_cons_succ])
    | (refine wpList_set_var rfl 40 (.tmp 4) (.tmp 7) rfl g4 X rfl rfl 40 Z HG.out HSX.out HZX.out H1X.out ?_; intro w2 HW; try simp only [Act.put, List.setIfInBounds_toArray, List.set_cons_zero, List.set_cons_succ])
    | fail)
  refine bodyPost_ret (v := .agg X) ?_ rfl ⟨by rw [HX.out]; rfl, HW.out.below w.heap.size w HM.out.below (by rw [HM.out.new]; exact Nat.le_refl _)⟩
  exact results_cell_row (p := 4) (ty := 40) rfl _ _ g4 40 X (0, 0) _ rfl HW.out.row Try.underlying40 rfl HSX.out
def e0L : List AdT := [⟨2, 1⟩, ⟨3, 1⟩]
def e1L : List AdT := [⟨2, 1⟩, ⟨2, 3⟩, ⟨3, 1⟩]
def e2L : List AdT := [⟨2, 1⟩, ⟨2, 3⟩, ⟨3, 1⟩, ⟨3, 2⟩]
def e3L : List AdT := [⟨2, 1⟩, ⟨2, 2⟩, ⟨3, 1⟩, ⟨3, 2⟩]
def e4L : List AdT := [⟨1, 1⟩, ⟨1, 2⟩, ⟨2, 1⟩, ⟨2, 2⟩]
theorem e1_is : addA e0L ⟨2, 3⟩ = e1L := by kernel_rfl
theorem e2_is : addA e1L ⟨3, 2⟩ = e2L := by kernel_rfl
theorem en1 : enoughB 3 1 e1L = false := by decide
theorem en2 : enoughB 3 1 e2L = true := by decide
theorem en3 : enoughB 4 1 e3L = true := by decide
theorem en4 : enoughB 3 1 e4L = false := by decide
theorem in_small {l : List AdT} (h : ∀ x ∈ l, 0 ≤ x.r ∧ x.r ≤ 9 ∧ 0 ≤ x.n ∧ x.n ≤ 9) : ∀ x ∈ l, InA x := fun x hx => by
  have := h x hx
  refine ⟨?_, ?_⟩ <;> unfold In64 <;> omega
theorem in_e1 : ∀ x ∈ e1L, InA x := in_small (by decide)
theorem in_e2 : ∀ x ∈ e2L, InA x := in_small (by decide)
theorem in_e3 : ∀ x ∈ e3L, InA x := in_small (by decide)
theorem in_e4 : ∀ x ∈ e4L, InA x := in_small (by decide)
/-- A row of addresses that a call handed out, wherever it is looked at. -/
structure OutA (B : Nat) (w : World) (v : Value) (l : List AdT) (a : Option Addr) (cap : Nat) : Prop where
  val : v = .slice a l.length cap
  rd : AReads w a l.length cap l
  nil : a = none → cap = 0
theorem outA {w : World} {B : Nat} {v : Value} {l : List AdT} (h : w.ownsRow B 40 2 v l.length (adcL l)) : ∃ a cap, OutA B w v l a cap := by
  obtain ⟨a, cap, h1, h2, h3, _⟩ := AReads.own h (fun _ _ => trivial)
  exact ⟨a, cap, h1, h2, h3⟩
set_option maxHeartbeats 16000000 in
/-- The document's rows of addresses come out. -/
theorem enough_true (w : World) : Calls Try.prog 21 #[] w fun e w' => e = .returned (.bool true) ∧ Below w.heap.size w w' := by
  have ENB : Hid (∀ (m r : Int) (ad : Option Addr) (len cap : Nat) (l : List AdT) (W : World), AReads W ad len cap l → (∀ x ∈ l, InA x) → len ≤ 1000 → ∀ b, enoughB m r l = b → Calls Try.prog 22 #[.int .i64 m, .int .i64 r, .slice ad len cap] W fun e w' => e = .returned (.bool b) ∧ Below W.heap.size W w') := fun m r ad len cap l W h1 h2 h3 b hb => by rw [← hb]; exact kEnough_any m r ad len cap l W h1 h2 (by omega)
  have ADD : Hid (∀ (ad : Option Addr) (len cap : Nat) (l : List AdT) (a : AdT) (W : World), AReads W ad len cap l → (ad = none → cap = 0) → len ≤ 1000 → ∀ l2, addA l a = l2 → Calls Try.prog 18 #[.slice ad len cap, .agg #[.int .i64 a.r, .int .i64 a.n]] W fun e w' => ∃ v, e = .returned v ∧ w'.ownsRow W.heap.size 40 2 v l2.length (adcL l2) ∧ Below W.heap.size W w') := fun ad len cap l a W h1 h2 h3 l2 h4 => by rw [← h4]; exact kAdd_any ad len cap l a _ (hidk rfl) W h1 h2 (by omega)
  have eq23 := fun W => eqAddr ⟨2, 3⟩ ⟨2, 3⟩ true (by simp) W
  go_enter Try.func21, Try.ntmps21
  go_wp2_with fail
  refine (at_any 2 1 _).mono ?_
  rintro e v1 ⟨rfl, hc1⟩
  go_wp2_with fail
  refine (at_any 3 1 _).mono ?_
  rintro e v2 ⟨rfl, hc2⟩
  have BU := run_build_ads v2 2 e0L rfl (by omega) (by omega) #[(0, .agg #[.int .i64 2, .int .i64 1]), (1, .agg #[.int .i64 3, .int .i64 1])] rfl
  go_wp2_with (first
    | (show wpList _ _ _ ({ dst := some 4, op := _, type := _, pos := _, after := _, guard := _ } :: _) _ _; refine wpList_build_run rfl 38 2 _ rfl _ rfl _ _ BU ?_; try simp only [Act.put, List.setIfInBounds_toArray, List.set_cons_zero, List.set_cons_succ])
    | fail)
  refine (at_any 2 3 _).mono ?_
  rintro e v3 ⟨rfl, hc3⟩
  have hR0 := (AReads.new v2 e0L 2 rfl (by omega) _ (hidk rfl)).keep hc3
  have hB0 : Below w.heap.size w v3 := ((hc1.trans (hc2.mono hc1.size)).alloc (Nat.le_trans hc1.size hc2.size) _).trans (hc3.mono (by have := hc1.size; have := hc2.size; simp; omega))
  clear hc1 hc2 hc3 BU
  go_wp2_with fail
  refine (ADD.out _ 2 2 e0L ⟨2, 3⟩ _ hR0 (fun e => by cases e) (by omega) e1L e1_is).mono ?_
  rintro e w1 ⟨x1, rfl, ho1, hb1⟩
  obtain ⟨a1, c1, ou1⟩ := outA ho1
  have hx1 : x1 = .slice a1 3 c1 := ou1.val
  subst hx1
  have HR1 : Hid (AReads w1 a1 3 c1 e1L) := ou1.rd
  have HN1 : Hid (a1 = none → c1 = 0) := ou1.nil
  have HB1 := hidk (hB0.trans (hb1.mono hB0.size))
  obtain ⟨g1, o1, hg1, _⟩ := HR1.out.at (by omega)
  subst hg1
  have ix1 := fun W => index_ad W g1 o1 3 c1 1 .i64 (by omega)
  clear ho1 hb1 ou1 hR0 hB0
  go_wp2
  refine wp_region_held_drew (S := (fun W => Below w1.heap.size w1 W)) (by kernel_rfl) (Below.refl _ _).drew (fun hHeld => ?_)
  refine wpAnyH_take (i := 0) (oi := { dst := some 7, op := Op.move (Operand.tmp 1), type := 38, pos := "law.go:53", after := #[], guard := none }) (v := .slice (some ⟨g1, o1, none⟩) 3 c1) rfl (by kernel_rfl) (by kernel_rfl) (by kernel_rfl) (fun _ _ _ h => h) (Or.inl ⟨by rfl, by intro w hSw; go_simp⟩) hHeld ?_
  try simp only [Act.put, List.setIfInBounds_toArray, List.set_cons_zero, List.set_cons_succ]
  refine wpAnyH_take (i := 1) (oi := { dst := some 8, op := Op.call { callee := Callee.builtin Builtin.len, args := #[Operand.tmp 7], argTypes := #[38] }, type := 3, pos := "law.go:53", after := #[{ on := 0, ground := Ground.data }], guard := none }) (v := .int .i64 3) rfl (by kernel_rfl) (by kernel_rfl) (by kernel_rfl) (fun _ _ _ h => h) (Or.inl ⟨by rfl, by intro w hSw; go_simp⟩) hHeld ?_
  try simp only [Act.put, List.setIfInBounds_toArray, List.set_cons_zero, List.set_cons_succ]
  refine wpAnyH_take (i := 2) (oi := { dst := some 9, op := Op.binOp BinOp.eql 3 (Operand.tmp 8) (Operand.const (Value.int IntKind.i64 3)) 3, type := 4, pos := "law.go:53", after := #[{ on := 1, ground := Ground.data }], guard := none }) (v := .bool true) rfl (by kernel_rfl) (by kernel_rfl) (by kernel_rfl) (fun _ _ _ h => h) (Or.inl ⟨by rfl, by intro w hSw; go_simp⟩) hHeld ?_
  try simp only [Act.put, List.setIfInBounds_toArray, List.set_cons_zero, List.set_cons_succ]
  refine wpAnyH_take (i := 3) (oi := { dst := some 10, op := Op.move (Operand.tmp 9), type := 4, pos := "law.go:53", after := #[{ on := 2, ground := Ground.data }], guard := none }) (v := .bool true) rfl (by kernel_rfl) (by kernel_rfl) (by kernel_rfl) (fun _ _ _ h => h) (Or.inl ⟨by rfl, by intro w hSw; go_simp⟩) hHeld ?_
  try simp only [Act.put, List.setIfInBounds_toArray, List.set_cons_zero, List.set_cons_succ]
  refine wpAnyH_take (i := 4) (oi := { dst := some 11, op := Op.move (Operand.tmp 1), type := 38, pos := "law.go:53", after := #[{ on := 3, ground := Ground.guard }], guard := some (3, true) }) (v := .slice (some ⟨g1, o1, none⟩) 3 c1) rfl (by kernel_rfl) (by kernel_rfl) (by kernel_rfl) (fun _ _ _ h => h) (Or.inl ⟨by rfl, by intro w hSw; go_simp⟩) hHeld ?_
  try simp only [Act.put, List.setIfInBounds_toArray, List.set_cons_zero, List.set_cons_succ]
  refine wpAnyH_take (i := 5) (oi := { dst := some 12, op := Op.indexAddr 38 (Operand.tmp 11) (Operand.const (Value.int IntKind.i64 1)), type := 0, pos := "law.go:53", after := #[{ on := 4, ground := Ground.data }, { on := 3, ground := Ground.guard }], guard := some (3, true) }) (v := .pointer (some ⟨g1, o1 + 2 * 1, none⟩)) rfl (by kernel_rfl) (by kernel_rfl) (by kernel_rfl) (fun _ _ _ h => h) (Or.inl ⟨by rfl, by intro W hSw; have := ix1 W; go_simp⟩) hHeld ?_
  try simp only [Act.put, List.setIfInBounds_toArray, List.set_cons_zero, List.set_cons_succ]
  refine wpAnyH_take (i := 6) (oi := { dst := some 13, op := Op.load 40 (Operand.tmp 12), type := 40, pos := "law.go:53", after := #[{ on := 5, ground := Ground.data }, { on := 3, ground := Ground.guard }], guard := some (3, true) }) (v := .agg #[.int .i64 2, .int .i64 3]) rfl (by kernel_rfl) (by kernel_rfl) (by kernel_rfl) (fun _ _ _ h => h) (yieldsIf_mid (by rfl) 40 (.tmp 12) rfl g1 (o1 + 2 * 1) rfl #[.int .i64 2, .int .i64 3] _ (fun _ h => (HR1.out.keep h).range 1 (by decide)) Try.underlying40 rfl sizeA) hHeld ?_
  try simp only [Act.put, List.setIfInBounds_toArray, List.set_cons_zero, List.set_cons_succ]
  refine wpAnyH_ready (rs := [7]) (by kernel_rfl) (by simp) ?_
  refine AllReadyH.cons (o := { dst := some 14, op := Op.call { callee := Callee.value (Operand.func 25), args := #[Operand.const (Value.int IntKind.i64 2), Operand.const (Value.int IntKind.i64 3)], argTypes := #[3, 3] }, type := 40, pos := "law.go:53", after := #[{ on := 3, ground := Ground.chain }, { on := 3, ground := Ground.guard }], guard := some (3, true) }) rfl (fun K hK => ?_) AllReadyH.nil
  go_simp
  refine (at_any 2 3 _).mono ?_
  rintro e w7 ⟨rfl, hb7⟩
  go_wp2_with fail
  refine hK.out _ _ (hHeld.trans (hb7.mono hHeld.size)) (fun hHeld => ?_)
  clear hK K
  try simp only [Act.put, List.setIfInBounds_toArray, List.set_cons_zero, List.set_cons_succ]
  refine wpAnyH_take (i := 8) (oi := { dst := some 15, op := Op.binOp BinOp.eql 40 (Operand.tmp 13) (Operand.tmp 14) 40, type := 4, pos := "law.go:53", after := #[{ on := 6, ground := Ground.data }, { on := 7, ground := Ground.data }, { on := 3, ground := Ground.guard }], guard := some (3, true) }) (v := .bool true) rfl (by kernel_rfl) (by kernel_rfl) (by kernel_rfl) (fun _ _ _ h => h) (Or.inl ⟨by rfl, by intro W hSw; have := eq23 W; go_simp⟩) hHeld ?_
  try simp only [Act.put, List.setIfInBounds_toArray, List.set_cons_zero, List.set_cons_succ]
  refine wpAnyH_take (i := 9) (oi := { dst := some 16, op := Op.pick (Operand.tmp 10) (Operand.tmp 15) (Operand.const (Value.bool false)), type := 4, pos := "law.go:53", after := #[{ on := 3, ground := Ground.data }, { on := 8, ground := Ground.data }], guard := none }) (v := .bool true) rfl (by kernel_rfl) (by kernel_rfl) (by kernel_rfl) (fun _ _ _ h => h) (Or.inl ⟨by rfl, by intro w hSw; go_simp⟩) hHeld ?_
  try simp only [Act.put, List.setIfInBounds_toArray, List.set_cons_zero, List.set_cons_succ]
  refine wpAnyH_take (i := 10) (oi := { dst := some 17, op := Op.move (Operand.tmp 16), type := 4, pos := "law.go:53", after := #[{ on := 9, ground := Ground.data }, { on := 7, ground := Ground.chain }], guard := none }) (v := .bool true) rfl (by kernel_rfl) (by kernel_rfl) (by kernel_rfl) (fun _ _ _ h => h) (Or.inl ⟨by rfl, by intro w hSw; go_simp⟩) hHeld ?_
  try simp only [Act.put, List.setIfInBounds_toArray, List.set_cons_zero, List.set_cons_succ]
  refine wpAnyH_take (i := 11) (oi := { dst := some 18, op := Op.move (Operand.tmp 1), type := 38, pos := "law.go:53", after := #[{ on := 10, ground := Ground.guard }], guard := some (10, true) }) (v := .slice (some ⟨g1, o1, none⟩) 3 c1) rfl (by kernel_rfl) (by kernel_rfl) (by kernel_rfl) (fun _ _ _ h => h) (Or.inl ⟨by rfl, by intro w hSw; go_simp⟩) hHeld ?_
  try simp only [Act.put, List.setIfInBounds_toArray, List.set_cons_zero, List.set_cons_succ]
  refine wpAnyH_ready (rs := [12]) (by kernel_rfl) (by simp) ?_
  refine AllReadyH.cons (o := { dst := some 19, op := Op.call { callee := Callee.value (Operand.func 22), args := #[Operand.const (Value.int IntKind.i64 3), Operand.const (Value.int IntKind.i64 1), Operand.tmp 18], argTypes := #[3, 3, 38] }, type := 4, pos := "law.go:53", after := #[{ on := 11, ground := Ground.data }, { on := 10, ground := Ground.chain }, { on := 10, ground := Ground.guard }], guard := some (10, true) }) rfl (fun K hK => ?_) AllReadyH.nil
  go_simp
  refine (ENB.out 3 1 _ 3 c1 e1L _ (HR1.out.keep hHeld) in_e1 (by omega) false en1).mono ?_
  rintro e w12 ⟨rfl, hb12⟩
  go_wp2_with fail
  refine hK.out _ _ (hHeld.trans (hb12.mono hHeld.size)) (fun hHeld => ?_)
  clear hK K
  try simp only [Act.put, List.setIfInBounds_toArray, List.set_cons_zero, List.set_cons_succ]
  refine wpAnyH_take (i := 13) (oi := { dst := some 20, op := Op.unOp UnOp.not 4 (Operand.tmp 19), type := 4, pos := "law.go:53", after := #[{ on := 12, ground := Ground.data }, { on := 10, ground := Ground.guard }], guard := some (10, true) }) (v := .bool true) rfl (by kernel_rfl) (by kernel_rfl) (by kernel_rfl) (fun _ _ _ h => h) (Or.inl ⟨by rfl, by intro w hSw; go_simp⟩) hHeld ?_
  try simp only [Act.put, List.setIfInBounds_toArray, List.set_cons_zero, List.set_cons_succ]
  refine wpAnyH_take (i := 14) (oi := { dst := some 21, op := Op.pick (Operand.tmp 17) (Operand.tmp 20) (Operand.const (Value.bool false)), type := 4, pos := "law.go:53", after := #[{ on := 10, ground := Ground.data }, { on := 13, ground := Ground.data }], guard := none }) (v := .bool true) rfl (by kernel_rfl) (by kernel_rfl) (by kernel_rfl) (fun _ _ _ h => h) (Or.inl ⟨by rfl, by intro w hSw; go_simp⟩) hHeld ?_
  try simp only [Act.put, List.setIfInBounds_toArray, List.set_cons_zero, List.set_cons_succ]
  refine wpAnyH_take (i := 15) (oi := { dst := some 22, op := Op.move (Operand.tmp 21), type := 4, pos := "law.go:53", after := #[{ on := 14, ground := Ground.data }, { on := 12, ground := Ground.chain }], guard := none }) (v := .bool true) rfl (by kernel_rfl) (by kernel_rfl) (by kernel_rfl) (fun _ _ _ h => h) (Or.inl ⟨by rfl, by intro w hSw; go_simp⟩) hHeld ?_
  try simp only [Act.put, List.setIfInBounds_toArray, List.set_cons_zero, List.set_cons_succ]
  refine wpAnyH_take (i := 16) (oi := { dst := some 23, op := Op.move (Operand.tmp 1), type := 38, pos := "law.go:53", after := #[{ on := 15, ground := Ground.guard }], guard := some (15, true) }) (v := .slice (some ⟨g1, o1, none⟩) 3 c1) rfl (by kernel_rfl) (by kernel_rfl) (by kernel_rfl) (fun _ _ _ h => h) (Or.inl ⟨by rfl, by intro w hSw; go_simp⟩) hHeld ?_
  try simp only [Act.put, List.setIfInBounds_toArray, List.set_cons_zero, List.set_cons_succ]
  refine wpAnyH_ready (rs := [17]) (by kernel_rfl) (by simp) ?_
  refine AllReadyH.cons (o := { dst := some 24, op := Op.call { callee := Callee.value (Operand.func 25), args := #[Operand.const (Value.int IntKind.i64 3), Operand.const (Value.int IntKind.i64 2)], argTypes := #[3, 3] }, type := 40, pos := "law.go:53", after := #[{ on := 15, ground := Ground.chain }, { on := 15, ground := Ground.guard }], guard := some (15, true) }) rfl (fun K hK => ?_) AllReadyH.nil
  go_simp
  refine (at_any 3 2 _).mono ?_
  rintro e w17 ⟨rfl, hb17⟩
  go_wp2_with fail
  refine hK.out _ _ (hHeld.trans (hb17.mono hHeld.size)) (fun hHeld => ?_)
  clear hK K
  try simp only [Act.put, List.setIfInBounds_toArray, List.set_cons_zero, List.set_cons_succ]
  refine wpAnyH_ready (rs := [18]) (by kernel_rfl) (by simp) ?_
  refine AllReadyH.cons (o := { dst := some 25, op := Op.call { callee := Callee.value (Operand.func 18), args := #[Operand.tmp 23, Operand.tmp 24], argTypes := #[38, 40] }, type := 38, pos := "law.go:53", after := #[{ on := 16, ground := Ground.data }, { on := 17, ground := Ground.data }, { on := 17, ground := Ground.chain }, { on := 15, ground := Ground.guard }], guard := some (15, true) }) rfl (fun K hK => ?_) AllReadyH.nil
  go_simp
  refine (ADD.out _ 3 c1 e1L ⟨3, 2⟩ _ (HR1.out.keep hHeld) HN1.out (by omega) e2L e2_is).mono ?_
  rintro e w18 ⟨v2, rfl, ho2, hb18⟩
  obtain ⟨a2, c2, ou2⟩ := outA ho2
  have hv2 : v2 = .slice a2 4 c2 := ou2.val
  subst hv2
  go_wp2_with fail
  refine hK.out _ _ (hHeld.trans (hb18.mono hHeld.size)) (fun hHeld => ?_)
  clear hK K
  try simp only [Act.put, List.setIfInBounds_toArray, List.set_cons_zero, List.set_cons_succ]
  refine wpAnyH_ready (rs := [19]) (by kernel_rfl) (by simp) ?_
  refine AllReadyH.cons (o := { dst := some 26, op := Op.call { callee := Callee.value (Operand.func 22), args := #[Operand.const (Value.int IntKind.i64 3), Operand.const (Value.int IntKind.i64 1), Operand.tmp 25], argTypes := #[3, 3, 38] }, type := 4, pos := "law.go:53", after := #[{ on := 18, ground := Ground.data }, { on := 18, ground := Ground.chain }, { on := 15, ground := Ground.guard }], guard := some (15, true) }) rfl (fun K hK => ?_) AllReadyH.nil
  go_simp
  refine (ENB.out 3 1 a2 4 c2 e2L _ ou2.rd in_e2 (by omega) true en2).mono ?_
  rintro e w19 ⟨rfl, hb19⟩
  go_wp2_with fail
  refine hK.out _ _ (hHeld.trans (hb19.mono hHeld.size)) (fun hHeld => ?_)
  clear hK K
  try simp only [Act.put, List.setIfInBounds_toArray, List.set_cons_zero, List.set_cons_succ]
  refine wpAnyH_take (i := 20) (oi := { dst := some 27, op := Op.pick (Operand.tmp 22) (Operand.tmp 26) (Operand.const (Value.bool false)), type := 4, pos := "law.go:53", after := #[{ on := 15, ground := Ground.data }, { on := 19, ground := Ground.data }], guard := none }) (v := .bool true) rfl (by kernel_rfl) (by kernel_rfl) (by kernel_rfl) (fun _ _ _ h => h) (Or.inl ⟨by rfl, by intro w hSw; go_simp⟩) hHeld ?_
  try simp only [Act.put, List.setIfInBounds_toArray, List.set_cons_zero, List.set_cons_succ]
  refine wpAnyH_take (i := 21) (oi := { dst := some 28, op := Op.move (Operand.tmp 27), type := 4, pos := "law.go:53", after := #[{ on := 20, ground := Ground.data }, { on := 19, ground := Ground.chain }], guard := none }) (v := .bool true) rfl (by kernel_rfl) (by kernel_rfl) (by kernel_rfl) (fun _ _ _ h => h) (Or.inl ⟨by rfl, by intro w hSw; go_simp⟩) hHeld ?_
  try simp only [Act.put, List.setIfInBounds_toArray, List.set_cons_zero, List.set_cons_succ]
  refine wpAnyH_ready (rs := [22]) (by kernel_rfl) (by simp) ?_
  refine AllReadyH.cons (o := { dst := some 29, op := Op.call { callee := Callee.value (Operand.func 25), args := #[Operand.const (Value.int IntKind.i64 2), Operand.const (Value.int IntKind.i64 1)], argTypes := #[3, 3] }, type := 40, pos := "law.go:53", after := #[{ on := 21, ground := Ground.chain }, { on := 21, ground := Ground.guard }], guard := some (21, true) }) rfl (fun K hK => ?_) AllReadyH.nil
  go_simp
  refine (at_any 2 1 _).mono ?_
  rintro e w22 ⟨rfl, hb22⟩
  go_wp2_with fail
  refine hK.out _ _ (hHeld.trans (hb22.mono hHeld.size)) (fun hHeld => ?_)
  clear hK K
  try simp only [Act.put, List.setIfInBounds_toArray, List.set_cons_zero, List.set_cons_succ]
  refine wpAnyH_ready (rs := [23]) (by kernel_rfl) (by simp) ?_
  refine AllReadyH.cons (o := { dst := some 30, op := Op.call { callee := Callee.value (Operand.func 25), args := #[Operand.const (Value.int IntKind.i64 2), Operand.const (Value.int IntKind.i64 2)], argTypes := #[3, 3] }, type := 40, pos := "law.go:53", after := #[{ on := 22, ground := Ground.chain }, { on := 21, ground := Ground.guard }], guard := some (21, true) }) rfl (fun K hK => ?_) AllReadyH.nil
  go_simp
  refine (at_any 2 2 _).mono ?_
  rintro e w23 ⟨rfl, hb23⟩
  go_wp2_with fail
  refine hK.out _ _ (hHeld.trans (hb23.mono hHeld.size)) (fun hHeld => ?_)
  clear hK K
  try simp only [Act.put, List.setIfInBounds_toArray, List.set_cons_zero, List.set_cons_succ]
  refine wpAnyH_ready (rs := [24]) (by kernel_rfl) (by simp) ?_
  refine AllReadyH.cons (o := { dst := some 31, op := Op.call { callee := Callee.value (Operand.func 25), args := #[Operand.const (Value.int IntKind.i64 3), Operand.const (Value.int IntKind.i64 1)], argTypes := #[3, 3] }, type := 40, pos := "law.go:53", after := #[{ on := 23, ground := Ground.chain }, { on := 21, ground := Ground.guard }], guard := some (21, true) }) rfl (fun K hK => ?_) AllReadyH.nil
  go_simp
  refine (at_any 3 1 _).mono ?_
  rintro e w24 ⟨rfl, hb24⟩
  go_wp2_with fail
  refine hK.out _ _ (hHeld.trans (hb24.mono hHeld.size)) (fun hHeld => ?_)
  clear hK K
  try simp only [Act.put, List.setIfInBounds_toArray, List.set_cons_zero, List.set_cons_succ]
  refine wpAnyH_ready (rs := [25]) (by kernel_rfl) (by simp) ?_
  refine AllReadyH.cons (o := { dst := some 32, op := Op.call { callee := Callee.value (Operand.func 25), args := #[Operand.const (Value.int IntKind.i64 3), Operand.const (Value.int IntKind.i64 2)], argTypes := #[3, 3] }, type := 40, pos := "law.go:53", after := #[{ on := 24, ground := Ground.chain }, { on := 21, ground := Ground.guard }], guard := some (21, true) }) rfl (fun K hK => ?_) AllReadyH.nil
  go_simp
  refine (at_any 3 2 _).mono ?_
  rintro e w25 ⟨rfl, hb25⟩
  go_wp2_with fail
  refine hK.out _ _ (hHeld.trans (hb25.mono hHeld.size)) (fun hHeld => ?_)
  clear hK K
  try simp only [Act.put, List.setIfInBounds_toArray, List.set_cons_zero, List.set_cons_succ]
  refine wpAnyH_ready (rs := [26]) (by kernel_rfl) (by simp) ?_
  refine AllReadyH.cons (o := { dst := some 33, op := Op.buildSlice 38 4 #[(0, Operand.tmp 29), (1, Operand.tmp 30), (2, Operand.tmp 31), (3, Operand.tmp 32)], type := 38, pos := "law.go:53", after := #[{ on := 22, ground := Ground.data }, { on := 23, ground := Ground.data }, { on := 24, ground := Ground.data }, { on := 25, ground := Ground.data }, { on := 21, ground := Ground.guard }], guard := some (21, true) }) rfl (fun K hK => ?_) AllReadyH.nil
  refine step_build_run (by rfl) 38 4 _ rfl #[(0, .agg #[.int .i64 2, .int .i64 1]), (1, .agg #[.int .i64 2, .int .i64 2]), (2, .agg #[.int .i64 3, .int .i64 1]), (3, .agg #[.int .i64 3, .int .i64 2])] rfl _ _ (run_build_ads _ 4 e3L rfl (by omega) (by omega) _ rfl) ?_
  refine hK.out _ _ (hHeld.alloc hHeld.size _) (fun hHeld => ?_)
  clear hK K
  try simp only [Act.put, List.setIfInBounds_toArray, List.set_cons_zero, List.set_cons_succ]
  refine wpAnyH_ready (rs := [27]) (by kernel_rfl) (by simp) ?_
  refine AllReadyH.cons (o := { dst := some 34, op := Op.call { callee := Callee.value (Operand.func 22), args := #[Operand.const (Value.int IntKind.i64 4), Operand.const (Value.int IntKind.i64 1), Operand.tmp 33], argTypes := #[3, 3, 38] }, type := 4, pos := "law.go:53", after := #[{ on := 26, ground := Ground.data }, { on := 25, ground := Ground.chain }, { on := 21, ground := Ground.guard }], guard := some (21, true) }) rfl (fun K hK => ?_) AllReadyH.nil
  go_simp
  refine (ENB.out 4 1 _ 4 4 e3L _ (AReads.new _ e3L 4 rfl (by omega) _ (hidk rfl)) in_e3 (by omega) true en3).mono ?_
  rintro e w27 ⟨rfl, hb27⟩
  go_wp2_with fail
  refine hK.out _ _ (hHeld.trans (hb27.mono hHeld.size)) (fun hHeld => ?_)
  clear hK K
  try simp only [Act.put, List.setIfInBounds_toArray, List.set_cons_zero, List.set_cons_succ]
  refine wpAnyH_take (i := 28) (oi := { dst := some 35, op := Op.pick (Operand.tmp 28) (Operand.tmp 34) (Operand.const (Value.bool false)), type := 4, pos := "law.go:53", after := #[{ on := 21, ground := Ground.data }, { on := 27, ground := Ground.data }], guard := none }) (v := .bool true) rfl (by kernel_rfl) (by kernel_rfl) (by kernel_rfl) (fun _ _ _ h => h) (Or.inl ⟨by rfl, by intro w hSw; go_simp⟩) hHeld ?_
  try simp only [Act.put, List.setIfInBounds_toArray, List.set_cons_zero, List.set_cons_succ]
  refine wpAnyH_take (i := 29) (oi := { dst := some 36, op := Op.move (Operand.tmp 35), type := 4, pos := "law.go:53", after := #[{ on := 28, ground := Ground.data }, { on := 27, ground := Ground.chain }], guard := none }) (v := .bool true) rfl (by kernel_rfl) (by kernel_rfl) (by kernel_rfl) (fun _ _ _ h => h) (Or.inl ⟨by rfl, by intro w hSw; go_simp⟩) hHeld ?_
  try simp only [Act.put, List.setIfInBounds_toArray, List.set_cons_zero, List.set_cons_succ]
  refine wpAnyH_ready (rs := [30]) (by kernel_rfl) (by simp) ?_
  refine AllReadyH.cons (o := { dst := some 37, op := Op.call { callee := Callee.value (Operand.func 25), args := #[Operand.const (Value.int IntKind.i64 1), Operand.const (Value.int IntKind.i64 1)], argTypes := #[3, 3] }, type := 40, pos := "law.go:53", after := #[{ on := 29, ground := Ground.chain }, { on := 29, ground := Ground.guard }], guard := some (29, true) }) rfl (fun K hK => ?_) AllReadyH.nil
  go_simp
  refine (at_any 1 1 _).mono ?_
  rintro e w30 ⟨rfl, hb30⟩
  go_wp2_with fail
  refine hK.out _ _ (hHeld.trans (hb30.mono hHeld.size)) (fun hHeld => ?_)
  clear hK K
  try simp only [Act.put, List.setIfInBounds_toArray, List.set_cons_zero, List.set_cons_succ]
  refine wpAnyH_ready (rs := [31]) (by kernel_rfl) (by simp) ?_
  refine AllReadyH.cons (o := { dst := some 38, op := Op.call { callee := Callee.value (Operand.func 25), args := #[Operand.const (Value.int IntKind.i64 1), Operand.const (Value.int IntKind.i64 2)], argTypes := #[3, 3] }, type := 40, pos := "law.go:53", after := #[{ on := 30, ground := Ground.chain }, { on := 29, ground := Ground.guard }], guard := some (29, true) }) rfl (fun K hK => ?_) AllReadyH.nil
  go_simp
  refine (at_any 1 2 _).mono ?_
  rintro e w31 ⟨rfl, hb31⟩
  go_wp2_with fail
  refine hK.out _ _ (hHeld.trans (hb31.mono hHeld.size)) (fun hHeld => ?_)
  clear hK K
  try simp only [Act.put, List.setIfInBounds_toArray, List.set_cons_zero, List.set_cons_succ]
  refine wpAnyH_ready (rs := [32]) (by kernel_rfl) (by simp) ?_
  refine AllReadyH.cons (o := { dst := some 39, op := Op.call { callee := Callee.value (Operand.func 25), args := #[Operand.const (Value.int IntKind.i64 2), Operand.const (Value.int IntKind.i64 1)], argTypes := #[3, 3] }, type := 40, pos := "law.go:53", after := #[{ on := 31, ground := Ground.chain }, { on := 29, ground := Ground.guard }], guard := some (29, true) }) rfl (fun K hK => ?_) AllReadyH.nil
  go_simp
  refine (at_any 2 1 _).mono ?_
  rintro e w32 ⟨rfl, hb32⟩
  go_wp2_with fail
  refine hK.out _ _ (hHeld.trans (hb32.mono hHeld.size)) (fun hHeld => ?_)
  clear hK K
  try simp only [Act.put, List.setIfInBounds_toArray, List.set_cons_zero, List.set_cons_succ]
  refine wpAnyH_ready (rs := [33]) (by kernel_rfl) (by simp) ?_
  refine AllReadyH.cons (o := { dst := some 40, op := Op.call { callee := Callee.value (Operand.func 25), args := #[Operand.const (Value.int IntKind.i64 2), Operand.const (Value.int IntKind.i64 2)], argTypes := #[3, 3] }, type := 40, pos := "law.go:53", after := #[{ on := 32, ground := Ground.chain }, { on := 29, ground := Ground.guard }], guard := some (29, true) }) rfl (fun K hK => ?_) AllReadyH.nil
  go_simp
  refine (at_any 2 2 _).mono ?_
  rintro e w33 ⟨rfl, hb33⟩
  go_wp2_with fail
  refine hK.out _ _ (hHeld.trans (hb33.mono hHeld.size)) (fun hHeld => ?_)
  clear hK K
  try simp only [Act.put, List.setIfInBounds_toArray, List.set_cons_zero, List.set_cons_succ]
  refine wpAnyH_ready (rs := [34]) (by kernel_rfl) (by simp) ?_
  refine AllReadyH.cons (o := { dst := some 41, op := Op.buildSlice 38 4 #[(0, Operand.tmp 37), (1, Operand.tmp 38), (2, Operand.tmp 39), (3, Operand.tmp 40)], type := 38, pos := "law.go:53", after := #[{ on := 30, ground := Ground.data }, { on := 31, ground := Ground.data }, { on := 32, ground := Ground.data }, { on := 33, ground := Ground.data }, { on := 29, ground := Ground.guard }], guard := some (29, true) }) rfl (fun K hK => ?_) AllReadyH.nil
  refine step_build_run (by rfl) 38 4 _ rfl #[(0, .agg #[.int .i64 1, .int .i64 1]), (1, .agg #[.int .i64 1, .int .i64 2]), (2, .agg #[.int .i64 2, .int .i64 1]), (3, .agg #[.int .i64 2, .int .i64 2])] rfl _ _ (run_build_ads _ 4 e4L rfl (by omega) (by omega) _ rfl) ?_
  refine hK.out _ _ (hHeld.alloc hHeld.size _) (fun hHeld => ?_)
  clear hK K
  try simp only [Act.put, List.setIfInBounds_toArray, List.set_cons_zero, List.set_cons_succ]
  refine wpAnyH_ready (rs := [35]) (by kernel_rfl) (by simp) ?_
  refine AllReadyH.cons (o := { dst := some 42, op := Op.call { callee := Callee.value (Operand.func 22), args := #[Operand.const (Value.int IntKind.i64 3), Operand.const (Value.int IntKind.i64 1), Operand.tmp 41], argTypes := #[3, 3, 38] }, type := 4, pos := "law.go:53", after := #[{ on := 34, ground := Ground.data }, { on := 33, ground := Ground.chain }, { on := 29, ground := Ground.guard }], guard := some (29, true) }) rfl (fun K hK => ?_) AllReadyH.nil
  go_simp
  refine (ENB.out 3 1 _ 4 4 e4L _ (AReads.new _ e4L 4 rfl (by omega) _ (hidk rfl)) in_e4 (by omega) false en4).mono ?_
  rintro e w35 ⟨rfl, hb35⟩
  go_wp2_with fail
  refine hK.out _ _ (hHeld.trans (hb35.mono hHeld.size)) (fun hHeld => ?_)
  clear hK K
  try simp only [Act.put, List.setIfInBounds_toArray, List.set_cons_zero, List.set_cons_succ]
  refine wpAnyH_take (i := 36) (oi := { dst := some 43, op := Op.unOp UnOp.not 4 (Operand.tmp 42), type := 4, pos := "law.go:53", after := #[{ on := 35, ground := Ground.data }, { on := 29, ground := Ground.guard }], guard := some (29, true) }) (v := .bool true) rfl (by kernel_rfl) (by kernel_rfl) (by kernel_rfl) (fun _ _ _ h => h) (Or.inl ⟨by rfl, by intro w hSw; go_simp⟩) hHeld ?_
  try simp only [Act.put, List.setIfInBounds_toArray, List.set_cons_zero, List.set_cons_succ]
  refine wpAnyH_take (i := 37) (oi := { dst := some 44, op := Op.pick (Operand.tmp 36) (Operand.tmp 43) (Operand.const (Value.bool false)), type := 4, pos := "law.go:53", after := #[{ on := 29, ground := Ground.data }, { on := 36, ground := Ground.data }], guard := none }) (v := .bool true) rfl (by kernel_rfl) (by kernel_rfl) (by kernel_rfl) (fun _ _ _ h => h) (Or.inl ⟨by rfl, by intro w hSw; go_simp⟩) hHeld ?_
  try simp only [Act.put, List.setIfInBounds_toArray, List.set_cons_zero, List.set_cons_succ]
  refine wpAnyH_take (i := 38) (oi := { dst := some 0, op := Op.assign (Operand.tmp 44), type := 4, pos := "law.go:53", after := #[{ on := 37, ground := Ground.data }, { on := 35, ground := Ground.chain }, { on := 0, ground := Ground.phase }, { on := 1, ground := Ground.phase }, { on := 2, ground := Ground.phase }, { on := 3, ground := Ground.phase }, { on := 4, ground := Ground.phase }, { on := 5, ground := Ground.phase }, { on := 6, ground := Ground.phase }, { on := 7, ground := Ground.phase }, { on := 8, ground := Ground.phase }, { on := 9, ground := Ground.phase }, { on := 10, ground := Ground.phase }, { on := 11, ground := Ground.phase }, { on := 12, ground := Ground.phase }, { on := 13, ground := Ground.phase }, { on := 14, ground := Ground.phase }, { on := 15, ground := Ground.phase }, { on := 16, ground := Ground.phase }, { on := 17, ground := Ground.phase }, { on := 18, ground := Ground.phase }, { on := 19, ground := Ground.phase }, { on := 20, ground := Ground.phase }, { on := 21, ground := Ground.phase }, { on := 22, ground := Ground.phase }, { on := 23, ground := Ground.phase }, { on := 24, ground := Ground.phase }, { on := 25, ground := Ground.phase }, { on := 26, ground := Ground.phase }, { on := 27, ground := Ground.phase }, { on := 28, ground := Ground.phase }, { on := 29, ground := Ground.phase }, { on := 30, ground := Ground.phase }, { on := 31, ground := Ground.phase }, { on := 32, ground := Ground.phase }, { on := 33, ground := Ground.phase }, { on := 34, ground := Ground.phase }, { on := 35, ground := Ground.phase }, { on := 36, ground := Ground.phase }, { on := 37, ground := Ground.phase }], guard := none }) (v := .bool true) rfl (by kernel_rfl) (by kernel_rfl) (by kernel_rfl) (fun _ _ _ h => h) (Or.inl ⟨by rfl, by intro w hSw; go_simp⟩) hHeld ?_
  try simp only [Act.put, List.setIfInBounds_toArray, List.set_cons_zero, List.set_cons_succ]
  refine wpAnyH_done (by kernel_rfl) ?_ _
  go_wp2
  go_ret
  exact ⟨rfl, HB1.out.trans (hHeld.mono HB1.out.size)⟩
end Go.Proofs.Ytieklabpdalahaa

/- A row that is enough stays so; a row of one node of each region is never enough. -/
namespace Go.Proofs.Ytieklabpdalahaa
open Go.RowKit Nums Sums Go.Maps
set_option linter.unusedVariables false
set_option linter.unusedSimpArgs false
set_option maxRecDepth 100000
def onesL (l : List AdT) (node : Int) : List AdT := l.map fun x => ⟨x.r, node⟩
theorem onesL_succ (l : List AdT) (node : Int) (k : Nat) (hk : k < l.length) : onesL (l.take (k + 1)) node = onesL (l.take k) node ++ [⟨l[k].r, node⟩] := by
  unfold onesL
  rw [List.take_succ_eq_append_getElem hk, List.map_append]
  rfl
theorem onesL_len (l : List AdT) (node : Int) : (onesL l node).length = l.length := by unfold onesL; simp
theorem onesL_in (l : List AdT) (node : Int) (h : ∀ x ∈ l, InA x) (hn : In64 node) : ∀ x ∈ onesL l node, InA x := fun x hx => by
  obtain ⟨y, hy, rfl⟩ := List.mem_map.1 hx
  exact ⟨(h y hy).1, hn⟩
theorem onesL_node (l : List AdT) (node : Int) : ∀ x ∈ onesL l node, x.n = node := fun x hx => by
  obtain ⟨y, hy, rfl⟩ := List.mem_map.1 hx
  rfl
/-- All that come, one by one. -/
def addsA (l : List AdT) : List AdT → List AdT
  | [] => l
  | x :: t => addsA (addA l x) t
theorem addsA_snoc : ∀ (l m : List AdT) (x : AdT), addsA l (m ++ [x]) = addA (addsA l m) x
  | l, [], x => rfl
  | l, y :: t, x => addsA_snoc (addA l y) t x
theorem addsA_take (l m : List AdT) (k : Nat) (hk : k < m.length) : addsA l (m.take (k + 1)) = addA (addsA l (m.take k)) m[k] := by
  rw [List.take_succ_eq_append_getElem hk, addsA_snoc]
theorem mem_addsA : ∀ (m l : List AdT) (x : AdT), x ∈ l → x ∈ addsA l m
  | [], l, x, h => h
  | y :: t, l, x, h => mem_addsA t (addA l y) x ((mem_addA l y x).2 (.inr h))
theorem in_addsA : ∀ (m l : List AdT), (∀ x ∈ l, InA x) → (∀ x ∈ m, InA x) → ∀ x ∈ addsA l m, InA x
  | [], l, h, _ => h
  | y :: t, l, h, k => in_addsA t (addA l y) (fun x hx => by
      rcases (mem_addA l y x).1 hx with rfl | hx
      · exact k x (by simp)
      · exact h x hx) (fun x hx => k x (by simp [hx]))
theorem addA_le (l : List AdT) (a : AdT) : (addA l a).length ≤ l.length + 1 := by
  unfold addA
  split
  · omega
  · rw [insA_length]; omega
theorem addsA_len : ∀ (m l : List AdT), (addsA l m).length ≤ l.length + m.length
  | [], l => Nat.le_refl _
  | y :: t, l => by
    have h1 := addsA_len t (addA l y)
    have h2 := addA_le l y
    show (addsA (addA l y) t).length ≤ l.length + (t.length + 1)
    omega
/-- What the first rounds keep: a row of one node of each region. -/
def OnO (w : World) (l : List AdT) (node : Int) (v i : Value) (wr : World) : Prop := ∃ k : Nat, k ≤ l.length ∧ i = .int .i64 (k : Int) ∧ wr.ownsRow w.heap.size 40 2 v k (adcL (onesL (l.take k) node)) ∧ Below w.heap.size w wr
/-- What the next rounds keep: all that came. -/
def MoO (w : World) (l more : List AdT) (v i : Value) (wr : World) : Prop := ∃ (k : Nat) (a : Option Addr) (m cap : Nat), k ≤ more.length ∧ i = .int .i64 (k : Int) ∧ v = .slice a m cap ∧ AReads wr a m cap (addsA l (more.take k)) ∧ (a = none → cap = 0) ∧ Below w.heap.size w wr
set_option maxHeartbeats 16000000 in
theorem claimsMore_in (m r : Int) (a2 : Option Addr) (len2 cap2 : Nat) (l : List AdT) (a3 : Option Addr) (len3 cap3 : Nat) (more : List AdT) (node : Int) (w : World) (hm : In64 m) (hr : In64 r) (h2 : AReads w a2 len2 cap2 l) (n2 : a2 = none → cap2 = 0) (i2 : ∀ x ∈ l, InA x) (h3 : AReads w a3 len3 cap3 more) (n3 : a3 = none → cap3 = 0) (i3 : ∀ x ∈ more, InA x) (hnode : In64 node) :
    Calls Try.prog 8 #[.int .i64 m, .int .i64 r, .slice a2 len2 cap2, .slice a3 len3 cap3, .int .i64 node] w fun e w' => e = .returned (.bool true) ∧ Below w.heap.size w w' := by
  have H2 := hidk h2
  have H3 := hidk h3
  have HL2 := hidk h2.ln
  have HL3 := hidk h3.ln
  have N2 := hidk n2
  have I2 := hidk i2
  have I3 := hidk i3
  have HND := hidk hnode
  have hx2 : len2 ≤ 9223372036854775807 := by have := h2.mx; unfold maxLen at this; omega
  have hx3 : len3 ≤ 9223372036854775807 := by have := h3.mx; unfold maxLen at this; omega
  have hnot : ∀ (x : Bool) (w : World), (Op.unary .not (.bool x)).run Try.prog w = .ok (.bool (!x)) w := fun _ _ => rfl
  clear h2 h3 n2 n3 i2 i3 hm hr hnode
  by_cases h200 : 200 < len2
  · have d1 : decide ((200 : Int) < (len2 : Int)) = true := decide_eq_true (by omega)
    go_enter Try.func8, Try.ntmps8
    go_wp2
    go_ret
    exact ⟨rfl, Below.refl _ _⟩
  have d1 : decide ((200 : Int) < (len2 : Int)) = false := decide_eq_false (by omega)
  by_cases h201 : 200 < len3
  · have d2 : decide ((200 : Int) < (len3 : Int)) = true := decide_eq_true (by omega)
    go_enter Try.func8, Try.ntmps8
    go_wp2
    go_ret
    exact ⟨rfl, Below.refl _ _⟩
  have d2 : decide ((200 : Int) < (len3 : Int)) = false := decide_eq_false (by omega)
  have hs2 : len2 ≤ 200 := by omega
  have hs3 : len3 ≤ 200 := by omega
  clear h200 h201
  go_enter Try.func8, Try.ntmps8
  go_wp2
  go_loopw [11, 12] (fun v i wr => OnO w l node v i wr) (fun _ i _ => len2 - (intOf i).toNat)
  case atStart => exact ⟨0, Nat.zero_le _, rfl, World.ownsRow_nil _ _ _ _, Below.refl _ _⟩
  case round =>
    obtain ⟨k, hk, rfl, ho', hb'⟩ := hrel
    have HO := hidk ho'
    have HB := hidk hb'
    have hkk : k ≤ len2 := by have := HL2.out; omega
    clear ho' hb' hk
    by_cases hlt : k < len2
    · have hd : decide ((k : Int) < (len2 : Int)) = true := by rw [decide_eq_true_eq]; omega
      have hw1 := wrap_int ((k : Int) + 1) (by omega) (by omega)
      obtain ⟨g, o, rfl, hg⟩ := H2.out.at (by omega)
      have hkl : k < l.length := by have := HL2.out; omega
      have ix := fun W => index_ad W g o len2 cap2 k .i64 hlt
      have hc0 : wr.cell? ⟨g, o + 2 * k, none⟩ = some (.int .i64 l[k].r) := (H2.out.keep HB.out).range k hkl 0 _ rfl
      have HSU := hidk (onesL_succ l node k hkl)
      obtain ⟨xr, hxr⟩ : ∃ z, l[k].r = z := ⟨_, rfl⟩
      rw [hxr] at hc0 HSU
      have HKL : Hid (k + 1 ≤ l.length) := hkl
      clear hxr hkl
      go_wp2_with fail
      refine (at_any xr node _).mono ?_
      rintro e w1 ⟨rfl, hb1⟩
      have HO1 := hidk (own_below HO.out hb1)
      have HB1 := hidk (HB.out.trans (hb1.mono HB.out.size))
      clear hb1 hc0
      obtain ⟨v2, w2, hr2, ho2, hb2, hs2'⟩ := append_one (⟨xr, node⟩ : AdT) HO1.out HB1.out.size HB1.out (by omega)
      have HO2 : Hid (w2.ownsRow w.heap.size 40 2 v2 (k + 1) (adcL (onesL (l.take (k + 1)) node))) := by show World.ownsRow _ _ _ _ _ _ _; rw [HSU.out]; exact ho2
      have HB2 := hidk hb2
      have BU : (Instr.buildSlice 38 1 #[(0, .agg #[.int .i64 xr, .int .i64 node])]).run Try.prog w1 = .ok (.slice (some ⟨w1.heap.size, 0, none⟩) 1 1) (w1.alloc (.cells #[.int .i64 xr, .int .i64 node] 40)) := buildOneA w1 ⟨xr, node⟩ _ (hidk rfl) trivial
      clear ho2 hb2 hs2'
      go_wp2_with (first
        | (show wpList _ _ _ ({ dst := some 37, op := _, type := _, pos := _, after := _, guard := _ } :: _) _ _; refine wpList_build_run rfl 38 1 _ rfl _ rfl _ _ BU ?_; try simp only [Act.put, List.setIfInBounds_toArray, List.set_cons_zero, List.set_cons_succ])
        | (show wpList _ _ _ ({ dst := some 38, op := _, type := _, pos := _, after := _, guard := _ } :: _) _ _; refine wpList_append_run rfl (.tmp 29) (.tmp 37) 38 38 rfl _ _ v2 w2 rfl rfl hr2 ?_; try simp only [Act.put, List.setIfInBounds_toArray, List.set_cons_zero, List.set_cons_succ])
        | fail)
      go_roundw
      case rel => exact ⟨k + 1, HKL.out, by go_num, HO2.out, HB2.out⟩
      case measure => simp [intOf]; omega
    · obtain rfl : k = len2 := by omega
      obtain ⟨W1, rfl⟩ : ∃ W1, W1 = wr := ⟨_, rfl⟩
      have hd : decide ((k : Int) < (k : Int)) = false := by rw [decide_eq_false_iff_not]; omega
      obtain ⟨a1, c1, ou1⟩ : ∃ a1 c1, OutA w.heap.size W1 u11 (onesL l node) a1 c1 := by
        have := HO.out
        rw [List.take_of_length_le (by have := HL2.out; omega)] at this
        exact outA (by rw [onesL_len, HL2.out]; exact this)
      have hv1 : u11 = .slice a1 k c1 := by have := ou1.val; rwa [onesL_len, HL2.out] at this
      have HR1 : Hid (AReads W1 a1 k c1 (onesL l node)) := by have := ou1.rd; rwa [onesL_len, HL2.out] at this
      subst hv1
      clear ou1 HO
      go_wp2
      go_loopw [13, 14] (fun v i wr => MoO W1 l more v i wr) (fun _ i _ => len3 - (intOf i).toNat)
      case atStart => exact ⟨0, a2, k, cap2, Nat.zero_le _, rfl, rfl, H2.out.keep HB.out, N2.out, Below.refl _ _⟩
      case round =>
        obtain ⟨q, aq, mq, cq, hq, rfl, rfl, hrq', hnq', hbq'⟩ := hrel
        have HRQ := hidk hrq'
        have HNQ := hidk hnq'
        have HBQ := hidk hbq'
        have HMQ : Hid (mq ≤ 400) := by
          show _ ≤ _
          have h9 := addsA_len (more.take q) l
          have h8 := HRQ.out.ln
          have h7 := HL2.out
          have h6 := HL3.out
          rw [List.length_take] at h9
          omega
        have hqq : q ≤ len3 := by have := HL3.out; omega
        clear hrq' hnq' hbq' hq
        by_cases hlt : q < len3
        · have hd2 : decide ((q : Int) < (len3 : Int)) = true := by rw [decide_eq_true_eq]; omega
          have hw1 := wrap_int ((q : Int) + 1) (by omega) (by omega)
          obtain ⟨g, o, rfl, hg⟩ := H3.out.at (by omega)
          have hkl : q < more.length := by have := HL3.out; omega
          have ix := fun W => index_ad W g o len3 cap3 q .i64 hlt
          obtain ⟨x, hx⟩ : ∃ x, more[q] = x := ⟨_, rfl⟩
          have HRX : Hid (wr.rangeAt g (o + 2 * q) [.int .i64 x.r, .int .i64 x.n]) := by
            show World.rangeAt _ _ _ _
            rw [← hx]
            exact (H3.out.keep (HB.out.trans (HBQ.out.mono HB.out.size))).range q hkl
          have HAT := hidk (addsA_take l more q hkl)
          rw [hx] at HAT
          have HKL : Hid (q + 1 ≤ more.length) := hkl
          have ADD := hidk (kAdd_any aq mq cq _ x #[.int .i64 x.r, .int .i64 x.n] (hidk rfl) wr HRQ.out HNQ.out (by have := HMQ.out; omega))
          rw [← HAT.out] at ADD
          clear hx hkl HAT
          go_wp2_with (first
            | (show wpList _ _ _ ({ dst := some 50, op := _, type := _, pos := _, after := _, guard := _ } :: _) _ _; refine wpList_mid_w (by rfl) 40 (.tmp 49) rfl g (o + 2 * q) rfl #[.int .i64 x.r, .int .i64 x.n] _ HRX.out Try.underlying40 rfl sizeA ?_; try simp only [Act.put, List.setIfInBounds_toArray, List.set_cons_zero, List.set_cons_succ])
            | fail)
          refine ADD.out.mono ?_
          rintro e w4 ⟨v4, rfl, ho4, hb4⟩
          obtain ⟨a4, c4, ou4⟩ := outA ho4
          have hv4 := ou4.val
          obtain ⟨m4, hm4⟩ : ∃ m4, (addsA l (more.take (q + 1))).length = m4 := ⟨_, rfl⟩
          have HR4 := hidk ou4.rd
          have HN4 := hidk ou4.nil
          rw [hm4] at hv4 HR4
          have HB4 := hidk (HBQ.out.trans (hb4.mono HBQ.out.size))
          subst hv4
          clear ho4 hb4 ou4 ADD hm4
          go_wp2
          go_roundw
          case rel => exact ⟨q + 1, a4, m4, c4, HKL.out, by go_num, rfl, HR4.out, HN4.out, HB4.out⟩
          case measure => simp [intOf]; omega
        · obtain rfl : q = len3 := by omega
          have hd2 : decide ((q : Int) < (q : Int)) = false := by rw [decide_eq_false_iff_not]; omega
          have HRA : Hid (AReads wr aq mq cq (addsA l more)) := by
            have := HRQ.out
            rwa [List.take_of_length_le (by have := HL3.out; omega)] at this
          have HBA := hidk (HB.out.trans (HBQ.out.mono HB.out.size))
          obtain ⟨el, hel⟩ : ∃ b, enoughB m r l = b := ⟨_, rfl⟩
          obtain ⟨ea, hea⟩ : ∃ b, enoughB m r (addsA l more) = b := ⟨_, rfl⟩
          have HEO : Hid (enoughB m r (onesL l node) = false) := enough_ones (onesL_node l node)
          have HIM : Hid (el = true → ea = true) := fun hh => by rw [← hea]; exact enough_more (fun x hx => mem_addsA more l x hx) (by rw [hel]; exact hh)
          have E1 : Hid (∀ W, Below wr.heap.size wr W → Calls Try.prog 22 #[.int .i64 m, .int .i64 r, .slice a2 k cap2] W fun e w' => e = .returned (.bool el) ∧ Below W.heap.size W w') := fun W hW => by rw [← hel]; exact kEnough_any m r a2 k cap2 l W ((H2.out.keep HBA.out).keep hW) I2.out (by omega)
          have E2 : Hid (∀ W, Below wr.heap.size wr W → Calls Try.prog 22 #[.int .i64 m, .int .i64 r, .slice aq mq cq] W fun e w' => e = .returned (.bool ea) ∧ Below W.heap.size W w') := fun W hW => by rw [← hea]; exact kEnough_any m r aq mq cq _ W (HRA.out.keep hW) (in_addsA more l I2.out I3.out) (by have := HMQ.out; omega)
          have E3 : Hid (∀ W, Below wr.heap.size wr W → Calls Try.prog 22 #[.int .i64 m, .int .i64 r, .slice a1 k c1] W fun e w' => e = .returned (.bool false) ∧ Below W.heap.size W w') := fun W hW => by rw [← HEO.out]; exact kEnough_any m r a1 k c1 _ W ((HR1.out.keep HBQ.out).keep hW) (onesL_in l node I2.out HND.out) (by omega)
          clear hel hea HEO
          go_wp2_with fail
          refine (enough_true _).mono ?_
          rintro e w5 ⟨rfl, hb5⟩
          have HB5 := hidk hb5
          clear hb5
          go_wp2_with fail
          refine (E1.out _ HB5.out).mono ?_
          rintro e w6 ⟨rfl, hb6⟩
          have HB6 := hidk (HB5.out.trans (hb6.mono HB5.out.size))
          clear hb6
          cases el
          · go_wp2_with fail
            refine (E3.out _ HB6.out).mono ?_
            rintro e w8 ⟨rfl, hb8⟩
            have HB8 := hidk (HB6.out.trans (hb8.mono HB6.out.size))
            clear hb8
            go_wp2
            go_ret
            exact ⟨rfl, HBA.out.trans (HB8.out.mono HBA.out.size)⟩
          · obtain rfl : ea = true := HIM.out rfl
            go_wp2_with fail
            refine (E2.out _ HB6.out).mono ?_
            rintro e w7 ⟨rfl, hb7⟩
            have HB7 := hidk (HB6.out.trans (hb7.mono HB6.out.size))
            clear hb7
            go_wp2_with fail
            refine (E3.out _ HB7.out).mono ?_
            rintro e w8 ⟨rfl, hb8⟩
            have HB8 := hidk (HB7.out.trans (hb8.mono HB7.out.size))
            clear hb8
            go_wp2
            go_ret
            exact ⟨rfl, HBA.out.trans (HB8.out.mono HBA.out.size)⟩
end Go.Proofs.Ytieklabpdalahaa
