/- Texts of our own that the row of ClaimsRecords leans on, part 32. -/
import Derived.Test.YtieklabpdalahaaClaimsRecordsJ23
import Derived.Test.YtieklabpdalahaaClaimsRecordsJ25
import Derived.Test.YtieklabpdalahaaClaimsRecordsJ28
import Derived.Test.YtieklabpdalahaaClaimsRecordsJ29
import Derived.Test.YtieklabpdalahaaClaimsRecordsJ31
import Derived.Deep.Slices

/- Slices of claims that came in. -/
namespace Go.Proofs.Ytieklabpdalahaa
open Go.RowKit Sums Nums Go.ChangeShapes
set_option linter.unusedVariables false
set_option linter.unusedSimpArgs false
set_option maxRecDepth 100000
variable {H : Type} {enc : TypeId × Value → H} {W : World} {base : Nat} {sp : Nat → Bool} {held : Bool} {fuel : Nat} {x : DataW H × List MemPlace}
theorem InC.okC {c : ClT} (h : InC c) : OkC c := h.d
theorem open_cls {a : Option Addr} {len cap : Nat} {d : DataW H} {p : List MemPlace} (h : DataW.Trod enc Try.prog W base sp held 22 (.slice a len cap) d p) : ∃ l, CReads W a len cap l ∧ (a = none → cap = 0) ∧ ∀ x ∈ l, InC x := by
  obtain ⟨fuel, hf⟩ := h
  have h2 : Try.prog.cellsOf 26 = 36 := by kernel_rfl
  rcases Deep.open_slice Try.underlying22 hf with ⟨hcs, _⟩ | ⟨ad, len', cap', m, n, D, Pl, hcs, _, hl, hm, hmm, _, hx⟩
  · simp [Value.cells] at hcs
    obtain ⟨rfl, rfl, rfl⟩ := hcs
    exact ⟨[], clreads_none W, fun _ => rfl, fun o ho => by cases ho⟩
  · simp [Value.cells] at hcs
    obtain ⟨rfl, rfl, rfl⟩ := hcs
    have hlm : len ≤ m := by rw [hmm]; split <;> omega
    have each : ∀ i, i < len → ∃ o : ClT, InC o ∧ ∀ j v, (ccells o)[j]? = some v → W.cell? (ad.add (i * 36 + j)) = some v := by
      intro i hi
      obtain ⟨cs', c1, c2⟩ := hx i (by omega)
      rw [h2] at c1
      obtain ⟨_, hlen, hcell⟩ := World.cells?_some c1
      obtain ⟨o, ho, rfl⟩ := open_claim_cells c2
      refine ⟨o, ho, fun j v hj => ?_⟩
      have hj' : j < (ccells o).length := (List.getElem?_eq_some_iff.1 hj).1
      have e0 := hcell j (by rw [ccells_length _ ho.d] at hj'; omega)
      rw [Deep.add_add] at e0
      rw [e0]
      simpa using hj
    haveI : Inhabited ClT := ⟨zeroC⟩
    obtain ⟨F, hF⟩ := Deep.choose_lt each
    refine ⟨(List.range len).map F, ⟨by simp, hl, by unfold maxLen at hm ⊢; omega, ?_, ?_⟩, (fun e => by cases e), ?_⟩
    · intro o ho
      obtain ⟨i, hi, rfl⟩ := List.mem_map.1 ho
      exact (hF i (List.mem_range.1 hi)).1.d
    · by_cases h0 : len = 0
      · exact .inl h0
      · have hc := (hF 0 (by omega)).2 0 _ rfl
        obtain ⟨b, off, spot⟩ := ad
        have hspot : spot = none := by simpa [Addr.add] using World.cell?_spot hc
        subst hspot
        refine .inr ⟨b, off, rfl, fun i hi j v hj => ?_⟩
        have hi' : i < len := by simpa using hi
        simp only [List.getElem_map, List.getElem_range] at hj
        have := (hF i hi').2 j v hj
        rw [add_plain] at this
        rw [← this]
        congr 2
        omega
    · intro o ho
      obtain ⟨i, hi, rfl⟩ := List.mem_map.1 ho
      exact (hF i (List.mem_range.1 hi)).1
end Go.Proofs.Ytieklabpdalahaa

/- Claims are right, or are not; one is found, or is not; one is recorded just so, or refused. -/
namespace Go.Proofs.Ytieklabpdalahaa
open Go.RowKit Nums Sums Go.Maps
set_option linter.unusedVariables false
set_option linter.unusedSimpArgs false
set_option maxRecDepth 100000
/-- A row of the call's own that is to be spoilt. -/
def SpR (B ml : Nat) (v : Value) (w : World) : Prop := ml = 0 ∨ ∃ (g cap : Nat) (cs : Array Value), v = .slice (some ⟨g, 0, none⟩) ml cap ∧ B ≤ g ∧ w.heap[g]? = some (.cells cs 26 (0, 0)) ∧ ml * 36 ≤ cs.size
theorem spR_of {w : World} {B ml : Nat} {v : Value} {xs : List Value} (h : w.ownsRow B 26 36 v ml xs) : SpR B ml v w := by
  rcases h.2 with ⟨_, h0⟩ | ⟨g, cap, cs, hv, hb, hg, hc, _, hs, _⟩
  · exact .inl h0
  · exact .inr ⟨g, cap, cs, hv, hb, hg, by rw [hs]; exact Nat.mul_le_mul_right _ hc⟩
theorem recL_ok {l : List ClT} {c : ClT} (h : ∀ x ∈ l, OkC x) (hx : OkC c) : ∀ y ∈ recL l c, OkC y := fun y hy => by
  by_cases hz : recE l c = 0
  · rcases (recL_mem hz y).1 hy with rfl | hy
    · exact hx
    · exact h y hy
  · unfold recL at hy
    rw [if_neg hz] at hy
    cases hy
theorem recL_le (l : List ClT) (c : ClT) : (recL l c).length ≤ l.length + 1 := by
  by_cases hz : recE l c = 0
  · exact (recL_length hz).2
  · unfold recL
    rw [if_neg hz]
    simp
set_option maxHeartbeats 32000000 in
theorem claimsRecords_x (ad : Option Addr) (len cap : Nat) (l : List ClT) (c : ClT) (r e : Int) (X : Array Value) (HX : Hid (X = (ccells c).toArray)) (w : World) (h : CReads w ad len cap l) (hn : ad = none → cap = 0) (hx : OkC c) :
    Calls Try.prog 3 #[.slice ad len cap, .agg X, .int .i64 r, .int .i64 e] w fun e w' => e = .returned (.bool true) ∧ Below w.heap.size w w' := by
  have H := hidk h
  have HL := hidk h.ln
  have HN := hidk hn
  have HOKL := hidk h.ok
  have hmx : len ≤ 9223372036854775807 := by have := h.mx; unfold maxLen at this; omega
  have hb0 : Below w.heap.size w (w.alloc (.cells X 26)) := (Below.refl _ _).alloc (Nat.le_refl _) _
  have hx0 : (w.alloc (.cells X 26)).rangeAt w.heap.size 0 X.toList := range_row (t := 26) (fr := (0, 0)) (by rw [Array.toArray_toList]; exact heap_alloc_new w _)
  have HB0 := hidk hb0
  have HX0 := hidk hx0
  clear h hn hb0 hx0
  by_cases h200 : 200 < len
  · have d1 : decide ((200 : Int) < (len : Int)) = true := decide_eq_true (by omega)
    go_enter Try.func3, Try.ntmps3
    go_wp2
    go_ret
    exact ⟨rfl, HB0.out⟩
  have d1 : decide ((200 : Int) < (len : Int)) = false := decide_eq_false (by omega)
  have hs : len ≤ 200 := by omega
  clear h200
  obtain ⟨Z, HZ, HA, HBZ, H36⟩ := noughtsC
  have HSX : Hid ((Try.prog.info? 26).map (·.size) = some X.size) := by show _ = _; rw [sizeC, HX.out]; simp [ccells_length _ hx]
  obtain ⟨R, HR⟩ : ∃ R, Hid (R = (ccells (foundC l r e)).toArray) := ⟨_, hidk rfl⟩
  have hof := foundC_ok HOKL.out r e
  have HSR : Hid ((Try.prog.info? 26).map (·.size) = some R.size) := by show _ = _; rw [sizeC, HR.out]; simp [ccells_length _ hof]
  have HZR : Hid (Z.size = R.size) := by show _ = _; rw [H36.out, HR.out]; simp [ccells_length _ hof]
  have H1R : Hid (R.all (·.oneCell') = true) := by show _ = _; rw [HR.out]; exact one_cellsC _
  have hqR := fun W => eqClaim _ _ hof hof R R HR HR true (by simp) W
  obtain ⟨ok, hok⟩ : ∃ b, (findC l r e).isSome = b := ⟨_, rfl⟩
  have HOK := hidk hok
  obtain ⟨M, hM⟩ : ∃ M, recL l c = M := ⟨_, rfl⟩
  obtain ⟨ml, hml⟩ : ∃ m, M.length = m := ⟨_, rfl⟩
  obtain ⟨E, hE⟩ : ∃ e, recE l c = e := ⟨_, rfl⟩
  have HM := hidk hM
  have HML := hidk hml
  have HE := hidk hE
  have HMB : Hid (ml ≤ 201) := by show _ ≤ _; have h9 := recL_le l c; have h8 := HL.out; rw [hM, hml] at h9; omega
  have HOKM : Hid (∀ y ∈ M, OkC y) := by have := recL_ok HOKL.out hx; rwa [hM] at this
  have hEE : (E == E) = true := by simp
  have hdE : decide (E = E) = true := by simp
  obtain ⟨rl, hrl⟩ : ∃ b, rightCs l = b := ⟨_, rfl⟩
  have HRL := hidk hrl
  clear hM hml hE hof hok
  cases rl
  · have HCH : Hid (chkE l = 110) := by show _ = _; unfold chkE; rw [hrl]; rfl
    clear hrl
    go_enter Try.func3, Try.ntmps3
    go_wp2_with fail
    refine (refOwnC_any ad len cap l _ (H.out.keep HB0.out) HN.out (by omega)).mono ?_
    rintro x w1 ⟨v1, rfl, ho1, hb1⟩
    obtain ⟨a9, c9, hv1, hr1, hn1, _⟩ := CReads.own ho1 HOKL.out
    subst hv1
    have HB1 := hidk (HB0.out.trans (hb1.mono (by simp)))
    have HX1 := hidk (range_keep hb1 HX0.out)
    have HO1 := hidk hr1
    have HN1 := hidk hn1
    clear ho1 hb1 hr1 hn1 HX0
    go_wp2_with fail
    have CHL := hidk (kCheck_any ad len cap l w1 (H.out.keep HB1.out) (by omega))
    rw [HCH.out] at CHL
    refine CHL.out.mono ?_
    rintro x w2 ⟨rfl, hb2⟩
    have HB2 := hidk (HB1.out.trans (hb2.mono HB1.out.size))
    have HX2 := hidk (range_keep hb2 HX1.out)
    have HO2 := hidk (HO1.out.keep hb2)
    clear hb2 CHL HX1 HO1
    go_wp2_with fail
    have FI1 := hidk (kFind_any ad len cap l r e w2 (H.out.keep HB2.out) (by omega) R HR)
    rw [HOK.out] at FI1
    refine FI1.out.mono ?_
    rintro x w3 ⟨rfl, hb3⟩
    have HB3 := hidk (HB2.out.trans (hb3.mono HB2.out.size))
    have HX3 := hidk (range_keep hb3 HX2.out)
    have HO3 := hidk (HO2.out.keep hb3)
    clear hb3 FI1 HX2 HO2
    go_wp2_with (first
      | (show wpList _ _ _ ({ dst := some 11, op := _, type := _, pos := _, after := _, guard := _ } :: _) _ _; refine wpList_new_var rfl 26 rfl Z HA.out ?_; intro g11 w33 HM11; have HG11 := hidk HM11.out.row; try simp only [Act.put, List.setIfInBounds_toArray, List.set_cons_zero, List.set_cons_succ])
      | (show wpList _ _ _ ({ dst := none, op := Op.store 26 _ _, type := _, pos := _, after := _, guard := _ } :: _) _ _; refine wpList_set_var rfl 26 (.tmp 11) (.tmp 33) rfl g11 R rfl rfl 26 Z HG11.out HSR.out HZR.out H1R.out ?_; intro w4 HW11; try simp only [Act.put, List.setIfInBounds_toArray, List.set_cons_zero, List.set_cons_succ])
      | fail)
    have hb4 : Below w3.heap.size w3 w4 := HW11.out.below _ _ HM11.out.below (by rw [HM11.out.new]; exact Nat.le_refl _)
    have HB4 := hidk (HB3.out.trans (hb4.mono HB3.out.size))
    have HX4 := hidk (range_keep hb4 HX3.out)
    have HO4 := hidk (HO3.out.keep hb4)
    have HR4 : Hid (w4.rangeAt g11 0 R.toList) := range_row (t := 26) (fr := (0, 0)) (by rw [Array.toArray_toList]; exact HW11.out.row)
    clear hb4 HM11 HG11 HW11 HX3 HO3
    have FI2 := hidk (refFindC_any a9 len c9 l r e w4 HO4.out (by omega) R HR)
    rw [HOK.out] at FI2
    refine FI2.out.mono ?_
    rintro x w5 ⟨rfl, hb5⟩
    have HB5 := hidk (HB4.out.trans (hb5.mono HB4.out.size))
    have HX5 := hidk (range_keep hb5 HX4.out)
    have HO5 := hidk (HO4.out.keep hb5)
    have HR5 := hidk (range_keep hb5 HR4.out)
    clear hb5 FI2 HX4 HO4 HR4
    go_wp2_with (first
      | (show wpList _ _ _ ({ dst := some 13, op := _, type := _, pos := _, after := _, guard := _ } :: _) _ _; refine wpList_new_var rfl 26 rfl Z HA.out ?_; intro g13 w55 HM13; have HG13 := hidk HM13.out.row; try simp only [Act.put, List.setIfInBounds_toArray, List.set_cons_zero, List.set_cons_succ])
      | (show wpList _ _ _ ({ dst := none, op := Op.store 26 _ _, type := _, pos := _, after := _, guard := _ } :: _) _ _; refine wpList_set_var rfl 26 (.tmp 13) (.tmp 40) rfl g13 R rfl rfl 26 Z HG13.out HSR.out HZR.out H1R.out ?_; intro w6 HW13; have hb6 : Below w5.heap.size w5 w6 := HW13.out.below _ _ HM13.out.below (by rw [HM13.out.new]; exact Nat.le_refl _); have HX6 := hidk (range_keep hb6 HX5.out); try simp only [Act.put, List.setIfInBounds_toArray, List.set_cons_zero, List.set_cons_succ])
      | (show wpList _ _ _ ({ dst := some 44, op := _, type := _, pos := _, after := _, guard := _ } :: _) _ _; refine wpList_mid_w (by rfl) 26 (.tmp 5) rfl w.heap.size 0 rfl X _ HX6.out Try.underlying26 rfl HSX.out ?_; try simp only [Act.put, List.setIfInBounds_toArray, List.set_cons_zero, List.set_cons_succ])
      | fail)
    have HB6 := hidk (HB5.out.trans (hb6.mono HB5.out.size))
    have HO6 := hidk (HO5.out.keep hb6)
    have HR11 := hidk (range_keep hb6 HR5.out)
    have HR13 : Hid (w6.rangeAt g13 0 R.toList) := range_row (t := 26) (fr := (0, 0)) (by rw [Array.toArray_toList]; exact HW13.out.row)
    clear hb6 HM13 HG13 HW13 HX5 HO5 HR5
    refine (recOut ad len cap X HX hx w6 (H.out.keep HB6.out) HN.out (by omega) M E ml HM.out HE.out HML.out).mono ?_
    rintro x w8 ⟨a15, c15, rfl, hr8, hn8, ho8, hb8⟩
    have HR8 := hidk hr8
    have HW8 := hidk ho8
    have HB8 := hidk hb8
    have HX8 := hidk (range_keep hb8 HX6.out)
    have HO8 := hidk (HO6.out.keep hb8)
    clear hr8 hn8 ho8 hb8
    go_wp2_with (first
      | (show wpList _ _ _ ({ dst := some 50, op := _, type := _, pos := _, after := _, guard := _ } :: _) _ _; refine wpList_mid_w (by rfl) 26 (.tmp 5) rfl w.heap.size 0 rfl X _ HX8.out Try.underlying26 rfl HSX.out ?_; try simp only [Act.put, List.setIfInBounds_toArray, List.set_cons_zero, List.set_cons_succ])
      | fail)
    have RRC := hidk (refRecord_any a9 len c9 l c X HX hx w8 HO8.out (by omega))
    rw [HM.out, HE.out] at RRC
    refine RRC.out.mono ?_
    rintro x w9 ⟨v17, rfl, ho9, hb9⟩
    rw [HML.out] at ho9
    obtain ⟨a17, c17, hv9, hr9, _, _⟩ := CReads.own ho9 HOKM.out
    subst hv9
    have HR9 := hidk hr9
    have HB9 := hidk (HB8.out.trans (hb9.mono HB8.out.size))
    replace HR8 := hidk (HR8.out.keep hb9)
    replace HW8 := hidk (own_below HW8.out hb9)
    clear hr9 ho9 hb9 RRC HX8 HO8
    go_wp2_with fail
    refine (refSameC_any a15 a17 ml c15 c17 M w9 HR8.out HR9.out).mono ?_
    rintro x wa ⟨rfl, hba⟩
    have HBA := hidk (HB9.out.trans (hba.mono HB9.out.size))
    replace HW8 := hidk (own_below HW8.out hba)
    have HSP : Hid (SpR w6.heap.size ml (.slice a15 ml c15) wa) := spR_of HW8.out
    have hmb : ml ≤ 201 := HMB.out
    clear hba HR8 HR9 HW8
    go_wp2
    go_loopw [20] (fun i wr => ∃ k : Nat, k ≤ ml ∧ i = .int .i64 k ∧ Hid (Below w6.heap.size w6 wr) ∧ Hid (SpR w6.heap.size ml (.slice a15 ml c15) wr)) (fun i _ => ml - (intOf i).toNat)
    case atStart => exact ⟨0, by omega, rfl, HBA, HSP⟩
    case round =>
      obtain ⟨k, hk, rfl, HBR, HSR'⟩ := hrel
      by_cases hlt : k < ml
      · have hd : decide ((k : Int) < (ml : Int)) = true := by rw [decide_eq_true_eq]; omega
        have hw1 := wrap_int ((k : Int) + 1) (by omega) (by omega)
        rcases HSR'.out with h0 | ⟨g, cp, cs, hv, hbg, hgc, hcs⟩
        · omega
        cases hv
        have ixk : ∀ W : World, (Instr.indexAt 22 (.slice (some ⟨g, 0, none⟩) ml c15) (.int .i64 k)).run Try.prog W = .ok (.pointer (some ⟨g, 36 * k, none⟩)) W := fun W => by have := index_cl W g 0 ml c15 k .i64 hlt; rwa [Nat.zero_add] at this
        have hkc : 36 * k + 2 < cs.size := by omega
        have hc : wr.cell? ⟨g, 36 * k + 2, none⟩ = some cs[36 * k + 2] := by rw [cell_of_row _ _ _ _ _ (0, 0) hgc]; simp [hkc]
        have hf : wr.frozen? ⟨g, 36 * k + 2, none⟩ = false := frozen_of_row wr g (36 * k + 2) cs _ hgc
        have HG2 := hidk (Go.heap_setCell_same wr g (36 * k + 2) cs _ (.int .i64 77) hgc)
        have HB2' : Hid (Below w6.heap.size w6 (wr.setCell ⟨g, 36 * k + 2, none⟩ (.int .i64 77))) := HBR.out.setCell hbg _
        have HNX : Hid (SpR w6.heap.size ml (.slice (some ⟨g, 0, none⟩) ml c15) (wr.setCell ⟨g, 36 * k + 2, none⟩ (.int .i64 77))) := .inr ⟨g, c15, _, rfl, hbg, HG2.out, by simp; omega⟩
        obtain ⟨ov, hov⟩ : ∃ v, cs[36 * k + 2] = v := ⟨_, rfl⟩
        rw [hov] at hc
        clear hov hcs hgc hbg HG2 hkc HSR'
        go_wp2
        go_roundw
        case rel => exact ⟨k + 1, by omega, by go_num, HB2', HNX⟩
        case measure => simp [intOf]; omega
      · have hd : decide ((k : Int) < (ml : Int)) = false := by rw [decide_eq_false_iff_not]; omega
        have RR : Hid (∀ W, Below w6.heap.size w6 W → Calls Try.prog 17 #[.slice a9 len c9] W fun e w' => e = .returned (.bool false) ∧ Below W.heap.size W w') := fun W hW => by
          have := refRightCs_any a9 len c9 l W (HO6.out.keep hW) (by omega)
          rwa [HRL.out] at this
        have SM2 : Hid (∀ W, Below w6.heap.size w6 W → Calls Try.prog 15 #[.slice ad len cap, .slice a9 len c9] W fun e w' => e = .returned (.bool true) ∧ Below W.heap.size W w') := fun W hW => refSameC_any ad a9 len cap c9 l W (H.out.keep (HB6.out.trans (hW.mono HB6.out.size))) (HO6.out.keep hW)
        clear HSR'
        go_wp2_with fail
        refine (records_true _).mono ?_
        rintro x we ⟨rfl, hbe⟩
        have HBE := hidk (HBR.out.trans (hbe.mono HBR.out.size))
        clear hbe
        go_wp2_with fail
        refine (RR.out _ HBE.out).mono ?_
        rintro x wf ⟨rfl, hbf⟩
        have HBF := hidk (HBE.out.trans (hbf.mono HBE.out.size))
        have HR11F := hidk (range_keep HBF.out HR11.out)
        have HR13F := hidk (range_keep HBF.out HR13.out)
        clear hbf
        cases ok
        · go_wp2_with (first
            | (show wpList _ _ _ ({ dst := some 89, op := _, type := _, pos := _, after := _, guard := _ } :: _) _ _; refine wpList_mid_w (by rfl) 26 (.tmp 11) rfl g11 0 rfl R _ HR11F.out Try.underlying26 rfl HSR.out ?_; try simp only [Act.put, List.setIfInBounds_toArray, List.set_cons_zero, List.set_cons_succ])
            | (show wpList _ _ _ ({ dst := some 90, op := _, type := _, pos := _, after := _, guard := _ } :: _) _ _; refine wpList_mid_w (by rfl) 26 (.tmp 13) rfl g13 0 rfl R _ HR13F.out Try.underlying26 rfl HSR.out ?_; try simp only [Act.put, List.setIfInBounds_toArray, List.set_cons_zero, List.set_cons_succ])
            | fail)
          refine (SM2.out _ HBF.out).mono ?_
          rintro x wg ⟨rfl, hbg⟩
          have HBG := hidk (HBF.out.trans (hbg.mono HBF.out.size))
          clear hbg
          go_wp2
          go_ret
          exact ⟨rfl, HB6.out.trans (HBG.out.mono HB6.out.size)⟩
        · go_wp2_with (first
            | (show wpList _ _ _ ({ dst := some 89, op := _, type := _, pos := _, after := _, guard := _ } :: _) _ _; refine wpList_mid_w (by rfl) 26 (.tmp 11) rfl g11 0 rfl R _ HR11F.out Try.underlying26 rfl HSR.out ?_; try simp only [Act.put, List.setIfInBounds_toArray, List.set_cons_zero, List.set_cons_succ])
            | (show wpList _ _ _ ({ dst := some 90, op := _, type := _, pos := _, after := _, guard := _ } :: _) _ _; refine wpList_mid_w (by rfl) 26 (.tmp 13) rfl g13 0 rfl R _ HR13F.out Try.underlying26 rfl HSR.out ?_; try simp only [Act.put, List.setIfInBounds_toArray, List.set_cons_zero, List.set_cons_succ])
            | fail)
          refine (SM2.out _ HBF.out).mono ?_
          rintro x wg ⟨rfl, hbg⟩
          have HBG := hidk (HBF.out.trans (hbg.mono HBF.out.size))
          clear hbg
          go_wp2
          go_ret
          exact ⟨rfl, HB6.out.trans (HBG.out.mono HB6.out.size)⟩
  · have HCH : Hid (chkE l = 0) := by show _ = _; unfold chkE; rw [hrl]; rfl
    clear hrl
    go_enter Try.func3, Try.ntmps3
    go_wp2_with fail
    refine (refOwnC_any ad len cap l _ (H.out.keep HB0.out) HN.out (by omega)).mono ?_
    rintro x w1 ⟨v1, rfl, ho1, hb1⟩
    obtain ⟨a9, c9, hv1, hr1, hn1, _⟩ := CReads.own ho1 HOKL.out
    subst hv1
    have HB1 := hidk (HB0.out.trans (hb1.mono (by simp)))
    have HX1 := hidk (range_keep hb1 HX0.out)
    have HO1 := hidk hr1
    have HN1 := hidk hn1
    clear ho1 hb1 hr1 hn1 HX0
    go_wp2_with fail
    have CHL := hidk (kCheck_any ad len cap l w1 (H.out.keep HB1.out) (by omega))
    rw [HCH.out] at CHL
    refine CHL.out.mono ?_
    rintro x w2 ⟨rfl, hb2⟩
    have HB2 := hidk (HB1.out.trans (hb2.mono HB1.out.size))
    have HX2 := hidk (range_keep hb2 HX1.out)
    have HO2 := hidk (HO1.out.keep hb2)
    clear hb2 CHL HX1 HO1
    go_wp2_with fail
    have FI1 := hidk (kFind_any ad len cap l r e w2 (H.out.keep HB2.out) (by omega) R HR)
    rw [HOK.out] at FI1
    refine FI1.out.mono ?_
    rintro x w3 ⟨rfl, hb3⟩
    have HB3 := hidk (HB2.out.trans (hb3.mono HB2.out.size))
    have HX3 := hidk (range_keep hb3 HX2.out)
    have HO3 := hidk (HO2.out.keep hb3)
    clear hb3 FI1 HX2 HO2
    go_wp2_with (first
      | (show wpList _ _ _ ({ dst := some 11, op := _, type := _, pos := _, after := _, guard := _ } :: _) _ _; refine wpList_new_var rfl 26 rfl Z HA.out ?_; intro g11 w33 HM11; have HG11 := hidk HM11.out.row; try simp only [Act.put, List.setIfInBounds_toArray, List.set_cons_zero, List.set_cons_succ])
      | (show wpList _ _ _ ({ dst := none, op := Op.store 26 _ _, type := _, pos := _, after := _, guard := _ } :: _) _ _; refine wpList_set_var rfl 26 (.tmp 11) (.tmp 33) rfl g11 R rfl rfl 26 Z HG11.out HSR.out HZR.out H1R.out ?_; intro w4 HW11; try simp only [Act.put, List.setIfInBounds_toArray, List.set_cons_zero, List.set_cons_succ])
      | fail)
    have hb4 : Below w3.heap.size w3 w4 := HW11.out.below _ _ HM11.out.below (by rw [HM11.out.new]; exact Nat.le_refl _)
    have HB4 := hidk (HB3.out.trans (hb4.mono HB3.out.size))
    have HX4 := hidk (range_keep hb4 HX3.out)
    have HO4 := hidk (HO3.out.keep hb4)
    have HR4 : Hid (w4.rangeAt g11 0 R.toList) := range_row (t := 26) (fr := (0, 0)) (by rw [Array.toArray_toList]; exact HW11.out.row)
    clear hb4 HM11 HG11 HW11 HX3 HO3
    have FI2 := hidk (refFindC_any a9 len c9 l r e w4 HO4.out (by omega) R HR)
    rw [HOK.out] at FI2
    refine FI2.out.mono ?_
    rintro x w5 ⟨rfl, hb5⟩
    have HB5 := hidk (HB4.out.trans (hb5.mono HB4.out.size))
    have HX5 := hidk (range_keep hb5 HX4.out)
    have HO5 := hidk (HO4.out.keep hb5)
    have HR5 := hidk (range_keep hb5 HR4.out)
    clear hb5 FI2 HX4 HO4 HR4
    go_wp2_with (first
      | (show wpList _ _ _ ({ dst := some 13, op := _, type := _, pos := _, after := _, guard := _ } :: _) _ _; refine wpList_new_var rfl 26 rfl Z HA.out ?_; intro g13 w55 HM13; have HG13 := hidk HM13.out.row; try simp only [Act.put, List.setIfInBounds_toArray, List.set_cons_zero, List.set_cons_succ])
      | (show wpList _ _ _ ({ dst := none, op := Op.store 26 _ _, type := _, pos := _, after := _, guard := _ } :: _) _ _; refine wpList_set_var rfl 26 (.tmp 13) (.tmp 40) rfl g13 R rfl rfl 26 Z HG13.out HSR.out HZR.out H1R.out ?_; intro w6 HW13; have hb6 : Below w5.heap.size w5 w6 := HW13.out.below _ _ HM13.out.below (by rw [HM13.out.new]; exact Nat.le_refl _); have HX6 := hidk (range_keep hb6 HX5.out); try simp only [Act.put, List.setIfInBounds_toArray, List.set_cons_zero, List.set_cons_succ])
      | (show wpList _ _ _ ({ dst := some 44, op := _, type := _, pos := _, after := _, guard := _ } :: _) _ _; refine wpList_mid_w (by rfl) 26 (.tmp 5) rfl w.heap.size 0 rfl X _ HX6.out Try.underlying26 rfl HSX.out ?_; try simp only [Act.put, List.setIfInBounds_toArray, List.set_cons_zero, List.set_cons_succ])
      | fail)
    have HB6 := hidk (HB5.out.trans (hb6.mono HB5.out.size))
    have HO6 := hidk (HO5.out.keep hb6)
    have HR11 := hidk (range_keep hb6 HR5.out)
    have HR13 : Hid (w6.rangeAt g13 0 R.toList) := range_row (t := 26) (fr := (0, 0)) (by rw [Array.toArray_toList]; exact HW13.out.row)
    clear hb6 HM13 HG13 HW13 HX5 HO5 HR5
    refine (recOut ad len cap X HX hx w6 (H.out.keep HB6.out) HN.out (by omega) M E ml HM.out HE.out HML.out).mono ?_
    rintro x w8 ⟨a15, c15, rfl, hr8, hn8, ho8, hb8⟩
    have HR8 := hidk hr8
    have HW8 := hidk ho8
    have HB8 := hidk hb8
    have HX8 := hidk (range_keep hb8 HX6.out)
    have HO8 := hidk (HO6.out.keep hb8)
    clear hr8 hn8 ho8 hb8
    go_wp2_with (first
      | (show wpList _ _ _ ({ dst := some 50, op := _, type := _, pos := _, after := _, guard := _ } :: _) _ _; refine wpList_mid_w (by rfl) 26 (.tmp 5) rfl w.heap.size 0 rfl X _ HX8.out Try.underlying26 rfl HSX.out ?_; try simp only [Act.put, List.setIfInBounds_toArray, List.set_cons_zero, List.set_cons_succ])
      | fail)
    have RRC := hidk (refRecord_any a9 len c9 l c X HX hx w8 HO8.out (by omega))
    rw [HM.out, HE.out] at RRC
    refine RRC.out.mono ?_
    rintro x w9 ⟨v17, rfl, ho9, hb9⟩
    rw [HML.out] at ho9
    obtain ⟨a17, c17, hv9, hr9, _, _⟩ := CReads.own ho9 HOKM.out
    subst hv9
    have HR9 := hidk hr9
    have HB9 := hidk (HB8.out.trans (hb9.mono HB8.out.size))
    replace HR8 := hidk (HR8.out.keep hb9)
    replace HW8 := hidk (own_below HW8.out hb9)
    clear hr9 ho9 hb9 RRC HX8 HO8
    go_wp2_with fail
    refine (refSameC_any a15 a17 ml c15 c17 M w9 HR8.out HR9.out).mono ?_
    rintro x wa ⟨rfl, hba⟩
    have HBA := hidk (HB9.out.trans (hba.mono HB9.out.size))
    replace HW8 := hidk (own_below HW8.out hba)
    have HSP : Hid (SpR w6.heap.size ml (.slice a15 ml c15) wa) := spR_of HW8.out
    have hmb : ml ≤ 201 := HMB.out
    clear hba HR8 HR9 HW8
    go_wp2
    go_loopw [20] (fun i wr => ∃ k : Nat, k ≤ ml ∧ i = .int .i64 k ∧ Hid (Below w6.heap.size w6 wr) ∧ Hid (SpR w6.heap.size ml (.slice a15 ml c15) wr)) (fun i _ => ml - (intOf i).toNat)
    case atStart => exact ⟨0, by omega, rfl, HBA, HSP⟩
    case round =>
      obtain ⟨k, hk, rfl, HBR, HSR'⟩ := hrel
      by_cases hlt : k < ml
      · have hd : decide ((k : Int) < (ml : Int)) = true := by rw [decide_eq_true_eq]; omega
        have hw1 := wrap_int ((k : Int) + 1) (by omega) (by omega)
        rcases HSR'.out with h0 | ⟨g, cp, cs, hv, hbg, hgc, hcs⟩
        · omega
        cases hv
        have ixk : ∀ W : World, (Instr.indexAt 22 (.slice (some ⟨g, 0, none⟩) ml c15) (.int .i64 k)).run Try.prog W = .ok (.pointer (some ⟨g, 36 * k, none⟩)) W := fun W => by have := index_cl W g 0 ml c15 k .i64 hlt; rwa [Nat.zero_add] at this
        have hkc : 36 * k + 2 < cs.size := by omega
        have hc : wr.cell? ⟨g, 36 * k + 2, none⟩ = some cs[36 * k + 2] := by rw [cell_of_row _ _ _ _ _ (0, 0) hgc]; simp [hkc]
        have hf : wr.frozen? ⟨g, 36 * k + 2, none⟩ = false := frozen_of_row wr g (36 * k + 2) cs _ hgc
        have HG2 := hidk (Go.heap_setCell_same wr g (36 * k + 2) cs _ (.int .i64 77) hgc)
        have HB2' : Hid (Below w6.heap.size w6 (wr.setCell ⟨g, 36 * k + 2, none⟩ (.int .i64 77))) := HBR.out.setCell hbg _
        have HNX : Hid (SpR w6.heap.size ml (.slice (some ⟨g, 0, none⟩) ml c15) (wr.setCell ⟨g, 36 * k + 2, none⟩ (.int .i64 77))) := .inr ⟨g, c15, _, rfl, hbg, HG2.out, by simp; omega⟩
        obtain ⟨ov, hov⟩ : ∃ v, cs[36 * k + 2] = v := ⟨_, rfl⟩
        rw [hov] at hc
        clear hov hcs hgc hbg HG2 hkc HSR'
        go_wp2
        go_roundw
        case rel => exact ⟨k + 1, by omega, by go_num, HB2', HNX⟩
        case measure => simp [intOf]; omega
      · have hd : decide ((k : Int) < (ml : Int)) = false := by rw [decide_eq_false_iff_not]; omega
        have RR : Hid (∀ W, Below w6.heap.size w6 W → Calls Try.prog 17 #[.slice a9 len c9] W fun e w' => e = .returned (.bool true) ∧ Below W.heap.size W w') := fun W hW => by
          have := refRightCs_any a9 len c9 l W (HO6.out.keep hW) (by omega)
          rwa [HRL.out] at this
        have SM2 : Hid (∀ W, Below w6.heap.size w6 W → Calls Try.prog 15 #[.slice ad len cap, .slice a9 len c9] W fun e w' => e = .returned (.bool true) ∧ Below W.heap.size W w') := fun W hW => refSameC_any ad a9 len cap c9 l W (H.out.keep (HB6.out.trans (hW.mono HB6.out.size))) (HO6.out.keep hW)
        clear HSR'
        go_wp2_with fail
        refine (records_true _).mono ?_
        rintro x we ⟨rfl, hbe⟩
        have HBE := hidk (HBR.out.trans (hbe.mono HBR.out.size))
        clear hbe
        go_wp2_with fail
        refine (RR.out _ HBE.out).mono ?_
        rintro x wf ⟨rfl, hbf⟩
        have HBF := hidk (HBE.out.trans (hbf.mono HBE.out.size))
        have HR11F := hidk (range_keep HBF.out HR11.out)
        have HR13F := hidk (range_keep HBF.out HR13.out)
        clear hbf
        cases ok
        · go_wp2_with (first
            | (show wpList _ _ _ ({ dst := some 89, op := _, type := _, pos := _, after := _, guard := _ } :: _) _ _; refine wpList_mid_w (by rfl) 26 (.tmp 11) rfl g11 0 rfl R _ HR11F.out Try.underlying26 rfl HSR.out ?_; try simp only [Act.put, List.setIfInBounds_toArray, List.set_cons_zero, List.set_cons_succ])
            | (show wpList _ _ _ ({ dst := some 90, op := _, type := _, pos := _, after := _, guard := _ } :: _) _ _; refine wpList_mid_w (by rfl) 26 (.tmp 13) rfl g13 0 rfl R _ HR13F.out Try.underlying26 rfl HSR.out ?_; try simp only [Act.put, List.setIfInBounds_toArray, List.set_cons_zero, List.set_cons_succ])
            | fail)
          refine (SM2.out _ HBF.out).mono ?_
          rintro x wg ⟨rfl, hbg⟩
          have HBG := hidk (HBF.out.trans (hbg.mono HBF.out.size))
          clear hbg
          go_wp2
          go_ret
          exact ⟨rfl, HB6.out.trans (HBG.out.mono HB6.out.size)⟩
        · go_wp2_with (first
            | (show wpList _ _ _ ({ dst := some 89, op := _, type := _, pos := _, after := _, guard := _ } :: _) _ _; refine wpList_mid_w (by rfl) 26 (.tmp 11) rfl g11 0 rfl R _ HR11F.out Try.underlying26 rfl HSR.out ?_; try simp only [Act.put, List.setIfInBounds_toArray, List.set_cons_zero, List.set_cons_succ])
            | (show wpList _ _ _ ({ dst := some 90, op := _, type := _, pos := _, after := _, guard := _ } :: _) _ _; refine wpList_mid_w (by rfl) 26 (.tmp 13) rfl g13 0 rfl R _ HR13F.out Try.underlying26 rfl HSR.out ?_; try simp only [Act.put, List.setIfInBounds_toArray, List.set_cons_zero, List.set_cons_succ])
            | fail)
          refine (SM2.out _ HBF.out).mono ?_
          rintro x wg ⟨rfl, hbg⟩
          have HBG := hidk (HBF.out.trans (hbg.mono HBF.out.size))
          clear hbg
          go_wp2
          go_ret
          exact ⟨rfl, HB6.out.trans (HBG.out.mono HB6.out.size)⟩
theorem claimsRecords_in (ad : Option Addr) (len cap : Nat) (l : List ClT) (c : ClT) (r e : Int) (w : World) (h : CReads w ad len cap l) (hn : ad = none → cap = 0) (_ : ∀ x ∈ l, InC x) (hx : InC c) (_ : In64 r) (_ : In64 e) :
    Calls Try.prog 3 #[.slice ad len cap, claimV c, .int .i64 r, .int .i64 e] w fun e w' => e = .returned (.bool true) ∧ Below w.heap.size w w' :=
  claimsRecords_x ad len cap l c r e _ (hidk rfl) w h hn hx.d
end Go.Proofs.Ytieklabpdalahaa

/- Addresses that came in, one and a slice of them. -/
namespace Go.Proofs.Ytieklabpdalahaa
open Go.RowKit Sums Nums Go.ChangeShapes
set_option linter.unusedVariables false
set_option linter.unusedSimpArgs false
set_option maxRecDepth 100000
variable {H : Type} {enc : TypeId × Value → H} {W : World} {base : Nat} {sp : Nat → Bool} {held : Bool} {fuel : Nat} {x : DataW H × List MemPlace}
theorem in64_wf {z : Int} (h : (Lit.int .i64 z).wf = true) : In64 z := by
  have e1 : IntKind.i64.min = -9223372036854775808 := rfl
  have e2 : IntKind.i64.max = 9223372036854775807 := rfl
  simp [Lit.wf, e1, e2] at h
  unfold In64
  omega
end Go.Proofs.Ytieklabpdalahaa
