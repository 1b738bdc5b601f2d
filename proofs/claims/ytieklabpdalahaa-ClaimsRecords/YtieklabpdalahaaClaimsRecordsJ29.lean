/- Texts of our own that the row of ClaimsRecords leans on, part 29. -/
import Derived.Test.YtieklabpdalahaaClaimsRecordsJ24
import Derived.Test.YtieklabpdalahaaClaimsRecordsJ25
import Derived.Test.YtieklabpdalahaaClaimsRecordsJ28
import Derived.Maps.OwnSet
import Derived.DeepKeys4

/- The program's Enough: who has recorded, as a map of addresses. -/
namespace Go.Proofs.Ytieklabpdalahaa
open Go.RowKit Nums Sums Go.Maps
set_option linter.unusedVariables false
set_option linter.unusedSimpArgs false
set_option maxRecDepth 100000
def InA (a : AdT) : Prop := In64 a.r ∧ In64 a.n
/-- What an address is as a key. -/
def kL (a : AdT) : Lit := .string (keyBytes [.int .i64 a.r, .int .i64 a.n])
/-- Block b is a map that has just these addresses. -/
def SetIs (w : World) (b : Nat) (l : List AdT) : Prop := ∃ (n : Nat) (D : DataW Unit), n ≤ l.length ∧ w.ownsMap Try.prog 40 (unitElem (H := Unit)) b n D ∧ ∀ a, InA a → Maps.has D (kL a) = memA a l
theorem SetIs.made (w : World) : SetIs (w.alloc (.map #[] 0)) w.heap.size [] :=
  ⟨0, _, Nat.le_refl _, World.ownsMap_made w Try.prog 40 unitElem, fun a _ => by simp [Maps.has, memA]⟩
theorem SetIs.keep {w w' : World} {b : Nat} {l : List AdT} (h : SetIs w b l) (hb : Below w.heap.size w w') : SetIs w' b l := by
  obtain ⟨n, D, h1, h2, h3⟩ := h
  exact ⟨n, D, h1, h2.kept (row := none) ⟨hb.os, hb.tape, hb.output, hb.size, fun j hj _ => hb.block j hj⟩ (by simp), h3⟩
theorem SetIs.lt {w : World} {b : Nat} {l : List AdT} (h : SetIs w b l) : b < w.heap.size := by
  obtain ⟨n, D, h1, h2, h3⟩ := h
  exact h2.lt
end Go.Proofs.Ytieklabpdalahaa

/- The program's Enough. -/
namespace Go.Proofs.Ytieklabpdalahaa
open Go.RowKit Nums Sums Go.Maps
set_option linter.unusedVariables false
set_option linter.unusedSimpArgs false
set_option maxRecDepth 100000

end Go.Proofs.Ytieklabpdalahaa

/- What the statements of chapter 12 ask first: rows of addresses. -/
namespace Go.Proofs.Ytieklabpdalahaa
open Go.RowKit Nums Sums Go.Maps
set_option linter.unusedVariables false
set_option linter.unusedSimpArgs false
set_option maxRecDepth 100000
theorem AReads.new (W : World) (l : List AdT) (n : Nat) (hn : l.length = n) (h1 : n ≤ 100) (L : Array Value) (HL : Hid (L = (adcL l).toArray)) : AReads (W.alloc (.cells L 40)) (some ⟨W.heap.size, 0, none⟩) n n l := by
  refine ⟨hn, Nat.le_refl _, by unfold maxLen; omega, fun _ _ => trivial, .inr ⟨_, _, rfl, fun i hi j v hj => ?_⟩⟩
  have := adcL_at l (fun _ _ => trivial) i hi j v hj
  rw [cell_of_row _ _ _ _ 40 (0, 0) (heap_alloc_new W _), HL.out, Nat.zero_add]
  simpa using this
end Go.Proofs.Ytieklabpdalahaa

/- What the statements of chapter 12 ask first: rows of claims. -/
namespace Go.Proofs.Ytieklabpdalahaa
open Go.RowKit Nums Sums Go.Maps
set_option linter.unusedVariables false
set_option linter.unusedSimpArgs false
set_option maxRecDepth 100000
theorem yieldsIf_buildC {P : Program} {ops : Array Oper} {S : World → Prop} {o : Oper} {a : Act} (hw : Region.wanted o (yielded ops a.tmps) = true) (t : TypeId) (parts : Array (Nat × Operand)) (ho : o.op = .build t parts) (vals : Array (Nat × Value)) (hv : (parts.toList.map fun p => (p.1, a.eval p.2)) = vals.toList)
    (cs : Array Value) (hb : P.built t vals.toList = some cs) : YieldsIf P ops S o (.agg cs) a :=
  .inl ⟨hw, fun w _ => by
    have hv' : (parts.map fun (i, x) => (i, a.eval x)) = vals := by
      apply Array.ext'
      rw [Array.toList_map, ← hv]
    subst hv'
    unfold execOp
    simp only [ho, Sem.run_bind, run_build w t _ cs hb, Result.andThen_ok]
    rfl⟩
def oneK : ClT := ⟨1, 2, 1, 0, List.replicate 32 0⟩
def twoK : ClT := ⟨1, 2, 2, 0, List.replicate 32 0⟩
theorem builtOneK : Try.prog.built 26 [(0, .int .i64 1), (1, .int .i64 2), (2, .int .i64 1)] = some (ccells oneK).toArray := by kernel_rfl
theorem set_two : (ccells oneK).toArray.setIfInBounds 2 (.int .i64 2) = (ccells twoK).toArray := by rw [List.setIfInBounds_toArray]; rfl
theorem k1 : recL [] oneK = [oneK] ∧ recE [] oneK = 0 := ⟨by kernel_rfl, by kernel_rfl⟩
theorem k2 : recL [oneK] oneK = [oneK] ∧ recE [oneK] oneK = 0 := ⟨by kernel_rfl, by kernel_rfl⟩
theorem k3 : recL [oneK] twoK = [] ∧ recE [oneK] twoK = 111 := ⟨by kernel_rfl, by kernel_rfl⟩
theorem k4 : foundC [oneK] 1 2 = oneK ∧ (findC [oneK] 1 2).isSome = true := ⟨by kernel_rfl, by kernel_rfl⟩
theorem k5 : foundC [oneK] 2 2 = zeroC ∧ (findC [oneK] 2 2).isSome = false := ⟨by kernel_rfl, by kernel_rfl⟩
theorem k6 : chkE [oneK] = 0 := by kernel_rfl
theorem k7 : chkE [zeroC] = 110 := by kernel_rfl
/-- What Record hands out, as a slice that reads. -/
theorem recOut {l : List ClT} {c : ClT} (ad : Option Addr) (len cap : Nat) (X : Array Value) (HX : Hid (X = (ccells c).toArray)) (hx : OkC c) (w : World) (h : CReads w ad len cap l) (hc0 : ad = none → cap = 0) (hlen : len ≤ 800000) (l2 : List ClT) (e2 : Int) (n2 : Nat) (h2 : recL l c = l2) (he : recE l c = e2) (hn : l2.length = n2) :
    Calls Try.prog 13 #[.slice ad len cap, .agg X] w fun x w' => ∃ a cp, x = .returned (.tuple #[.slice a n2 cp, .int .i64 e2]) ∧ CReads w' a n2 cp l2 ∧ (a = none → cp = 0) ∧ w'.ownsRow w.heap.size 26 36 (.slice a n2 cp) n2 (clcL l2) ∧ Below w.heap.size w w' := by
  refine (kRecord_any ad len cap l c X HX hx w h hc0 hlen).mono ?_
  rintro x w' ⟨v, rfl, ho, hb⟩
  have hok : ∀ y ∈ recL l c, OkC y := fun y hy => by
    by_cases hz : recE l c = 0
    · rcases (recL_mem hz y).1 hy with rfl | hy
      · exact hx
      · exact h.ok y hy
    · unfold recL at hy
      rw [if_neg hz] at hy
      cases hy
  obtain ⟨a, cp, hv, hr, hn', _⟩ := CReads.own ho hok
  subst hv
  rw [h2, hn] at ho hr ⊢
  rw [he]
  exact ⟨a, cp, rfl, hr, hn', ho, hb⟩
set_option maxHeartbeats 2000000 in
theorem oneClm_any (w : World) (X : Array Value) (HX : Hid (X = (ccells oneK).toArray)) : Calls Try.prog 32 #[] w fun e w' => e = .returned (.agg X) ∧ Below w.heap.size w w' := by
  obtain ⟨Z, HZ, HA, HBZ, H36⟩ := noughtsC
  have HBX : Hid (Try.prog.built 26 [(0, .int .i64 1), (1, .int .i64 2), (2, .int .i64 1)] = some X) := by show _ = _; rw [HX.out]; exact builtOneK
  have HSX : Hid ((Try.prog.info? 26).map (·.size) = some X.size) := by show _ = _; rw [sizeC, HX.out]; rfl
  have HZX : Hid (Z.size = X.size) := by show _ = _; rw [H36.out, HX.out]; rfl
  have H1X : Hid (X.all (·.oneCell') = true) := by show _ = _; rw [HX.out]; exact one_cellsC _
  go_enter Try.func32, Try.ntmps32
  go_wp2_with (first
    | (show wpList _ _ _ ({ dst := some 0, op := _, type := _, pos := _, after := _, guard := _ } :: _) _ _; refine wpList_new_var rfl 26 rfl Z HA.out ?_; intro g0 w1 HM; have HG := hidk HM.out.row; try simp only [Act.put, List.setIfInBounds_toArray, List.set_cons_zero, List.set_cons_succ])
    | (show wpList _ _ _ ({ dst := some 1, op := _, type := _, pos := _, after := _, guard := _ } :: _) _ _; refine wpList_build_someC rfl 26 _ rfl [(0, .int .i64 1), (1, .int .i64 2), (2, .int .i64 1)] rfl X HBX.out ?_; try simp only [Act.put, List.setIfInBounds_toArray, List.set_cons_zero, List.set_cons_succ])
    | (refine wpList_set_var rfl 26 (.tmp 0) (.tmp 1) rfl g0 X rfl rfl 26 Z HG.out HSX.out HZX.out H1X.out ?_; intro w2 HW; try simp only [Act.put, List.setIfInBounds_toArray, List.set_cons_zero, List.set_cons_succ])
    | fail)
  refine bodyPost_ret (v := .agg X) ?_ rfl ⟨rfl, HW.out.below w.heap.size w HM.out.below (by rw [HM.out.new]; exact Nat.le_refl _)⟩
  exact results_cell_row (p := 0) (ty := 26) rfl _ _ g0 26 X (0, 0) _ rfl HW.out.row Try.underlying26 rfl HSX.out
set_option maxHeartbeats 16000000 in
/-- The document's rows of claims come out. -/
theorem records_true (w : World) : Calls Try.prog 16 #[] w fun e w' => e = .returned (.bool true) ∧ Below w.heap.size w w' := by
  obtain ⟨Z, HZ, HA, HBZ, H36⟩ := noughtsC
  obtain ⟨O, HO⟩ : ∃ X, Hid (X = (ccells oneK).toArray) := ⟨_, hidk rfl⟩
  obtain ⟨O2, HO2⟩ : ∃ X, Hid (X = (ccells twoK).toArray) := ⟨_, hidk rfl⟩
  have HSO : Hid ((Try.prog.info? 26).map (·.size) = some O.size) := by show _ = _; rw [sizeC, HO.out]; rfl
  have HSO2 : Hid ((Try.prog.info? 26).map (·.size) = some O2.size) := by show _ = _; rw [sizeC, HO2.out]; rfl
  have HSZ : Hid ((Try.prog.info? 26).map (·.size) = some Z.size) := by show _ = _; rw [sizeC, HZ.out]; rfl
  have HZO : Hid (Z.size = O.size) := by show _ = _; rw [H36.out, HO.out]; rfl
  have H1O : Hid (O.all (·.oneCell') = true) := by show _ = _; rw [HO.out]; exact one_cellsC _
  have H1Z : Hid (Z.all (·.oneCell') = true) := by show _ = _; rw [HZ.out]; exact one_cellsC _
  have HST : Hid (O.setIfInBounds 2 (.int .i64 2) = O2) := by show _ = _; rw [HO.out, HO2.out]; exact set_two
  have H36O : Hid (O.size = 36) := by show _ = _; rw [HO.out]; rfl
  have ONE : Hid (∀ W, Calls Try.prog 32 #[] W fun e w' => e = .returned (.agg O) ∧ Below W.heap.size W w') := fun W => oneClm_any W O HO
  have eqO := fun W => eqClaim oneK oneK rfl rfl O O HO HO true (by simp) W
  go_enter Try.func16, Try.ntmps16
  go_wp2_with fail
  refine (ONE.out _).mono ?_
  rintro e w1 ⟨rfl, hb1⟩
  have HB1 := hidk hb1
  clear hb1
  go_wp2_with (first
    | (show wpList _ _ _ ({ dst := some 1, op := _, type := _, pos := _, after := _, guard := _ } :: _) _ _; refine wpList_new_var rfl 26 rfl Z HA.out ?_; intro g1 w2 HM; have HG := hidk HM.out.row; try simp only [Act.put, List.setIfInBounds_toArray, List.set_cons_zero, List.set_cons_succ])
    | (show wpList _ _ _ ({ dst := none, op := Op.store 26 _ _, type := _, pos := _, after := _, guard := _ } :: _) _ _; refine wpList_set_var rfl 26 (.tmp 1) (.tmp 12) rfl g1 O rfl rfl 26 Z HG.out HSO.out HZO.out H1O.out ?_; intro w3 HW; have hc3 : ∃ v, w3.cell? ⟨g1, 2, none⟩ = some v := ⟨_, (cell_of_row _ _ 2 _ _ (0, 0) HW.out.row).trans (Array.getElem?_eq_getElem (by rw [H36O.out]; omega))⟩; obtain ⟨ov, hc3⟩ := hc3; have hf3 := frozen_of_row w3 g1 2 O _ HW.out.row; try simp only [Act.put, List.setIfInBounds_toArray, List.set_cons_zero, List.set_cons_succ])
    | fail)
  have hg1 : w1.heap.size ≤ g1 := by rw [HM.out.new]; exact Nat.le_refl _
  have HBS : Hid (Below w.heap.size w (w3.setCell ⟨g1, 2, none⟩ (.int .i64 2))) := (HW.out.below _ _ (HB1.out.trans (HM.out.below.mono HB1.out.size)) (Nat.le_trans HB1.out.size hg1)).setCell (Nat.le_trans HB1.out.size hg1) _
  have HRS : Hid ((w3.setCell ⟨g1, 2, none⟩ (.int .i64 2)).rangeAt g1 0 O2.toList) := by
    refine range_row (t := 26) (fr := (0, 0)) ?_
    rw [Array.toArray_toList, ← HST.out]
    exact Go.heap_setCell_same w3 g1 2 O _ (.int .i64 2) HW.out.row
  obtain ⟨w4, hw4⟩ : ∃ W, w3.setCell ⟨g1, 2, none⟩ (.int .i64 2) = W := ⟨_, rfl⟩
  rw [hw4] at HBS HRS ⊢
  clear hw4 hc3 hf3 HM HG HW hg1 HST
  refine (ONE.out _).mono ?_
  rintro e w5 ⟨rfl, hb5⟩
  have HB5 := hidk (HBS.out.trans (hb5.mono HBS.out.size))
  have HR5 := hidk (range_keep hb5 HRS.out)
  clear hb5 HRS HBS
  go_wp2_with fail
  refine (recOut none 0 0 O HO rfl w5 (clreads_none _) (fun _ => rfl) (by omega) [oneK] 0 1 k1.1 k1.2 rfl).mono ?_
  rintro e w6 ⟨a2, c2, rfl, hr6, hn6, _, hb6⟩
  have HB6 := hidk (HB5.out.trans (hb6.mono HB5.out.size))
  have HR6 := hidk (range_keep hb6 HR5.out)
  have HL6 := hidk hr6
  obtain ⟨g2, o2, hga, _⟩ := hr6.at (by omega)
  subst hga
  clear hb6 HR5 hr6 hn6
  go_wp2_with fail
  refine (ONE.out _).mono ?_
  rintro e w7 ⟨rfl, hb7⟩
  have HB7 := hidk (HB6.out.trans (hb7.mono HB6.out.size))
  have HR7 := hidk (range_keep hb7 HR6.out)
  have HL7 := hidk (HL6.out.keep hb7)
  clear hb7 HR6 HL6
  go_wp2_with fail
  refine (recOut _ 1 c2 O HO rfl w7 HL7.out (fun e => by cases e) (by omega) [oneK] 0 1 k2.1 k2.2 rfl).mono ?_
  rintro e w8 ⟨a4, c4, rfl, hr8, hn8, _, hb8⟩
  have HB8 := hidk (HB7.out.trans (hb8.mono HB7.out.size))
  have HR8 := hidk (range_keep hb8 HR7.out)
  have HL8 := hidk (HL7.out.keep hb8)
  clear hb8 HR7 HL7 hr8 hn8
  go_wp2_with (first
    | (show wpList _ _ _ ({ dst := some 27, op := _, type := _, pos := _, after := _, guard := _ } :: _) _ _; refine wpList_mid_w (by rfl) 26 (.tmp 1) rfl g1 0 rfl O2 _ HR8.out Try.underlying26 rfl HSO2.out ?_; try simp only [Act.put, List.setIfInBounds_toArray, List.set_cons_zero, List.set_cons_succ])
    | fail)
  refine (recOut _ 1 c2 O2 HO2 rfl w8 HL8.out (fun e => by cases e) (by omega) [] 111 0 k3.1 k3.2 rfl).mono ?_
  rintro e wa ⟨a6, c6, rfl, _, _, _, hba⟩
  have HBa := hidk (HB8.out.trans (hba.mono HB8.out.size))
  have HLa := hidk (HL8.out.keep hba)
  clear hba HR8 HL8
  go_wp2_with fail
  have FI1 := hidk (kFind_any (some ⟨g2, o2, none⟩) 1 c2 [oneK] 1 2 wa HLa.out (by omega) O (by show _ = _; rw [k4.1]; exact HO.out))
  rw [k4.2] at FI1
  refine FI1.out.mono ?_
  rintro e wb ⟨rfl, hbb⟩
  have HBb := hidk (HBa.out.trans (hbb.mono HBa.out.size))
  have HLb := hidk (HLa.out.keep hbb)
  clear hbb HLa FI1
  go_wp2_with (first
    | (show wpList _ _ _ ({ dst := some 8, op := _, type := _, pos := _, after := _, guard := _ } :: _) _ _; refine wpList_new_var rfl 26 rfl Z HA.out ?_; intro g8 wbb HM8; have HG8 := hidk HM8.out.row; try simp only [Act.put, List.setIfInBounds_toArray, List.set_cons_zero, List.set_cons_succ])
    | (show wpList _ _ _ ({ dst := none, op := Op.store 26 _ _, type := _, pos := _, after := _, guard := _ } :: _) _ _; refine wpList_set_var rfl 26 (.tmp 8) (.tmp 34) rfl g8 O rfl rfl 26 Z HG8.out HSO.out HZO.out H1O.out ?_; intro wc HW8; try simp only [Act.put, List.setIfInBounds_toArray, List.set_cons_zero, List.set_cons_succ])
    | fail)
  have hbc : Below wb.heap.size wb wc := HW8.out.below _ _ HM8.out.below (by rw [HM8.out.new]; exact Nat.le_refl _)
  have HBc := hidk (HBb.out.trans (hbc.mono HBb.out.size))
  have HLc := hidk (HLb.out.keep hbc)
  have HRc : Hid (wc.rangeAt g8 0 O.toList) := range_row (t := 26) (fr := (0, 0)) (by rw [Array.toArray_toList]; exact HW8.out.row)
  clear hbc HM8 HG8 HW8 HLb
  have FI2 := hidk (kFind_any (some ⟨g2, o2, none⟩) 1 c2 [oneK] 2 2 wc HLc.out (by omega) Z (by show _ = _; rw [k5.1]; exact HZ.out))
  rw [k5.2] at FI2
  refine FI2.out.mono ?_
  rintro e wd ⟨rfl, hbd⟩
  have HBd := hidk (HBc.out.trans (hbd.mono HBc.out.size))
  have HLd := hidk (HLc.out.keep hbd)
  have HRd := hidk (range_keep hbd HRc.out)
  clear hbd HLc HRc FI2
  go_wp2_with (first
    | (show wpList _ _ _ ({ dst := some 10, op := _, type := _, pos := _, after := _, guard := _ } :: _) _ _; refine wpList_new_var rfl 26 rfl Z HA.out ?_; intro g10 wdd HM10; have HG10 := hidk HM10.out.row; try simp only [Act.put, List.setIfInBounds_toArray, List.set_cons_zero, List.set_cons_succ])
    | (show wpList _ _ _ ({ dst := none, op := Op.store 26 _ _, type := _, pos := _, after := _, guard := _ } :: _) _ _; refine wpList_set_var rfl 26 (.tmp 10) (.tmp 39) rfl g10 Z rfl rfl 26 Z HG10.out HSZ.out rfl H1Z.out ?_; intro w9 HW10; try simp only [Act.put, List.setIfInBounds_toArray, List.set_cons_zero, List.set_cons_succ])
    | fail)
  have hbe : Below wd.heap.size wd w9 := HW10.out.below _ _ HM10.out.below (by rw [HM10.out.new]; exact Nat.le_refl _)
  have HB9 := hidk (HBd.out.trans (hbe.mono HBd.out.size))
  have HL9 := hidk (HLd.out.keep hbe)
  have HR8 := hidk (range_keep hbe HRd.out)
  clear hbe HM10 HG10 HW10 HLd HRd
  have HRO : Hid (∀ W, Below w9.heap.size w9 W → W.rangeAt g2 o2 O.toList) := fun W hW => by rw [HO.out]; exact (HL9.out.keep hW).range 0 (by decide)
  have ix0 : ∀ W : World, (Instr.indexAt 22 (.slice (some ⟨g2, o2, none⟩) 1 c2) (.int .i64 0)).run Try.prog W = .ok (.pointer (some ⟨g2, o2, none⟩)) W := fun W => index_cl W g2 o2 1 c2 0 .i64 (by omega)
  have CH1 : Hid (∀ W, Below w9.heap.size w9 W → Calls Try.prog 10 #[.slice (some ⟨g2, o2, none⟩) 1 c2] W fun e w' => e = .returned (.int .i64 0) ∧ Below W.heap.size W w') := fun W hW => by
    have := kCheck_any (some ⟨g2, o2, none⟩) 1 c2 [oneK] W (HL9.out.keep hW) (by omega)
    rwa [k6] at this
  have CH2 : Hid (∀ (W : World) (a : Option Addr), CReads W a 1 1 [zeroC] → Calls Try.prog 10 #[.slice a 1 1] W fun e w' => e = .returned (.int .i64 110) ∧ Below W.heap.size W w') := fun W a hR => by
    have := kCheck_any a 1 1 [zeroC] W hR (by omega)
    rwa [k7] at this
  refine wp_region_held_drew (S := (fun W => Below w9.heap.size w9 W)) (by kernel_rfl) (Below.refl _ _).drew (fun hHeld => ?_)
  refine wpAnyH_take (i := 0) (oi := { dst := some 41, op := Op.move (Operand.tmp 3), type := 28, pos := "law.go:26", after := #[], guard := none }) (v := .int .i64 0) rfl (by kernel_rfl) (by kernel_rfl) (by kernel_rfl) (fun _ _ _ h => h) (Or.inl ⟨by rfl, by intro w hSw; go_simp⟩) hHeld ?_
  try simp only [Act.put, List.setIfInBounds_toArray, List.set_cons_zero, List.set_cons_succ]
  refine wpAnyH_take (i := 1) (oi := { dst := some 42, op := Op.binOp BinOp.eql 28 (Operand.tmp 41) (Operand.const (Value.int IntKind.i64 0)) 28, type := 4, pos := "law.go:26", after := #[{ on := 0, ground := Ground.data }], guard := none }) (v := .bool true) rfl (by kernel_rfl) (by kernel_rfl) (by kernel_rfl) (fun _ _ _ h => h) (Or.inl ⟨by rfl, by intro w hSw; go_simp⟩) hHeld ?_
  try simp only [Act.put, List.setIfInBounds_toArray, List.set_cons_zero, List.set_cons_succ]
  refine wpAnyH_take (i := 2) (oi := { dst := some 43, op := Op.move (Operand.tmp 42), type := 4, pos := "law.go:26", after := #[{ on := 1, ground := Ground.data }], guard := none }) (v := .bool true) rfl (by kernel_rfl) (by kernel_rfl) (by kernel_rfl) (fun _ _ _ h => h) (Or.inl ⟨by rfl, by intro w hSw; go_simp⟩) hHeld ?_
  try simp only [Act.put, List.setIfInBounds_toArray, List.set_cons_zero, List.set_cons_succ]
  refine wpAnyH_take (i := 3) (oi := { dst := some 44, op := Op.move (Operand.tmp 2), type := 22, pos := "law.go:26", after := #[{ on := 2, ground := Ground.guard }], guard := some (2, true) }) (v := .slice (some ⟨g2, o2, none⟩) 1 c2) rfl (by kernel_rfl) (by kernel_rfl) (by kernel_rfl) (fun _ _ _ h => h) (Or.inl ⟨by rfl, by intro w hSw; go_simp⟩) hHeld ?_
  try simp only [Act.put, List.setIfInBounds_toArray, List.set_cons_zero, List.set_cons_succ]
  refine wpAnyH_take (i := 4) (oi := { dst := some 45, op := Op.call { callee := Callee.builtin Builtin.len, args := #[Operand.tmp 44], argTypes := #[22] }, type := 3, pos := "law.go:26", after := #[{ on := 3, ground := Ground.data }, { on := 2, ground := Ground.guard }], guard := some (2, true) }) (v := .int .i64 1) rfl (by kernel_rfl) (by kernel_rfl) (by kernel_rfl) (fun _ _ _ h => h) (Or.inl ⟨by rfl, by intro w hSw; go_simp⟩) hHeld ?_
  try simp only [Act.put, List.setIfInBounds_toArray, List.set_cons_zero, List.set_cons_succ]
  refine wpAnyH_take (i := 5) (oi := { dst := some 46, op := Op.binOp BinOp.eql 3 (Operand.tmp 45) (Operand.const (Value.int IntKind.i64 1)) 3, type := 4, pos := "law.go:26", after := #[{ on := 4, ground := Ground.data }, { on := 2, ground := Ground.guard }], guard := some (2, true) }) (v := .bool true) rfl (by kernel_rfl) (by kernel_rfl) (by kernel_rfl) (fun _ _ _ h => h) (Or.inl ⟨by rfl, by intro w hSw; go_simp⟩) hHeld ?_
  try simp only [Act.put, List.setIfInBounds_toArray, List.set_cons_zero, List.set_cons_succ]
  refine wpAnyH_take (i := 6) (oi := { dst := some 47, op := Op.pick (Operand.tmp 43) (Operand.tmp 46) (Operand.const (Value.bool false)), type := 4, pos := "law.go:26", after := #[{ on := 2, ground := Ground.data }, { on := 5, ground := Ground.data }], guard := none }) (v := .bool true) rfl (by kernel_rfl) (by kernel_rfl) (by kernel_rfl) (fun _ _ _ h => h) (Or.inl ⟨by rfl, by intro w hSw; go_simp⟩) hHeld ?_
  try simp only [Act.put, List.setIfInBounds_toArray, List.set_cons_zero, List.set_cons_succ]
  refine wpAnyH_take (i := 7) (oi := { dst := some 48, op := Op.move (Operand.tmp 47), type := 4, pos := "law.go:26", after := #[{ on := 6, ground := Ground.data }, { on := 2, ground := Ground.chain }], guard := none }) (v := .bool true) rfl (by kernel_rfl) (by kernel_rfl) (by kernel_rfl) (fun _ _ _ h => h) (Or.inl ⟨by rfl, by intro w hSw; go_simp⟩) hHeld ?_
  try simp only [Act.put, List.setIfInBounds_toArray, List.set_cons_zero, List.set_cons_succ]
  refine wpAnyH_take (i := 8) (oi := { dst := some 49, op := Op.move (Operand.tmp 2), type := 22, pos := "law.go:26", after := #[{ on := 7, ground := Ground.guard }], guard := some (7, true) }) (v := .slice (some ⟨g2, o2, none⟩) 1 c2) rfl (by kernel_rfl) (by kernel_rfl) (by kernel_rfl) (fun _ _ _ h => h) (Or.inl ⟨by rfl, by intro w hSw; go_simp⟩) hHeld ?_
  try simp only [Act.put, List.setIfInBounds_toArray, List.set_cons_zero, List.set_cons_succ]
  refine wpAnyH_take (i := 9) (oi := { dst := some 50, op := Op.indexAddr 22 (Operand.tmp 49) (Operand.const (Value.int IntKind.i64 0)), type := 0, pos := "law.go:26", after := #[{ on := 8, ground := Ground.data }, { on := 7, ground := Ground.guard }], guard := some (7, true) }) (v := .pointer (some ⟨g2, o2, none⟩)) rfl (by kernel_rfl) (by kernel_rfl) (by kernel_rfl) (fun _ _ _ h => h) (Or.inl ⟨by rfl, by intro W hSw; have := ix0 W; go_simp⟩) hHeld ?_
  try simp only [Act.put, List.setIfInBounds_toArray, List.set_cons_zero, List.set_cons_succ]
  refine wpAnyH_take (i := 10) (oi := { dst := some 51, op := Op.load 26 (Operand.tmp 50), type := 26, pos := "law.go:26", after := #[{ on := 9, ground := Ground.data }, { on := 7, ground := Ground.guard }], guard := some (7, true) }) (v := .agg O) rfl (by kernel_rfl) (by kernel_rfl) (by kernel_rfl) (fun _ _ _ h => h) (yieldsIf_mid (by rfl) 26 (.tmp 50) rfl g2 o2 rfl O _ (fun _ h => HRO.out _ h) Try.underlying26 rfl HSO.out) hHeld ?_
  try simp only [Act.put, List.setIfInBounds_toArray, List.set_cons_zero, List.set_cons_succ]
  refine wpAnyH_ready (rs := [11]) (by kernel_rfl) (by simp) ?_
  refine AllReadyH.cons (o := { dst := some 52, op := Op.call { callee := Callee.value (Operand.func 32), args := #[], argTypes := #[] }, type := 26, pos := "law.go:26", after := #[{ on := 7, ground := Ground.chain }, { on := 7, ground := Ground.guard }], guard := some (7, true) }) rfl (fun K hK => ?_) AllReadyH.nil
  go_simp
  refine (ONE.out _).mono ?_
  rintro e w11 ⟨rfl, hb11⟩
  go_wp2_with fail
  refine hK.out _ _ (hHeld.trans (hb11.mono hHeld.size)) (fun hHeld => ?_)
  clear hK K
  try simp only [Act.put, List.setIfInBounds_toArray, List.set_cons_zero, List.set_cons_succ]
  refine wpAnyH_take (i := 12) (oi := { dst := some 53, op := Op.binOp BinOp.eql 26 (Operand.tmp 51) (Operand.tmp 52) 26, type := 4, pos := "law.go:26", after := #[{ on := 10, ground := Ground.data }, { on := 11, ground := Ground.data }, { on := 7, ground := Ground.guard }], guard := some (7, true) }) (v := .bool true) rfl (by kernel_rfl) (by kernel_rfl) (by kernel_rfl) (fun _ _ _ h => h) (Or.inl ⟨by rfl, by intro W hSw; have := eqO W; go_simp⟩) hHeld ?_
  try simp only [Act.put, List.setIfInBounds_toArray, List.set_cons_zero, List.set_cons_succ]
  refine wpAnyH_take (i := 13) (oi := { dst := some 54, op := Op.pick (Operand.tmp 48) (Operand.tmp 53) (Operand.const (Value.bool false)), type := 4, pos := "law.go:26", after := #[{ on := 7, ground := Ground.data }, { on := 12, ground := Ground.data }], guard := none }) (v := .bool true) rfl (by kernel_rfl) (by kernel_rfl) (by kernel_rfl) (fun _ _ _ h => h) (Or.inl ⟨by rfl, by intro w hSw; go_simp⟩) hHeld ?_
  try simp only [Act.put, List.setIfInBounds_toArray, List.set_cons_zero, List.set_cons_succ]
  refine wpAnyH_take (i := 14) (oi := { dst := some 55, op := Op.move (Operand.tmp 54), type := 4, pos := "law.go:26", after := #[{ on := 13, ground := Ground.data }, { on := 11, ground := Ground.chain }], guard := none }) (v := .bool true) rfl (by kernel_rfl) (by kernel_rfl) (by kernel_rfl) (fun _ _ _ h => h) (Or.inl ⟨by rfl, by intro w hSw; go_simp⟩) hHeld ?_
  try simp only [Act.put, List.setIfInBounds_toArray, List.set_cons_zero, List.set_cons_succ]
  refine wpAnyH_take (i := 15) (oi := { dst := some 56, op := Op.move (Operand.tmp 5), type := 28, pos := "law.go:26", after := #[{ on := 14, ground := Ground.guard }], guard := some (14, true) }) (v := .int .i64 0) rfl (by kernel_rfl) (by kernel_rfl) (by kernel_rfl) (fun _ _ _ h => h) (Or.inl ⟨by rfl, by intro w hSw; go_simp⟩) hHeld ?_
  try simp only [Act.put, List.setIfInBounds_toArray, List.set_cons_zero, List.set_cons_succ]
  refine wpAnyH_take (i := 16) (oi := { dst := some 57, op := Op.binOp BinOp.eql 28 (Operand.tmp 56) (Operand.const (Value.int IntKind.i64 0)) 28, type := 4, pos := "law.go:26", after := #[{ on := 15, ground := Ground.data }, { on := 14, ground := Ground.guard }], guard := some (14, true) }) (v := .bool true) rfl (by kernel_rfl) (by kernel_rfl) (by kernel_rfl) (fun _ _ _ h => h) (Or.inl ⟨by rfl, by intro w hSw; go_simp⟩) hHeld ?_
  try simp only [Act.put, List.setIfInBounds_toArray, List.set_cons_zero, List.set_cons_succ]
  refine wpAnyH_take (i := 17) (oi := { dst := some 58, op := Op.pick (Operand.tmp 55) (Operand.tmp 57) (Operand.const (Value.bool false)), type := 4, pos := "law.go:26", after := #[{ on := 14, ground := Ground.data }, { on := 16, ground := Ground.data }], guard := none }) (v := .bool true) rfl (by kernel_rfl) (by kernel_rfl) (by kernel_rfl) (fun _ _ _ h => h) (Or.inl ⟨by rfl, by intro w hSw; go_simp⟩) hHeld ?_
  try simp only [Act.put, List.setIfInBounds_toArray, List.set_cons_zero, List.set_cons_succ]
  refine wpAnyH_take (i := 18) (oi := { dst := some 59, op := Op.move (Operand.tmp 58), type := 4, pos := "law.go:26", after := #[{ on := 17, ground := Ground.data }, { on := 14, ground := Ground.chain }], guard := none }) (v := .bool true) rfl (by kernel_rfl) (by kernel_rfl) (by kernel_rfl) (fun _ _ _ h => h) (Or.inl ⟨by rfl, by intro w hSw; go_simp⟩) hHeld ?_
  try simp only [Act.put, List.setIfInBounds_toArray, List.set_cons_zero, List.set_cons_succ]
  refine wpAnyH_take (i := 19) (oi := { dst := some 60, op := Op.move (Operand.tmp 4), type := 22, pos := "law.go:26", after := #[{ on := 18, ground := Ground.guard }], guard := some (18, true) }) (v := .slice a4 1 c4) rfl (by kernel_rfl) (by kernel_rfl) (by kernel_rfl) (fun _ _ _ h => h) (Or.inl ⟨by rfl, by intro w hSw; go_simp⟩) hHeld ?_
  try simp only [Act.put, List.setIfInBounds_toArray, List.set_cons_zero, List.set_cons_succ]
  refine wpAnyH_take (i := 20) (oi := { dst := some 61, op := Op.call { callee := Callee.builtin Builtin.len, args := #[Operand.tmp 60], argTypes := #[22] }, type := 3, pos := "law.go:26", after := #[{ on := 19, ground := Ground.data }, { on := 18, ground := Ground.guard }], guard := some (18, true) }) (v := .int .i64 1) rfl (by kernel_rfl) (by kernel_rfl) (by kernel_rfl) (fun _ _ _ h => h) (Or.inl ⟨by rfl, by intro w hSw; go_simp⟩) hHeld ?_
  try simp only [Act.put, List.setIfInBounds_toArray, List.set_cons_zero, List.set_cons_succ]
  refine wpAnyH_take (i := 21) (oi := { dst := some 62, op := Op.binOp BinOp.eql 3 (Operand.tmp 61) (Operand.const (Value.int IntKind.i64 1)) 3, type := 4, pos := "law.go:26", after := #[{ on := 20, ground := Ground.data }, { on := 18, ground := Ground.guard }], guard := some (18, true) }) (v := .bool true) rfl (by kernel_rfl) (by kernel_rfl) (by kernel_rfl) (fun _ _ _ h => h) (Or.inl ⟨by rfl, by intro w hSw; go_simp⟩) hHeld ?_
  try simp only [Act.put, List.setIfInBounds_toArray, List.set_cons_zero, List.set_cons_succ]
  refine wpAnyH_take (i := 22) (oi := { dst := some 63, op := Op.pick (Operand.tmp 59) (Operand.tmp 62) (Operand.const (Value.bool false)), type := 4, pos := "law.go:26", after := #[{ on := 18, ground := Ground.data }, { on := 21, ground := Ground.data }], guard := none }) (v := .bool true) rfl (by kernel_rfl) (by kernel_rfl) (by kernel_rfl) (fun _ _ _ h => h) (Or.inl ⟨by rfl, by intro w hSw; go_simp⟩) hHeld ?_
  try simp only [Act.put, List.setIfInBounds_toArray, List.set_cons_zero, List.set_cons_succ]
  refine wpAnyH_take (i := 23) (oi := { dst := some 64, op := Op.move (Operand.tmp 63), type := 4, pos := "law.go:26", after := #[{ on := 22, ground := Ground.data }, { on := 18, ground := Ground.chain }], guard := none }) (v := .bool true) rfl (by kernel_rfl) (by kernel_rfl) (by kernel_rfl) (fun _ _ _ h => h) (Or.inl ⟨by rfl, by intro w hSw; go_simp⟩) hHeld ?_
  try simp only [Act.put, List.setIfInBounds_toArray, List.set_cons_zero, List.set_cons_succ]
  refine wpAnyH_take (i := 24) (oi := { dst := some 65, op := Op.move (Operand.tmp 7), type := 28, pos := "law.go:26", after := #[{ on := 23, ground := Ground.guard }], guard := some (23, true) }) (v := .int .i64 111) rfl (by kernel_rfl) (by kernel_rfl) (by kernel_rfl) (fun _ _ _ h => h) (Or.inl ⟨by rfl, by intro w hSw; go_simp⟩) hHeld ?_
  try simp only [Act.put, List.setIfInBounds_toArray, List.set_cons_zero, List.set_cons_succ]
  refine wpAnyH_take (i := 25) (oi := { dst := some 66, op := Op.binOp BinOp.eql 28 (Operand.tmp 65) (Operand.const (Value.int IntKind.i64 111)) 28, type := 4, pos := "law.go:26", after := #[{ on := 24, ground := Ground.data }, { on := 23, ground := Ground.guard }], guard := some (23, true) }) (v := .bool true) rfl (by kernel_rfl) (by kernel_rfl) (by kernel_rfl) (fun _ _ _ h => h) (Or.inl ⟨by rfl, by intro w hSw; go_simp⟩) hHeld ?_
  try simp only [Act.put, List.setIfInBounds_toArray, List.set_cons_zero, List.set_cons_succ]
  refine wpAnyH_take (i := 26) (oi := { dst := some 67, op := Op.pick (Operand.tmp 64) (Operand.tmp 66) (Operand.const (Value.bool false)), type := 4, pos := "law.go:26", after := #[{ on := 23, ground := Ground.data }, { on := 25, ground := Ground.data }], guard := none }) (v := .bool true) rfl (by kernel_rfl) (by kernel_rfl) (by kernel_rfl) (fun _ _ _ h => h) (Or.inl ⟨by rfl, by intro w hSw; go_simp⟩) hHeld ?_
  try simp only [Act.put, List.setIfInBounds_toArray, List.set_cons_zero, List.set_cons_succ]
  refine wpAnyH_take (i := 27) (oi := { dst := some 68, op := Op.move (Operand.tmp 67), type := 4, pos := "law.go:26", after := #[{ on := 26, ground := Ground.data }, { on := 23, ground := Ground.chain }], guard := none }) (v := .bool true) rfl (by kernel_rfl) (by kernel_rfl) (by kernel_rfl) (fun _ _ _ h => h) (Or.inl ⟨by rfl, by intro w hSw; go_simp⟩) hHeld ?_
  try simp only [Act.put, List.setIfInBounds_toArray, List.set_cons_zero, List.set_cons_succ]
  refine wpAnyH_take (i := 28) (oi := { dst := some 69, op := Op.move (Operand.tmp 9), type := 4, pos := "law.go:26", after := #[{ on := 27, ground := Ground.guard }], guard := some (27, true) }) (v := .bool true) rfl (by kernel_rfl) (by kernel_rfl) (by kernel_rfl) (fun _ _ _ h => h) (Or.inl ⟨by rfl, by intro w hSw; go_simp⟩) hHeld ?_
  try simp only [Act.put, List.setIfInBounds_toArray, List.set_cons_zero, List.set_cons_succ]
  refine wpAnyH_take (i := 29) (oi := { dst := some 70, op := Op.pick (Operand.tmp 68) (Operand.tmp 69) (Operand.const (Value.bool false)), type := 4, pos := "law.go:26", after := #[{ on := 27, ground := Ground.data }, { on := 28, ground := Ground.data }], guard := none }) (v := .bool true) rfl (by kernel_rfl) (by kernel_rfl) (by kernel_rfl) (fun _ _ _ h => h) (Or.inl ⟨by rfl, by intro w hSw; go_simp⟩) hHeld ?_
  try simp only [Act.put, List.setIfInBounds_toArray, List.set_cons_zero, List.set_cons_succ]
  refine wpAnyH_take (i := 30) (oi := { dst := some 71, op := Op.move (Operand.tmp 70), type := 4, pos := "law.go:26", after := #[{ on := 29, ground := Ground.data }, { on := 27, ground := Ground.chain }], guard := none }) (v := .bool true) rfl (by kernel_rfl) (by kernel_rfl) (by kernel_rfl) (fun _ _ _ h => h) (Or.inl ⟨by rfl, by intro w hSw; go_simp⟩) hHeld ?_
  try simp only [Act.put, List.setIfInBounds_toArray, List.set_cons_zero, List.set_cons_succ]
  refine wpAnyH_take (i := 31) (oi := { dst := some 72, op := Op.load 26 (Operand.tmp 8), type := 26, pos := "law.go:26", after := #[{ on := 30, ground := Ground.guard }], guard := some (30, true) }) (v := .agg O) rfl (by kernel_rfl) (by kernel_rfl) (by kernel_rfl) (fun _ _ _ h => h) (yieldsIf_mid (by rfl) 26 (.tmp 8) rfl g8 0 rfl O _ (fun _ h => range_keep h HR8.out) Try.underlying26 rfl HSO.out) hHeld ?_
  try simp only [Act.put, List.setIfInBounds_toArray, List.set_cons_zero, List.set_cons_succ]
  refine wpAnyH_ready (rs := [32]) (by kernel_rfl) (by simp) ?_
  refine AllReadyH.cons (o := { dst := some 73, op := Op.call { callee := Callee.value (Operand.func 32), args := #[], argTypes := #[] }, type := 26, pos := "law.go:26", after := #[{ on := 30, ground := Ground.chain }, { on := 30, ground := Ground.guard }], guard := some (30, true) }) rfl (fun K hK => ?_) AllReadyH.nil
  go_simp
  refine (ONE.out _).mono ?_
  rintro e w32 ⟨rfl, hb32⟩
  go_wp2_with fail
  refine hK.out _ _ (hHeld.trans (hb32.mono hHeld.size)) (fun hHeld => ?_)
  clear hK K
  try simp only [Act.put, List.setIfInBounds_toArray, List.set_cons_zero, List.set_cons_succ]
  refine wpAnyH_take (i := 33) (oi := { dst := some 74, op := Op.binOp BinOp.eql 26 (Operand.tmp 72) (Operand.tmp 73) 26, type := 4, pos := "law.go:26", after := #[{ on := 31, ground := Ground.data }, { on := 32, ground := Ground.data }, { on := 30, ground := Ground.guard }], guard := some (30, true) }) (v := .bool true) rfl (by kernel_rfl) (by kernel_rfl) (by kernel_rfl) (fun _ _ _ h => h) (Or.inl ⟨by rfl, by intro W hSw; have := eqO W; go_simp⟩) hHeld ?_
  try simp only [Act.put, List.setIfInBounds_toArray, List.set_cons_zero, List.set_cons_succ]
  refine wpAnyH_take (i := 34) (oi := { dst := some 75, op := Op.pick (Operand.tmp 71) (Operand.tmp 74) (Operand.const (Value.bool false)), type := 4, pos := "law.go:26", after := #[{ on := 30, ground := Ground.data }, { on := 33, ground := Ground.data }], guard := none }) (v := .bool true) rfl (by kernel_rfl) (by kernel_rfl) (by kernel_rfl) (fun _ _ _ h => h) (Or.inl ⟨by rfl, by intro w hSw; go_simp⟩) hHeld ?_
  try simp only [Act.put, List.setIfInBounds_toArray, List.set_cons_zero, List.set_cons_succ]
  refine wpAnyH_take (i := 35) (oi := { dst := some 76, op := Op.move (Operand.tmp 75), type := 4, pos := "law.go:26", after := #[{ on := 34, ground := Ground.data }, { on := 32, ground := Ground.chain }], guard := none }) (v := .bool true) rfl (by kernel_rfl) (by kernel_rfl) (by kernel_rfl) (fun _ _ _ h => h) (Or.inl ⟨by rfl, by intro w hSw; go_simp⟩) hHeld ?_
  try simp only [Act.put, List.setIfInBounds_toArray, List.set_cons_zero, List.set_cons_succ]
  refine wpAnyH_take (i := 36) (oi := { dst := some 77, op := Op.move (Operand.tmp 11), type := 4, pos := "law.go:26", after := #[{ on := 35, ground := Ground.guard }], guard := some (35, true) }) (v := .bool false) rfl (by kernel_rfl) (by kernel_rfl) (by kernel_rfl) (fun _ _ _ h => h) (Or.inl ⟨by rfl, by intro w hSw; go_simp⟩) hHeld ?_
  try simp only [Act.put, List.setIfInBounds_toArray, List.set_cons_zero, List.set_cons_succ]
  refine wpAnyH_take (i := 37) (oi := { dst := some 78, op := Op.unOp UnOp.not 4 (Operand.tmp 77), type := 4, pos := "law.go:26", after := #[{ on := 36, ground := Ground.data }, { on := 35, ground := Ground.guard }], guard := some (35, true) }) (v := .bool true) rfl (by kernel_rfl) (by kernel_rfl) (by kernel_rfl) (fun _ _ _ h => h) (Or.inl ⟨by rfl, by intro w hSw; go_simp⟩) hHeld ?_
  try simp only [Act.put, List.setIfInBounds_toArray, List.set_cons_zero, List.set_cons_succ]
  refine wpAnyH_take (i := 38) (oi := { dst := some 79, op := Op.pick (Operand.tmp 76) (Operand.tmp 78) (Operand.const (Value.bool false)), type := 4, pos := "law.go:26", after := #[{ on := 35, ground := Ground.data }, { on := 37, ground := Ground.data }], guard := none }) (v := .bool true) rfl (by kernel_rfl) (by kernel_rfl) (by kernel_rfl) (fun _ _ _ h => h) (Or.inl ⟨by rfl, by intro w hSw; go_simp⟩) hHeld ?_
  try simp only [Act.put, List.setIfInBounds_toArray, List.set_cons_zero, List.set_cons_succ]
  refine wpAnyH_take (i := 39) (oi := { dst := some 80, op := Op.move (Operand.tmp 79), type := 4, pos := "law.go:26", after := #[{ on := 38, ground := Ground.data }, { on := 35, ground := Ground.chain }], guard := none }) (v := .bool true) rfl (by kernel_rfl) (by kernel_rfl) (by kernel_rfl) (fun _ _ _ h => h) (Or.inl ⟨by rfl, by intro w hSw; go_simp⟩) hHeld ?_
  try simp only [Act.put, List.setIfInBounds_toArray, List.set_cons_zero, List.set_cons_succ]
  refine wpAnyH_take (i := 40) (oi := { dst := some 81, op := Op.move (Operand.tmp 2), type := 22, pos := "law.go:26", after := #[{ on := 39, ground := Ground.guard }], guard := some (39, true) }) (v := .slice (some ⟨g2, o2, none⟩) 1 c2) rfl (by kernel_rfl) (by kernel_rfl) (by kernel_rfl) (fun _ _ _ h => h) (Or.inl ⟨by rfl, by intro w hSw; go_simp⟩) hHeld ?_
  try simp only [Act.put, List.setIfInBounds_toArray, List.set_cons_zero, List.set_cons_succ]
  refine wpAnyH_ready (rs := [41]) (by kernel_rfl) (by simp) ?_
  refine AllReadyH.cons (o := { dst := some 82, op := Op.call { callee := Callee.value (Operand.func 10), args := #[Operand.tmp 81], argTypes := #[22] }, type := 28, pos := "law.go:26", after := #[{ on := 40, ground := Ground.data }, { on := 39, ground := Ground.chain }, { on := 39, ground := Ground.guard }], guard := some (39, true) }) rfl (fun K hK => ?_) AllReadyH.nil
  go_simp
  refine (CH1.out _ hHeld).mono ?_
  rintro e w41 ⟨rfl, hb41⟩
  go_wp2_with fail
  refine hK.out _ _ (hHeld.trans (hb41.mono hHeld.size)) (fun hHeld => ?_)
  clear hK K
  try simp only [Act.put, List.setIfInBounds_toArray, List.set_cons_zero, List.set_cons_succ]
  refine wpAnyH_take (i := 42) (oi := { dst := some 83, op := Op.binOp BinOp.eql 28 (Operand.tmp 82) (Operand.const (Value.int IntKind.i64 0)) 28, type := 4, pos := "law.go:26", after := #[{ on := 41, ground := Ground.data }, { on := 39, ground := Ground.guard }], guard := some (39, true) }) (v := .bool true) rfl (by kernel_rfl) (by kernel_rfl) (by kernel_rfl) (fun _ _ _ h => h) (Or.inl ⟨by rfl, by intro w hSw; go_simp⟩) hHeld ?_
  try simp only [Act.put, List.setIfInBounds_toArray, List.set_cons_zero, List.set_cons_succ]
  refine wpAnyH_take (i := 43) (oi := { dst := some 84, op := Op.pick (Operand.tmp 80) (Operand.tmp 83) (Operand.const (Value.bool false)), type := 4, pos := "law.go:26", after := #[{ on := 39, ground := Ground.data }, { on := 42, ground := Ground.data }], guard := none }) (v := .bool true) rfl (by kernel_rfl) (by kernel_rfl) (by kernel_rfl) (fun _ _ _ h => h) (Or.inl ⟨by rfl, by intro w hSw; go_simp⟩) hHeld ?_
  try simp only [Act.put, List.setIfInBounds_toArray, List.set_cons_zero, List.set_cons_succ]
  refine wpAnyH_take (i := 44) (oi := { dst := some 85, op := Op.move (Operand.tmp 84), type := 4, pos := "law.go:26", after := #[{ on := 43, ground := Ground.data }, { on := 41, ground := Ground.chain }], guard := none }) (v := .bool true) rfl (by kernel_rfl) (by kernel_rfl) (by kernel_rfl) (fun _ _ _ h => h) (Or.inl ⟨by rfl, by intro w hSw; go_simp⟩) hHeld ?_
  try simp only [Act.put, List.setIfInBounds_toArray, List.set_cons_zero, List.set_cons_succ]
  refine wpAnyH_take (i := 45) (oi := { dst := some 86, op := Op.build 26 #[], type := 26, pos := "law.go:26", after := #[{ on := 44, ground := Ground.guard }], guard := some (44, true) }) (v := .agg Z) rfl (by kernel_rfl) (by kernel_rfl) (by kernel_rfl) (fun _ _ _ h => h) (yieldsIf_buildC (by rfl) 26 _ rfl #[] rfl Z HBZ.out) hHeld ?_
  try simp only [Act.put, List.setIfInBounds_toArray, List.set_cons_zero, List.set_cons_succ]
  refine wpAnyH_ready (rs := [46]) (by kernel_rfl) (by simp) ?_
  refine AllReadyH.cons (o := { dst := some 87, op := Op.buildSlice 22 1 #[(0, Operand.tmp 86)], type := 22, pos := "law.go:26", after := #[{ on := 45, ground := Ground.data }, { on := 44, ground := Ground.guard }], guard := some (44, true) }) rfl (fun K hK => ?_) AllReadyH.nil
  refine step_build_run (by rfl) 22 1 _ rfl #[(0, .agg Z)] rfl _ _ (buildOneC _ zeroC Z HZ rfl) ?_
  refine hK.out _ _ (hHeld.alloc hHeld.size _) (fun hHeld => ?_)
  clear hK K
  try simp only [Act.put, List.setIfInBounds_toArray, List.set_cons_zero, List.set_cons_succ]
  refine wpAnyH_ready (rs := [47]) (by kernel_rfl) (by simp) ?_
  refine AllReadyH.cons (o := { dst := some 88, op := Op.call { callee := Callee.value (Operand.func 10), args := #[Operand.tmp 87], argTypes := #[22] }, type := 28, pos := "law.go:26", after := #[{ on := 46, ground := Ground.data }, { on := 44, ground := Ground.chain }, { on := 44, ground := Ground.guard }], guard := some (44, true) }) rfl (fun K hK => ?_) AllReadyH.nil
  go_simp
  refine (CH2.out _ _ (oneRdC _ zeroC Z HZ rfl)).mono ?_
  rintro e w47 ⟨rfl, hb47⟩
  go_wp2_with fail
  refine hK.out _ _ (hHeld.trans (hb47.mono hHeld.size)) (fun hHeld => ?_)
  clear hK K
  try simp only [Act.put, List.setIfInBounds_toArray, List.set_cons_zero, List.set_cons_succ]
  refine wpAnyH_take (i := 48) (oi := { dst := some 89, op := Op.binOp BinOp.eql 28 (Operand.tmp 88) (Operand.const (Value.int IntKind.i64 110)) 28, type := 4, pos := "law.go:26", after := #[{ on := 47, ground := Ground.data }, { on := 44, ground := Ground.guard }], guard := some (44, true) }) (v := .bool true) rfl (by kernel_rfl) (by kernel_rfl) (by kernel_rfl) (fun _ _ _ h => h) (Or.inl ⟨by rfl, by intro w hSw; go_simp⟩) hHeld ?_
  try simp only [Act.put, List.setIfInBounds_toArray, List.set_cons_zero, List.set_cons_succ]
  refine wpAnyH_take (i := 49) (oi := { dst := some 90, op := Op.pick (Operand.tmp 85) (Operand.tmp 89) (Operand.const (Value.bool false)), type := 4, pos := "law.go:26", after := #[{ on := 44, ground := Ground.data }, { on := 48, ground := Ground.data }], guard := none }) (v := .bool true) rfl (by kernel_rfl) (by kernel_rfl) (by kernel_rfl) (fun _ _ _ h => h) (Or.inl ⟨by rfl, by intro w hSw; go_simp⟩) hHeld ?_
  try simp only [Act.put, List.setIfInBounds_toArray, List.set_cons_zero, List.set_cons_succ]
  refine wpAnyH_take (i := 50) (oi := { dst := some 0, op := Op.assign (Operand.tmp 90), type := 4, pos := "law.go:26", after := #[{ on := 49, ground := Ground.data }, { on := 47, ground := Ground.chain }, { on := 0, ground := Ground.phase }, { on := 1, ground := Ground.phase }, { on := 2, ground := Ground.phase }, { on := 3, ground := Ground.phase }, { on := 4, ground := Ground.phase }, { on := 5, ground := Ground.phase }, { on := 6, ground := Ground.phase }, { on := 7, ground := Ground.phase }, { on := 8, ground := Ground.phase }, { on := 9, ground := Ground.phase }, { on := 10, ground := Ground.phase }, { on := 11, ground := Ground.phase }, { on := 12, ground := Ground.phase }, { on := 13, ground := Ground.phase }, { on := 14, ground := Ground.phase }, { on := 15, ground := Ground.phase }, { on := 16, ground := Ground.phase }, { on := 17, ground := Ground.phase }, { on := 18, ground := Ground.phase }, { on := 19, ground := Ground.phase }, { on := 20, ground := Ground.phase }, { on := 21, ground := Ground.phase }, { on := 22, ground := Ground.phase }, { on := 23, ground := Ground.phase }, { on := 24, ground := Ground.phase }, { on := 25, ground := Ground.phase }, { on := 26, ground := Ground.phase }, { on := 27, ground := Ground.phase }, { on := 28, ground := Ground.phase }, { on := 29, ground := Ground.phase }, { on := 30, ground := Ground.phase }, { on := 31, ground := Ground.phase }, { on := 32, ground := Ground.phase }, { on := 33, ground := Ground.phase }, { on := 34, ground := Ground.phase }, { on := 35, ground := Ground.phase }, { on := 36, ground := Ground.phase }, { on := 37, ground := Ground.phase }, { on := 38, ground := Ground.phase }, { on := 39, ground := Ground.phase }, { on := 40, ground := Ground.phase }, { on := 41, ground := Ground.phase }, { on := 42, ground := Ground.phase }, { on := 43, ground := Ground.phase }, { on := 44, ground := Ground.phase }, { on := 45, ground := Ground.phase }, { on := 46, ground := Ground.phase }, { on := 47, ground := Ground.phase }, { on := 48, ground := Ground.phase }, { on := 49, ground := Ground.phase }], guard := none }) (v := .bool true) rfl (by kernel_rfl) (by kernel_rfl) (by kernel_rfl) (fun _ _ _ h => h) (Or.inl ⟨by rfl, by intro w hSw; go_simp⟩) hHeld ?_
  try simp only [Act.put, List.setIfInBounds_toArray, List.set_cons_zero, List.set_cons_succ]
  refine wpAnyH_done (by kernel_rfl) ?_ _
  go_wp2
  go_ret
  exact ⟨rfl, HB9.out.trans (hHeld.mono HB9.out.size)⟩
end Go.Proofs.Ytieklabpdalahaa
