/- Texts of our own that the row of ClaimsKeeps leans on, part 32. -/
import Derived.Test.YtieklabpdalahaaClaimsKeepsJ23
import Derived.Test.YtieklabpdalahaaClaimsKeepsJ25
import Derived.Test.YtieklabpdalahaaClaimsKeepsJ29
import Derived.Test.YtieklabpdalahaaClaimsKeepsJ31
import Derived.Deep.Slices

/- Slices of claims that came in. -/
namespace Go.Proofs.Ytieklabpdalahaa
open Go.RowKit Sums Nums Go.ChangeShapes
set_option linter.unusedVariables false
set_option linter.unusedSimpArgs false
set_option maxRecDepth 100000
variable {H : Type} {enc : TypeId × Value → H} {W : World} {base : Nat} {sp : Nat → Bool} {held : Bool} {fuel : Nat} {x : DataW H × List MemPlace}
theorem InC.okC {c : ClT} (h : InC c) : OkC c := h.d
theorem open_cls {a : Option Addr} {len cap : Nat} {d : DataW H} {p : List MemPlace} (h : DataW.Trod enc Try.prog W base sp held 22 (.slice a len cap) d p) : ∃ l, CReads W a len cap l ∧ (a = none → cap = 0) ∧ ∀ x ∈ l, InC x := by
  obtain ⟨fuel, hf⟩ := h
  have h2 : Try.prog.cellsOf 26 = 36 := by kernel_rfl
  rcases Deep.open_slice Try.underlying22 hf with ⟨hcs, _⟩ | ⟨ad, len', cap', m, n, D, Pl, hcs, _, hl, hm, hmm, _, hx⟩
  · simp [Value.cells] at hcs
    obtain ⟨rfl, rfl, rfl⟩ := hcs
    exact ⟨[], clreads_none W, fun _ => rfl, fun o ho => by cases ho⟩
  · simp [Value.cells] at hcs
    obtain ⟨rfl, rfl, rfl⟩ := hcs
    have hlm : len ≤ m := by rw [hmm]; split <;> omega
    have each : ∀ i, i < len → ∃ o : ClT, InC o ∧ ∀ j v, (ccells o)[j]? = some v → W.cell? (ad.add (i * 36 + j)) = some v := by
      intro i hi
      obtain ⟨cs', c1, c2⟩ := hx i (by omega)
      rw [h2] at c1
      obtain ⟨_, hlen, hcell⟩ := World.cells?_some c1
      obtain ⟨o, ho, rfl⟩ := open_claim_cells c2
      refine ⟨o, ho, fun j v hj => ?_⟩
      have hj' : j < (ccells o).length := (List.getElem?_eq_some_iff.1 hj).1
      have e0 := hcell j (by rw [ccells_length _ ho.d] at hj'; omega)
      rw [Deep.add_add] at e0
      rw [e0]
      simpa using hj
    haveI : Inhabited ClT := ⟨zeroC⟩
    obtain ⟨F, hF⟩ := Deep.choose_lt each
    refine ⟨(List.range len).map F, ⟨by simp, hl, by unfold maxLen at hm ⊢; omega, ?_, ?_⟩, (fun e => by cases e), ?_⟩
    · intro o ho
      obtain ⟨i, hi, rfl⟩ := List.mem_map.1 ho
      exact (hF i (List.mem_range.1 hi)).1.d
    · by_cases h0 : len = 0
      · exact .inl h0
      · have hc := (hF 0 (by omega)).2 0 _ rfl
        obtain ⟨b, off, spot⟩ := ad
        have hspot : spot = none := by simpa [Addr.add] using World.cell?_spot hc
        subst hspot
        refine .inr ⟨b, off, rfl, fun i hi j v hj => ?_⟩
        have hi' : i < len := by simpa using hi
        simp only [List.getElem_map, List.getElem_range] at hj
        have := (hF i hi').2 j v hj
        rw [add_plain] at this
        rw [← this]
        congr 2
        omega
    · intro o ho
      obtain ⟨i, hi, rfl⟩ := List.mem_map.1 ho
      exact (hF i (List.mem_range.1 hi)).1
end Go.Proofs.Ytieklabpdalahaa

/- What comes out of what is right is right, has the claim, and all that were there. -/
namespace Go.Proofs.Ytieklabpdalahaa
open Go.RowKit Nums Sums Go.Maps
set_option linter.unusedVariables false
set_option linter.unusedSimpArgs false
set_option maxRecDepth 100000
theorem recL_fnd {l : List ClT} {c : ClT} (h : recE l c = 0) {x : ClT} (hx : x = c ∨ x ∈ l) : foundC (recL l c) x.r x.e = x ∧ (findC (recL l c) x.r x.e).isSome = true := by
  have hf : findC (recL l c) x.r x.e = some x := by
    rcases hx with rfl | hx
    · exact (recL_finds h).1
    · exact (recL_finds h).2 x hx
  exact ⟨by unfold foundC; rw [hf]; rfl, by rw [hf]; rfl⟩
theorem recE_vals (l : List ClT) (c : ClT) : recE l c = 0 ∨ recE l c = 110 ∨ recE l c = 111 := by
  unfold recE
  split
  · exact .inr (.inl rfl)
  · split
    · exact .inl rfl
    · split
      · exact .inl rfl
      · exact .inr (.inr rfl)
set_option maxHeartbeats 32000000 in
theorem claimsKeeps_x (ad : Option Addr) (len cap : Nat) (l : List ClT) (c : ClT) (X : Array Value) (HX : Hid (X = (ccells c).toArray)) (w : World) (h : CReads w ad len cap l) (hn : ad = none → cap = 0) (hx : OkC c) :
    Calls Try.prog 5 #[.slice ad len cap, .agg X] w fun e w' => e = .returned (.bool true) ∧ Below w.heap.size w w' := by
  have H := hidk h
  have HL := hidk h.ln
  have HN := hidk hn
  have hmx : len ≤ 9223372036854775807 := by have := h.mx; unfold maxLen at this; omega
  have hb0 : Below w.heap.size w (w.alloc (.cells X 26)) := (Below.refl _ _).alloc (Nat.le_refl _) _
  have hx0 : (w.alloc (.cells X 26)).rangeAt w.heap.size 0 X.toList := range_row (t := 26) (fr := (0, 0)) (by rw [Array.toArray_toList]; exact heap_alloc_new w _)
  have HB0 := hidk hb0
  have HX0 := hidk hx0
  have hnot : ∀ (x : Bool) (w : World), (Op.unary .not (.bool x)).run Try.prog w = .ok (.bool (!x)) w := fun _ _ => rfl
  clear h hn hb0 hx0
  by_cases h200 : 200 < len
  · have d1 : decide ((200 : Int) < (len : Int)) = true := decide_eq_true (by omega)
    go_enter Try.func5, Try.ntmps5
    go_wp2
    go_ret
    exact ⟨rfl, HB0.out⟩
  have d1 : decide ((200 : Int) < (len : Int)) = false := decide_eq_false (by omega)
  have hs : len ≤ 200 := by omega
  clear h200
  obtain ⟨Z, HZ, HA, HBZ, H36⟩ := noughtsC
  have HSX : Hid ((Try.prog.info? 26).map (·.size) = some X.size) := by show _ = _; rw [sizeC, HX.out]; simp [ccells_length _ hx]
  have HZX : Hid (Z.size = X.size) := by show _ = _; rw [H36.out, HX.out]; simp [ccells_length _ hx]
  have H1X : Hid (X.all (·.oneCell') = true) := by show _ = _; rw [HX.out]; exact one_cellsC _
  have HKX : Hid (∀ W : World, W.rangeAt w.heap.size 0 X.toList → W.cell? ⟨w.heap.size, 0, none⟩ = some (.int .i64 c.r) ∧ W.cell? ⟨w.heap.size, 1, none⟩ = some (.int .i64 c.e)) := fun W hW => by
    rw [HX.out] at hW
    exact ⟨hW 0 _ rfl, hW 1 _ rfl⟩
  obtain ⟨M, hM⟩ : ∃ M, recL l c = M := ⟨_, rfl⟩
  obtain ⟨m, hm⟩ : ∃ m, M.length = m := ⟨_, rfl⟩
  obtain ⟨E, hE⟩ : ∃ e, recE l c = e := ⟨_, rfl⟩
  have RC := hidk (recOut ad len cap X HX hx (w.alloc (.cells X 26)) (H.out.keep HB0.out) HN.out (by omega) M E m hM hE hm)
  by_cases hE0 : E = 0
  · subst hE0
    have hfc := recL_fnd hE (.inl rfl)
    rw [hM] at hfc
    have HCHL : Hid (chkE l = 0) := by show _ = _; unfold chkE; rw [if_pos (recE_ok hE).1]
    have HCHM : Hid (chkE M = 0) := by show _ = _; unfold chkE; rw [← hM, if_pos (recL_right hE)]
    have HCKC : Hid (ckE c = 0) := by show _ = _; unfold ckE; rw [if_pos (recE_ok hE).2.1]
    have HFL : Hid (∀ y ∈ l, foundC M y.r y.e = y ∧ (findC M y.r y.e).isSome = true) := fun y hy => by rw [← hM]; exact recL_fnd hE (.inr hy)
    have hml : len ≤ m ∧ m ≤ len + 1 := by have h9 := recL_length hE; have h8 := HL.out; rw [hM, hm] at h9; omega
    have hml1 := hml.1
    have hml2 := hml.2
    have hsub := wrap_int ((m : Int) - (len : Int)) (by omega) (by omega)
    have hg1 : decide ((0 : Int) ≤ (m : Int) - (len : Int)) = true := decide_eq_true (by omega)
    have hg2 : decide ((m : Int) - (len : Int) ≤ 1) = true := decide_eq_true (by omega)
    have HFC := hidk hfc
    have hqX := fun W => neqClaim c c hx hx X X HX HX false (by simp) W
    clear hM hm hE hml hfc
    go_enter Try.func5, Try.ntmps5
    go_wp2_with (first
      | (show wpList _ _ _ ({ dst := some 17, op := _, type := _, pos := _, after := _, guard := _ } :: _) _ _; refine wpList_mid_w (by rfl) 26 (.tmp 3) rfl w.heap.size 0 rfl X _ HX0.out Try.underlying26 rfl HSX.out ?_; try simp only [Act.put, List.setIfInBounds_toArray, List.set_cons_zero, List.set_cons_succ])
      | fail)
    refine RC.out.mono ?_
    rintro e w1 ⟨a5, c5, rfl, hr5, hn5, _, hb1⟩
    have HB1 := hidk (HB0.out.trans (hb1.mono (by simp)))
    have HX1 := hidk (range_keep hb1 HX0.out)
    have HR5 := hidk hr5
    have hq1 := (HKX.out _ HX1.out).1
    have hq2 := (HKX.out _ HX1.out).2
    have FIC := hidk (kFind_any a5 m c5 M c.r c.e w1 hr5 (by omega) X (by show _ = _; rw [HFC.out.1]; exact HX.out))
    rw [HFC.out.2] at FIC
    obtain ⟨cr, hcr⟩ : ∃ y, c.r = y := ⟨_, rfl⟩
    obtain ⟨ce, hce⟩ : ∃ y, c.e = y := ⟨_, rfl⟩
    rw [hcr] at hq1 FIC
    rw [hce] at hq2 FIC
    clear hb1 hr5 hn5 RC hcr hce HX0 HKX
    go_wp2_with fail
    refine FIC.out.mono ?_
    rintro e w2 ⟨rfl, hb2⟩
    have HB2 := hidk (HB1.out.trans (hb2.mono HB1.out.size))
    have HX2 := hidk (range_keep hb2 HX1.out)
    replace HR5 := hidk (HR5.out.keep hb2)
    clear hb2 FIC HX1 hq1 hq2
    go_wp2_with (first
      | (show wpList _ _ _ ({ dst := some 7, op := _, type := _, pos := _, after := _, guard := _ } :: _) _ _; refine wpList_new_var rfl 26 rfl Z HA.out ?_; intro g7 w22 HM7; have HG7 := hidk HM7.out.row; try simp only [Act.put, List.setIfInBounds_toArray, List.set_cons_zero, List.set_cons_succ])
      | (show wpList _ _ _ ({ dst := none, op := Op.store 26 _ _, type := _, pos := _, after := _, guard := _ } :: _) _ _; refine wpList_set_var rfl 26 (.tmp 7) (.tmp 36) rfl g7 X rfl rfl 26 Z HG7.out HSX.out HZX.out H1X.out ?_; intro w3 HW7; try simp only [Act.put, List.setIfInBounds_toArray, List.set_cons_zero, List.set_cons_succ])
      | fail)
    have hb3 : Below w2.heap.size w2 w3 := HW7.out.below _ _ HM7.out.below (by rw [HM7.out.new]; exact Nat.le_refl _)
    have HB3 := hidk (HB2.out.trans (hb3.mono HB2.out.size))
    have HX3 := hidk (range_keep hb3 HX2.out)
    have HR7 : Hid (w3.rangeAt g7 0 X.toList) := range_row (t := 26) (fr := (0, 0)) (by rw [Array.toArray_toList]; exact HW7.out.row)
    replace HR5 := hidk (HR5.out.keep hb3)
    clear hb3 HM7 HG7 HW7 HX2
    have CHL := hidk (kCheck_any ad len cap l w3 (H.out.keep HB3.out) (by omega))
    rw [HCHL.out] at CHL
    refine CHL.out.mono ?_
    rintro e w4 ⟨rfl, hb4⟩
    have HB4 := hidk (HB3.out.trans (hb4.mono HB3.out.size))
    have HX4 := hidk (range_keep hb4 HX3.out)
    have HR74 := hidk (range_keep hb4 HR7.out)
    replace HR5 := hidk (HR5.out.keep hb4)
    clear hb4 CHL HX3 HR7
    go_wp2_with fail
    have CHM := hidk (kCheck_any a5 m c5 M w4 HR5.out (by omega))
    rw [HCHM.out] at CHM
    refine CHM.out.mono ?_
    rintro e w5 ⟨rfl, hb5⟩
    have HB5 := hidk (HB4.out.trans (hb5.mono HB4.out.size))
    have HX5 := hidk (range_keep hb5 HX4.out)
    have HR75 := hidk (range_keep hb5 HR74.out)
    replace HR5 := hidk (HR5.out.keep hb5)
    clear hb5 CHM HX4 HR74
    go_wp2_with (first
      | (show wpList _ _ _ ({ dst := some 47, op := _, type := _, pos := _, after := _, guard := _ } :: _) _ _; refine wpList_mid_w (by rfl) 26 (.tmp 3) rfl w.heap.size 0 rfl X _ HX5.out Try.underlying26 rfl HSX.out ?_; try simp only [Act.put, List.setIfInBounds_toArray, List.set_cons_zero, List.set_cons_succ])
      | fail)
    have CKC := hidk (kCheckC_any c w5 X HX)
    rw [HCKC.out] at CKC
    refine CKC.out.mono ?_
    rintro e w6 ⟨rfl, hb6⟩
    have HB6 := hidk (HB5.out.trans (hb6.mono HB5.out.size))
    have HX6 := hidk (range_keep hb6 HX5.out)
    have HR76 := hidk (range_keep hb6 HR75.out)
    replace HR5 := hidk (HR5.out.keep hb6)
    clear hb6 CKC HX5 HR75
    go_wp2_with (first
      | (show wpList _ _ _ ({ dst := some 56, op := _, type := _, pos := _, after := _, guard := _ } :: _) _ _; refine wpList_mid_w (by rfl) 26 (.tmp 7) rfl g7 0 rfl X _ HR76.out Try.underlying26 rfl HSX.out ?_; try simp only [Act.put, List.setIfInBounds_toArray, List.set_cons_zero, List.set_cons_succ])
      | (show wpList _ _ _ ({ dst := some 57, op := _, type := _, pos := _, after := _, guard := _ } :: _) _ _; refine wpList_mid_w (by rfl) 26 (.tmp 3) rfl w.heap.size 0 rfl X _ HX6.out Try.underlying26 rfl HSX.out ?_; try simp only [Act.put, List.setIfInBounds_toArray, List.set_cons_zero, List.set_cons_succ])
      | fail)
    clear HX6 HR76
    go_loopw [9, 10, 11] (fun i _ _ wr => ∃ k : Nat, k ≤ len ∧ i = .int .i64 k ∧ Hid (Below w6.heap.size w6 wr)) (fun i _ _ _ => len - (intOf i).toNat)
    case atStart => exact ⟨0, by omega, rfl, Below.refl _ _⟩
    case round =>
      obtain ⟨k, hk, rfl, HBL⟩ := hrel
      have HBR := hidk (HB6.out.trans (HBL.out.mono HB6.out.size))
      by_cases hlt : k < len
      · have hd : decide ((k : Int) < (len : Int)) = true := by rw [decide_eq_true_eq]; omega
        have hw1 := wrap_int ((k : Int) + 1) (by omega) (by omega)
        obtain ⟨g, o, rfl, hg⟩ := H.out.at (by omega)
        have hkl : k < l.length := by have := HL.out; omega
        have ix := fun W => index_cl W g o len cap k .i64 hlt
        have HFY := hidk (HFL.out _ (List.getElem_mem hkl))
        obtain ⟨Y, HY'⟩ : ∃ Y, Hid (Y = (ccells l[k]).toArray) := ⟨_, hidk rfl⟩
        have HRY : Hid (∀ W, Below w.heap.size w W → W.rangeAt g (o + 36 * k) Y.toList) := fun W hW => by rw [HY'.out]; exact (H.out.keep hW).range k hkl
        have HOY := hidk (H.out.ok _ (List.getElem_mem hkl))
        obtain ⟨y, hy⟩ : ∃ y, l[k] = y := ⟨_, rfl⟩
        rw [hy] at HFY HY' HOY
        have HY := HY'
        have HSY : Hid ((Try.prog.info? 26).map (·.size) = some Y.size) := by show _ = _; rw [sizeC, HY.out]; simp [ccells_length _ HOY.out]
        have HZY : Hid (Z.size = Y.size) := by show _ = _; rw [H36.out, HY.out]; simp [ccells_length _ HOY.out]
        have H1Y : Hid (Y.all (·.oneCell') = true) := by show _ = _; rw [HY.out]; exact one_cellsC _
        have FI : Hid (∀ W, Below wr.heap.size wr W → Calls Try.prog 11 #[.slice a5 m c5, .int .i64 y.r, .int .i64 y.e] W fun x w' => x = .returned (.tuple #[.agg Y, .bool true]) ∧ Below W.heap.size W w') := fun W hW => by
          have := kFind_any a5 m c5 M y.r y.e W ((HR5.out.keep HBL.out).keep hW) (by omega) Y (by show _ = _; rw [HFY.out.1]; exact HY.out)
          rwa [HFY.out.2] at this
        have HCY : Hid (∀ W : World, Below wr.heap.size wr W → W.cell? ⟨g, o + 36 * k, none⟩ = some (.int .i64 y.r) ∧ W.cell? ⟨g, o + 36 * k + 1, none⟩ = some (.int .i64 y.e)) := fun W hW => by
          have := HRY.out W (HBR.out.trans (hW.mono HBR.out.size))
          rw [HY.out] at this
          exact ⟨this 0 _ rfl, this 1 _ rfl⟩
        obtain ⟨yr, hyr⟩ : ∃ z, y.r = z := ⟨_, rfl⟩
        obtain ⟨ye, hye⟩ : ∃ z, y.e = z := ⟨_, rfl⟩
        rw [hyr, hye] at FI HCY
        clear hyr hye hy hkl HFY HY'
        go_wp2
        refine wp_region_held_drew (S := (fun W => Below wr.heap.size wr W)) (by kernel_rfl) (Below.refl _ _).drew (fun hHeld => ?_)
        refine wpAnyH_take (i := 0) (oi := { dst := some 67, op := Op.move (Operand.tmp 5), type := 22, pos := "law.go:85", after := #[], guard := none }) (v := .slice a5 m c5) rfl (by kernel_rfl) (by kernel_rfl) (by kernel_rfl) (fun _ _ _ h => h) (Or.inl ⟨by rfl, by intro W hSw; go_simp⟩) hHeld ?_
        try simp only [Act.put, List.setIfInBounds_toArray, List.set_cons_zero, List.set_cons_succ]
        refine wpAnyH_take (i := 1) (oi := { dst := some 68, op := Op.move (Operand.tmp 0), type := 22, pos := "law.go:85", after := #[], guard := none }) (v := .slice (some ⟨g, o, none⟩) len cap) rfl (by kernel_rfl) (by kernel_rfl) (by kernel_rfl) (fun _ _ _ h => h) (Or.inl ⟨by rfl, by intro W hSw; go_simp⟩) hHeld ?_
        try simp only [Act.put, List.setIfInBounds_toArray, List.set_cons_zero, List.set_cons_succ]
        refine wpAnyH_take (i := 2) (oi := { dst := some 69, op := Op.move (Operand.tmp 9), type := 3, pos := "law.go:85", after := #[], guard := none }) (v := .int .i64 k) rfl (by kernel_rfl) (by kernel_rfl) (by kernel_rfl) (fun _ _ _ h => h) (Or.inl ⟨by rfl, by intro W hSw; go_simp⟩) hHeld ?_
        try simp only [Act.put, List.setIfInBounds_toArray, List.set_cons_zero, List.set_cons_succ]
        refine wpAnyH_take (i := 3) (oi := { dst := some 70, op := Op.indexAddr 22 (Operand.tmp 68) (Operand.tmp 69), type := 0, pos := "law.go:85", after := #[{ on := 1, ground := Ground.data }, { on := 2, ground := Ground.data }], guard := none }) (v := .pointer (some ⟨g, o + 36 * k, none⟩)) rfl (by kernel_rfl) (by kernel_rfl) (by kernel_rfl) (fun _ _ _ h => h) (Or.inl ⟨by rfl, by intro W hSw; have := ix W; go_simp⟩) hHeld ?_
        try simp only [Act.put, List.setIfInBounds_toArray, List.set_cons_zero, List.set_cons_succ]
        refine wpAnyH_take (i := 4) (oi := { dst := some 71, op := Op.fieldAddr 26 (Operand.tmp 70) 0, type := 0, pos := "law.go:85", after := #[{ on := 3, ground := Ground.data }], guard := none }) (v := .pointer (some ⟨g, o + 36 * k, none⟩)) rfl (by kernel_rfl) (by kernel_rfl) (by kernel_rfl) (fun _ _ _ h => h) (Or.inl ⟨by rfl, by intro W hSw; go_simp⟩) hHeld ?_
        try simp only [Act.put, List.setIfInBounds_toArray, List.set_cons_zero, List.set_cons_succ]
        refine wpAnyH_take (i := 5) (oi := { dst := some 72, op := Op.load 3 (Operand.tmp 71), type := 3, pos := "law.go:85", after := #[{ on := 4, ground := Ground.data }], guard := none }) (v := .int .i64 yr) rfl (by kernel_rfl) (by kernel_rfl) (by kernel_rfl) (fun _ _ _ h => h) (Or.inl ⟨by rfl, by intro W hSw; have := (HCY.out W hSw).1; go_simp⟩) hHeld ?_
        try simp only [Act.put, List.setIfInBounds_toArray, List.set_cons_zero, List.set_cons_succ]
        refine wpAnyH_take (i := 6) (oi := { dst := some 73, op := Op.move (Operand.tmp 0), type := 22, pos := "law.go:85", after := #[], guard := none }) (v := .slice (some ⟨g, o, none⟩) len cap) rfl (by kernel_rfl) (by kernel_rfl) (by kernel_rfl) (fun _ _ _ h => h) (Or.inl ⟨by rfl, by intro W hSw; go_simp⟩) hHeld ?_
        try simp only [Act.put, List.setIfInBounds_toArray, List.set_cons_zero, List.set_cons_succ]
        refine wpAnyH_take (i := 7) (oi := { dst := some 74, op := Op.move (Operand.tmp 9), type := 3, pos := "law.go:85", after := #[], guard := none }) (v := .int .i64 k) rfl (by kernel_rfl) (by kernel_rfl) (by kernel_rfl) (fun _ _ _ h => h) (Or.inl ⟨by rfl, by intro W hSw; go_simp⟩) hHeld ?_
        try simp only [Act.put, List.setIfInBounds_toArray, List.set_cons_zero, List.set_cons_succ]
        refine wpAnyH_take (i := 8) (oi := { dst := some 75, op := Op.indexAddr 22 (Operand.tmp 73) (Operand.tmp 74), type := 0, pos := "law.go:85", after := #[{ on := 6, ground := Ground.data }, { on := 7, ground := Ground.data }], guard := none }) (v := .pointer (some ⟨g, o + 36 * k, none⟩)) rfl (by kernel_rfl) (by kernel_rfl) (by kernel_rfl) (fun _ _ _ h => h) (Or.inl ⟨by rfl, by intro W hSw; have := ix W; go_simp⟩) hHeld ?_
        try simp only [Act.put, List.setIfInBounds_toArray, List.set_cons_zero, List.set_cons_succ]
        refine wpAnyH_take (i := 9) (oi := { dst := some 76, op := Op.fieldAddr 26 (Operand.tmp 75) 1, type := 0, pos := "law.go:85", after := #[{ on := 8, ground := Ground.data }], guard := none }) (v := .pointer (some ⟨g, o + 36 * k + 1, none⟩)) rfl (by kernel_rfl) (by kernel_rfl) (by kernel_rfl) (fun _ _ _ h => h) (Or.inl ⟨by rfl, by intro W hSw; go_simp⟩) hHeld ?_
        try simp only [Act.put, List.setIfInBounds_toArray, List.set_cons_zero, List.set_cons_succ]
        refine wpAnyH_take (i := 10) (oi := { dst := some 77, op := Op.load 3 (Operand.tmp 76), type := 3, pos := "law.go:85", after := #[{ on := 9, ground := Ground.data }], guard := none }) (v := .int .i64 ye) rfl (by kernel_rfl) (by kernel_rfl) (by kernel_rfl) (fun _ _ _ h => h) (Or.inl ⟨by rfl, by intro W hSw; have := (HCY.out W hSw).2; go_simp⟩) hHeld ?_
        try simp only [Act.put, List.setIfInBounds_toArray, List.set_cons_zero, List.set_cons_succ]
        refine wpAnyH_ready (rs := [11, 15]) (by kernel_rfl) (by simp) ?_
        refine (AllReadyH.cons (o := { dst := some 78, op := Op.call { callee := Callee.value (Operand.func 11), args := #[Operand.tmp 67, Operand.tmp 72, Operand.tmp 77], argTypes := #[22, 3, 3] }, type := 30, pos := "law.go:85", after := #[{ on := 0, ground := Ground.data }, { on := 5, ground := Ground.data }, { on := 10, ground := Ground.data }], guard := none }) rfl (fun K hK => ?_) (AllReadyH.cons (o := { dst := some 10, op := Op.alloc 26, type := 0, pos := "law.go:85", after := #[], guard := none }) rfl (fun K hK => ?_) AllReadyH.nil))
        · go_simp
          refine (FI.out _ hHeld).mono ?_
          rintro e w11 ⟨rfl, hb11⟩
          try replace HR10 := hidk ((hb11.block _ (heap_lt HR10.out)).trans HR10.out)
          go_wp2_with fail
          refine hK.out _ _ (hHeld.trans (hb11.mono hHeld.size)) (fun hHeld => ?_)
          clear hK K
          try simp only [Act.put, List.setIfInBounds_toArray, List.set_cons_zero, List.set_cons_succ]
          refine wpAnyH_take (i := 12) (oi := { dst := some 66, op := Op.move (Operand.tmp 78), type := 30, pos := "law.go:85", after := #[{ on := 11, ground := Ground.data }], guard := none }) (v := .tuple #[.agg Y, .bool true]) rfl (by kernel_rfl) (by kernel_rfl) (by kernel_rfl) (fun _ _ _ h => h) (Or.inl ⟨by rfl, by intro W hSw; go_simp⟩) hHeld ?_
          try simp only [Act.put, List.setIfInBounds_toArray, List.set_cons_zero, List.set_cons_succ]
          refine wpAnyH_take (i := 13) (oi := { dst := some 79, op := Op.extract (Operand.tmp 66) 0, type := 26, pos := "law.go:85", after := #[{ on := 12, ground := Ground.data }], guard := none }) (v := .agg Y) rfl (by kernel_rfl) (by kernel_rfl) (by kernel_rfl) (fun _ _ _ h => h) (Or.inl ⟨by rfl, by intro W hSw; go_simp⟩) hHeld ?_
          try simp only [Act.put, List.setIfInBounds_toArray, List.set_cons_zero, List.set_cons_succ]
          refine wpAnyH_take (i := 14) (oi := { dst := some 80, op := Op.extract (Operand.tmp 66) 1, type := 4, pos := "law.go:85", after := #[{ on := 12, ground := Ground.data }, { on := 16, ground := Ground.gcOnly Departure.lateStores }], guard := none }) (v := .bool true) rfl (by kernel_rfl) (by kernel_rfl) (by kernel_rfl) (fun _ _ _ h => h) (Or.inl ⟨by rfl, by intro W hSw; go_simp⟩) hHeld ?_
          try simp only [Act.put, List.setIfInBounds_toArray, List.set_cons_zero, List.set_cons_succ]
          refine wpAnyH_ready (rs := [15]) (by kernel_rfl) (by simp) ?_
          refine (AllReadyH.cons (o := { dst := some 10, op := Op.alloc 26, type := 0, pos := "law.go:85", after := #[], guard := none }) rfl (fun K hK => ?_) AllReadyH.nil)
          refine step_new_var (by rfl) 26 rfl Z HA.out ?_
          intro g10 w15 HM
          have HR10 := hidk HM.out.row
          have HG10 : Hid (wr.heap.size ≤ g10) := (by show _ ≤ _; rw [HM.out.new]; exact hHeld.size)
          refine hK.out _ _ (hHeld.trans (HM.out.below.mono hHeld.size)) (fun hHeld => ?_)
          clear hK K
          try simp only [Act.put, List.setIfInBounds_toArray, List.set_cons_zero, List.set_cons_succ]
          refine wpAnyH_ready (rs := [16]) (by kernel_rfl) (by simp) ?_
          refine (AllReadyH.cons (o := { dst := none, op := Op.store 26 (Operand.tmp 10) (Operand.tmp 79), type := 0, pos := "law.go:85", after := #[{ on := 15, ground := Ground.data }, { on := 13, ground := Ground.data }, { on := 11, ground := Ground.chain }, { on := 0, ground := Ground.phase }, { on := 1, ground := Ground.phase }, { on := 2, ground := Ground.phase }, { on := 3, ground := Ground.phase }, { on := 4, ground := Ground.phase }, { on := 5, ground := Ground.phase }, { on := 6, ground := Ground.phase }, { on := 7, ground := Ground.phase }, { on := 8, ground := Ground.phase }, { on := 9, ground := Ground.phase }, { on := 10, ground := Ground.phase }, { on := 11, ground := Ground.phase }, { on := 12, ground := Ground.phase }, { on := 13, ground := Ground.phase }, { on := 14, ground := Ground.textOnly Departure.lateStores }, { on := 15, ground := Ground.phase }], guard := none }) rfl (fun K hK => ?_) AllReadyH.nil)
          refine step_set_var (by rfl) 26 (.tmp 10) (.tmp 79) rfl g10 Y rfl rfl 26 Z HR10.out HSY.out HZY.out H1Y.out ?_
          intro w16 HW
          refine hK.out _ _ (HW.out.below _ _ hHeld HG10.out) (fun hHeld => ?_)
          clear hK K
          try simp only [Act.put, List.setIfInBounds_toArray, List.set_cons_zero, List.set_cons_succ]
          refine wpAnyH_take (i := 17) (oi := { dst := some 11, op := Op.assign (Operand.tmp 80), type := 4, pos := "law.go:85", after := #[{ on := 14, ground := Ground.data }, { on := 16, ground := Ground.chain }, { on := 0, ground := Ground.phase }, { on := 1, ground := Ground.phase }, { on := 2, ground := Ground.phase }, { on := 3, ground := Ground.phase }, { on := 4, ground := Ground.phase }, { on := 5, ground := Ground.phase }, { on := 6, ground := Ground.phase }, { on := 7, ground := Ground.phase }, { on := 8, ground := Ground.phase }, { on := 9, ground := Ground.phase }, { on := 10, ground := Ground.phase }, { on := 11, ground := Ground.phase }, { on := 12, ground := Ground.phase }, { on := 13, ground := Ground.phase }, { on := 14, ground := Ground.phase }, { on := 15, ground := Ground.phase }, { on := 16, ground := Ground.phase }], guard := none }) (v := .bool true) rfl (by kernel_rfl) (by kernel_rfl) (by kernel_rfl) (fun _ _ _ h => h) (Or.inl ⟨by rfl, by intro W hSw; go_simp⟩) hHeld ?_
          try simp only [Act.put, List.setIfInBounds_toArray, List.set_cons_zero, List.set_cons_succ]
          refine wpAnyH_done (by kernel_rfl) ?_ _
          have hHeld0 := hidk hHeld
          have HBN := hidk (HBR.out.trans (hHeld.mono HBR.out.size))
          have HS13 : Hid (w16.drew.rangeAt g10 0 Y.toList ∧ w16.drew.rangeAt g (o + 36 * k) Y.toList) := ⟨range_row (t := 26) (fr := (0, 0)) (by rw [Array.toArray_toList]; exact HW.out.row), HRY.out _ HBN.out.drew⟩
          have hqn := fun W => neqClaim y y HOY.out HOY.out Y Y HY HY false (by simp) W
          clear HM HR10 HG10 HW
          go_wp2
          refine wp_region_held_drew (S := (fun W => W.rangeAt g10 0 Y.toList ∧ W.rangeAt g (o + 36 * k) Y.toList)) (by kernel_rfl) HS13.out (fun hHeld => ?_)
          refine wpAnyH_take (i := 0) (oi := { dst := some 81, op := Op.move (Operand.tmp 11), type := 4, pos := "law.go:86", after := #[], guard := none }) (v := .bool true) rfl (by kernel_rfl) (by kernel_rfl) (by kernel_rfl) (fun _ _ _ h => h) (Or.inl ⟨by rfl, by intro w hSw; go_simp⟩) hHeld ?_
          try simp only [Act.put, List.setIfInBounds_toArray, List.set_cons_zero, List.set_cons_succ]
          refine wpAnyH_take (i := 1) (oi := { dst := some 82, op := Op.unOp UnOp.not 4 (Operand.tmp 81), type := 4, pos := "law.go:86", after := #[{ on := 0, ground := Ground.data }], guard := none }) (v := .bool false) rfl (by kernel_rfl) (by kernel_rfl) (by kernel_rfl) (fun _ _ _ h => h) (Or.inl ⟨by rfl, by intro w hSw; go_simp⟩) hHeld ?_
          try simp only [Act.put, List.setIfInBounds_toArray, List.set_cons_zero, List.set_cons_succ]
          refine wpAnyH_take (i := 2) (oi := { dst := some 83, op := Op.move (Operand.tmp 82), type := 4, pos := "law.go:86", after := #[{ on := 1, ground := Ground.data }], guard := none }) (v := .bool false) rfl (by kernel_rfl) (by kernel_rfl) (by kernel_rfl) (fun _ _ _ h => h) (Or.inl ⟨by rfl, by intro w hSw; go_simp⟩) hHeld ?_
          try simp only [Act.put, List.setIfInBounds_toArray, List.set_cons_zero, List.set_cons_succ]
          refine wpAnyH_take (i := 3) (oi := { dst := some 84, op := Op.load 26 (Operand.tmp 10), type := 26, pos := "law.go:86", after := #[{ on := 2, ground := Ground.guard }], guard := some (2, false) }) (v := .agg Y) rfl (by kernel_rfl) (by kernel_rfl) (by kernel_rfl) (fun _ _ _ h => h) (yieldsIf_mid (by rfl) 26 (.tmp 10) rfl g10 0 rfl Y _ (fun _ h => h.1) Try.underlying26 rfl HSY.out) hHeld ?_
          try simp only [Act.put, List.setIfInBounds_toArray, List.set_cons_zero, List.set_cons_succ]
          refine wpAnyH_take (i := 4) (oi := { dst := some 85, op := Op.move (Operand.tmp 0), type := 22, pos := "law.go:86", after := #[{ on := 2, ground := Ground.guard }], guard := some (2, false) }) (v := .slice (some ⟨g, o, none⟩) len cap) rfl (by kernel_rfl) (by kernel_rfl) (by kernel_rfl) (fun _ _ _ h => h) (Or.inl ⟨by rfl, by intro w hSw; go_simp⟩) hHeld ?_
          try simp only [Act.put, List.setIfInBounds_toArray, List.set_cons_zero, List.set_cons_succ]
          refine wpAnyH_take (i := 5) (oi := { dst := some 86, op := Op.move (Operand.tmp 9), type := 3, pos := "law.go:86", after := #[{ on := 2, ground := Ground.guard }], guard := some (2, false) }) (v := .int .i64 k) rfl (by kernel_rfl) (by kernel_rfl) (by kernel_rfl) (fun _ _ _ h => h) (Or.inl ⟨by rfl, by intro w hSw; go_simp⟩) hHeld ?_
          try simp only [Act.put, List.setIfInBounds_toArray, List.set_cons_zero, List.set_cons_succ]
          refine wpAnyH_take (i := 6) (oi := { dst := some 87, op := Op.indexAddr 22 (Operand.tmp 85) (Operand.tmp 86), type := 0, pos := "law.go:86", after := #[{ on := 4, ground := Ground.data }, { on := 5, ground := Ground.data }, { on := 2, ground := Ground.guard }], guard := some (2, false) }) (v := .pointer (some ⟨g, o + 36 * k, none⟩)) rfl (by kernel_rfl) (by kernel_rfl) (by kernel_rfl) (fun _ _ _ h => h) (Or.inl ⟨by rfl, by intro W hSw; have := ix W; go_simp⟩) hHeld ?_
          try simp only [Act.put, List.setIfInBounds_toArray, List.set_cons_zero, List.set_cons_succ]
          refine wpAnyH_take (i := 7) (oi := { dst := some 88, op := Op.load 26 (Operand.tmp 87), type := 26, pos := "law.go:86", after := #[{ on := 6, ground := Ground.data }, { on := 2, ground := Ground.guard }], guard := some (2, false) }) (v := .agg Y) rfl (by kernel_rfl) (by kernel_rfl) (by kernel_rfl) (fun _ _ _ h => h) (yieldsIf_mid (by rfl) 26 (.tmp 87) rfl g (o + 36 * k) rfl Y _ (fun _ h => h.2) Try.underlying26 rfl HSY.out) hHeld ?_
          try simp only [Act.put, List.setIfInBounds_toArray, List.set_cons_zero, List.set_cons_succ]
          refine wpAnyH_take (i := 8) (oi := { dst := some 89, op := Op.binOp BinOp.neq 26 (Operand.tmp 84) (Operand.tmp 88) 26, type := 4, pos := "law.go:86", after := #[{ on := 3, ground := Ground.data }, { on := 7, ground := Ground.data }, { on := 2, ground := Ground.guard }], guard := some (2, false) }) (v := .bool false) rfl (by kernel_rfl) (by kernel_rfl) (by kernel_rfl) (fun _ _ _ h => h) (Or.inl ⟨by rfl, by intro W hSw; have := hqn W; go_simp⟩) hHeld ?_
          try simp only [Act.put, List.setIfInBounds_toArray, List.set_cons_zero, List.set_cons_succ]
          refine wpAnyH_take (i := 9) (oi := { dst := some 90, op := Op.pick (Operand.tmp 83) (Operand.const (Value.bool true)) (Operand.tmp 89), type := 4, pos := "law.go:86", after := #[{ on := 2, ground := Ground.data }, { on := 8, ground := Ground.data }], guard := none }) (v := .bool false) rfl (by kernel_rfl) (by kernel_rfl) (by kernel_rfl) (fun _ _ _ h => h) (Or.inl ⟨by rfl, by intro w hSw; go_simp⟩) hHeld ?_
          try simp only [Act.put, List.setIfInBounds_toArray, List.set_cons_zero, List.set_cons_succ]
          refine wpAnyH_done (by kernel_rfl) ?_ _
          go_wp2
          go_roundw
          case rel => exact ⟨k + 1, by omega, by go_num, (HBL.out.trans (hHeld0.out.mono HBL.out.size)).drew⟩
          case measure => simp [intOf]; omega
        · refine step_new_var (by rfl) 26 rfl Z HA.out ?_
          intro g10 w15 HM
          have HR10 := hidk HM.out.row
          have HG10 : Hid (wr.heap.size ≤ g10) := (by show _ ≤ _; rw [HM.out.new]; exact hHeld.size)
          refine hK.out _ _ (hHeld.trans (HM.out.below.mono hHeld.size)) (fun hHeld => ?_)
          clear hK K
          try simp only [Act.put, List.setIfInBounds_toArray, List.set_cons_zero, List.set_cons_succ]
          refine wpAnyH_ready (rs := [11]) (by kernel_rfl) (by simp) ?_
          refine (AllReadyH.cons (o := { dst := some 78, op := Op.call { callee := Callee.value (Operand.func 11), args := #[Operand.tmp 67, Operand.tmp 72, Operand.tmp 77], argTypes := #[22, 3, 3] }, type := 30, pos := "law.go:85", after := #[{ on := 0, ground := Ground.data }, { on := 5, ground := Ground.data }, { on := 10, ground := Ground.data }], guard := none }) rfl (fun K hK => ?_) AllReadyH.nil)
          go_simp
          refine (FI.out _ hHeld).mono ?_
          rintro e w11 ⟨rfl, hb11⟩
          try replace HR10 := hidk ((hb11.block _ (heap_lt HR10.out)).trans HR10.out)
          go_wp2_with fail
          refine hK.out _ _ (hHeld.trans (hb11.mono hHeld.size)) (fun hHeld => ?_)
          clear hK K
          try simp only [Act.put, List.setIfInBounds_toArray, List.set_cons_zero, List.set_cons_succ]
          refine wpAnyH_take (i := 12) (oi := { dst := some 66, op := Op.move (Operand.tmp 78), type := 30, pos := "law.go:85", after := #[{ on := 11, ground := Ground.data }], guard := none }) (v := .tuple #[.agg Y, .bool true]) rfl (by kernel_rfl) (by kernel_rfl) (by kernel_rfl) (fun _ _ _ h => h) (Or.inl ⟨by rfl, by intro W hSw; go_simp⟩) hHeld ?_
          try simp only [Act.put, List.setIfInBounds_toArray, List.set_cons_zero, List.set_cons_succ]
          refine wpAnyH_take (i := 13) (oi := { dst := some 79, op := Op.extract (Operand.tmp 66) 0, type := 26, pos := "law.go:85", after := #[{ on := 12, ground := Ground.data }], guard := none }) (v := .agg Y) rfl (by kernel_rfl) (by kernel_rfl) (by kernel_rfl) (fun _ _ _ h => h) (Or.inl ⟨by rfl, by intro W hSw; go_simp⟩) hHeld ?_
          try simp only [Act.put, List.setIfInBounds_toArray, List.set_cons_zero, List.set_cons_succ]
          refine wpAnyH_take (i := 14) (oi := { dst := some 80, op := Op.extract (Operand.tmp 66) 1, type := 4, pos := "law.go:85", after := #[{ on := 12, ground := Ground.data }, { on := 16, ground := Ground.gcOnly Departure.lateStores }], guard := none }) (v := .bool true) rfl (by kernel_rfl) (by kernel_rfl) (by kernel_rfl) (fun _ _ _ h => h) (Or.inl ⟨by rfl, by intro W hSw; go_simp⟩) hHeld ?_
          try simp only [Act.put, List.setIfInBounds_toArray, List.set_cons_zero, List.set_cons_succ]
          refine wpAnyH_ready (rs := [16]) (by kernel_rfl) (by simp) ?_
          refine (AllReadyH.cons (o := { dst := none, op := Op.store 26 (Operand.tmp 10) (Operand.tmp 79), type := 0, pos := "law.go:85", after := #[{ on := 15, ground := Ground.data }, { on := 13, ground := Ground.data }, { on := 11, ground := Ground.chain }, { on := 0, ground := Ground.phase }, { on := 1, ground := Ground.phase }, { on := 2, ground := Ground.phase }, { on := 3, ground := Ground.phase }, { on := 4, ground := Ground.phase }, { on := 5, ground := Ground.phase }, { on := 6, ground := Ground.phase }, { on := 7, ground := Ground.phase }, { on := 8, ground := Ground.phase }, { on := 9, ground := Ground.phase }, { on := 10, ground := Ground.phase }, { on := 11, ground := Ground.phase }, { on := 12, ground := Ground.phase }, { on := 13, ground := Ground.phase }, { on := 14, ground := Ground.textOnly Departure.lateStores }, { on := 15, ground := Ground.phase }], guard := none }) rfl (fun K hK => ?_) AllReadyH.nil)
          refine step_set_var (by rfl) 26 (.tmp 10) (.tmp 79) rfl g10 Y rfl rfl 26 Z HR10.out HSY.out HZY.out H1Y.out ?_
          intro w16 HW
          refine hK.out _ _ (HW.out.below _ _ hHeld HG10.out) (fun hHeld => ?_)
          clear hK K
          try simp only [Act.put, List.setIfInBounds_toArray, List.set_cons_zero, List.set_cons_succ]
          refine wpAnyH_take (i := 17) (oi := { dst := some 11, op := Op.assign (Operand.tmp 80), type := 4, pos := "law.go:85", after := #[{ on := 14, ground := Ground.data }, { on := 16, ground := Ground.chain }, { on := 0, ground := Ground.phase }, { on := 1, ground := Ground.phase }, { on := 2, ground := Ground.phase }, { on := 3, ground := Ground.phase }, { on := 4, ground := Ground.phase }, { on := 5, ground := Ground.phase }, { on := 6, ground := Ground.phase }, { on := 7, ground := Ground.phase }, { on := 8, ground := Ground.phase }, { on := 9, ground := Ground.phase }, { on := 10, ground := Ground.phase }, { on := 11, ground := Ground.phase }, { on := 12, ground := Ground.phase }, { on := 13, ground := Ground.phase }, { on := 14, ground := Ground.phase }, { on := 15, ground := Ground.phase }, { on := 16, ground := Ground.phase }], guard := none }) (v := .bool true) rfl (by kernel_rfl) (by kernel_rfl) (by kernel_rfl) (fun _ _ _ h => h) (Or.inl ⟨by rfl, by intro W hSw; go_simp⟩) hHeld ?_
          try simp only [Act.put, List.setIfInBounds_toArray, List.set_cons_zero, List.set_cons_succ]
          refine wpAnyH_done (by kernel_rfl) ?_ _
          have hHeld0 := hidk hHeld
          have HBN := hidk (HBR.out.trans (hHeld.mono HBR.out.size))
          have HS13 : Hid (w16.drew.rangeAt g10 0 Y.toList ∧ w16.drew.rangeAt g (o + 36 * k) Y.toList) := ⟨range_row (t := 26) (fr := (0, 0)) (by rw [Array.toArray_toList]; exact HW.out.row), HRY.out _ HBN.out.drew⟩
          have hqn := fun W => neqClaim y y HOY.out HOY.out Y Y HY HY false (by simp) W
          clear HM HR10 HG10 HW
          go_wp2
          refine wp_region_held_drew (S := (fun W => W.rangeAt g10 0 Y.toList ∧ W.rangeAt g (o + 36 * k) Y.toList)) (by kernel_rfl) HS13.out (fun hHeld => ?_)
          refine wpAnyH_take (i := 0) (oi := { dst := some 81, op := Op.move (Operand.tmp 11), type := 4, pos := "law.go:86", after := #[], guard := none }) (v := .bool true) rfl (by kernel_rfl) (by kernel_rfl) (by kernel_rfl) (fun _ _ _ h => h) (Or.inl ⟨by rfl, by intro w hSw; go_simp⟩) hHeld ?_
          try simp only [Act.put, List.setIfInBounds_toArray, List.set_cons_zero, List.set_cons_succ]
          refine wpAnyH_take (i := 1) (oi := { dst := some 82, op := Op.unOp UnOp.not 4 (Operand.tmp 81), type := 4, pos := "law.go:86", after := #[{ on := 0, ground := Ground.data }], guard := none }) (v := .bool false) rfl (by kernel_rfl) (by kernel_rfl) (by kernel_rfl) (fun _ _ _ h => h) (Or.inl ⟨by rfl, by intro w hSw; go_simp⟩) hHeld ?_
          try simp only [Act.put, List.setIfInBounds_toArray, List.set_cons_zero, List.set_cons_succ]
          refine wpAnyH_take (i := 2) (oi := { dst := some 83, op := Op.move (Operand.tmp 82), type := 4, pos := "law.go:86", after := #[{ on := 1, ground := Ground.data }], guard := none }) (v := .bool false) rfl (by kernel_rfl) (by kernel_rfl) (by kernel_rfl) (fun _ _ _ h => h) (Or.inl ⟨by rfl, by intro w hSw; go_simp⟩) hHeld ?_
          try simp only [Act.put, List.setIfInBounds_toArray, List.set_cons_zero, List.set_cons_succ]
          refine wpAnyH_take (i := 3) (oi := { dst := some 84, op := Op.load 26 (Operand.tmp 10), type := 26, pos := "law.go:86", after := #[{ on := 2, ground := Ground.guard }], guard := some (2, false) }) (v := .agg Y) rfl (by kernel_rfl) (by kernel_rfl) (by kernel_rfl) (fun _ _ _ h => h) (yieldsIf_mid (by rfl) 26 (.tmp 10) rfl g10 0 rfl Y _ (fun _ h => h.1) Try.underlying26 rfl HSY.out) hHeld ?_
          try simp only [Act.put, List.setIfInBounds_toArray, List.set_cons_zero, List.set_cons_succ]
          refine wpAnyH_take (i := 4) (oi := { dst := some 85, op := Op.move (Operand.tmp 0), type := 22, pos := "law.go:86", after := #[{ on := 2, ground := Ground.guard }], guard := some (2, false) }) (v := .slice (some ⟨g, o, none⟩) len cap) rfl (by kernel_rfl) (by kernel_rfl) (by kernel_rfl) (fun _ _ _ h => h) (Or.inl ⟨by rfl, by intro w hSw; go_simp⟩) hHeld ?_
          try simp only [Act.put, List.setIfInBounds_toArray, List.set_cons_zero, List.set_cons_succ]
          refine wpAnyH_take (i := 5) (oi := { dst := some 86, op := Op.move (Operand.tmp 9), type := 3, pos := "law.go:86", after := #[{ on := 2, ground := Ground.guard }], guard := some (2, false) }) (v := .int .i64 k) rfl (by kernel_rfl) (by kernel_rfl) (by kernel_rfl) (fun _ _ _ h => h) (Or.inl ⟨by rfl, by intro w hSw; go_simp⟩) hHeld ?_
          try simp only [Act.put, List.setIfInBounds_toArray, List.set_cons_zero, List.set_cons_succ]
          refine wpAnyH_take (i := 6) (oi := { dst := some 87, op := Op.indexAddr 22 (Operand.tmp 85) (Operand.tmp 86), type := 0, pos := "law.go:86", after := #[{ on := 4, ground := Ground.data }, { on := 5, ground := Ground.data }, { on := 2, ground := Ground.guard }], guard := some (2, false) }) (v := .pointer (some ⟨g, o + 36 * k, none⟩)) rfl (by kernel_rfl) (by kernel_rfl) (by kernel_rfl) (fun _ _ _ h => h) (Or.inl ⟨by rfl, by intro W hSw; have := ix W; go_simp⟩) hHeld ?_
          try simp only [Act.put, List.setIfInBounds_toArray, List.set_cons_zero, List.set_cons_succ]
          refine wpAnyH_take (i := 7) (oi := { dst := some 88, op := Op.load 26 (Operand.tmp 87), type := 26, pos := "law.go:86", after := #[{ on := 6, ground := Ground.data }, { on := 2, ground := Ground.guard }], guard := some (2, false) }) (v := .agg Y) rfl (by kernel_rfl) (by kernel_rfl) (by kernel_rfl) (fun _ _ _ h => h) (yieldsIf_mid (by rfl) 26 (.tmp 87) rfl g (o + 36 * k) rfl Y _ (fun _ h => h.2) Try.underlying26 rfl HSY.out) hHeld ?_
          try simp only [Act.put, List.setIfInBounds_toArray, List.set_cons_zero, List.set_cons_succ]
          refine wpAnyH_take (i := 8) (oi := { dst := some 89, op := Op.binOp BinOp.neq 26 (Operand.tmp 84) (Operand.tmp 88) 26, type := 4, pos := "law.go:86", after := #[{ on := 3, ground := Ground.data }, { on := 7, ground := Ground.data }, { on := 2, ground := Ground.guard }], guard := some (2, false) }) (v := .bool false) rfl (by kernel_rfl) (by kernel_rfl) (by kernel_rfl) (fun _ _ _ h => h) (Or.inl ⟨by rfl, by intro W hSw; have := hqn W; go_simp⟩) hHeld ?_
          try simp only [Act.put, List.setIfInBounds_toArray, List.set_cons_zero, List.set_cons_succ]
          refine wpAnyH_take (i := 9) (oi := { dst := some 90, op := Op.pick (Operand.tmp 83) (Operand.const (Value.bool true)) (Operand.tmp 89), type := 4, pos := "law.go:86", after := #[{ on := 2, ground := Ground.data }, { on := 8, ground := Ground.data }], guard := none }) (v := .bool false) rfl (by kernel_rfl) (by kernel_rfl) (by kernel_rfl) (fun _ _ _ h => h) (Or.inl ⟨by rfl, by intro w hSw; go_simp⟩) hHeld ?_
          try simp only [Act.put, List.setIfInBounds_toArray, List.set_cons_zero, List.set_cons_succ]
          refine wpAnyH_done (by kernel_rfl) ?_ _
          go_wp2
          go_roundw
          case rel => exact ⟨k + 1, by omega, by go_num, (HBL.out.trans (hHeld0.out.mono HBL.out.size)).drew⟩
          case measure => simp [intOf]; omega
      · have hd : decide ((k : Int) < (len : Int)) = false := by rw [decide_eq_false_iff_not]; omega
        go_wp2_with fail
        refine (records_true _).mono ?_
        rintro e w7 ⟨rfl, hb7⟩
        have HB7 := hidk (HBR.out.trans (hb7.mono HBR.out.size))
        clear hb7
        go_wp2
        go_ret
        exact ⟨rfl, HB7.out⟩
  · have HN0 : Hid (m = 0) := by
      show _ = _
      rw [← hm, ← hM]
      unfold recL
      rw [if_neg (by rw [hE]; exact hE0)]
      rfl
    obtain rfl := HN0.out
    have hv : E = 110 ∨ E = 111 := by
      rcases recE_vals l c with h | h | h
      · rw [hE] at h; exact absurd h hE0
      · rw [hE] at h; exact .inl h
      · rw [hE] at h; exact .inr h
    clear hM hm hE hE0 HN0
    rcases hv with rfl | rfl
    · go_enter Try.func5, Try.ntmps5
      go_wp2_with (first
        | (show wpList _ _ _ ({ dst := some 17, op := _, type := _, pos := _, after := _, guard := _ } :: _) _ _; refine wpList_mid_w (by rfl) 26 (.tmp 3) rfl w.heap.size 0 rfl X _ HX0.out Try.underlying26 rfl HSX.out ?_; try simp only [Act.put, List.setIfInBounds_toArray, List.set_cons_zero, List.set_cons_succ])
        | fail)
      refine RC.out.mono ?_
      rintro e w1 ⟨a5, c5, rfl, hr5, hn5, _, hb1⟩
      have HB1 := hidk (HB0.out.trans (hb1.mono (by simp)))
      clear hb1 hr5 hn5 RC
      go_wp2_with fail
      refine (records_true _).mono ?_
      rintro e w2 ⟨rfl, hb2⟩
      have HB2 := hidk (HB1.out.trans (hb2.mono HB1.out.size))
      clear hb2
      go_wp2
      go_ret
      exact ⟨rfl, HB2.out⟩
    · go_enter Try.func5, Try.ntmps5
      go_wp2_with (first
        | (show wpList _ _ _ ({ dst := some 17, op := _, type := _, pos := _, after := _, guard := _ } :: _) _ _; refine wpList_mid_w (by rfl) 26 (.tmp 3) rfl w.heap.size 0 rfl X _ HX0.out Try.underlying26 rfl HSX.out ?_; try simp only [Act.put, List.setIfInBounds_toArray, List.set_cons_zero, List.set_cons_succ])
        | fail)
      refine RC.out.mono ?_
      rintro e w1 ⟨a5, c5, rfl, hr5, hn5, _, hb1⟩
      have HB1 := hidk (HB0.out.trans (hb1.mono (by simp)))
      clear hb1 hr5 hn5 RC
      go_wp2_with fail
      refine (records_true _).mono ?_
      rintro e w2 ⟨rfl, hb2⟩
      have HB2 := hidk (HB1.out.trans (hb2.mono HB1.out.size))
      clear hb2
      go_wp2
      go_ret
      exact ⟨rfl, HB2.out⟩
theorem claimsKeeps_in (ad : Option Addr) (len cap : Nat) (l : List ClT) (c : ClT) (w : World) (h : CReads w ad len cap l) (hn : ad = none → cap = 0) (_ : ∀ x ∈ l, InC x) (hx : InC c) :
    Calls Try.prog 5 #[.slice ad len cap, claimV c] w fun e w' => e = .returned (.bool true) ∧ Below w.heap.size w w' :=
  claimsKeeps_x ad len cap l c _ (hidk rfl) w h hn hx.d
end Go.Proofs.Ytieklabpdalahaa

/- Addresses that came in, one and a slice of them. -/
namespace Go.Proofs.Ytieklabpdalahaa
open Go.RowKit Sums Nums Go.ChangeShapes
set_option linter.unusedVariables false
set_option linter.unusedSimpArgs false
set_option maxRecDepth 100000
variable {H : Type} {enc : TypeId × Value → H} {W : World} {base : Nat} {sp : Nat → Bool} {held : Bool} {fuel : Nat} {x : DataW H × List MemPlace}
end Go.Proofs.Ytieklabpdalahaa
