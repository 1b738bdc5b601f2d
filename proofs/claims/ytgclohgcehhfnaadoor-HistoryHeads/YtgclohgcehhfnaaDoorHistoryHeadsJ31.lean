/- Texts of our own that the row of HistoryHeads leans on, part 31. -/
import Derived.Test.YtgclohgcehhfnaaDoorHistoryHeadsJ25
import Derived.Test.YtgclohgcehhfnaaDoorHistoryHeadsJ27
import Derived.Test.YtgclohgcehhfnaaDoorHistoryHeadsJ30

/- HistoryHeads. -/
namespace Go.Proofs.YtgclohgcehhfnaaDoor
open Go.RowKit Nums Sums
set_option linter.unusedVariables false
set_option linter.unusedSimpArgs false
set_option maxRecDepth 100000
theorem hdE_inv {l : List ItT} {n r e t : Int} (h : hdE l n r e t = 0) : sizeX l n = 0 ∧ rightH (headX l n r e t) = true ∧ hdO l n r e t = headX l n r e t := by
  by_cases h1 : sizeX l n = 0
  · by_cases h2 : rightH (headX l n r e t) = true
    · exact ⟨h1, h2, (hdE_ok h1 h2).2⟩
    · have := (hdE_bad h1 (by simpa using h2)).1; omega
  · have := (hdE_no (r := r) (e := e) (t := t) h1).1; omega
theorem hdO_zero {l : List ItT} {n r e t : Int} (h : hdE l n r e t ≠ 0) : hdO l n r e t = zeroH := by unfold hdO; rw [if_neg h]
/-- A log that came in and is not too big. -/
theorem inL_of {w : World} {a : Option Addr} {len cap : Nat} {l : List ItT} (h : IReads w a len cap l) (hc0 : a = none → cap = 0) (hm : ∀ x ∈ l, CmI x) (hb : bigL l = false) : InL w a len cap l := by
  obtain ⟨h1, h2⟩ := bigL_false hb
  exact ⟨h, hc0, fun x hx => (hm x hx).in (by have := h2 x hx; omega), by have := h.ln; omega⟩
set_option maxHeartbeats 16000000 in
theorem historyHeads_of (ck : EntryC) (hc : HistoryC) (a : Option Addr) (len cap : Nat) (l : List ItT) (n r e t : Int) (w : World) (h : IReads w a len cap l) (hc0 : a = none → cap = 0) (hm : ∀ x ∈ l, CmI x) (hn : In64 n) (hr : In64 r) (he : In64 e) (ht : In64 t) (hT : TabH w) :
    Calls Tryd.prog 7 #[.slice a len cap, .int .i64 n, .int .i64 r, .int .i64 e, .int .i64 t] w fun x w' => x = .returned (.bool true) ∧ Below w.heap.size w w' := by
  have BG := hidk (refBig_any a len cap l w h (fun x hx => (hm x hx).e.t))
  obtain ⟨b, Hb⟩ : ∃ b, Hid (bigL l = b) := ⟨_, hidk rfl⟩
  rw [Hb.out] at BG
  cases b
  · have hin := inL_of h hc0 hm Hb.out
    obtain ⟨D, HD⟩ : ∃ D : Array Value, Hid (D = (cellsOf (rootO l n)).toArray) := ⟨_, hidk rfl⟩
    obtain ⟨C, HC⟩ : ∃ C : Array Value, Hid (C = (hcells (hdO l n r e t)).toArray) := ⟨_, hidk rfl⟩
    obtain ⟨Z, HZ, HA, HS, H1, H32⟩ := noughts27
    obtain ⟨ZH, HZH, HAH, HBZH, H36⟩ := noughtsH
    have h32 : (rootO l n).length = 32 := rootO_length l n
    have hdR := hdO_digs l n r e t
    have HSD : Hid ((Tryd.prog.info? 26).map (·.size) = some D.size) := by show _ = _; rw [size23, HD.out]; simp [cellsOf_length, h32]
    have HZD : Hid (Z.size = D.size) := by show _ = _; rw [H32.out, HD.out]; simp [cellsOf_length, h32]
    have H1D : Hid (D.all (·.oneCell') = true) := by show _ = _; rw [HD.out]; exact cellsOf_all _
    have HSC : Hid ((Tryd.prog.info? 31).map (·.size) = some C.size) := by show _ = _; rw [sizeH, HC.out]; simp [hcells_length _ hdR]
    have H1C : Hid (C.all (·.oneCell') = true) := by show _ = _; rw [HC.out]; exact one_cells _
    have HZC : Hid (ZH.size = C.size) := by show _ = _; rw [H36.out, HC.out]; simp [hcells_length _ hdR]
    have CH : Hid (Calls Tryd.prog 12 #[.slice a len cap, .int .i64 n, .int .i64 r, .int .i64 e, .int .i64 t] w fun x w' => x = .returned (.tuple #[.agg C, .int .i64 (hdE l n r e t)]) ∧ Below w.heap.size w w') := hc.head a len cap l n r e t w hin hn hr he ht C HC hT
    have CR : Hid (∀ W, Below w.heap.size w W → Calls Tryd.prog 10 #[.slice a len cap, .int .i64 n] W fun e w' => e = .returned (.tuple #[.agg D, .int .i64 (sizeX l n)]) ∧ Below W.heap.size W w') := fun W hb => hc.root a len cap l n W (hin.keep hb) hn D HD (hT.keep hb)
    have RT : Hid (∀ W, Below w.heap.size w W → Calls Tryd.prog 14 #[] W fun e w' => e = .returned (.bool true) ∧ Below W.heap.size W w') := fun W hb => roots_true ck hc W (hT.keep hb)
    by_cases hE : hdE l n r e t = 0
    · obtain ⟨e1, e2, e3⟩ := hdE_inv hE
      rw [hE] at CH
      rw [e1] at CR
      have RG : Hid (∀ W, Calls Tryd.prog 28 #[.agg C] W fun x w' => x = .returned (.bool true) ∧ Below W.heap.size W w') := fun W => by
        have := refRight_any (hdO l n r e t) hdR W C HC
        rwa [e3, e2] at this
      have hrt : rootO l n = root (leavesL (l.take n.toNat)) := by unfold rootO; rw [if_pos e1]
      have HCC : C = (hcells ⟨r, e, n, rootO l n, t⟩).toArray := by rw [HC.out, e3, hrt]; rfl
      have HCL : Hid (∀ (W : World) (b : Nat), W.heap[b]? = some (.cells C 31 (0, 0)) → W.cell? ⟨b, 0, none⟩ = some (.int .i64 r) ∧ W.cell? ⟨b, 1, none⟩ = some (.int .i64 e) ∧ W.cell? ⟨b, 2, none⟩ = some (.int .i64 n) ∧ W.cell? ⟨b, 35, none⟩ = some (.int .i64 t) ∧ W.rangeAt b 3 D.toList) := fun W b hh => by
        have hw : W.rangeAt b 0 (hcells ⟨r, e, n, rootO l n, t⟩) := by
          have := range_row (l := hcells ⟨r, e, n, rootO l n, t⟩) (W := W) (g := b) (t := 31) (fr := (0, 0)) (by rw [← HCC]; exact hh)
          exact this
        have hrow := hrow_of (o := 0) (h := ⟨r, e, n, rootO l n, t⟩) h32 hw
        refine ⟨by simpa using hrow.r, by simpa using hrow.e, by simpa using hrow.s, by simpa using hrow.t, ?_⟩
        rw [HD.out]
        intro j v hj
        have := hw (3 + j) v (by
          unfold hcells
          rw [List.append_assoc, List.getElem?_append_right (by simp), List.getElem?_append_left (by have := (List.getElem?_eq_some_iff.1 hj).1; simpa using this)]
          simpa using hj)
        rwa [Nat.zero_add] at this
      have EQD : Hid (∀ W, (binOp .eql 26 (.agg D) (.agg D)).run Tryd.prog W = .ok (.bool true) W) := fun W => eqDigV _ _ h32 h32 D D HD HD true (by simp) W
      have eqd := EQD.out
      clear ck hc h hc0 hm hn hr he ht hT Hb hin HD HC HZ HZH h32 hdR hE e1 e2 e3 hrt HCC
      go_enter Tryd.func7, Tryd.ntmps7
      go_wp2_with fail
      refine BG.out.mono ?_
      rintro x w1 ⟨rfl, rfl⟩
      go_wp2_with fail
      refine CH.out.mono ?_
      rintro x v2 ⟨rfl, hb2⟩
      have HB2 := hidk hb2
      clear hb2
      go_wp2_with (first
        | (show wpList _ _ _ ({ dst := some 11, op := _, type := _, pos := _, after := _, guard := _ } :: _) _ _; refine wpList_new_var rfl 31 rfl ZH HAH.out ?_; intro g11 u3 HM; have HG := hidk HM.out.row; try simp only [Act.put, List.setIfInBounds_toArray, List.set_cons_zero, List.set_cons_succ])
        | (refine wpList_set_var rfl 31 (.tmp 11) (.tmp 24) rfl g11 C rfl rfl 31 ZH HG.out HSC.out HZC.out H1C.out ?_; intro v3 HW; have hbj : Below v2.heap.size v2 v3 := HW.out.below _ _ HM.out.below (by rw [HM.out.new]; exact Nat.le_refl _); have HG11_3 := hidk HW.out.row; have HB3 := hidk (HB2.out.trans (hbj.mono HB2.out.size)); clear hbj HM HG HW; try simp only [Act.put, List.setIfInBounds_toArray, List.set_cons_zero, List.set_cons_succ])
        | fail)
      refine (CR.out _ HB3.out).mono ?_
      rintro x v4 ⟨rfl, hbj⟩
      have HB4 := hidk (HB3.out.trans (hbj.mono HB3.out.size))
      have HG11_4 := hidk ((hbj.block _ (heap_lt HG11_3.out)).trans HG11_3.out)
      clear hbj
      go_wp2_with (first
        | (show wpList _ _ _ ({ dst := some 13, op := _, type := _, pos := _, after := _, guard := _ } :: _) _ _; refine wpList_new_var rfl 26 rfl Z HA.out ?_; intro g13 u5 HM; have HG := hidk HM.out.row; try simp only [Act.put, List.setIfInBounds_toArray, List.set_cons_zero, List.set_cons_succ])
        | (refine wpList_set_var rfl 26 (.tmp 13) (.tmp 30) rfl g13 D rfl rfl 26 Z HG.out HSD.out HZD.out H1D.out ?_; intro v5 HW; have hbj : Below v4.heap.size v4 v5 := HW.out.below _ _ HM.out.below (by rw [HM.out.new]; exact Nat.le_refl _); have HG13_5 := hidk HW.out.row; have HB5 := hidk (HB4.out.trans (hbj.mono HB4.out.size)); have HG11_5 := hidk ((hbj.block _ (heap_lt HG11_4.out)).trans HG11_4.out); clear hbj HM HG HW; try simp only [Act.put, List.setIfInBounds_toArray, List.set_cons_zero, List.set_cons_succ])
        | fail)
      refine (RT.out _ HB5.out).mono ?_
      rintro x v6 ⟨rfl, hbj⟩
      have HB6 := hidk (HB5.out.trans (hbj.mono HB5.out.size))
      have HG11_6 := hidk ((hbj.block _ (heap_lt HG11_5.out)).trans HG11_5.out)
      have HG13_6 := hidk ((hbj.block _ (heap_lt HG13_5.out)).trans HG13_5.out)
      clear hbj
      go_wp2_with (first
        | (show wpList _ _ _ ({ dst := some 46, op := _, type := _, pos := _, after := _, guard := _ } :: _) _ _; refine wpList_load_row_w (by rfl) 31 (.tmp 11) rfl g11 rfl 31 C (0, 0) _ HG11_6.out Tryd.underlying31 rfl HSC.out ?_; try simp only [Act.put, List.setIfInBounds_toArray, List.set_cons_zero, List.set_cons_succ])
        | fail)
      refine (RG.out _).mono ?_
      rintro x v7 ⟨rfl, hbj⟩
      have HB7 := hidk (HB6.out.trans (hbj.mono HB6.out.size))
      have HG11_7 := hidk ((hbj.block _ (heap_lt HG11_6.out)).trans HG11_6.out)
      have HG13_7 := hidk ((hbj.block _ (heap_lt HG13_6.out)).trans HG13_6.out)
      obtain ⟨c0, c1, c2, c35, HR3⟩ := HCL.out _ _ HG11_7.out
      have HRD := hidk HR3
      clear hbj HR3
      go_wp2_with (first
        | (show wpList _ _ _ ({ dst := some 57, op := _, type := _, pos := _, after := _, guard := _ } :: _) _ _; refine wpList_mid_w (by rfl) 26 (.tmp 56) rfl g11 3 rfl D _ HRD.out Tryd.underlying26 rfl HSD.out ?_; try simp only [Act.put, List.setIfInBounds_toArray, List.set_cons_zero, List.set_cons_succ])
        | (show wpList _ _ _ ({ dst := some 58, op := _, type := _, pos := _, after := _, guard := _ } :: _) _ _; refine wpList_load_row_w (by rfl) 26 (.tmp 13) rfl g13 rfl 26 D (0, 0) _ HG13_7.out Tryd.underlying26 rfl HSD.out ?_; try simp only [Act.put, List.setIfInBounds_toArray, List.set_cons_zero, List.set_cons_succ])
        | fail)
      go_ret
      exact ⟨rfl, HB7.out⟩
    · have hCZ : C = ZH := by rw [HC.out, HZH.out, hdO_zero hE]
      obtain ⟨s, Hs⟩ : ∃ s, Hid (hdE l n r e t = s) := ⟨_, hidk rfl⟩
      rw [Hs.out] at CH hE
      have hne : (!(s == 0)) = true := by simp [hE]
      have EQH : Hid (∀ W, (binOp .eql 31 (.agg C) (.agg C)).run Tryd.prog W = .ok (.bool true) W) := fun W => eqHead _ _ hdR hdR C C HC HC true (by simp) W
      have eqh := EQH.out
      clear ck hc h hc0 hm hn hr he ht hT Hb hin HD HC HZ HZH h32 hdR Hs
      subst hCZ
      go_enter Tryd.func7, Tryd.ntmps7
      go_wp2_with fail
      refine BG.out.mono ?_
      rintro x w1 ⟨rfl, rfl⟩
      go_wp2_with fail
      refine CH.out.mono ?_
      rintro x v2 ⟨rfl, hb2⟩
      have HB2 := hidk hb2
      clear hb2
      go_wp2_with (first
        | (show wpList _ _ _ ({ dst := some 11, op := _, type := _, pos := _, after := _, guard := _ } :: _) _ _; refine wpList_new_var rfl 31 rfl C HAH.out ?_; intro g11 u3 HM; have HG := hidk HM.out.row; try simp only [Act.put, List.setIfInBounds_toArray, List.set_cons_zero, List.set_cons_succ])
        | (refine wpList_set_var rfl 31 (.tmp 11) (.tmp 24) rfl g11 C rfl rfl 31 C HG.out HSC.out rfl H1C.out ?_; intro v3 HW; have hbj : Below v2.heap.size v2 v3 := HW.out.below _ _ HM.out.below (by rw [HM.out.new]; exact Nat.le_refl _); have HG11_3 := hidk HW.out.row; have HB3 := hidk (HB2.out.trans (hbj.mono HB2.out.size)); clear hbj HM HG HW; try simp only [Act.put, List.setIfInBounds_toArray, List.set_cons_zero, List.set_cons_succ])
        | fail)
      refine (CR.out _ HB3.out).mono ?_
      rintro x v4 ⟨rfl, hbj⟩
      have HB4 := hidk (HB3.out.trans (hbj.mono HB3.out.size))
      have HG11_4 := hidk ((hbj.block _ (heap_lt HG11_3.out)).trans HG11_3.out)
      clear hbj
      go_wp2_with (first
        | (show wpList _ _ _ ({ dst := some 13, op := _, type := _, pos := _, after := _, guard := _ } :: _) _ _; refine wpList_new_var rfl 26 rfl Z HA.out ?_; intro g13 u5 HM; have HG := hidk HM.out.row; try simp only [Act.put, List.setIfInBounds_toArray, List.set_cons_zero, List.set_cons_succ])
        | (refine wpList_set_var rfl 26 (.tmp 13) (.tmp 30) rfl g13 D rfl rfl 26 Z HG.out HSD.out HZD.out H1D.out ?_; intro v5 HW; have hbj : Below v4.heap.size v4 v5 := HW.out.below _ _ HM.out.below (by rw [HM.out.new]; exact Nat.le_refl _); have HG13_5 := hidk HW.out.row; have HB5 := hidk (HB4.out.trans (hbj.mono HB4.out.size)); have HG11_5 := hidk ((hbj.block _ (heap_lt HG11_4.out)).trans HG11_4.out); clear hbj HM HG HW; try simp only [Act.put, List.setIfInBounds_toArray, List.set_cons_zero, List.set_cons_succ])
        | fail)
      refine (RT.out _ HB5.out).mono ?_
      rintro x v6 ⟨rfl, hbj⟩
      have HB6 := hidk (HB5.out.trans (hbj.mono HB5.out.size))
      have HG11_6 := hidk ((hbj.block _ (heap_lt HG11_5.out)).trans HG11_5.out)
      clear hbj
      go_wp2_with (first
        | (show wpList _ _ _ ({ dst := some 36, op := _, type := _, pos := _, after := _, guard := _ } :: _) _ _; refine wpList_load_row_w (by rfl) 31 (.tmp 11) rfl g11 rfl 31 C (0, 0) _ HG11_6.out Tryd.underlying31 rfl HSC.out ?_; try simp only [Act.put, List.setIfInBounds_toArray, List.set_cons_zero, List.set_cons_succ])
        | (show wpList _ _ _ ({ dst := some 37, op := _, type := _, pos := _, after := _, guard := _ } :: _) _ _; refine wpList_build_none_w (by rfl) 31 rfl C HBZH.out ?_; try simp only [Act.put, List.setIfInBounds_toArray, List.set_cons_zero, List.set_cons_succ])
        | fail)
      go_ret
      exact ⟨rfl, HB6.out⟩
  · clear ck hc h hc0 hm hn hr he ht hT Hb
    go_enter Tryd.func7, Tryd.ntmps7
    go_wp2_with fail
    refine BG.out.mono ?_
    rintro x w1 ⟨rfl, rfl⟩
    go_wp2
    go_ret
    exact ⟨rfl, Below.refl _ _⟩
end Go.Proofs.YtgclohgcehhfnaaDoor
