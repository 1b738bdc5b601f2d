/- Texts of our own that the row of HistoryRoots leans on, part 31. -/
import Derived.Test.YtgclohgcehhfnaaDoorHistoryRootsJ25
import Derived.Test.YtgclohgcehhfnaaDoorHistoryRootsJ27
import Derived.Test.YtgclohgcehhfnaaDoorHistoryRootsJ30

/- HistoryHeads. -/
namespace Go.Proofs.YtgclohgcehhfnaaDoor
open Go.RowKit Nums Sums
set_option linter.unusedVariables false
set_option linter.unusedSimpArgs false
set_option maxRecDepth 100000
/-- A log that came in and is not too big. -/
theorem inL_of {w : World} {a : Option Addr} {len cap : Nat} {l : List ItT} (h : IReads w a len cap l) (hc0 : a = none → cap = 0) (hm : ∀ x ∈ l, CmI x) (hb : bigL l = false) : InL w a len cap l := by
  obtain ⟨h1, h2⟩ := bigL_false hb
  exact ⟨h, hc0, fun x hx => (hm x hx).in (by have := h2 x hx; omega), by have := h.ln; omega⟩
end Go.Proofs.YtgclohgcehhfnaaDoor

/- HistoryRoots. -/
namespace Go.Proofs.YtgclohgcehhfnaaDoor
open Go.RowKit Nums Sums
set_option linter.unusedVariables false
set_option linter.unusedSimpArgs false
set_option maxRecDepth 100000
set_option maxHeartbeats 16000000 in
theorem historyRoots_of (ck : EntryC) (hc : HistoryC) (a : Option Addr) (len cap : Nat) (l : List ItT) (n r e t : Int) (w : World) (h : IReads w a len cap l) (hc0 : a = none → cap = 0) (hm : ∀ x ∈ l, CmI x) (inn : In64 n) (ir : In64 r) (ie : In64 e) (it : In64 t) (hT : TabH w) (hK : Table 0 w) :
    Calls Tryd.prog 3 #[.slice a len cap, .int .i64 n, .int .i64 r, .int .i64 e, .int .i64 t] w fun x w' => x = .returned (.bool true) ∧ Below w.heap.size w w' := by
  have BG := hidk (refBig_any a len cap l w h (fun x hx => (hm x hx).e.t))
  obtain ⟨b, Hb⟩ : ∃ b, Hid (bigL l = b) := ⟨_, hidk rfl⟩
  rw [Hb.out] at BG
  cases b
  · have hin := inL_of h hc0 hm Hb.out
    obtain ⟨D, HD⟩ : ∃ D : Array Value, Hid (D = (cellsOf (rootO l n)).toArray) := ⟨_, hidk rfl⟩
    obtain ⟨C, HC⟩ : ∃ C : Array Value, Hid (C = (hcells (hdO l n r e t)).toArray) := ⟨_, hidk rfl⟩
    obtain ⟨Z, HZ, HA, HS, H1, H32⟩ := noughts27
    obtain ⟨ZH, HZH, HAH, HBZH, H36⟩ := noughtsH
    have h32 : (rootO l n).length = 32 := rootO_length l n
    have hdR := hdO_digs l n r e t
    have HSD : Hid ((Tryd.prog.info? 26).map (·.size) = some D.size) := by show _ = _; rw [size23, HD.out]; simp [cellsOf_length, h32]
    have HZD : Hid (Z.size = D.size) := by show _ = _; rw [H32.out, HD.out]; simp [cellsOf_length, h32]
    have H1D : Hid (D.all (·.oneCell') = true) := by show _ = _; rw [HD.out]; exact cellsOf_all _
    have HSC : Hid ((Tryd.prog.info? 31).map (·.size) = some C.size) := by show _ = _; rw [sizeH, HC.out]; simp [hcells_length _ hdR]
    have H1C : Hid (C.all (·.oneCell') = true) := by show _ = _; rw [HC.out]; exact one_cells _
    have HZC : Hid (ZH.size = C.size) := by show _ = _; rw [H36.out, HC.out]; simp [hcells_length _ hdR]
    have EQD : Hid (∀ W, (binOp .eql 26 (.agg D) (.agg D)).run Tryd.prog W = .ok (.bool true) W) := fun W => eqDigV _ _ h32 h32 D D HD HD true (by simp) W
    have EQH : Hid (∀ W, (binOp .eql 31 (.agg C) (.agg C)).run Tryd.prog W = .ok (.bool true) W) := fun W => eqHead _ _ hdR hdR C C HC HC true (by simp) W
    have eqd := EQD.out
    have eqh := EQH.out
    have OW := hidk (refOwn_any a len cap l w h hc0 (by have := hin.le; omega))
    have C1 : Hid (∀ W, Below w.heap.size w W → _) := fun W hb => hc.root a len cap l n W (hin.keep hb) inn D HD (hT.keep hb)
    have C2 : Hid (∀ (W : World) (a' : Option Addr) (c' : Nat), Below w.heap.size w W → IReads W a' len c' l → _) := fun W a' c' hb hx => refRootL_any a' len c' l n W hx (hK.keep hb) D HD
    have C3 : Hid (∀ W, Below w.heap.size w W → _) := fun W hb => hc.head a len cap l n r e t W (hin.keep hb) inn ir ie it C HC (hT.keep hb)
    have C4 : Hid (∀ (W : World) (a' : Option Addr) (c' : Nat), Below w.heap.size w W → IReads W a' len c' l → _) := fun W a' c' hb hx => refHeadL_any a' len c' l n r e t W hx (hK.keep hb) C HC
    have C5 : Hid (∀ (W : World) (a' : Option Addr) (c' : Nat), Below w.heap.size w W → IReads W a' len c' l → _) := fun W a' c' hb hx => refSame_any a a' len cap c' l W (h.keep hb) hx
    have RT : Hid (∀ W, Below w.heap.size w W → Calls Tryd.prog 14 #[] W fun e w' => e = .returned (.bool true) ∧ Below W.heap.size W w') := fun W hb => roots_true ck hc W (hT.keep hb)
    obtain ⟨s, Hs⟩ : ∃ s, Hid (sizeX l n = s) := ⟨_, hidk rfl⟩
    obtain ⟨s2, Hs2⟩ : ∃ s, Hid (hdE l n r e t = s) := ⟨_, hidk rfl⟩
    simp only [Hs.out] at C1 C2
    simp only [Hs2.out] at C3 C4
    have hok := hidk (fun x hx => h.ok x hx)
    clear ck hc h hc0 hm hT Hb hin HD HC HZ HZH h32 hdR hK inn ir ie it Hs Hs2
    go_enter Tryd.func3, Tryd.ntmps3
    go_wp2_with fail
    refine BG.out.mono ?_
    rintro x w1 ⟨rfl, rfl⟩
    go_wp2_with fail
    refine OW.out.mono ?_
    rintro x v2 ⟨vo, rfl, ho, hb2⟩
    obtain ⟨ao, co, rfl, hro, _, _⟩ := IReads.own ho hok.out
    have HB2 := hidk hb2
    have HO2 := hidk hro
    clear hb2 ho hro OW
    go_wp2_with fail
    refine (C1.out _ HB2.out).mono ?_
    rintro x v3 ⟨rfl, hbj⟩
    have HB3 := hidk (HB2.out.trans (hbj.mono HB2.out.size))
    have HO3 := hidk (HO2.out.keep hbj)
    clear hbj
    go_wp2_with (first
      | (show wpList _ _ _ ({ dst := some 12, op := _, type := _, pos := _, after := _, guard := _ } :: _) _ _; refine wpList_new_var rfl 26 rfl Z HA.out ?_; intro g12 u4 HM; have HG := hidk HM.out.row; try simp only [Act.put, List.setIfInBounds_toArray, List.set_cons_zero, List.set_cons_succ])
      | (refine wpList_set_var rfl 26 (.tmp 12) (.tmp 28) rfl g12 D rfl rfl 26 Z HG.out HSD.out HZD.out H1D.out ?_; intro v4 HW; have hbj : Below v3.heap.size v3 v4 := HW.out.below _ _ HM.out.below (by rw [HM.out.new]; exact Nat.le_refl _); have HG12_4 := hidk HW.out.row; have HO4 := hidk (HO3.out.keep hbj); have HB4 := hidk (HB3.out.trans (hbj.mono HB3.out.size)); clear hbj HM HG HW; try simp only [Act.put, List.setIfInBounds_toArray, List.set_cons_zero, List.set_cons_succ])
      | fail)
    refine (C2.out _ _ _ HB4.out HO4.out).mono ?_
    rintro x v5 ⟨rfl, hbj⟩
    have HB5 := hidk (HB4.out.trans (hbj.mono HB4.out.size))
    have HO5 := hidk (HO4.out.keep hbj)
    have HG12_5 := hidk ((hbj.block _ (heap_lt HG12_4.out)).trans HG12_4.out)
    clear hbj
    go_wp2_with (first
      | (show wpList _ _ _ ({ dst := some 14, op := _, type := _, pos := _, after := _, guard := _ } :: _) _ _; refine wpList_new_var rfl 26 rfl Z HA.out ?_; intro g14 u6 HM; have HG := hidk HM.out.row; try simp only [Act.put, List.setIfInBounds_toArray, List.set_cons_zero, List.set_cons_succ])
      | (refine wpList_set_var rfl 26 (.tmp 14) (.tmp 34) rfl g14 D rfl rfl 26 Z HG.out HSD.out HZD.out H1D.out ?_; intro v6 HW; have hbj : Below v5.heap.size v5 v6 := HW.out.below _ _ HM.out.below (by rw [HM.out.new]; exact Nat.le_refl _); have HG14_6 := hidk HW.out.row; have HO6 := hidk (HO5.out.keep hbj); have HB6 := hidk (HB5.out.trans (hbj.mono HB5.out.size)); have HG12_6 := hidk ((hbj.block _ (heap_lt HG12_5.out)).trans HG12_5.out); clear hbj HM HG HW; try simp only [Act.put, List.setIfInBounds_toArray, List.set_cons_zero, List.set_cons_succ])
      | fail)
    refine (C3.out _ HB6.out).mono ?_
    rintro x v7 ⟨rfl, hbj⟩
    have HB7 := hidk (HB6.out.trans (hbj.mono HB6.out.size))
    have HO7 := hidk (HO6.out.keep hbj)
    have HG12_7 := hidk ((hbj.block _ (heap_lt HG12_6.out)).trans HG12_6.out)
    have HG14_7 := hidk ((hbj.block _ (heap_lt HG14_6.out)).trans HG14_6.out)
    clear hbj
    go_wp2_with (first
      | (show wpList _ _ _ ({ dst := some 16, op := _, type := _, pos := _, after := _, guard := _ } :: _) _ _; refine wpList_new_var rfl 31 rfl ZH HAH.out ?_; intro g16 u8 HM; have HG := hidk HM.out.row; try simp only [Act.put, List.setIfInBounds_toArray, List.set_cons_zero, List.set_cons_succ])
      | (refine wpList_set_var rfl 31 (.tmp 16) (.tmp 43) rfl g16 C rfl rfl 31 ZH HG.out HSC.out HZC.out H1C.out ?_; intro v8 HW; have hbj : Below v7.heap.size v7 v8 := HW.out.below _ _ HM.out.below (by rw [HM.out.new]; exact Nat.le_refl _); have HG16_8 := hidk HW.out.row; have HO8 := hidk (HO7.out.keep hbj); have HB8 := hidk (HB7.out.trans (hbj.mono HB7.out.size)); have HG12_8 := hidk ((hbj.block _ (heap_lt HG12_7.out)).trans HG12_7.out); have HG14_8 := hidk ((hbj.block _ (heap_lt HG14_7.out)).trans HG14_7.out); clear hbj HM HG HW; try simp only [Act.put, List.setIfInBounds_toArray, List.set_cons_zero, List.set_cons_succ])
      | fail)
    refine (C4.out _ _ _ HB8.out HO8.out).mono ?_
    rintro x v9 ⟨rfl, hbj⟩
    have HB9 := hidk (HB8.out.trans (hbj.mono HB8.out.size))
    have HO9 := hidk (HO8.out.keep hbj)
    have HG12_9 := hidk ((hbj.block _ (heap_lt HG12_8.out)).trans HG12_8.out)
    have HG14_9 := hidk ((hbj.block _ (heap_lt HG14_8.out)).trans HG14_8.out)
    have HG16_9 := hidk ((hbj.block _ (heap_lt HG16_8.out)).trans HG16_8.out)
    clear hbj
    go_wp2_with (first
      | (show wpList _ _ _ ({ dst := some 18, op := _, type := _, pos := _, after := _, guard := _ } :: _) _ _; refine wpList_new_var rfl 31 rfl ZH HAH.out ?_; intro g18 u10 HM; have HG := hidk HM.out.row; try simp only [Act.put, List.setIfInBounds_toArray, List.set_cons_zero, List.set_cons_succ])
      | (refine wpList_set_var rfl 31 (.tmp 18) (.tmp 52) rfl g18 C rfl rfl 31 ZH HG.out HSC.out HZC.out H1C.out ?_; intro v10 HW; have hbj : Below v9.heap.size v9 v10 := HW.out.below _ _ HM.out.below (by rw [HM.out.new]; exact Nat.le_refl _); have HG18_10 := hidk HW.out.row; have HO10 := hidk (HO9.out.keep hbj); have HB10 := hidk (HB9.out.trans (hbj.mono HB9.out.size)); have HG12_10 := hidk ((hbj.block _ (heap_lt HG12_9.out)).trans HG12_9.out); have HG14_10 := hidk ((hbj.block _ (heap_lt HG14_9.out)).trans HG14_9.out); have HG16_10 := hidk ((hbj.block _ (heap_lt HG16_9.out)).trans HG16_9.out); clear hbj HM HG HW; try simp only [Act.put, List.setIfInBounds_toArray, List.set_cons_zero, List.set_cons_succ])
      | fail)
    refine (RT.out _ HB10.out).mono ?_
    rintro x v11 ⟨rfl, hbj⟩
    have HB11 := hidk (HB10.out.trans (hbj.mono HB10.out.size))
    have HO11 := hidk (HO10.out.keep hbj)
    have HG12_11 := hidk ((hbj.block _ (heap_lt HG12_10.out)).trans HG12_10.out)
    have HG14_11 := hidk ((hbj.block _ (heap_lt HG14_10.out)).trans HG14_10.out)
    have HG16_11 := hidk ((hbj.block _ (heap_lt HG16_10.out)).trans HG16_10.out)
    have HG18_11 := hidk ((hbj.block _ (heap_lt HG18_10.out)).trans HG18_10.out)
    clear hbj
    go_wp2_with (first
      | (show wpList _ _ _ ({ dst := some 56, op := _, type := _, pos := _, after := _, guard := _ } :: _) _ _; refine wpList_load_row_w (by rfl) 26 (.tmp 12) rfl g12 rfl 26 D (0, 0) _ HG12_11.out Tryd.underlying26 rfl HSD.out ?_; try simp only [Act.put, List.setIfInBounds_toArray, List.set_cons_zero, List.set_cons_succ])
      | (show wpList _ _ _ ({ dst := some 57, op := _, type := _, pos := _, after := _, guard := _ } :: _) _ _; refine wpList_load_row_w (by rfl) 26 (.tmp 14) rfl g14 rfl 26 D (0, 0) _ HG14_11.out Tryd.underlying26 rfl HSD.out ?_; try simp only [Act.put, List.setIfInBounds_toArray, List.set_cons_zero, List.set_cons_succ])
      | (show wpList _ _ _ ({ dst := some 66, op := _, type := _, pos := _, after := _, guard := _ } :: _) _ _; refine wpList_load_row_w (by rfl) 31 (.tmp 16) rfl g16 rfl 31 C (0, 0) _ HG16_11.out Tryd.underlying31 rfl HSC.out ?_; try simp only [Act.put, List.setIfInBounds_toArray, List.set_cons_zero, List.set_cons_succ])
      | (show wpList _ _ _ ({ dst := some 67, op := _, type := _, pos := _, after := _, guard := _ } :: _) _ _; refine wpList_load_row_w (by rfl) 31 (.tmp 18) rfl g18 rfl 31 C (0, 0) _ HG18_11.out Tryd.underlying31 rfl HSC.out ?_; try simp only [Act.put, List.setIfInBounds_toArray, List.set_cons_zero, List.set_cons_succ])
      | fail)
    refine (C5.out _ _ _ HB11.out HO11.out).mono ?_
    rintro x v12 ⟨rfl, hbj⟩
    have HB12 := hidk (HB11.out.trans (hbj.mono HB11.out.size))
    have HO12 := hidk (HO11.out.keep hbj)
    clear hbj
    go_wp2_with fail
    go_ret
    exact ⟨rfl, HB12.out⟩
  · clear ck hc h hc0 hm hT Hb hK
    go_enter Tryd.func3, Tryd.ntmps3
    go_wp2_with fail
    refine BG.out.mono ?_
    rintro x w1 ⟨rfl, rfl⟩
    go_wp2
    go_ret
    exact ⟨rfl, Below.refl _ _⟩
end Go.Proofs.YtgclohgcehhfnaaDoor
