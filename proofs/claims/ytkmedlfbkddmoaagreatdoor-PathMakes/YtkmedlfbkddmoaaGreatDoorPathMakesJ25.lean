/- Texts of our own that the row of PathMakes leans on, part 25. -/
import Derived.Test.YtkmedlfbkddmoaaGreatDoorPathMakesJ0
import Derived.Test.YtkmedlfbkddmoaaGreatDoorPathMakesJ10
import Derived.Test.YtkmedlfbkddmoaaGreatDoorPathMakesJ11
import Derived.Test.YtkmedlfbkddmoaaGreatDoorPathMakesJ12
import Derived.Test.YtkmedlfbkddmoaaGreatDoorPathMakesJ21
import Derived.Test.YtkmedlfbkddmoaaGreatDoorPathMakesJ22
import Derived.Test.YtkmedlfbkddmoaaGreatDoorPathMakesJ24
/- The document's Size and Leaves of logs. -/
namespace Go.Proofs.YtkmedlfbkddmoaaGreatDoor
open Go.RowKit Nums Sums
set_option linter.unusedVariables false
set_option linter.unusedSimpArgs false
set_option maxRecDepth 100000
theorem sizeX_eq (l : List ItT) (n : Int) : sizeX l n = if rightL l = false then 100 else if n < 0 ∨ (l.length : Int) < n then 21 else 0 := rfl
theorem sizeX_ok {l : List ItT} {n : Int} (h : sizeX l n = 0) : rightL l = true ∧ 0 ≤ n ∧ n ≤ l.length := by
  rw [sizeX_eq] at h
  by_cases h1 : rightL l = false
  · rw [if_pos h1] at h; omega
  rw [if_neg h1] at h
  by_cases h2 : n < 0 ∨ (l.length : Int) < n
  · rw [if_pos h2] at h; omega
  exact ⟨by simpa using h1, by omega, by omega⟩
set_option maxHeartbeats 2000000 in
theorem refSize_any (a : Option Addr) (len cap : Nat) (l : List ItT) (n : Int) (w : World) (h : IReads w a len cap l) :
    Calls Tryz.prog 34 #[.slice a len cap, .int .i64 n] w fun e w' => e = .returned (.int .i64 (sizeX l n)) ∧ Below w.heap.size w w' := by
  have HC := hidk (refRightL_any a len cap l w h)
  have HL := hidk h.ln
  obtain ⟨r, HR⟩ : ∃ r, Hid (rightL l = r) := ⟨_, hidk rfl⟩
  rw [HR.out] at HC
  have HE := hidk (sizeX_eq l n)
  rw [HR.out, HL.out] at HE
  clear h HR HL
  cases r
  · have HZ : Hid (sizeX l n = 100) := by show _ = _; rw [HE.out]; rfl
    clear HE
    go_enter Tryz.func34, Tryz.ntmps34
    go_wp2_with fail
    refine HC.out.mono ?_
    rintro e w1 ⟨rfl, hb1⟩
    go_wp2
    go_ret
    exact ⟨by rw [HZ.out]; rfl, hb1⟩
  · by_cases hn : n < 0
    · have HZ : Hid (sizeX l n = 21) := by show _ = _; rw [HE.out, if_neg (by decide), if_pos (by omega)]
      have d1 : decide (n < 0) = true := decide_eq_true hn
      clear HE
      go_enter Tryz.func34, Tryz.ntmps34
      go_wp2_with fail
      refine HC.out.mono ?_
      rintro e w1 ⟨rfl, hb1⟩
      go_wp2
      go_ret
      exact ⟨by rw [HZ.out]; rfl, hb1⟩
    · by_cases hn2 : (len : Int) < n
      · have HZ : Hid (sizeX l n = 21) := by show _ = _; rw [HE.out, if_neg (by decide), if_pos (by omega)]
        have d1 : decide (n < 0) = false := decide_eq_false (by omega)
        have d2 : decide ((len : Int) < n) = true := decide_eq_true hn2
        clear HE
        go_enter Tryz.func34, Tryz.ntmps34
        go_wp2_with fail
        refine HC.out.mono ?_
        rintro e w1 ⟨rfl, hb1⟩
        go_wp2
        go_ret
        exact ⟨by rw [HZ.out]; rfl, hb1⟩
      · have HZ : Hid (sizeX l n = 0) := by show _ = _; rw [HE.out, if_neg (by decide), if_neg (by omega)]
        have d1 : decide (n < 0) = false := decide_eq_false (by omega)
        have d2 : decide ((len : Int) < n) = false := decide_eq_false (by omega)
        clear HE
        go_enter Tryz.func34, Tryz.ntmps34
        go_wp2_with fail
        refine HC.out.mono ?_
        rintro e w1 ⟨rfl, hb1⟩
        go_wp2
        go_ret
        exact ⟨by rw [HZ.out]; rfl, hb1⟩
theorem leaves_succ {l : List ItT} {k : Nat} (h : k < l.length) : leavesL (l.take (k + 1)) = leavesL (l.take k) ++ [leafI l[k]] := by
  unfold leavesL
  rw [List.take_succ_eq_append_getElem h, List.map_append]
  rfl
theorem leaves_length (l : List ItT) : (leavesL l).length = l.length := by unfold leavesL; rw [List.length_map]
theorem leaves_digs (l : List ItT) : Digs32 (leavesL l) := by
  intro d hd
  unfold leavesL at hd
  obtain ⟨x, _, rfl⟩ := List.mem_map.1 hd
  exact sumD_length _
set_option maxHeartbeats 4000000 in
theorem refLeaves_any (a : Option Addr) (len cap : Nat) (l : List ItT) (w : World) (h : IReads w a len cap l) (hr : ∀ x ∈ l, rightI x = true) (hlen : len ≤ 2000) (hK : Table 0 w) :
    Calls Tryz.prog 36 #[.slice a len cap] w fun e w' => ∃ x cx, e = .returned (.slice x len cx) ∧ LReads w' x len cx (leavesL l) ∧ Below w.heap.size w w' := by
  have H := hidk h
  have HL := hidk h.ln
  have HR := hidk hr
  have HK := hidk hK
  have hmx : len ≤ 9223372036854775807 := by omega
  obtain ⟨Z, HZ, HA, HS, H1, H32⟩ := noughts27
  clear h hr hK HZ
  go_enter Tryz.func36, Tryz.ntmps36
  go_wp2
  go_loopw [3, 4] (fun v i wr => ∃ k : Nat, k ≤ len ∧ i = .int .i64 k ∧ Hid (Below w.heap.size w wr) ∧ Hid (wr.ownsRow w.heap.size 24 32 v (leavesL (l.take k)).length (cellsOf (leavesL (l.take k)).flatten))) (fun _ i _ => len - (intOf i).toNat)
  case atStart => exact ⟨0, by omega, rfl, Below.refl _ _, World.ownsRow_nil _ _ _ _⟩
  case round =>
    obtain ⟨k, hk, rfl, HB, HO⟩ := hrel
    by_cases hlt : k < len
    · have hd : decide ((k : Int) < (len : Int)) = true := by rw [decide_eq_true_eq]; omega
      have hw1 := wrap_int ((k : Int) + 1) (by omega) (by omega)
      obtain ⟨g, o, rfl, hg⟩ := H.out.at (by omega)
      have hkl : k < l.length := by have := HL.out; omega
      have hok := H.out.ok _ (List.getElem_mem hkl)
      have hrx := HR.out _ (List.getElem_mem hkl)
      obtain ⟨X, HX⟩ : ∃ X : Array Value, Hid (X = (icells l[k]).toArray) := ⟨_, hidk rfl⟩
      obtain ⟨dg, HDG⟩ : ∃ d, Hid (d = leafI l[k]) := ⟨_, hidk rfl⟩
      have h32 : dg.length = 32 := by rw [HDG.out]; exact sumD_length _
      obtain ⟨D, HD⟩ : ∃ D : Array Value, Hid (D = (cellsOf dg).toArray) := ⟨_, hidk rfl⟩
      have HSX : Hid ((Tryz.prog.info? 37).map (·.size) = some X.size) := by show _ = _; rw [sizeI, HX.out]; simp [icells_length _ hok]
      have HSD : Hid ((Tryz.prog.info? 24).map (·.size) = some D.size) := by show _ = _; rw [size23, HD.out]; simp [cellsOf_length, h32]
      have HZD : Hid (Z.size = D.size) := by show _ = _; rw [H32.out, HD.out]; simp [cellsOf_length, h32]
      have H1D : Hid (D.all (·.oneCell') = true) := by show _ = _; rw [HD.out]; exact cellsOf_all _
      have HRX : Hid (wr.rangeAt g (o + 110 * k) X.toList) := by show World.rangeAt _ _ _ _; rw [HX.out]; exact (H.out.keep HB.out).range k hkl
      have LF : Hid (∀ W, Below w.heap.size w W → Calls Tryz.prog 48 #[.agg X] W fun e w' => e = .returned (.agg D) ∧ Below W.heap.size W w') := fun W hb => refLeafI_any l[k] hok hrx W X D HX (HK.out.keep hb) (by show _ = _; rw [HD.out, HDG.out])
      have HNX : Hid (leavesL (l.take (k + 1)) = leavesL (l.take k) ++ [dg]) := by show _ = _; rw [HDG.out]; exact leaves_succ hkl
      have HBO := hidk (fun W => build_one W dg h32 D HD)
      have HNW : Hid (∀ W : World, LReads (W.alloc (.cells D 24)) (some ⟨W.heap.size, 0, none⟩) 1 1 [dg]) := fun W => by
        refine ⟨rfl, .one h32, Nat.le_refl _, by unfold maxLen; omega, .inr ⟨_, _, rfl, fun i hi => ?_⟩⟩
        rw [Nat.zero_add, cell_of_row _ _ i _ 24 (0, 0) (heap_alloc_new W _), HD.out]
        simp only [List.flatten_cons, List.flatten_nil, List.append_nil] at hi ⊢
        simp [cellsOf_at _ i hi]
      have HLK : Hid ((leavesL (l.take k)).length = k) := by show _ = _; rw [leaves_length, List.length_take]; omega
      have ix := fun W => index_item W g o len cap k .i64 hlt
      clear HX HDG HD hok hrx hkl h32
      go_wp2_with (first
        | (show aD 15 _ _ _ _ _ _ _ _ _ _ _; refine wpList_mid_w (by rfl) 37 (.tmp 14) rfl g (o + 110 * k) rfl X _ HRX.out Tryz.underlying37 rfl HSX.out ?_; try simp only [Act.put, pS1, pS2, pS3])
        | fail)
      refine (LF.out _ HB.out).mono ?_
      rintro e w1 ⟨rfl, hb1⟩
      have HB1 := hidk (HB.out.trans (hb1.mono HB.out.size))
      have HO1 := hidk (own_below HO.out hb1)
      clear hb1 HRX HO LF
      go_wp2_with (first
        | (show aD 5 _ _ _ _ _ _ _ _ _ _ _; refine wpList_new_var rfl 24 rfl Z HA.out ?_; intro g5 w2 HM; have HG := hidk HM.out.row; try simp only [Act.put, pS1, pS2, pS3])
        | (refine wpList_set_var rfl 24 (.tmp 5) (.tmp 16) rfl g5 D rfl rfl 24 Z HG.out HSD.out HZD.out H1D.out ?_; intro w3 HW; have HG3 := hidk HW.out.row; have HB3 : Hid (Below w1.heap.size w1 w3) := HW.out.below _ _ HM.out.below (by rw [HM.out.new]; exact Nat.le_refl _); try simp only [Act.put, pS1, pS2, pS3])
        | (show aD 18 _ _ _ _ _ _ _ _ _ _ _; refine wpList_load_row rfl 24 (.tmp 5) rfl g5 rfl 24 D (0, 0) _ HG3.out Tryz.underlying24 rfl HSD.out ?_; try simp only [Act.put, pS1, pS2, pS3])
        | (show aD 19 _ _ _ _ _ _ _ _ _ _ _; refine wpList_build_run rfl 38 1 _ rfl #[(0, .agg D)] rfl _ _ (HBO.out w3) ?_; have hb4 : Below w3.heap.size w3 (w3.alloc (.cells D 24)) := (Below.refl _ _).alloc (Nat.le_refl _) _; have hw3 : w.heap.size ≤ w3.heap.size := Nat.le_trans HB1.out.size HB3.out.size; obtain ⟨v5, w5, hr5, ho5, hb5⟩ := append_any (w3.alloc (.cells D 24)) w.heap.size _ _ [dg] (own_below (own_below HO1.out HB3.out) hb4) (some ⟨w3.heap.size, 0, none⟩) 1 1 (HNW.out w3) (Nat.le_trans hw3 hb4.size) (by rw [HLK.out]; show k + 1 ≤ 1000000; omega); rw [← HNX.out] at ho5; have HO5 := hidk ho5; have HR5 := hidk hr5; have HB5 : Hid (Below w.heap.size w w5) := ((HB1.out.trans (HB3.out.mono HB1.out.size)).trans (hb4.mono hw3)).trans hb5; clear hb4 hw3 hr5 ho5 hb5; try simp only [Act.put, pS1, pS2, pS3])
        | (show aD 20 _ _ _ _ _ _ _ _ _ _ _; refine wpList_append_runD rfl (.tmp 17) (.tmp 19) 38 38 rfl _ _ _ w5 rfl rfl HR5.out ?_; try simp only [Act.put, pS1, pS2, pS3])
        | fail)
      go_roundw
      case rel => exact ⟨k + 1, by omega, by go_num, HB5, HO5⟩
      case measure => simp [intOf]; omega
    · obtain rfl : len = k := by omega
      have hd : decide ((len : Int) < (len : Int)) = false := by rw [decide_eq_false_iff_not]; omega
      have hall : l.take len = l := List.take_of_length_le (by have := HL.out; omega)
      have ho := HO.out
      rw [hall] at ho
      obtain ⟨x, cx, rfl, hx, _⟩ := LReads.own ho (leaves_digs l)
      have hln : (leavesL l).length = len := by rw [leaves_length, HL.out]
      rw [hln] at hx
      rw [hln]
      have HX := hidk hx
      clear hx ho hall HO
      go_wp2
      go_ret
      exact ⟨x, cx, rfl, HX.out, HB.out⟩
theorem slice_log {w : World} {a : Option Addr} {len cap : Nat} {l : List ItT} (h : IReads w a len cap l) (n : Int) (h0 : 0 ≤ n) (h1 : n ≤ len) : ∃ a', (∀ W, (Instr.sliceAt 22 (.slice a len cap) none (some (.int .i64 n)) none).run Tryz.prog W = .ok (.slice a' n.toNat cap) W) ∧ ∀ W, IReads W a len cap l → IReads W a' n.toNat cap (l.take n.toNat) := by
  obtain ⟨k, rfl⟩ : ∃ k : Nat, n = k := ⟨n.toNat, by omega⟩
  have hk : k ≤ len := by omega
  have hc := h.cp
  rw [Int.toNat_natCast]
  cases a with
  | none =>
    have e0 : len = 0 := by
      rcases h.lies with h | ⟨g, o, e, _⟩
      · exact h
      · cases e
    subst e0
    obtain rfl : k = 0 := by omega
    refine ⟨none, fun W => ?_, fun W h => h.take 0 (Nat.le_refl _)⟩
    simp [Instr.sliceAt, Instr.slice, Instr.sliceBounds, Instr.sliceBound, asIntOf, run_underlying Tryz.underlying22, sizeOfI]
  | some p =>
    refine ⟨if cap = 0 then some p else some (p.add 0), fun W => ?_, fun W h => ?_⟩
    · simp [Instr.sliceAt, Instr.slice, Instr.sliceBounds, Instr.sliceBound, asIntOf, run_underlying Tryz.underlying22, sizeOfI]
      intro hh
      omega
    · have ht := h.take k hk
      refine ⟨ht.ln, ht.cp, ht.mx, ht.ok, ?_⟩
      rcases ht.lies with e | ⟨g, o, e, hl⟩
      · exact .inl e
      · cases e
        refine .inr ⟨g, o, ?_, hl⟩
        split
        · rfl
        · rw [add_plain]; rfl
theorem builtDg : Tryz.prog.built 24 [] = some (cellsOf (List.replicate 32 0)).toArray := by kernel_rfl
theorem rootO_length (l : List ItT) (n : Int) : (rootO l n).length = 32 := by
  unfold rootO
  split
  · exact root_length sumD_length _ (leaves_digs _)
  · rfl
theorem right_len {l : List ItT} (h : rightL l = true) : l.length ≤ 2000 := ((rightL_iff l).1 h).1
theorem leaves_first {w : World} {a : Option Addr} {len cap : Nat} {l : List ItT} (h : IReads w a len cap l) (n : Int) (hs : sizeX l n = 0) (hK : Table 0 w) :
    ∃ a', Hid (∀ W, (Instr.sliceAt 22 (.slice a len cap) none (some (.int .i64 n)) none).run Tryz.prog W = .ok (.slice a' n.toNat cap) W) ∧
      Hid (∀ W, Below w.heap.size w W → Calls Tryz.prog 36 #[.slice a' n.toNat cap] W fun e w' => ∃ x cx, e = .returned (.slice x n.toNat cx) ∧ LReads w' x n.toNat cx (leavesL (l.take n.toNat)) ∧ Below W.heap.size W w') := by
  obtain ⟨h1, h2, h3⟩ := sizeX_ok hs
  have hl := h.ln
  have hlen := right_len h1
  obtain ⟨a', ha, hr⟩ := slice_log h n h2 (by omega)
  exact ⟨a', ha, fun W hb => refLeaves_any a' n.toNat cap _ W (hr W (h.keep hb)) (fun x hx => right_item h1 (List.mem_of_mem_take hx)) (by omega) (hK.keep hb)⟩
set_option maxHeartbeats 4000000 in
theorem refRootL_any (a : Option Addr) (len cap : Nat) (l : List ItT) (n : Int) (w : World) (h : IReads w a len cap l) (hK : Table 0 w) (D : Array Value) (HD : Hid (D = (cellsOf (rootO l n)).toArray)) :
    Calls Tryz.prog 20 #[.slice a len cap, .int .i64 n] w fun e w' => e = .returned (.tuple #[.agg D, .int .i64 (sizeX l n)]) ∧ Below w.heap.size w w' := by
  have HC : Hid (∀ W, Below w.heap.size w W → Calls Tryz.prog 34 #[.slice a len cap, .int .i64 n] W fun e w' => e = .returned (.int .i64 (sizeX l n)) ∧ Below W.heap.size W w') := fun W hb => refSize_any a len cap l n W (h.keep hb)
  obtain ⟨Z, HZ, HA, HS, H1, H32⟩ := noughts27
  obtain ⟨s, HSZ⟩ : ∃ s, Hid (sizeX l n = s) := ⟨_, hidk rfl⟩
  rw [HSZ.out] at HC ⊢
  by_cases hs : s = 0
  · subst hs
    obtain ⟨a', HI, HLV⟩ := leaves_first h n HSZ.out hK
    have hrl := right_len (sizeX_ok HSZ.out).1
    have HRT : Hid (∀ W x cx, Below w.heap.size w W → LReads W x n.toNat cx (leavesL (l.take n.toNat)) → Calls Tryz.prog 35 #[.slice x n.toNat cx] W fun e w' => e = .returned (.agg D) ∧ Below W.heap.size W w') := fun W x cx hb hx => refRoot_any n.toNat x n.toNat cx _ W rfl hx (hK.keep hb) D (by show _ = _; rw [HD.out]; unfold rootO; rw [if_pos HSZ.out])
    have h32 : (rootO l n).length = 32 := rootO_length l n
    have HSD : Hid ((Tryz.prog.info? 24).map (·.size) = some D.size) := by show _ = _; rw [size23, HD.out]; simp [cellsOf_length, h32]
    have HZD : Hid (Z.size = D.size) := by show _ = _; rw [H32.out, HD.out]; simp [cellsOf_length, h32]
    have H1D : Hid (D.all (·.oneCell') = true) := by show _ = _; rw [HD.out]; exact cellsOf_all _
    have ix := HI.out
    clear h hK HD HZ HSZ hrl h32
    go_enter Tryz.func20, Tryz.ntmps20
    go_wp2_with (first
      | (show aD 4 _ _ _ _ _ _ _ _ _ _ _; refine wpList_new_var rfl 24 rfl Z HA.out ?_; intro g4 w1 HM; have HG := hidk HM.out.row; have HB1 := hidk HM.out.below; have hn4 : w.heap.size ≤ g4 := (by rw [HM.out.new]; exact Nat.le_refl _); try simp only [Act.put, pS1, pS2, pS3])
      | fail)
    refine (HC.out _ HB1.out).mono ?_
    rintro e w2 ⟨rfl, hb2⟩
    have HB2 := hidk (HB1.out.trans (hb2.mono HB1.out.size))
    have HG2 := hidk ((hb2.block _ (heap_lt HG.out)).trans HG.out)
    clear hb2
    go_wp2_with fail
    refine (HLV.out _ HB2.out).mono ?_
    rintro e w3 ⟨x, cx, rfl, hx, hb3⟩
    have HB3 := hidk (HB2.out.trans (hb3.mono HB2.out.size))
    have HG3 := hidk ((hb3.block _ (heap_lt HG2.out)).trans HG2.out)
    have HR := hidk (HRT.out w3 x cx HB3.out hx)
    clear hb3 hx
    go_wp2_with fail
    refine HR.out.mono ?_
    rintro e w4 ⟨rfl, hb4⟩
    have HB4 := hidk (HB3.out.trans (hb4.mono HB3.out.size))
    have HG4 := hidk ((hb4.block _ (heap_lt HG3.out)).trans HG3.out)
    clear hb4
    go_wp2_with (first
      | (refine wpList_set_var rfl 24 (.tmp 4) (.tmp 18) rfl g4 D rfl rfl 24 Z HG4.out HSD.out HZD.out H1D.out ?_; intro w5 HW; try simp only [Act.put, pS1, pS2, pS3])
      | fail)
    refine bodyPost_ret (v := .tuple #[.agg D, .int .i64 0]) ?_ rfl ⟨rfl, HW.out.below w.heap.size w HB4.out hn4⟩
    exact results_row_tmp (p := 4) (q := 5) (ty := 24) rfl _ _ g4 24 D (0, 0) _ rfl HW.out.row Tryz.underlying24 rfl HSD.out
  · have HDZ : Hid (D = Z) := by show _ = _; rw [HD.out, HZ.out]; unfold rootO; rw [if_neg (by rw [HSZ.out]; exact hs)]
    have hne : (!(s == 0)) = true := by simp [hs]
    have hDZ := HDZ.out
    subst hDZ
    have HBD : Hid (Tryz.prog.built 24 [] = some D) := by show _ = _; rw [HZ.out]; exact builtDg
    clear h hK HD HZ HSZ HDZ
    go_enter Tryz.func20, Tryz.ntmps20
    go_wp2_with (first
      | (show aD 4 _ _ _ _ _ _ _ _ _ _ _; refine wpList_new_var rfl 24 rfl D HA.out ?_; intro g4 w1 HM; have HG := hidk HM.out.row; have HB1 := hidk HM.out.below; have hn4 : w.heap.size ≤ g4 := (by rw [HM.out.new]; exact Nat.le_refl _); try simp only [Act.put, pS1, pS2, pS3])
      | fail)
    refine (HC.out _ HB1.out).mono ?_
    rintro e w2 ⟨rfl, hb2⟩
    have HB2 := hidk (HB1.out.trans (hb2.mono HB1.out.size))
    have HG2 := hidk ((hb2.block _ (heap_lt HG.out)).trans HG.out)
    clear hb2
    go_wp2_with (first
      | (show aD 12 _ _ _ _ _ _ _ _ _ _ _; refine wpList_build_none rfl 24 rfl D HBD.out ?_; try simp only [Act.put, pS1, pS2, pS3])
      | (refine wpList_set_var rfl 24 (.tmp 4) (.tmp 12) rfl g4 D rfl rfl 24 D HG2.out HS.out rfl H1.out ?_; intro w5 HW; try simp only [Act.put, pS1, pS2, pS3])
      | fail)
    refine bodyPost_ret (v := .tuple #[.agg D, .int .i64 s]) ?_ rfl ⟨rfl, HW.out.below w.heap.size w HB2.out hn4⟩
    exact results_row_tmp (p := 4) (q := 5) (ty := 24) rfl _ _ g4 24 D (0, 0) _ rfl HW.out.row Tryz.underlying24 rfl HS.out
theorem incE11_ok {l : List ItT} {n i : Int} (hs : sizeX l n = 0) (h : 0 ≤ i ∧ i < n) : incE11 l n i = 0 ∧ incL11 l n i = incl (leavesL (l.take n.toNat)) i.toNat := by
  have e : incE11 l n i = 0 := by unfold incE11; rw [if_pos hs, if_pos h]
  refine ⟨e, ?_⟩
  unfold incL11
  rw [if_pos e]
theorem incE11_bad {l : List ItT} {n i : Int} (hs : sizeX l n = 0) (h : ¬ (0 ≤ i ∧ i < n)) : incE11 l n i = 20 ∧ incL11 l n i = [] := by
  have e : incE11 l n i = 20 := by unfold incE11; rw [if_pos hs, if_neg h]
  refine ⟨e, ?_⟩
  unfold incL11
  rw [if_neg (by rw [e]; decide)]
theorem incE11_no {l : List ItT} {n i : Int} (hs : sizeX l n ≠ 0) : incE11 l n i = sizeX l n ∧ incL11 l n i = [] := by
  have e : incE11 l n i = sizeX l n := by unfold incE11; rw [if_neg hs]
  refine ⟨e, ?_⟩
  unfold incL11
  rw [if_neg (by rw [e]; exact hs)]
set_option maxHeartbeats 4000000 in
theorem refInclusionL_any (a : Option Addr) (len cap : Nat) (l : List ItT) (n i : Int) (w : World) (h : IReads w a len cap l) (hK : Table 0 w) :
    Calls Tryz.prog 22 #[.slice a len cap, .int .i64 n, .int .i64 i] w fun e w' => ∃ x cx, e = .returned (.tuple #[.slice x (incL11 l n i).length cx, .int .i64 (incE11 l n i)]) ∧ LReads w' x (incL11 l n i).length cx (incL11 l n i) ∧ Below w.heap.size w w' := by
  have HC : Hid (Calls Tryz.prog 34 #[.slice a len cap, .int .i64 n] w fun e w' => e = .returned (.int .i64 (sizeX l n)) ∧ Below w.heap.size w w') := refSize_any a len cap l n w h
  by_cases hs : sizeX l n = 0
  · obtain ⟨hr, hn0, hn1⟩ := sizeX_ok hs
    have hrl := right_len hr
    rw [hs] at HC
    by_cases hi : 0 ≤ i ∧ i < n
    · obtain ⟨e1, e2⟩ := incE11_ok hs hi
      rw [e1, e2]
      obtain ⟨a', HI, HLV⟩ := leaves_first h n hs hK
      obtain ⟨P, HP⟩ : ∃ P, Hid (P = incl (leavesL (l.take n.toNat)) i.toNat) := ⟨_, hidk rfl⟩
      rw [← HP.out]
      have HRT : Hid (∀ W x cx, Below w.heap.size w W → LReads W x n.toNat cx (leavesL (l.take n.toNat)) → Calls Tryz.prog 39 #[.slice x n.toNat cx, .int .i64 i] W fun e w' => ∃ x cx, e = .returned (.slice x P.length cx) ∧ LReads w' x P.length cx P ∧ Below W.heap.size W w') := fun W x cx hb hx => by
        rw [HP.out]
        have := refIncl_any n.toNat x n.toNat cx i.toNat _ W rfl hx (by omega) (by omega) (hK.keep hb)
        rwa [Int.toNat_of_nonneg hi.1] at this
      have ix := HI.out
      have d1 : decide (i < 0) = false := decide_eq_false (by omega)
      have d2 : decide (n ≤ i) = false := decide_eq_false (by omega)
      clear h hK HP e1 e2 hs hr hn0 hn1 hrl
      go_enter Tryz.func22, Tryz.ntmps22
      go_wp2_with fail
      refine HC.out.mono ?_
      rintro e w2 ⟨rfl, hb2⟩
      have HB2 := hidk hb2
      clear hb2
      go_wp2_with fail
      refine (HLV.out _ HB2.out).mono ?_
      rintro e w3 ⟨x, cx, rfl, hx, hb3⟩
      have HB3 := hidk (HB2.out.trans (hb3.mono HB2.out.size))
      have HR := hidk (HRT.out w3 x cx HB3.out hx)
      clear hb3 hx
      go_wp2_with fail
      refine HR.out.mono ?_
      rintro e w4 ⟨y, cy, rfl, hy, hb4⟩
      have HB4 := hidk (HB3.out.trans (hb4.mono HB3.out.size))
      have HY := hidk hy
      clear hb4 hy
      go_wp2_with fail
      go_ret2
      exact ⟨y, cy, rfl, HY.out, HB4.out⟩
    · obtain ⟨e1, e2⟩ := incE11_bad hs hi
      rw [e1, e2]
      clear h hK e1 e2 hs hr hn0 hn1 hrl
      have HNL : Hid (∀ W : World, LReads W none 0 0 []) := fun W => ⟨rfl, (fun d hd => by cases hd), Nat.le_refl _, Nat.zero_le _, .inl rfl⟩
      by_cases h0 : i < 0
      · have d1 : decide (i < 0) = true := decide_eq_true h0
        go_enter Tryz.func22, Tryz.ntmps22
        go_wp2_with fail
        refine HC.out.mono ?_
        rintro e w2 ⟨rfl, hb2⟩
        have HB2 := hidk hb2
        clear hb2
        go_wp2_with fail
        go_ret2
        exact ⟨none, 0, rfl, HNL.out _, HB2.out⟩
      · have d1 : decide (i < 0) = false := decide_eq_false h0
        have d2 : decide (n ≤ i) = true := decide_eq_true (by omega)
        go_enter Tryz.func22, Tryz.ntmps22
        go_wp2_with fail
        refine HC.out.mono ?_
        rintro e w2 ⟨rfl, hb2⟩
        have HB2 := hidk hb2
        clear hb2
        go_wp2_with fail
        go_ret2
        exact ⟨none, 0, rfl, HNL.out _, HB2.out⟩
  · obtain ⟨e1, e2⟩ := incE11_no (i := i) hs
    rw [e1, e2]
    obtain ⟨s, Hs⟩ : ∃ s, Hid (s = sizeX l n) := ⟨_, hidk rfl⟩
    rw [← Hs.out] at HC hs ⊢
    have hne : (!(s == 0)) = true := by simp [hs]
    have HNL : Hid (∀ W : World, LReads W none 0 0 []) := fun W => ⟨rfl, (fun d hd => by cases hd), Nat.le_refl _, Nat.zero_le _, .inl rfl⟩
    clear h hK e1 e2 Hs
    go_enter Tryz.func22, Tryz.ntmps22
    go_wp2_with fail
    refine HC.out.mono ?_
    rintro e w2 ⟨rfl, hb2⟩
    have HB2 := hidk hb2
    clear hb2
    go_wp2_with fail
    go_ret2
    exact ⟨none, 0, rfl, HNL.out _, HB2.out⟩
structure InL (w : World) (a : Option Addr) (len cap : Nat) (l : List ItT) : Prop where
  rd : IReads w a len cap l
  nil : a = none → cap = 0
  its : ∀ x ∈ l, InI x
  le : len ≤ 100
theorem InL.keep {w w' : World} {a : Option Addr} {len cap : Nat} {l : List ItT} (h : InL w a len cap l) (hb : Below w.heap.size w w') : InL w' a len cap l := ⟨h.rd.keep hb, h.nil, h.its, h.le⟩
def chkE (l : List ItT) : Int := if rightL l = true then 0 else 100
structure HistoryC : Prop where
  check : ∀ (a : Option Addr) (len cap : Nat) (l : List ItT) (w : World) (h : InL w a len cap l),
    Calls Tryz.prog 55 #[.slice a len cap] w fun e w' => e = .returned (.int .i64 (chkE l)) ∧ Below w.heap.size w w'
  root : ∀ (a : Option Addr) (len cap : Nat) (l : List ItT) (n : Int) (w : World) (h : InL w a len cap l) (hn : In64 n) (D : Array Value) (HD : Hid (D = (cellsOf (rootO l n)).toArray)) (hT : TabH w),
    Calls Tryz.prog 30 #[.slice a len cap, .int .i64 n] w fun e w' => e = .returned (.tuple #[.agg D, .int .i64 (sizeX l n)]) ∧ Below w.heap.size w w'
  head : ∀ (a : Option Addr) (len cap : Nat) (l : List ItT) (n r e t : Int) (w : World) (h : InL w a len cap l) (hn : In64 n) (hr : In64 r) (he : In64 e) (ht : In64 t) (R : Array Value) (HR : Hid (R = (hcells (hdO l n r e t)).toArray)) (hT : TabH w),
    Calls Tryz.prog 40 #[.slice a len cap, .int .i64 n, .int .i64 r, .int .i64 e, .int .i64 t] w fun x w' => x = .returned (.tuple #[.agg R, .int .i64 (hdE l n r e t)]) ∧ Below w.heap.size w w'
  incl : ∀ (a : Option Addr) (len cap : Nat) (l : List ItT) (n i : Int) (w : World) (h : InL w a len cap l) (hn : In64 n) (hi : In64 i) (hT : TabH w),
    Calls Tryz.prog 19 #[.slice a len cap, .int .i64 n, .int .i64 i] w fun e w' => ∃ x cx, e = .returned (.tuple #[.slice x (incL11 l n i).length cx, .int .i64 (incE11 l n i)]) ∧ LReads w' x (incL11 l n i).length cx (incL11 l n i) ∧ Below w.heap.size w w'
def userI (c s : Int) : ItT := ⟨1, ⟨1, c, s, ByteArray.empty, zeroS, zeroC⟩⟩
theorem userI_ok (c s : Int) : OkE (userI c s).e := ⟨rfl, rfl, rfl⟩
theorem userI_in (c s : Int) (hc : In64 c) (hs : In64 s) : InI (userI c s) := ⟨(by show In64 1; unfold In64; decide), (by show In64 1; unfold In64; decide), hc, hs, by show 0 ≤ 100000; omega, zeroS_in, zeroC_in⟩
theorem builtUI (c s : Int) : Tryz.prog.built 35 [(0, .int .i64 1), (1, .int .i64 c), (2, .int .i64 s)] = some (ecells (userI c s).e).toArray := by kernel_rfl
theorem fill_items (ds : List (List Value)) : ∀ (k : Nat) (cs : Array Value) (pre old : List Value), cs.toList = pre ++ old → pre.length = k * 110 → (∀ d ∈ ds, d.length = 110) → old.length = ds.length * 110 →
    Instr.fill (fun i => some (i * 110, 110)) cs ((ds.zipIdx k).map fun x => (x.2, Value.agg x.1.toArray)) = some (pre ++ ds.flatten).toArray := by
  induction ds with
  | nil =>
    intro k cs pre old h hp hd ho
    have : old = [] := List.eq_nil_of_length_eq_zero (by simpa using ho)
    subst this
    simp only [List.zipIdx_nil, List.map_nil, Instr.fill, List.flatten_nil, ← h]
  | cons d ds ih =>
    intro k cs pre old h hp hd ho
    have h32 := hd d (List.mem_cons_self ..)
    simp only [List.length_cons] at ho
    have hcs : cs.size = k * 110 + old.length := by rw [← Array.length_toList, h, List.length_append, hp]
    rw [List.zipIdx_cons, List.map_cons]
    unfold Instr.fill
    have hsz : (Value.agg d.toArray).cells.size = 110 := by show d.toArray.size = 110; simp [h32]
    simp only [hsz]
    rw [if_neg (by simp; omega)]
    refine (ih (k + 1) _ (pre ++ d) (old.drop 110) ?_ (by simp; omega) (fun x hx => hd x (List.mem_cons_of_mem _ hx)) (by simp; omega)).trans (by simp)
    have := fold_setD d 0 (k * 110) cs pre (old.take 110) (old.drop 110) (by rw [h, List.append_assoc, List.take_append_drop]) (by omega) (by simp; omega)
    rw [← this, ← Array.foldl_toList]
    congr 2
    simp [Value.cells]
theorem run_build_items (w : World) (n : Nat) (l : List ItT) (hd : ∀ x ∈ l, OkE x.e) (hn : l.length = n) (h1 : 0 < n) (h2 : n ≤ 100) (parts : Array (Nat × Value)) (hp : parts.toList = ((l.map icells).zipIdx 0).map fun x => (x.2, Value.agg x.1.toArray)) :
    (Instr.buildSlice 22 n parts).run Tryz.prog w = .ok (.slice (some ⟨w.heap.size, 0, none⟩) n n) (w.alloc (.cells (icL l).toArray 37)) := by
  obtain ⟨ie, hie, hz, hs, hy⟩ := info_parts infoIt
  refine run_buildSlice w 22 37 n parts _ ie _ Tryz.underlying22 hie hz (by rw [hs]; omega) (by rw [hs]; omega) ?_
  rw [hs, hp]
  have e : (l.map icells).flatten = icL l := by unfold icL; rw [List.flatMap_def]
  generalize hcs : Array.map _ (Array.range (n * 110)) = cs
  have hcz : cs.size = n * 110 := by rw [← hcs]; simp
  rw [fill_items (l.map icells) 0 cs [] cs.toList rfl rfl (fun d h => by
    obtain ⟨x, hx, rfl⟩ := List.mem_map.1 h
    exact icells_length x (hd x hx)) (by simp [hcz, hn]), e]
  rfl
theorem IReads.new (W : World) (l : List ItT) (n : Nat) (hn : l.length = n) (hd : ∀ x ∈ l, OkE x.e) (h1 : n ≤ 100) (L : Array Value) (HL : Hid (L = (icL l).toArray)) : IReads (W.alloc (.cells L 37)) (some ⟨W.heap.size, 0, none⟩) n n l := by
  refine ⟨hn, Nat.le_refl _, by unfold maxLen; omega, hd, .inr ⟨_, _, rfl, fun i hi j v hj => ?_⟩⟩
  have := icL_at l hd i hi j v hj
  rw [cell_of_row _ _ _ _ 37 (0, 0) (heap_alloc_new W _), HL.out, Nat.zero_add]
  simpa using this
theorem headX_digs {l : List ItT} {n r e t : Int} : (headX l n r e t).d.length = 32 := root_length sumD_length _ (leaves_digs _)
theorem hdO_digs (l : List ItT) (n r e t : Int) : (hdO l n r e t).d.length = 32 := by
  unfold hdO
  split
  · exact headX_digs
  · rfl
theorem hdE_no {l : List ItT} {n r e t : Int} (h : sizeX l n ≠ 0) : hdE l n r e t = sizeX l n ∧ hdO l n r e t = zeroH := by
  have h1 : hdE l n r e t = sizeX l n := by unfold hdE; rw [if_neg h]
  exact ⟨h1, by unfold hdO; rw [if_neg (by rw [h1]; exact h)]⟩
theorem hdE_bad {l : List ItT} {n r e t : Int} (h : sizeX l n = 0) (hr : rightH (headX l n r e t) = false) : hdE l n r e t = 100 ∧ hdO l n r e t = zeroH := by
  have h1 : hdE l n r e t = 100 := by unfold hdE; rw [if_pos h, if_neg (by rw [hr]; decide)]
  exact ⟨h1, by unfold hdO; rw [if_neg (by rw [h1]; decide)]⟩
theorem hdE_ok {l : List ItT} {n r e t : Int} (h : sizeX l n = 0) (hr : rightH (headX l n r e t) = true) : hdE l n r e t = 0 ∧ hdO l n r e t = headX l n r e t := by
  have h1 : hdE l n r e t = 0 := by unfold hdE; rw [if_pos h, if_pos hr]
  exact ⟨h1, by unfold hdO; rw [if_pos h1]⟩
def log3 : List ItT := [userI 1 1, userI 2 5, userI 1 3]
theorem zeroI_inI : InI zeroI := ⟨by show In64 0; unfold In64; decide, zeroE_in⟩
def TabF11 (w : World) : Prop := True
theorem TabF11.keep {w w' : World} (h : TabF11 w) (hb : Below w.heap.size w w') : TabF11 w' := trivial
structure HeldF (w : World) (gl g6 : Nat) (XL : Array Value) (V : World) : Prop where
  b : Below w.heap.size w V
  i : InL V (some ⟨gl, 0, none⟩) 3 3 log3
  t : TabF11 V
  g : V.heap[g6]? = some (.cells XL 37 (0, 0))
theorem HeldF.keep {w : World} {gl g6 : Nat} {XL : Array Value} {V V' : World} (h : HeldF w gl g6 XL V) (hb : Below V.heap.size V V') : HeldF w gl g6 XL V' :=
  ⟨h.b.trans (hb.mono h.b.size), h.i.keep hb, h.t.keep hb, (hb.block _ (heap_lt h.g)).trans h.g⟩
theorem HeldF.drew {w : World} {gl g6 : Nat} {XL : Array Value} {V : World} (h : HeldF w gl g6 XL V) : HeldF w gl g6 XL V.drew := h.keep (Below.refl _ _).drew
set_option maxHeartbeats 8000000 in
theorem hIsRight (ck : EntryC) (x : ItT) (hx : InI x) (w : World) (X : Array Value) (HX : Hid (X = (icells x).toArray)) :
    Calls Tryz.prog 87 #[.agg X] w fun e w' => e = .returned (.bool (rightI x)) ∧ Below w.heap.size w w' := by
  have hok : OkE x.e := hx.e.ok
  have HBX : Hid (Below w.heap.size w (w.alloc (.cells X 37))) := (Below.refl _ _).alloc (Nat.le_refl _) _
  have HGX := heap_alloc_new w (.cells X 37)
  obtain ⟨U, HU, HSU, H1U, H109⟩ := entry_row x.e hok
  have HR : Hid ((w.alloc (.cells X 37)).rangeAt w.heap.size 1 U.toList) := by
    have h0 := range_row (l := icells x) (W := w.alloc (.cells X 37)) (g := w.heap.size) (t := 37) (fr := (0, 0)) (by rw [← HX.out]; exact HGX)
    show World.rangeAt _ _ _ _
    rw [HU.out]
    have := range_entry h0
    simpa using this
  have c0 : (w.alloc (.cells X 37)).cell? ⟨w.heap.size, 0, none⟩ = some (.int .i64 x.p) := by rw [cell_of_row _ _ 0 _ _ (0, 0) HGX, HX.out]; rfl
  have CK : Hid (∀ W, Calls Tryz.prog 114 #[.agg U] W fun e w' => e = .returned (.int .i64 (eE x.e)) ∧ Below W.heap.size W w') := fun W => ck.check x.e hx.e W U HU
  obtain ⟨p, hp⟩ : ∃ p, x.p = p := ⟨_, rfl⟩
  obtain ⟨re, hre⟩ : ∃ b, rightE x.e = b := ⟨_, rfl⟩
  have HRI : Hid (rightI x = (decide (1 ≤ p) && decide (p ≤ 900000000) && re)) := by show _ = _; unfold rightI; rw [hp, hre]
  unfold eE at CK
  rw [hre] at CK
  rw [hp] at c0
  clear hp hre ck hx hok HGX HX HU H1U H109
  by_cases h1 : 1 ≤ p
  · have d1 : decide (1 ≤ p) = true := decide_eq_true h1
    by_cases h2 : p ≤ 900000000
    · have d2 : decide (p ≤ 900000000) = true := decide_eq_true h2
      cases re
      · have HF : Hid (rightI x = false) := by show _ = _; rw [HRI.out, d1, d2]; rfl
        rw [if_neg (by decide)] at CK
        clear h1 h2 HRI
        go_enter Tryz.func87, Tryz.ntmps87
        go_wp2_with (first
          | (show aD 13 _ _ _ _ _ _ _ _ _ _ _; refine wpList_mid_w (by rfl) 35 (.tmp 12) rfl w.heap.size 1 rfl U _ HR.out Tryz.underlying35 rfl HSU.out ?_; try simp only [Act.put, pS1, pS2, pS3])
          | fail)
        refine (CK.out _).mono ?_
        rintro e w1 ⟨rfl, hb1⟩
        go_wp2
        go_ret
        exact ⟨by rw [HF.out]; rfl, HBX.out.trans (hb1.mono HBX.out.size)⟩
      · have HF : Hid (rightI x = true) := by show _ = _; rw [HRI.out, d1, d2]; rfl
        rw [if_pos rfl] at CK
        clear h1 h2 HRI
        go_enter Tryz.func87, Tryz.ntmps87
        go_wp2_with (first
          | (show aD 13 _ _ _ _ _ _ _ _ _ _ _; refine wpList_mid_w (by rfl) 35 (.tmp 12) rfl w.heap.size 1 rfl U _ HR.out Tryz.underlying35 rfl HSU.out ?_; try simp only [Act.put, pS1, pS2, pS3])
          | fail)
        refine (CK.out _).mono ?_
        rintro e w1 ⟨rfl, hb1⟩
        go_wp2
        go_ret
        exact ⟨by rw [HF.out]; rfl, HBX.out.trans (hb1.mono HBX.out.size)⟩
    · have d2 : decide (p ≤ 900000000) = false := decide_eq_false h2
      have HF : Hid (rightI x = false) := by show _ = _; rw [HRI.out, d1, d2]; rfl
      clear h1 h2 HRI CK
      go_enter Tryz.func87, Tryz.ntmps87
      go_wp2
      go_ret
      exact ⟨by rw [HF.out]; rfl, HBX.out⟩
  · have d1 : decide (1 ≤ p) = false := decide_eq_false h1
    have HF : Hid (rightI x = false) := by show _ = _; rw [HRI.out, d1]; rfl
    clear h1 HRI CK
    go_enter Tryz.func87, Tryz.ntmps87
    go_wp2
    go_ret
    exact ⟨by rw [HF.out]; rfl, HBX.out⟩
set_option maxHeartbeats 8000000 in
theorem hCheck (ck : EntryC) (a : Option Addr) (len cap : Nat) (l : List ItT) (w : World) (h : InL w a len cap l) :
    Calls Tryz.prog 55 #[.slice a len cap] w fun e w' => e = .returned (.int .i64 (chkE l)) ∧ Below w.heap.size w w' := by
  have H := hidk h
  have HL := hidk h.rd.ln
  have hmx := h.le
  obtain ⟨Z, HZ, HA, HBZ, HNZ⟩ := noughtsI
  clear h HZ HBZ
  have h5' : decide ((2000 : Int) < (len : Int)) = false := by rw [decide_eq_false_iff_not]; omega
  go_enter Tryz.func55, Tryz.ntmps55
  go_wp2
  go_loopw [3, 11] (fun v u wr => ∃ k : Nat, k ≤ len ∧ u = .int .i64 k ∧ v = .int .i64 (lastE l k) ∧ Hid (Below w.heap.size w wr) ∧ Hid (rightK l k = true)) (fun _ u _ => len - (intOf u).toNat)
  case atStart => exact ⟨0, by omega, rfl, rfl, Below.refl _ _, hidk rfl⟩
  case round =>
    obtain ⟨k, hk, rfl, rfl, HB, HN⟩ := hrel
    by_cases hlt : k < len
    · have hd : decide ((k : Int) < (len : Int)) = true := by rw [decide_eq_true_eq]; omega
      have hw1 := wrap_int ((k : Int) + 1) (by omega) (by omega)
      obtain ⟨g, o, rfl, hg⟩ := H.out.rd.at (by omega)
      have hkl : k < l.length := by have := HL.out; omega
      obtain ⟨x, HX⟩ : ∃ x, Hid (x = l[k]) := ⟨_, hidk rfl⟩
      have hk? : l[k]? = some x := by rw [HX.out]; exact List.getElem?_eq_getElem hkl
      have hin : InI x := by rw [HX.out]; exact H.out.its _ (List.getElem_mem hkl)
      have hok : OkE x.e := by rw [HX.out]; exact H.out.rd.ok _ (List.getElem_mem hkl)
      obtain ⟨X, HXX, HSX, H1X, HNX⟩ := item_row x hok
      have HR : Hid (wr.rangeAt g (o + 110 * k) X.toList) := by
        show World.rangeAt _ _ _ _
        rw [HXX.out, HX.out]
        have h0 := (H.out.rd.keep HB.out).range k hkl
        simpa using h0
      have HZX : Hid (Z.size = X.size) := by show _ = _; rw [HNZ.out, HNX.out]
      have ix := fun W => index_item W g o len cap k .i64 hlt
      have IR : Hid (∀ W, Calls Tryz.prog 87 #[.agg X] W fun e w' => e = .returned (.bool (rightI x)) ∧ Below W.heap.size W w') := fun W => hIsRight ck x hin W X HXX
      have HC0 : Hid (∀ (W : World) (b : Nat), W.heap[b]? = some (.cells X 37 (0, 0)) → W.cell? ⟨b, 0, none⟩ = some (.int .i64 x.p)) := fun W b hh => by rw [cell_of_row _ _ 0 _ _ (0, 0) hh, HXX.out]; rfl
      have HO := hidk (okAt_last hk?)
      have HLS := hidk (lastE_succ hk?)
      have HNO : Hid (okAt l k = false → chkE l = 100) := fun hh => by unfold chkE; rw [right_no hkl hh]; rfl
      have HYE : Hid (okAt l k = true → rightK l (k + 1) = true) := fun hh => by rw [rightK_succ, HN.out, hh]; rfl
      obtain ⟨p, hp⟩ : ∃ p, x.p = p := ⟨_, rfl⟩
      obtain ⟨q, hq⟩ : ∃ q, lastE l k = q := ⟨_, rfl⟩
      obtain ⟨ri, hri⟩ : ∃ b, rightI x = b := ⟨_, rfl⟩
      rw [hri] at IR HO
      rw [hp] at HC0 HO HLS
      rw [hq] at HO ⊢
      clear hp hq hri hk? hin hok HXX HNX HX HN hkl
      cases ri
      · have hko : okAt l k = false := by rw [HO.out]; rfl
        have hE := hidk (HNO.out hko)
        clear HO HYE HNO hko HLS
        go_wp2_with (first
          | (show aD 14 _ _ _ _ _ _ _ _ _ _ _; refine wpList_mid_w (by rfl) 37 (.tmp 13) rfl g (o + 110 * k) rfl X _ HR.out Tryz.underlying37 rfl HSX.out ?_; try simp only [Act.put, pS1, pS2, pS3])
          | (show aD 5 _ _ _ _ _ _ _ _ _ _ _; refine wpList_new_var rfl 37 rfl Z HA.out ?_; intro g5 w1 HM; have HG := hidk HM.out.row; try simp only [Act.put, pS1, pS2, pS3])
          | (refine wpList_set_var rfl 37 (.tmp 5) (.tmp 14) rfl g5 X rfl rfl 37 Z HG.out HSX.out HZX.out H1X.out ?_; intro w2 HW; have HG2 := hidk HW.out.row; have HB2 : Hid (Below w.heap.size w w2) := HW.out.below w.heap.size w (HB.out.trans (HM.out.below.mono HB.out.size)) (by rw [HM.out.new]; exact HB.out.size); try simp only [Act.put, pS1, pS2, pS3])
          | (show aD 15 _ _ _ _ _ _ _ _ _ _ _; refine wpList_load_row_w (by rfl) 37 (.tmp 5) rfl g5 rfl 37 X (0, 0) _ HG2.out Tryz.underlying37 rfl HSX.out ?_; try simp only [Act.put, pS1, pS2, pS3])
          | fail)
        refine (IR.out _).mono ?_
        rintro e w3 ⟨rfl, hb3⟩
        have HB3 := hidk (HB2.out.trans (hb3.mono HB2.out.size))
        clear hb3
        go_wp2
        go_ret
        exact ⟨by rw [hE.out]; rfl, HB3.out⟩
      · by_cases hpq : p < q
        · have hko : okAt l k = false := by rw [HO.out]; simp; omega
          have hE := hidk (HNO.out hko)
          have d1 : decide (p < q) = true := decide_eq_true hpq
          clear HO HYE HNO hko HLS hpq
          go_wp2_with (first
            | (show aD 14 _ _ _ _ _ _ _ _ _ _ _; refine wpList_mid_w (by rfl) 37 (.tmp 13) rfl g (o + 110 * k) rfl X _ HR.out Tryz.underlying37 rfl HSX.out ?_; try simp only [Act.put, pS1, pS2, pS3])
            | (show aD 5 _ _ _ _ _ _ _ _ _ _ _; refine wpList_new_var rfl 37 rfl Z HA.out ?_; intro g5 w1 HM; have HG := hidk HM.out.row; try simp only [Act.put, pS1, pS2, pS3])
            | (refine wpList_set_var rfl 37 (.tmp 5) (.tmp 14) rfl g5 X rfl rfl 37 Z HG.out HSX.out HZX.out H1X.out ?_; intro w2 HW; have HG2 := hidk HW.out.row; have HB2 : Hid (Below w.heap.size w w2) := HW.out.below w.heap.size w (HB.out.trans (HM.out.below.mono HB.out.size)) (by rw [HM.out.new]; exact HB.out.size); try simp only [Act.put, pS1, pS2, pS3])
            | (show aD 15 _ _ _ _ _ _ _ _ _ _ _; refine wpList_load_row_w (by rfl) 37 (.tmp 5) rfl g5 rfl 37 X (0, 0) _ HG2.out Tryz.underlying37 rfl HSX.out ?_; try simp only [Act.put, pS1, pS2, pS3])
            | fail)
          refine (IR.out _).mono ?_
          rintro e w3 ⟨rfl, hb3⟩
          have c3 := HC0.out w3 g5 ((hb3.block _ (heap_lt HG2.out)).trans HG2.out)
          have HB3 := hidk (HB2.out.trans (hb3.mono HB2.out.size))
          clear hb3
          go_wp2
          go_ret
          exact ⟨by rw [hE.out]; rfl, HB3.out⟩
        · have hko : okAt l k = true := by rw [HO.out]; simp; omega
          have hE := hidk (HYE.out hko)
          have d1 : decide (p < q) = false := decide_eq_false hpq
          clear HO HYE HNO hko hpq
          go_wp2_with (first
            | (show aD 14 _ _ _ _ _ _ _ _ _ _ _; refine wpList_mid_w (by rfl) 37 (.tmp 13) rfl g (o + 110 * k) rfl X _ HR.out Tryz.underlying37 rfl HSX.out ?_; try simp only [Act.put, pS1, pS2, pS3])
            | (show aD 5 _ _ _ _ _ _ _ _ _ _ _; refine wpList_new_var rfl 37 rfl Z HA.out ?_; intro g5 w1 HM; have HG := hidk HM.out.row; try simp only [Act.put, pS1, pS2, pS3])
            | (refine wpList_set_var rfl 37 (.tmp 5) (.tmp 14) rfl g5 X rfl rfl 37 Z HG.out HSX.out HZX.out H1X.out ?_; intro w2 HW; have HG2 := hidk HW.out.row; have HB2 : Hid (Below w.heap.size w w2) := HW.out.below w.heap.size w (HB.out.trans (HM.out.below.mono HB.out.size)) (by rw [HM.out.new]; exact HB.out.size); try simp only [Act.put, pS1, pS2, pS3])
            | (show aD 15 _ _ _ _ _ _ _ _ _ _ _; refine wpList_load_row_w (by rfl) 37 (.tmp 5) rfl g5 rfl 37 X (0, 0) _ HG2.out Tryz.underlying37 rfl HSX.out ?_; try simp only [Act.put, pS1, pS2, pS3])
            | fail)
          refine (IR.out _).mono ?_
          rintro e w3 ⟨rfl, hb3⟩
          have c3 := HC0.out w3 g5 ((hb3.block _ (heap_lt HG2.out)).trans HG2.out)
          have HB3 := hidk (HB2.out.trans (hb3.mono HB2.out.size))
          clear hb3
          go_wp2
          go_roundw
          case rel => exact ⟨k + 1, by omega, by go_num, by rw [HLS.out], HB3, hE⟩
          case measure => simp [intOf]; omega
    · have HE : Hid (chkE l = 0) := by
        show _ = _
        have e : k = l.length := by have := HL.out; omega
        unfold chkE
        rw [right_yes (by have := HL.out; omega) (by rw [← e]; exact HN.out)]
        rfl
      obtain ⟨q, hq⟩ : ∃ q, lastE l k = q := ⟨_, rfl⟩
      rw [hq]
      clear hq
      obtain rfl : len = k := by omega
      go_wp2
      go_ret
      exact ⟨by rw [HE.out]; rfl, HB.out⟩
end Go.Proofs.YtkmedlfbkddmoaaGreatDoor
/- The program's iterator over a client's entries. -/
namespace Go.Proofs.YtkmedlfbkddmoaaGreatDoor
open Go.RowKit Go.Shelf Nums Sums
set_option linter.unusedVariables false
set_option linter.unusedSimpArgs false
set_option maxRecDepth 100000
attribute [local go_sem] Oper.semAt_some
theorem grown_of_below11 {w w' : World} (h : Below w.heap.size w w') : w.grownBy w' none := ⟨h.os, h.tape, h.output, h.size, fun k hk _ => h.block k hk⟩
end Go.Proofs.YtkmedlfbkddmoaaGreatDoor
/- The program's iterator over a log's leaves. -/
namespace Go.Proofs.YtkmedlfbkddmoaaGreatDoor
open Go.RowKit Go.Shelf Nums Sums
set_option linter.unusedVariables false
set_option linter.unusedSimpArgs false
set_option maxRecDepth 100000
attribute [local go_sem] Oper.semAt_some
theorem leafO_len (x : ItT) : (leafO x).length = 32 := by
  unfold leafO
  split
  · exact sumD_length _
  · rfl
structure Lf where
  d : List UInt8
  ok : d.length = 32
def encL (x : Lf) : Array Value := #[.agg (cellsOf x.d).toArray]
def lfsF (l : List ItT) (k : Nat) : List Lf := (l.drop k).map fun x => ⟨leafO x, leafO_len x⟩
theorem lfsF_next (l : List ItT) (k : Nat) (hk : k < l.length) : lfsF l k = ⟨leafO l[k], leafO_len _⟩ :: lfsF l (k + 1) := by
  unfold lfsF
  rw [List.drop_eq_getElem_cons hk]
  rfl
theorem lfsF_end (l : List ItT) (k : Nat) (hk : l.length ≤ k) : lfsF l k = [] := by
  unfold lfsF
  rw [List.drop_of_length_le hk]
  rfl
def KpL (n₀ Bs : Nat) (W W' : World) : Prop := Below n₀ W W' ∧ W'.heap[Bs]? = W.heap[Bs]?
theorem kpL_t {n₀ Bs : Nat} {A B C : World} (h : KpL n₀ Bs A B) (k : KpL n₀ Bs B C) : KpL n₀ Bs A C := ⟨h.1.trans k.1, k.2.trans h.2⟩
theorem kpL_b {n₀ Bs : Nat} {w : World} (hn : n₀ ≤ w.heap.size) (h1 : Bs < w.heap.size) (W : World) (l : Nat) (o o' : Obj) (hl : w.heap.size ≤ l) (h : W.heap[l]? = some o) (hc : o.isCells = false) (hw : o.isWalk = false) : KpL n₀ Bs W (W.putObj l o') := by
  have hlt := (Array.getElem?_eq_some_iff.1 h).1
  have g := grownBy_putObj' W l o'
  exact ⟨belowK_b hn W l o o' hl h hc hw, g.block Bs (by omega) (fun e => by cases e; omega)⟩
theorem kpL_below {n₀ Bs : Nat} {W W' : World} (hn : n₀ ≤ W.heap.size) (h1 : Bs < W.heap.size) (h : Below W.heap.size W W') : KpL n₀ Bs W W' := ⟨h.mono hn, h.block Bs h1⟩
set_option maxHeartbeats 8000000 in
theorem lvs1_in (ck : EntryC) (n : Nat) (hn : 1 ≤ n) (lp Bs n₀ : Nat) (a : Option Addr) (len cap : Nat) (l : List ItT) (hin : ∀ x ∈ l, InI x) (hm : len ≤ 1000000) (J Jx : List Lf → World → Prop)
    (W : World) (hJ : AbidesFrom W.heap.size J) (hn₀ : n₀ ≤ W.heap.size) (hBsW : Bs < W.heap.size) (hT : ∀ V, Below n₀ W V → TabH V)
    (hY : ∀ pre x W, J pre W → pre.length < len → YieldAt Fence.wide (n - 1) Tryz.prog lp (encL x) W fun e W' =>
      (e = .returned (.bool true) ∧ J (pre ++ [x]) W' ∧ KpL n₀ Bs W W') ∨ (e = .returned (.bool false) ∧ Jx (pre ++ [x]) W'))
    (hBs : W.cell? ⟨Bs, 0, none⟩ = some (.slice a len cap)) (hR : IReads W a len cap l) (hA : ∀ g o, a = some ⟨g, o, none⟩ → 0 < len → g < n₀) (h0 : J [] W) :
    CallsIn Fence.wide n Tryz.prog 88 #[.func (.yield lp) #[] #[], .pointer (some ⟨Bs, 0, none⟩)] W fun e W' => (∃ v, e = .returned v) ∧
      ((∃ ys, ys = lfsF l 0 ∧ J ys W') ∨ (∃ pre, pre <+: lfsF l 0 ∧ Jx pre W')) := by
  obtain ⟨Z, HZ, HAZ, HBZ, HNZ⟩ := noughtsI
  obtain ⟨ZD, HZD, HAD, HSD0, H1D0, H32D⟩ := noughts27
  have HL := hidk hR.ln
  have HR0 := hidk hR
  have HA0 := hidk hA
  have HT0 := hidk hT
  have HI0 := hidk hin
  clear HZ HBZ hR hA HZD HSD0 H1D0 hT hin
  refine callsIn_of_wp Tryz.func88 rfl trivial ?_ rfl
  simp only [Tryz.ntmps88, List.size_toArray, List.length_cons, List.length_nil, Nat.reduceAdd, Nat.reduceSub, Array.replicate_succ, Array.replicate_zero, List.push_toArray, List.append_toArray, List.nil_append, List.cons_append]
  gi_wp2
  gi_loopw [9] (fun i wr => ∃ (k : Nat) (pre : List Lf), k ≤ len ∧ i = .int .i64 k ∧ Hid (pre.length = k) ∧ Hid (lfsF l 0 = pre ++ lfsF l k) ∧ J pre wr ∧ Hid (KpL n₀ Bs W wr))
    (fun i _ => len - (intOf i).toNat)
  case atStart => exact ⟨0, [], Nat.zero_le _, rfl, rfl, rfl, h0, ⟨Below.refl _ _, rfl⟩⟩
  case round =>
    obtain ⟨k, pre, hk, rfl, HP, HE, hJs, HKP⟩ := hrel
    by_cases hlt : k < len
    · have hd : decide ((k : Int) < (len : Int)) = true := by rw [decide_eq_true_eq]; omega
      have hw1 := wrap_int ((k : Int) + 1) (by omega) (by omega)
      obtain ⟨g, o, rfl, hg⟩ := HR0.out.at (by omega)
      have hgn := HA0.out g o rfl (by omega)
      have hkl : k < l.length := by have := HL.out; omega
      obtain ⟨x, HX⟩ : ∃ x, Hid (x = l[k]) := ⟨_, hidk rfl⟩
      have hix : InI x := by rw [HX.out]; exact HI0.out _ (List.getElem_mem hkl)
      obtain ⟨X, HXX, HSX, H1X, HNX⟩ := item_row x hix.e.ok
      obtain ⟨D, HD⟩ : ∃ D : Array Value, Hid (D = (cellsOf (leafO x)).toArray) := ⟨_, hidk rfl⟩
      have h32 := leafO_len x
      have HSD : Hid ((Tryz.prog.info? 24).map (·.size) = some D.size) := by show _ = _; rw [size23, HD.out]; simp [cellsOf_length, h32]
      have HZD : Hid (ZD.size = D.size) := by show _ = _; rw [H32D.out, HD.out]; simp [cellsOf_length, h32]
      have H1D : Hid (D.all (·.oneCell') = true) := by show _ = _; rw [HD.out]; exact cellsOf_all _
      have HR : Hid (wr.rangeAt g (o + 110 * k) X.toList) := by
        show World.rangeAt _ _ _ _
        rw [HXX.out, HX.out]
        have h1 := (HR0.out.below HKP.out.1 (fun g' o' e _ => by cases e; exact hgn)).range k hkl
        simpa using h1
      have HZX : Hid (Z.size = X.size) := by show _ = _; rw [HNZ.out, HNX.out]
      have ix := fun W => index_item W g o len cap k .i64 hlt
      have hsw := HKP.out.1.size
      obtain ⟨le, Hle⟩ : ∃ z, Hid (iE x = z) := ⟨_, hidk rfl⟩
      have LF : Hid (∀ V, Below wr.heap.size wr V → Calls Tryz.prog 43 #[.agg X] V fun e w' => e = .returned (.tuple #[.agg D, .int .i64 le]) ∧ Below V.heap.size V w') := fun V hb => by
        rw [← Hle.out]
        exact ck.leaf x hix V X D HXX (HT0.out V (HKP.out.1.trans (hb.mono (by omega)))) HD
      have HN := hidk (lfsF_next l k hkl)
      obtain ⟨y, Hy⟩ : ∃ y : Lf, Hid (y = ⟨leafO l[k], leafO_len _⟩) := ⟨_, hidk rfl⟩
      have HENC : Hid (encL y = #[.agg D]) := by show _ = _; unfold encL; rw [Hy.out, HD.out, HX.out]
      have HKB : Hid (∀ V, Below wr.heap.size wr V → KpL n₀ Bs W V ∧ J pre V) := fun V hb => ⟨kpL_t HKP.out (kpL_below (by omega) (by omega) hb), hJ pre wr V none hJs (grown_of_below11 hb) (fun r e => by cases e)⟩
      have HX1 : Hid (∀ V, J pre V → ∃ fn tmps assign body, (Instr.yield lp #[.agg D]).run Tryz.prog V = .ok (.round lp fn tmps assign body) V ∧
            RoundIn Fence.wide (n - 1) Tryz.prog lp fn tmps assign body V fun e W' => ∃ bb, e = .returned (.bool bb) ∧ ((bb = true ∧ J (pre ++ [y]) W' ∧ KpL n₀ Bs V W') ∨ (bb = false ∧ Jx (pre ++ [y]) W'))) := by
        intro V hj
        obtain ⟨fn, tmps, assign, body, hy, hRo⟩ := hY pre y V hj (by have := HP.out; omega)
        rw [HENC.out] at hy
        refine ⟨fn, tmps, assign, body, hy, hRo.mono ?_⟩
        rintro e W' (⟨he, h2, h3⟩ | ⟨he, h2⟩)
        · exact ⟨true, he, .inl ⟨rfl, h2, h3⟩⟩
        · exact ⟨false, he, .inr ⟨rfl, h2⟩⟩
      rw [← Hy.out] at HN
      have hmo : Tryz.prog.follows Departure.mixedOrders = true := by kernel_rfl
      clear hY hBs HXX HNX HENC Hy hix HX hg hgn hJs h0 hsw HR0 HA0 HT0 HI0 HD h32 Hle ck
      gi_wp2_with (first
        | (show wpListIn _ _ _ _ _ ({ dst := some 12, op := _, type := _, pos := _, after := _, guard := _ } :: _) _ _; refine wpListIn_mid (by rfl) 37 (.tmp 11) rfl g (o + 110 * k) rfl X _ HR.out Tryz.underlying37 rfl HSX.out ?_; try simp only [Act.put, pS1, pS2, pS3])
        | (show wpListIn _ _ _ _ _ ({ dst := some 4, op := _, type := _, pos := _, after := _, guard := _ } :: _) _ _; refine wpListIn_new_var rfl 37 rfl Z HAZ.out ?_; intro g4 w1 HM; have HG := hidk HM.out.row; try simp only [Act.put, pS1, pS2, pS3])
        | (refine wpListIn_set_var rfl 37 (.tmp 4) (.tmp 12) rfl g4 X rfl rfl 37 Z HG.out HSX.out HZX.out H1X.out ?_; intro w2 HW; have HB2 : Hid (Below wr.heap.size wr w2) := HW.out.below wr.heap.size wr HM.out.below (by rw [HM.out.new]; exact Nat.le_refl _); have HG2 := hidk HW.out.row; have HRX : Hid (w2.rangeAt g4 0 X.toList) := range_row (l := X.toList) (W := w2) (g := g4) (by simpa using HG2.out); try simp only [Act.put, pS1, pS2, pS3])
        | (show wpListIn _ _ _ _ _ ({ dst := some 14, op := _, type := _, pos := _, after := _, guard := _ } :: _) _ _; refine wpListIn_mid (by rfl) 37 (.tmp 4) rfl g4 0 rfl X _ HRX.out Tryz.underlying37 rfl HSX.out ?_; try simp only [Act.put, pS1, pS2, pS3])
        | (refine ⟨trivial, ?_⟩; gi_at_call 43; refine (callsIn_wide.2 (LF.out _ HB2.out)).mono ?_; rintro e w3 ⟨rfl, hb3⟩; have HB3 := hidk (HB2.out.trans (hb3.mono HB2.out.size)); clear hb3)
        | (show wpListIn _ _ _ _ _ ({ dst := some 5, op := _, type := _, pos := _, after := _, guard := _ } :: _) _ _; refine wpListIn_new_var rfl 24 rfl ZD HAD.out ?_; intro g5 w4 HMD; have HGD := hidk HMD.out.row; try simp only [Act.put, pS1, pS2, pS3])
        | (refine wpListIn_set_var rfl 24 (.tmp 5) (.tmp 16) rfl g5 D rfl rfl 24 ZD HGD.out HSD.out HZD.out H1D.out ?_; intro w5 HWD; have HB5 : Hid (Below wr.heap.size wr w5) := HB3.out.trans (Below.mono (HWD.out.below w3.heap.size w3 HMD.out.below (by rw [HMD.out.new]; exact Nat.le_refl _)) HB3.out.size); have HG5 := hidk HWD.out.row; have HRD : Hid (w5.rangeAt g5 0 D.toList) := range_row (l := D.toList) (W := w5) (g := g5) (by simpa using HG5.out); have HK5 := hidk (HKB.out _ HB5.out); obtain ⟨fn, tmps, assign, body, hy, hRo⟩ := HX1.out _ HK5.out.2; try simp only [Act.put, pS1, pS2, pS3])
        | (show wpListIn _ _ _ _ _ ({ dst := some 19, op := _, type := _, pos := _, after := _, guard := _ } :: _) _ _; refine wpListIn_mid (by rfl) 24 (.tmp 5) rfl g5 0 rfl D _ HRD.out Tryz.underlying24 rfl HSD.out ?_; try simp only [Act.put, pS1, pS2, pS3])
        | fail)
      refine hRo.mono ?_
      rintro e W3 ⟨bb, rfl, hbb⟩
      rcases hbb with ⟨rfl, hJ3, hk3⟩ | ⟨rfl, hJx3⟩
      · have HE3 : Hid (lfsF l 0 = (pre ++ [y]) ++ lfsF l (k + 1)) := by show _ = _; rw [HE.out, HN.out]; simp
        have HP3 : Hid ((pre ++ [y]).length = k + 1) := by show _ = _; have := HP.out; rw [List.length_append]; show pre.length + 1 = k + 1; omega
        have HK3 := hidk (kpL_t HK5.out.1 hk3)
        clear hy hRo hk3 HK5 HX1
        gi_wp2
        go_roundw
        case rel => exact ⟨k + 1, pre ++ [y], by omega, by go_num, HP3, HE3, hJ3, HK3⟩
        case measure => simp [intOf]; omega
      · have HPX : Hid ((pre ++ [y]) <+: lfsF l 0) := by show _ <+: _; rw [HE.out, HN.out]; exact ⟨lfsF l (k + 1), by simp⟩
        clear hy hRo HK5 HX1
        gi_wp2
        refine bodyPost_ret (results_none rfl _ _ _) rfl ?_
        exact ⟨⟨_, rfl⟩, .inr ⟨_, HPX.out, hJx3⟩⟩
    · have HEE : Hid (pre = lfsF l 0) := by show _ = _; rw [HE.out, lfsF_end l k (by have := HL.out; omega), List.append_nil]
      clear hY
      gi_wp2
      go_end0
      exact ⟨⟨_, rfl⟩, .inl ⟨pre, HEE.out, hJs⟩⟩
set_option maxHeartbeats 1000000 in
theorem lvs_in (n : Nat) (a : Option Addr) (len cap : Nat) (w : World) :
    CallsIn Fence.wide n Tryz.prog 56 #[.slice a len cap] w fun e w' => e = .returned (.func (.func 88) #[] #[.pointer (some ⟨w.heap.size, 0, none⟩)]) ∧ w' = w.alloc (.cells #[.slice a len cap] 22) := by
  refine callsIn_of_wp Tryz.func56 rfl trivial ?_ rfl
  simp only [Tryz.ntmps56, List.size_toArray, List.length_cons, List.length_nil, Nat.reduceAdd, Nat.reduceSub, Array.replicate_succ, Array.replicate_zero, List.push_toArray, List.append_toArray, List.nil_append, List.cons_append]
  gi_wp2
  go_ret
  exact ⟨rfl, rfl⟩
theorem lvs_stops (ck : EntryC) (n : Nat) (hn : 1 ≤ n) (Bs n₀ : Nat) (a : Option Addr) (len cap : Nat) (l : List ItT) (hin : ∀ x ∈ l, InI x) (w : World) (hm : len ≤ 1000000) (hBs : Bs < w.heap.size) (hn₀ : n₀ ≤ w.heap.size) (hT : ∀ V, Below n₀ w V → TabH V)
    (hcs : w.cell? ⟨Bs, 0, none⟩ = some (.slice a len cap)) (hR : IReads w a len cap l) (hA : ∀ g o, a = some ⟨g, o, none⟩ → 0 < len → g < n₀) :
    SeqStopsK Fence.wide n Tryz.prog 88 #[.pointer (some ⟨Bs, 0, none⟩)] encL (KpL n₀ Bs) (fun ys => ys = lfsF l 0) (fun pre => pre <+: lfsF l 0) len w := fun lp J Jx W hW hJ _ hY h0 =>
  lvs1_in ck n hn lp Bs n₀ a len cap l hin hm J Jx W hJ (Nat.le_trans hn₀ hW.size) (Nat.lt_of_lt_of_le hBs hW.size) (fun V hb => hT V ((hW.mono hn₀).trans hb)) hY ((hW.cell (p := ⟨Bs, 0, none⟩) hBs).trans hcs) (hR.keep hW) hA h0
end Go.Proofs.YtkmedlfbkddmoaaGreatDoor
/- The program's firstLeaves. -/
namespace Go.Proofs.YtkmedlfbkddmoaaGreatDoor
open Go.RowKit Go.Shelf Nums Sums
set_option linter.unusedVariables false
set_option linter.unusedSimpArgs false
set_option maxRecDepth 100000
attribute [local go_sem] Oper.semAt_some
theorem wpListIn_build_run {F : Fence} {n : Nat} {P : Program} {ops : Array Oper} {rest : List Oper} {o : Oper} {a : Act} {w : World} {Q : Exit → Act → World → Prop} (hg : o.guard = none) (t : TypeId) (k : Nat) (parts : Array (Nat × Operand)) (ho : o.op = .buildSlice t k parts) (vals : Array (Nat × Value)) (hv : (parts.toList.map fun p => (p.1, a.eval p.2)) = vals.toList)
    (s : Value) (w' : World) (hrun : (Instr.buildSlice t k vals).run P w = .ok s w') (h : wpListIn F n P ops Q rest (a.put o.dst s) w') : wpListIn F n P ops Q (o :: rest) a w := by
  have hv' : (parts.map fun (i, x) => (i, a.eval x)) = vals := by
    apply Array.ext'
    rw [Array.toList_map, ← hv]
  subst hv'
  refine wpListIn_plain hg fun K hK => ?_
  have hk := hK _ _ h
  refine ⟨fun f hf => (by simp [Oper.about, ho] at hf), ?_⟩
  rw [Oper.semAt_plain F _ _ (by rw [ho]; intro c hc; cases hc)]
  unfold execOp
  simp only [ho, Sem.run_bind, hrun, Result.andThen_ok]
  exact hk
theorem wpListIn_append_run11 {F : Fence} {n : Nat} {P : Program} {ops : Array Oper} {rest : List Oper} {o : Oper} {a : Act} {w : World} {Q : Exit → Act → World → Prop}
    (hg : o.guard = none) (s x : Operand) (t u : TypeId) (hop : o.op = Op.call { callee := Callee.builtin Builtin.append, args := #[s, x], argTypes := #[t, u] })
    (vs vx v' : Value) (w' : World) (hs : a.eval s = vs) (hx : a.eval x = vx) (hrun : (Builtin.append_ #[t, u] o.type #[vs, vx]).run P w = .ok v' w')
    (h : wpListIn F n P ops Q rest (a.put o.dst v') w') : wpListIn F n P ops Q (o :: rest) a w := by
  refine wpListIn_plain hg fun K hK => ?_
  have hk := hK _ _ h
  unfold Oper.wpIn
  refine ⟨?_, ?_⟩
  · simp [Oper.about, hop, resolve, Target.leads, Sem.run_pure]
  · rw [Oper.semAt_plain F _ _ (by rw [hop]; intro c hc'; cases hc')]
    simp [execOp, hop, resolve, invoke, builtin, hs, hx, hrun, Result.andThen]
    exact hk
def digsL (pre : List Lf) : List (List UInt8) := pre.map (·.d)
theorem leavesL_digs (l : List ItT) : Digs32 (leavesL l) := fun d hd => by
  obtain ⟨x, _, rfl⟩ := List.mem_map.1 hd
  exact sumD_length _
theorem digsL_snoc (pre : List Lf) (x : Lf) : digsL (pre ++ [x]) = digsL pre ++ [x.d] := by simp [digsL]
theorem digsL_length (pre : List Lf) : (digsL pre).length = pre.length := by simp [digsL]
theorem digsL_lfs {l : List ItT} (h : ∀ x ∈ l, rightI x = true) : digsL (lfsF l 0) = leavesL l := by
  unfold digsL lfsF leavesL
  rw [List.drop_zero, List.map_map]
  refine List.map_congr_left fun x hx => ?_
  show leafO x = leafI x
  unfold leafO
  rw [if_pos (h x hx)]
structure FstI (w : World) (B Bf Bs : Nat) (a : Option Addr) (len cap : Nat) (pre : List Lf) (v : Value) (W : World) : Prop where
  f : Boxed W Bf 38 v
  s : Boxed W Bs 22 (.slice a len cap)
  own : W.ownsRow B 24 32 v (digsL pre).length (cellsOf (digsL pre).flatten)
  bl : Below w.heap.size w W
theorem FstI.own_from {w : World} {B Bf Bs : Nat} {a : Option Addr} {len cap : Nat} {pre : List Lf} {v : Value} {X Y : World} {row : Option Nat} {C : Nat} (h : FstI w B Bf Bs a len cap pre v X) (hC : w.heap.size ≤ C) (hg : X.grownBy Y row) (hr : ∀ r, row = some r → C ≤ r ∧ ∃ o : Obj, X.heap[r]? = some o ∧ o.isCells = false) : FstI w B Bf Bs a len cap pre v Y := by
  refine ⟨cells_stay h.f hg (fun r e => (hr r e).2), cells_stay h.s hg (fun r e => (hr r e).2), h.own.kept hg ?_, h.bl.grown hg (Nat.le_trans h.bl.size (Nat.le_refl _)) (fun k e => by have := (hr k e).1; omega)⟩
  rcases h.own.2 with ⟨e, _⟩ | ⟨g, cp, cur, e, hb, hgg, _⟩
  · left; rw [e]; rfl
  · right
    rw [e]
    intro e2
    obtain ⟨_, ob, ho, hc⟩ := hr g e2.symm
    rw [hgg] at ho; cases ho; cases hc
theorem FstI.keep {w : World} {B Bf Bs : Nat} {a : Option Addr} {len cap : Nat} {pre : List Lf} {v : Value} {X Y : World} (h : FstI w B Bf Bs a len cap pre v X) (hb : Below X.heap.size X Y) : FstI w B Bf Bs a len cap pre v Y :=
  ⟨(hb.block _ (heap_lt h.f)).trans h.f, (hb.block _ (heap_lt h.s)).trans h.s, own_below h.own hb, h.bl.trans (hb.mono h.bl.size)⟩
theorem FstI.put {w : World} {B Bf Bs : Nat} {a : Option Addr} {len cap : Nat} {pre : List Lf} {v : Value} {W : World} (h : FstI w B Bf Bs a len cap pre v W) (hB : w.heap.size ≤ B) (hBW : B ≤ W.heap.size) (hw : w.heap.size ≤ Bf) (hne : Bs ≠ Bf) (hlen : pre.length ≤ 1000) (x : Lf) (D : Array Value) (HD : Hid (D = (cellsOf x.d).toArray)) :
    ∃ a' n' c' W1, (Builtin.append_ #[38, 38] 38 #[v, .slice (some ⟨W.heap.size, 0, none⟩) 1 1]).run Tryz.prog (W.alloc (.cells D 24)) = .ok (.slice a' n' c') W1 ∧ W1.cell? ⟨Bf, 0, none⟩ = some v ∧ W1.frozen? ⟨Bf, 0, none⟩ = false ∧
      FstI w B Bf Bs a len cap (pre ++ [x]) (.slice a' n' c') (W1.setCell ⟨Bf, 0, none⟩ (.slice a' n' c')) ∧ KpL w.heap.size Bs W (W1.setCell ⟨Bf, 0, none⟩ (.slice a' n' c')) ∧ ∀ C, KeepsFrom C W (W1.setCell ⟨Bf, 0, none⟩ (.slice a' n' c')) := by
  have hal : Below W.heap.size W (W.alloc (.cells D 24)) := (Below.refl _ _).alloc (Nat.le_refl _) _
  have h2 := h.keep hal
  obtain ⟨v', W1, hrun, hown, hgr⟩ := run_append_digs (W.alloc (.cells D 24)) B v (digsL pre) [x.d] h2.own ⟨W.heap.size, 0, none⟩ 1 1 rfl (.one x.ok) (fun j u hj => by
    rw [add_plain, Nat.zero_add, cell_of_row _ _ j _ 24 (0, 0) (heap_alloc_new W _), HD.out]
    simpa using hj) (by simp; omega) (by rw [digsL_length]; omega)
  obtain ⟨a', n', c', rfl⟩ : ∃ a' n' c', v' = .slice a' n' c' := by
    rcases hown.2 with ⟨h, _⟩ | ⟨g, cp, _, h, _⟩
    · exact ⟨_, _, _, h⟩
    · exact ⟨_, _, _, h⟩
  have nf : some Bf ≠ v.ownBlock := own_other h2.own h2.f (by decide)
  have ns : some Bs ≠ v.ownBlock := own_other h2.own h2.s (by decide)
  have hf1 : Boxed W1 Bf 38 v := (hgr.block Bf (heap_lt h2.f) nf).trans h2.f
  have hs1 : Boxed W1 Bs 22 (.slice a len cap) := (hgr.block Bs (heap_lt h2.s) ns).trans h2.s
  have hbl : ∀ b, v.ownBlock = some b → w.heap.size ≤ b := fun b e => Nat.le_trans hB (h.own.lt b e).1
  have hb1 : Below w.heap.size W W1 := (hal.mono h.bl.size).grown hgr (by have := h.bl.size; have := hal.size; omega) (fun k e => hbl k e)
  have hown' : W1.ownsRow B 24 32 (.slice a' n' c') (digsL (pre ++ [x])).length (cellsOf (digsL (pre ++ [x])).flatten) := by
    rw [digsL_snoc, List.length_append]
    exact hown
  have n2 : Value.ownBlock (.slice a' n' c') ≠ some Bf := fun e => own_other hown' hf1 (by decide) e.symm
  refine ⟨a', n', c', W1, hrun, hf1.cell, hf1.frozen, ⟨hf1.set _, set_other hs1 hne _, hown'.kept (grownBy_setCell' W1 Bf _) (.inr n2), (h.bl.trans hb1).setCell (p := ⟨Bf, 0, none⟩) hw _⟩, ⟨hb1.setCell (p := ⟨Bf, 0, none⟩) hw _, (Below.heap_setCell W1 ⟨Bf, 0, none⟩ _ Bs hne).trans (hs1.trans h.s.symm)⟩, fun C => ?_⟩
  have k1 : KeepsOthers W W1 := ⟨Nat.le_trans hal.size hgr.size, fun k ob hk ho => by
    have e1 := (hal.block k (heap_lt hk)).trans hk
    refine (hgr.block k (heap_lt e1) (fun e => ?_)).trans e1
    rcases h2.own.2 with ⟨e0, _⟩ | ⟨g, cp, cur, e0, _, hgg, _⟩
    · rw [e0] at e; cases e
    · rw [e0] at e
      have : k = g := Option.some.inj e
      subst this
      rw [e1] at hgg; cases hgg; cases ho⟩
  exact (k1.trans (KeepsOthers.setCell _ _ _)).from _
theorem sizeX_vals (l : List ItT) (n : Int) (h : sizeX l n = 0) : rightL l = true ∧ 0 ≤ n ∧ n ≤ l.length := by
  unfold sizeX at h
  by_cases hr : rightL l = false
  · rw [if_pos hr] at h; omega
  · rw [if_neg hr] at h
    by_cases hn : n < 0 ∨ (l.length : Int) < n
    · rw [if_pos hn] at h; omega
    · exact ⟨by simpa using hr, by omega, by omega⟩
set_option maxHeartbeats 8000000 in
theorem hFirst_no (ck : EntryC) (a : Option Addr) (len cap : Nat) (l : List ItT) (n : Int) (w : World) (h : InL w a len cap l) (hs : sizeX l n ≠ 0) :
    Calls Tryz.prog 32 #[.slice a len cap, .int .i64 n] w fun e w' => e = .returned (.tuple #[.slice none 0 0, .int .i64 (sizeX l n)]) ∧ Below w.heap.size w w' := by
  have HC := hidk (hCheck ck a len cap l w h)
  have hlen := h.le
  have HL := hidk h.rd.ln
  by_cases hr : rightL l = true
  · have e1 : chkE l = 0 := by unfold chkE; rw [if_pos hr]
    have e2 : sizeX l n = 21 ∧ (n < 0 ∨ (len : Int) < n) := by
      unfold sizeX at hs ⊢
      rw [if_neg (by rw [hr]; decide)] at hs ⊢
      by_cases hn : n < 0 ∨ (l.length : Int) < n
      · rw [if_pos hn]; rw [HL.out] at hn; exact ⟨rfl, hn⟩
      · rw [if_neg hn] at hs; exact absurd rfl hs
    rw [e1] at HC
    rw [e2.1]
    have hn := e2.2
    clear e1 e2 hs hr h ck
    by_cases h0 : n < 0
    · have d0 : decide (n < 0) = true := decide_eq_true h0
      clear h0 hn
      go_enter Tryz.func32, Tryz.ntmps32
      go_wp2_with fail
      refine HC.out.mono ?_
      rintro e w1 ⟨rfl, hb1⟩
      go_wp2
      go_ret2
      exact ⟨rfl, hb1⟩
    · have d0 : decide (n < 0) = false := decide_eq_false h0
      have d1 : decide ((len : Int) < n) = true := decide_eq_true (by omega)
      clear h0 hn
      go_enter Tryz.func32, Tryz.ntmps32
      go_wp2_with fail
      refine HC.out.mono ?_
      rintro e w1 ⟨rfl, hb1⟩
      go_wp2
      go_ret2
      exact ⟨rfl, hb1⟩
  · have e1 : chkE l = 100 := by unfold chkE; rw [if_neg hr]
    have e2 : sizeX l n = 100 := by unfold sizeX; rw [if_pos (by simpa using hr)]
    rw [e1] at HC
    rw [e2]
    clear e1 e2 hs hr h ck
    go_enter Tryz.func32, Tryz.ntmps32
    go_wp2_with fail
    refine HC.out.mono ?_
    rintro e w1 ⟨rfl, hb1⟩
    go_wp2
    go_ret2
    exact ⟨rfl, hb1⟩
set_option maxHeartbeats 8000000 in
theorem first_in (ck : EntryC) (q : Nat) (hq : 3 ≤ q) (a : Option Addr) (len cap : Nat) (l : List ItT) (n : Nat) (w : World) (h : InL w a len cap l) (hr : rightL l = true) (hn : n ≤ len) (hT : TabH w) :
    CallsIn Fence.wide q Tryz.prog 32 #[.slice a len cap, .int .i64 (n : Int)] w fun e w' => (∃ x cx, e = .returned (.tuple #[.slice x n cx, .int .i64 0]) ∧ LReads w' x n cx (leavesL (l.take n))) ∧ Below w.heap.size w w' := by
  have h1 : 1 ≤ q := by omega
  obtain ⟨ZD, HZD, HAD, HSD0, H1D0, H32D⟩ := noughts27
  have hlen := h.le
  have hln := h.rd.ln
  have HC := hidk (hCheck ck a len cap l w h)
  rw [show chkE l = 0 by unfold chkE; rw [if_pos hr]] at HC
  have hA : ∀ g o, a = some ⟨g, o, none⟩ → 0 < len → g < w.heap.size := fun g o e h0 => by
    obtain ⟨g', o', e', hl⟩ := h.rd.at h0
    rw [e] at e'; cases e'; exact hl
  have d0 : decide ((n : Int) < 0) = false := by rw [decide_eq_false_iff_not]; omega
  have d1 : decide ((len : Int) < (n : Int)) = false := by rw [decide_eq_false_iff_not]; omega
  obtain ⟨a2, SL, hRs⟩ := slice_log h.rd (n : Int) (by omega) (by omega)
  rw [Int.toNat_natCast] at SL hRs
  obtain ⟨i0, hi, hz0, hz1, hz2⟩ := info_parts infoD
  have MK : ∀ V : World, ∃ w', (Instr.makeSlice 38 (.int .i64 0) (.int .i64 (n : Int))).run Tryz.prog V = .ok (.slice (some ⟨V.heap.size, 0, none⟩) 0 n) w' ∧ w'.ownsRow V.heap.size 24 32 (.slice (some ⟨V.heap.size, 0, none⟩) 0 n) 0 [] ∧ V.grownBy w' none := fun V =>
    run_make_own (P := Tryz.prog) (w := V) V.heap.size 38 24 i0 _ 32 Tryz.underlying38 hi hz0 hz1 .i64 .i64 n (by rw [hz2]; omega) (by unfold maxLen; omega) (Nat.le_refl _)
  have HMK := hidk MK
  clear MK HZD
  refine callsIn_of_wp_marks Tryz.func32 rfl trivial ?_ rfl
  simp only [Tryz.ntmps32, List.size_toArray, List.length_cons, List.length_nil, Nat.reduceAdd, Nat.reduceSub, Array.replicate_succ, Array.replicate_zero, List.push_toArray, List.append_toArray, List.nil_append, List.cons_append]
  gi_wp2_with (first
    | (refine ⟨trivial, ?_⟩; gi_at_call 55; refine (callsIn_wide.2 HC.out).mono ?_; rintro e w1 ⟨rfl, hb1⟩; obtain ⟨w2, mk, hmo, hmg⟩ := HMK.out w1)
    | (refine ⟨trivial, ?_⟩; gi_at_call 56; refine (lvs_in (q - 1) _ _ _ _).mono ?_; rintro e w' ⟨rfl, rfl⟩)
    | fail)
  have hs1 := hb1.size
  have hs2 := hmg.size
  have hB2 : Below w.heap.size w w2 := hb1.grown hmg hs1 (fun k e => by cases e)
  have hB0 : Below w.heap.size w ((w2.alloc (.cells #[.slice (some ⟨w1.heap.size, 0, none⟩) 0 n] 38)).alloc (.cells #[.slice a2 n cap] 22)) := (hB2.alloc (by omega) _).alloc (by simp; omega) _
  have hb2 : Below w2.heap.size w2 ((w2.alloc (.cells #[.slice (some ⟨w1.heap.size, 0, none⟩) 0 n] 38)).alloc (.cells #[.slice a2 n cap] 22)) := ((Below.refl _ _).alloc (Nat.le_refl _) _).alloc (by simp) _
  have hsz : ((w2.alloc (.cells #[.slice (some ⟨w1.heap.size, 0, none⟩) 0 n] 38)).alloc (.cells #[.slice a2 n cap] 22)).heap.size = w2.heap.size + 2 := by simp
  have b0 := (Boxed.new w2 38 (.slice (some ⟨w1.heap.size, 0, none⟩) 0 n)).alloc (.cells #[.slice a2 n cap] 22)
  have b1 := Boxed.new (w2.alloc (.cells #[.slice (some ⟨w1.heap.size, 0, none⟩) 0 n] 38)) 22 (.slice a2 n cap)
  simp only [World.size_alloc] at b1
  have ho0 := own_below hmo hb2
  obtain ⟨W0, hW0⟩ : ∃ W0, ((w2.alloc (.cells #[.slice (some ⟨w1.heap.size, 0, none⟩) 0 n] 38)).alloc (.cells #[.slice a2 n cap] 22)) = W0 := ⟨_, rfl⟩
  rw [hW0] at b0 b1 hB0 hsz ho0 ⊢
  have hge : w2.heap.size + 2 ≤ W0.heap.size := Nat.le_of_eq hsz.symm
  clear hW0 hsz hb2
  have F0 : FstI w w1.heap.size w2.heap.size (w2.heap.size + 1) a2 n cap [] (.slice (some ⟨w1.heap.size, 0, none⟩) 0 n) W0 := ⟨b0, b1, ho0, hB0⟩
  have hA2 : ∀ g o, a2 = some ⟨g, o, none⟩ → 0 < n → g < w.heap.size := fun g o e h0 => by
    obtain ⟨g', o', e', hl⟩ := (hRs w h.rd).at h0
    rw [e] at e'; cases e'; exact hl
  refine wpIn_rangeFunc_ownH rfl h1 (gf := 88) (lb := #[.pointer (some ⟨w2.heap.size + 1, 0, none⟩)]) rfl trivial (enters_of Tryz.func88 (by kernel_rfl) rfl)
    (lvs_stops ck (q - 1) (by omega) (w2.heap.size + 1) w.heap.size a2 n cap (l.take n) (fun x hx => h.its x (List.mem_of_mem_take hx)) W0 (by omega) (by omega) (by omega) (fun V hb => hT.keep (hB0.trans hb)) b1.cell (hRs W0 (h.rd.keep hB0)) hA2) kpL_t (kpL_b (by omega) (by omega)) (Below.refl _ _) (fun _ => rfl)
    (fun pre W => ∃ v, FstI w w1.heap.size w2.heap.size (w2.heap.size + 1) a2 n cap pre v W)
    (fun _ _ _ => False)
    (fun pre X Y row hs hg hr => by obtain ⟨v, hs⟩ := hs; exact ⟨v, hs.own_from (by omega) hg hr⟩)
    (fun cd pre X Y row hs hg hr => hs)
    ⟨_, F0⟩
    (fun x a' W => ∃ Bx, W.heap[Bx]? = some (.cells (cellsOf x.d).toArray 24 (0, 0)) ∧ a' = { tmps := #[.slice a len cap, .int .i64 (n : Int), undef, undef, .slice none 0 0, .int .i64 0, .int .i64 0, .pointer (some ⟨w2.heap.size, 0, none⟩), .pointer (some ⟨Bx, 0, none⟩), .slice a len cap, .int .i64 0, .int .i64 0, .bool false, undef, .int .i64 (n : Int), .bool false, .bool false, .int .i64 (n : Int), .slice a len cap, .int .i64 (len : Int), .bool false, .bool false, .int .i64 (n : Int), .slice (some ⟨w1.heap.size, 0, none⟩) 0 n, .slice a len cap, .int .i64 (n : Int), .slice a2 n cap, .func (.func 88) #[] #[.pointer (some ⟨w2.heap.size + 1, 0, none⟩)], .agg (cellsOf x.d).toArray, undef, undef, undef, undef, undef], defers := [] })
    (fun x a' _ X Y row hs hg hr => by obtain ⟨Bx, k2, k3⟩ := hs; exact ⟨Bx, cells_stay k2 hg (fun r e => (hr r e).2), k3⟩)
    ?assign ?body ?done ?stop
  case assign =>
    rintro lp pre x W K ⟨v, hF⟩ hK
    obtain ⟨D, HD⟩ : ∃ D : Array Value, Hid (D = (cellsOf x.d).toArray) := ⟨_, hidk rfl⟩
    have HSD : Hid ((Tryz.prog.info? 24).map (·.size) = some D.size) := by show _ = _; rw [size23, HD.out]; simp [cellsOf_length, x.ok]
    have HZD : Hid (ZD.size = D.size) := by show _ = _; rw [H32D.out, HD.out]; simp [cellsOf_length, x.ok]
    have H1D : Hid (D.all (·.oneCell') = true) := by show _ = _; rw [HD.out]; exact cellsOf_all _
    dsimp only [encL]
    rw [← HD.out] at hK ⊢
    have hls := hF.bl.size
    have l3 := heap_lt hF.s
    have HFF := hidk hF
    have HKK := hidk hK
    clear hF hK HD
    simp only [List.zip_toArray, List.foldl_toArray, List.zip_cons_cons, List.zip_nil_right, List.foldl_cons, List.foldl_nil, List.setIfInBounds_toArray, List.set_cons_succ, List.set_cons_zero]
    gi_wp2_with (first
      | (show wpListIn _ _ _ _ _ ({ dst := some 8, op := _, type := _, pos := _, after := _, guard := _ } :: _) _ _; refine wpListIn_new_var rfl 24 rfl ZD HAD.out ?_; intro g9 w8 HM; have HG := hidk HM.out.row; try simp only [Act.put, pS1, pS2, pS3])
      | (refine wpListIn_set_var rfl 24 (.tmp 8) (.tmp 28) rfl g9 D rfl rfl 24 ZD HG.out HSD.out HZD.out H1D.out ?_; intro w9 HW; have HB2 : Hid (Below W.heap.size W w9) := HW.out.below W.heap.size W HM.out.below (by rw [HM.out.new]; exact Nat.le_refl _); have HG2 := hidk HW.out.row; try simp only [Act.put, pS1, pS2, pS3])
      | fail)
    exact HKK.out _ _ (KeepsFrom.of_grownBy (grown_of_below11 HB2.out) (fun j e => by cases e)) (kpL_below (by omega) (by omega) HB2.out) ⟨v, HFF.out.keep HB2.out⟩ ⟨g9, HG2.out, rfl⟩
  case body =>
    rintro lp pre x a' W hl0 ⟨r, hlr⟩ ⟨v, hF⟩ ⟨Bx, hBx, rfl⟩ hlt
    obtain ⟨D, HD⟩ : ∃ D : Array Value, Hid (D = (cellsOf x.d).toArray) := ⟨_, hidk rfl⟩
    have HSD : Hid ((Tryz.prog.info? 24).map (·.size) = some D.size) := by show _ = _; rw [size23, HD.out]; simp [cellsOf_length, x.ok]
    have HRD : Hid (W.rangeAt Bx 0 D.toList) := range_row (l := D.toList) (W := W) (g := Bx) (by rw [HD.out]; simpa using hBx)
    have BU := hidk (build_one W x.d x.ok D HD)
    have lf := heap_lt hF.f
    obtain ⟨va, vn, vc, rfl⟩ : ∃ a' n' c', v = .slice a' n' c' := by
      rcases hF.own.2 with ⟨h, _⟩ | ⟨g, cp, _, h, _⟩
      · exact ⟨_, _, _, h⟩
      · exact ⟨_, _, _, h⟩
    obtain ⟨a', n', c', W1, AR, c1, f1, hP, hK1, hK2⟩ := hF.put hs1 (by omega) (by omega) (by omega) (by omega) x D HD
    have cF := hF.f.cell
    have FIN : Hid (KeepsFrom W0.heap.size W (W1.setCell ⟨w2.heap.size, 0, none⟩ (.slice a' n' c')) ∧ KpL w.heap.size (w2.heap.size + 1) W (W1.setCell ⟨w2.heap.size, 0, none⟩ (.slice a' n' c')) ∧ ∃ v, FstI w w1.heap.size w2.heap.size (w2.heap.size + 1) a2 n cap (pre ++ [x]) v (W1.setCell ⟨w2.heap.size, 0, none⟩ (.slice a' n' c'))) := ⟨hK2 _, hK1, _, hP⟩
    have HAR := hidk AR
    rw [← HD.out]
    clear hF hP hK1 hK2 AR HD hBx hlr
    gi_wp2_with (first
      | (show wpListIn _ _ _ _ _ ({ dst := some 30, op := _, type := _, pos := _, after := _, guard := _ } :: _) _ _; refine wpListIn_mid (by rfl) 24 (.tmp 8) rfl Bx 0 rfl D _ HRD.out Tryz.underlying24 rfl HSD.out ?_; try simp only [Act.put, pS1, pS2, pS3])
      | (show wpListIn _ _ _ _ _ ({ dst := some 31, op := _, type := _, pos := _, after := _, guard := _ } :: _) _ _; refine wpListIn_build_run rfl 38 1 _ rfl #[(0, .agg D)] rfl _ _ BU.out ?_; try simp only [Act.put, pS1, pS2, pS3])
      | (show wpListIn _ _ _ _ _ ({ dst := some 32, op := _, type := _, pos := _, after := _, guard := _ } :: _) _ _; refine wpListIn_append_run11 rfl (.tmp 29) (.tmp 31) 38 38 rfl _ _ _ _ rfl rfl HAR.out ?_; try simp only [Act.put, pS1, pS2, pS3])
      | fail)
    exact FIN.out
  case done =>
    rintro Dd ys W hD rfl ⟨v, hF⟩ hK
    obtain ⟨va, vn, vc, rfl⟩ : ∃ a' n' c', v = .slice a' n' c' := by
      rcases hF.own.2 with ⟨h, _⟩ | ⟨g, cp, _, h, _⟩
      · exact ⟨_, _, _, h⟩
      · exact ⟨_, _, _, h⟩
    have cF := hF.f.cell
    have FE := hidk (hF.own_from (C := W0.heap.size) (by omega) (grownBy_putObj' _ Dd (.deferred none)) (fun r e => by cases e; exact ⟨hD, _, hK, rfl⟩))
    have HDS : Hid (digsL (lfsF (l.take n) 0) = leavesL (l.take n)) := digsL_lfs fun x hx => right_item (right_take hr n) hx
    have HKK := hidk hK
    clear hF hK
    gi_wp2
    refine ⟨by simp, .inl ⟨_, _, rfl, run_takeDeferred HKK.out, ?_⟩⟩
    have ho := FE.out.own
    rw [HDS.out] at ho
    obtain ⟨x, cx, e, hx, _⟩ := LReads.own ho (leavesL_digs _)
    have hlv : (leavesL (l.take n)).length = n := by unfold leavesL; rw [List.length_map, List.length_take]; omega
    rw [hlv] at e hx
    refine ⟨.tuple #[.slice va vn vc, .int .i64 0], ?_, ⟨x, cx, by rw [e], hx⟩, FE.out.bl⟩
    simp [results, Tryz.f32, go_sem]
  case stop =>
    rintro Dd cd pre W hD hpre hs hK
    exact hs.elim
end Go.Proofs.YtkmedlfbkddmoaaGreatDoor
/- The program's Root, Head, Inclusion and Consistency of logs. -/
namespace Go.Proofs.YtkmedlfbkddmoaaGreatDoor
open Go.RowKit Nums Sums
set_option linter.unusedVariables false
set_option linter.unusedSimpArgs false
set_option maxRecDepth 100000
theorem hFirst_ok (ck : EntryC) (a : Option Addr) (len cap : Nat) (l : List ItT) (n : Int) (w : World) (h : InL w a len cap l) (hs : sizeX l n = 0) (hT : TabH w) :
    Calls Tryz.prog 32 #[.slice a len cap, .int .i64 n] w fun e w' => (∃ x cx, e = .returned (.tuple #[.slice x n.toNat cx, .int .i64 0]) ∧ LReads w' x n.toNat cx (leavesL (l.take n.toNat))) ∧ Below w.heap.size w w' := by
  obtain ⟨hr, h0, h1⟩ := sizeX_vals l n hs
  have hln := h.rd.ln
  obtain ⟨k, rfl⟩ : ∃ k : Nat, n = k := ⟨n.toNat, by omega⟩
  rw [Int.toNat_natCast]
  exact callsIn_wide.1 (first_in ck 3 (Nat.le_refl _) a len cap l k w h hr (by omega) hT)
set_option maxHeartbeats 8000000 in
theorem hRoot (ck : EntryC) (a : Option Addr) (len cap : Nat) (l : List ItT) (n : Int) (w : World) (h : InL w a len cap l) (hT : TabH w) (D : Array Value) (HD : Hid (D = (cellsOf (rootO l n)).toArray)) :
    Calls Tryz.prog 30 #[.slice a len cap, .int .i64 n] w fun e w' => e = .returned (.tuple #[.agg D, .int .i64 (sizeX l n)]) ∧ Below w.heap.size w w' := by
  obtain ⟨Z, HZ, HA, HS, H1, H32⟩ := noughts27
  obtain ⟨s, HSZ⟩ : ∃ s, Hid (sizeX l n = s) := ⟨_, hidk rfl⟩
  by_cases hs : s = 0
  · subst hs
    have HC : Hid (∀ W, Below w.heap.size w W → _) := fun W hb => hFirst_ok ck a len cap l n W (h.keep hb) HSZ.out (hT.keep hb)
    have HRT : Hid (∀ W x cx, Below w.heap.size w W → LReads W x n.toNat cx (leavesL (l.take n.toNat)) → Calls Tryz.prog 49 #[.slice x n.toNat cx] W fun e w' => e = .returned (.agg D) ∧ Below W.heap.size W w') := fun W x cx hb hx => root_any n.toNat x n.toNat cx _ W rfl hx (hT.keep hb) D (by show _ = _; rw [HD.out]; unfold rootO; rw [if_pos HSZ.out])
    have h32 : (rootO l n).length = 32 := rootO_length l n
    have HSD : Hid ((Tryz.prog.info? 24).map (·.size) = some D.size) := by show _ = _; rw [size23, HD.out]; simp [cellsOf_length, h32]
    have HZD : Hid (Z.size = D.size) := by show _ = _; rw [H32.out, HD.out]; simp [cellsOf_length, h32]
    have H1D : Hid (D.all (·.oneCell') = true) := by show _ = _; rw [HD.out]; exact cellsOf_all _
    rw [HSZ.out]
    clear h hT HD HZ HSZ h32 ck
    go_enter Tryz.func30, Tryz.ntmps30
    go_wp2_with (first
      | (show aD 4 _ _ _ _ _ _ _ _ _ _ _; refine wpList_new_var rfl 24 rfl Z HA.out ?_; intro g4 w1 HM; have HG := hidk HM.out.row; have HB1 := hidk HM.out.below; have hn4 : w.heap.size ≤ g4 := (by rw [HM.out.new]; exact Nat.le_refl _); try simp only [Act.put, pS1, pS2, pS3])
      | fail)
    refine (HC.out _ HB1.out).mono ?_
    rintro e w2 ⟨⟨x, cx, rfl, hx⟩, hb2⟩
    have HB2 := hidk (HB1.out.trans (hb2.mono HB1.out.size))
    have HG2 := hidk ((hb2.block _ (heap_lt HG.out)).trans HG.out)
    have HR := hidk (HRT.out w2 x cx HB2.out hx)
    clear hb2 hx
    go_wp2_with fail
    refine HR.out.mono ?_
    rintro e w4 ⟨rfl, hb4⟩
    have HB4 := hidk (HB2.out.trans (hb4.mono HB2.out.size))
    have HG4 := hidk ((hb4.block _ (heap_lt HG2.out)).trans HG2.out)
    clear hb4
    go_wp2_with (first
      | (refine wpList_set_var rfl 24 (.tmp 4) (.tmp 19) rfl g4 D rfl rfl 24 Z HG4.out HSD.out HZD.out H1D.out ?_; intro w5 HW; try simp only [Act.put, pS1, pS2, pS3])
      | fail)
    refine bodyPost_ret (v := .tuple #[.agg D, .int .i64 0]) ?_ rfl ⟨rfl, HW.out.below w.heap.size w HB4.out hn4⟩
    exact results_row_tmp (p := 4) (q := 5) (ty := 24) rfl _ _ g4 24 D (0, 0) _ rfl HW.out.row Tryz.underlying24 rfl HSD.out
  · have HC : Hid (∀ W, Below w.heap.size w W → _) := fun W hb => hFirst_no ck a len cap l n W (h.keep hb) (by rw [HSZ.out]; exact hs)
    rw [HSZ.out] at HC ⊢
    have HDZ : Hid (D = Z) := by show _ = _; rw [HD.out, HZ.out]; unfold rootO; rw [if_neg (by rw [HSZ.out]; exact hs)]
    have hne : (!(s == 0)) = true := by simp [hs]
    have hDZ := HDZ.out
    subst hDZ
    have HBD : Hid (Tryz.prog.built 24 [] = some D) := by show _ = _; rw [HZ.out]; exact builtDg
    clear h hT HD HZ HSZ HDZ ck
    go_enter Tryz.func30, Tryz.ntmps30
    go_wp2_with (first
      | (show aD 4 _ _ _ _ _ _ _ _ _ _ _; refine wpList_new_var rfl 24 rfl D HA.out ?_; intro g4 w1 HM; have HG := hidk HM.out.row; have HB1 := hidk HM.out.below; have hn4 : w.heap.size ≤ g4 := (by rw [HM.out.new]; exact Nat.le_refl _); try simp only [Act.put, pS1, pS2, pS3])
      | fail)
    refine (HC.out _ HB1.out).mono ?_
    rintro e w2 ⟨rfl, hb2⟩
    have HB2 := hidk (HB1.out.trans (hb2.mono HB1.out.size))
    have HG2 := hidk ((hb2.block _ (heap_lt HG.out)).trans HG.out)
    clear hb2
    go_wp2_with (first
      | (show aD 16 _ _ _ _ _ _ _ _ _ _ _; refine wpList_build_none rfl 24 rfl D HBD.out ?_; try simp only [Act.put, pS1, pS2, pS3])
      | (refine wpList_set_var rfl 24 (.tmp 4) (.tmp 16) rfl g4 D rfl rfl 24 D HG2.out HS.out rfl H1.out ?_; intro w5 HW; try simp only [Act.put, pS1, pS2, pS3])
      | fail)
    refine bodyPost_ret (v := .tuple #[.agg D, .int .i64 s]) ?_ rfl ⟨rfl, HW.out.below w.heap.size w HB2.out hn4⟩
    exact results_row_tmp (p := 4) (q := 5) (ty := 24) rfl _ _ g4 24 D (0, 0) _ rfl HW.out.row Tryz.underlying24 rfl HS.out
set_option maxHeartbeats 8000000 in
theorem hHead (ck : EntryC) (hd : HeadC) (a : Option Addr) (len cap : Nat) (l : List ItT) (n r e t : Int) (w : World) (h : InL w a len cap l) (hn : In64 n) (hr : In64 r) (he : In64 e) (ht : In64 t) (hK : TabH w) (R : Array Value) (HR : Hid (R = (hcells (hdO l n r e t)).toArray)) :
    Calls Tryz.prog 40 #[.slice a len cap, .int .i64 n, .int .i64 r, .int .i64 e, .int .i64 t] w fun x w' => x = .returned (.tuple #[.agg R, .int .i64 (hdE l n r e t)]) ∧ Below w.heap.size w w' := by
  obtain ⟨D, HD⟩ : ∃ D : Array Value, Hid (D = (cellsOf (rootO l n)).toArray) := ⟨_, hidk rfl⟩
  have HC : Hid (∀ W, Below w.heap.size w W → Calls Tryz.prog 30 #[.slice a len cap, .int .i64 n] W fun e w' => e = .returned (.tuple #[.agg D, .int .i64 (sizeX l n)]) ∧ Below W.heap.size W w') := fun W hb => hRoot ck a len cap l n W (h.keep hb) (hK.keep hb) D HD
  obtain ⟨ZD, HZD, HAD, HSZD, H1ZD, H32D⟩ := noughts27
  obtain ⟨Z, HZ, HA, HBZ, H36⟩ := noughtsH
  have h32 : (rootO l n).length = 32 := rootO_length l n
  have HSD : Hid ((Tryz.prog.info? 24).map (·.size) = some D.size) := by show _ = _; rw [size23, HD.out]; simp [cellsOf_length, h32]
  have HZDD : Hid (ZD.size = D.size) := by show _ = _; rw [H32D.out, HD.out]; simp [cellsOf_length, h32]
  have H1D : Hid (D.all (·.oneCell') = true) := by show _ = _; rw [HD.out]; exact cellsOf_all _
  have hdR := hdO_digs l n r e t
  have HSR : Hid ((Tryz.prog.info? 26).map (·.size) = some R.size) := by show _ = _; rw [sizeH, HR.out]; simp [hcells_length _ hdR]
  have H1R : Hid (R.all (·.oneCell') = true) := by show _ = _; rw [HR.out]; exact one_cells _
  have HZR : Hid (Z.size = R.size) := by show _ = _; rw [H36.out, HR.out]; simp [hcells_length _ hdR]
  obtain ⟨s, HSZ⟩ : ∃ s, Hid (sizeX l n = s) := ⟨_, hidk rfl⟩
  rw [HSZ.out] at HC
  by_cases hs : s = 0
  · subst hs
    have hrt : rootO l n = root (leavesL (l.take n.toNat)) := by unfold rootO; rw [if_pos HSZ.out]
    obtain ⟨C, HCc⟩ : ∃ C : Array Value, Hid (C = (hcells (headX l n r e t)).toArray) := ⟨_, hidk rfl⟩
    have hdX : (headX l n r e t).d.length = 32 := headX_digs
    have HSC : Hid ((Tryz.prog.info? 26).map (·.size) = some C.size) := by show _ = _; rw [sizeH, HCc.out]; simp [hcells_length _ hdX]
    have H1C : Hid (C.all (·.oneCell') = true) := by show _ = _; rw [HCc.out]; exact one_cells _
    have HZC : Hid (Z.size = C.size) := by show _ = _; rw [H36.out, HCc.out]; simp [hcells_length _ hdX]
    have HBC : Hid (Tryz.prog.built 26 [(0, .int .i64 r), (1, .int .i64 e), (2, .int .i64 n), (3, .agg D), (4, .int .i64 t)] = some C) := builtH (headX l n r e t) hdX D C (by show _ = _; rw [HD.out, hrt]; rfl) HCc
    have RT : Hid (∀ W, Calls Tryz.prog 64 #[.agg C] W fun x w' => x = .returned (.int .i64 (if rightH (headX l n r e t) = true then 0 else 70)) ∧ Below W.heap.size W w') := fun W => hd.check (headX l n r e t) ⟨hdX, hr, he, hn, ht⟩ W C HCc
    obtain ⟨b, Hb⟩ : ∃ b, Hid (rightH (headX l n r e t) = b) := ⟨_, hidk rfl⟩
    rw [Hb.out] at RT
    cases b
    · rw [if_neg (by decide)] at RT
      obtain ⟨e1, e2⟩ := hdE_bad HSZ.out Hb.out
      rw [e1]
      have hRZ : R = Z := by rw [HR.out, HZ.out, e2]
      clear h hK ck hd hn hr he ht HD HSZ Hb HCc HR HZ e1 e2 hrt hdX hdR h32
      subst hRZ
      go_enter Tryz.func40, Tryz.ntmps40
      go_wp2_with (first
        | (show aD 10 _ _ _ _ _ _ _ _ _ _ _; refine wpList_new_var rfl 26 rfl R HA.out ?_; intro g10 w1 HM; have HG := hidk HM.out.row; have HB1 := hidk HM.out.below; have h10 : w.heap.size ≤ g10 := (by rw [HM.out.new]; exact Nat.le_refl _); try simp only [Act.put, pS1, pS2, pS3])
        | fail)
      refine (HC.out _ HB1.out).mono ?_
      rintro e w2 ⟨rfl, hb2⟩
      have HB2 := hidk (HB1.out.trans (hb2.mono HB1.out.size))
      have HG2 := hidk ((hb2.block _ (heap_lt HG.out)).trans HG.out)
      clear hb2 HM HG HB1
      go_wp2_with (first
        | (show aD 12 _ _ _ _ _ _ _ _ _ _ _; refine wpList_new_var rfl 24 rfl ZD HAD.out ?_; intro g12 w3 HM3; have HG12 := hidk HM3.out.row; try simp only [Act.put, pS1, pS2, pS3])
        | (refine wpList_set_var rfl 24 (.tmp 12) (.tmp 19) rfl g12 D rfl rfl 24 ZD HG12.out HSD.out HZDD.out H1D.out ?_; intro w4 HW4; have HR12 := hidk HW4.out.row; have hlt12 : g10 < g12 := (by rw [HM3.out.new]; exact heap_lt HG2.out); have h12 : w.heap.size ≤ g12 := Nat.le_trans HB2.out.size (by rw [HM3.out.new]; exact Nat.le_refl _); have HB4 : Hid (Below w.heap.size w w4) := HW4.out.below _ _ (HB2.out.trans (HM3.out.below.mono HB2.out.size)) h12; have HG4 : Hid (w4.heap[g10]? = some (.cells R 26 (0, 0))) := (HW4.out.other g10 (by omega)).trans ((HM3.out.below.block _ (heap_lt HG2.out)).trans HG2.out); try simp only [Act.put, pS1, pS2, pS3])
        | (show aD 28 _ _ _ _ _ _ _ _ _ _ _; refine wpList_load_row rfl 24 (.tmp 12) rfl g12 rfl 24 D (0, 0) _ HR12.out Tryz.underlying24 rfl HSD.out ?_; try simp only [Act.put, pS1, pS2, pS3])
        | (show aD 30 _ _ _ _ _ _ _ _ _ _ _; refine wpList_build_some rfl 26 _ rfl [(0, .int .i64 r), (1, .int .i64 e), (2, .int .i64 n), (3, .agg D), (4, .int .i64 t)] rfl C HBC.out ?_; try simp only [Act.put, pS1, pS2, pS3])
        | (show aD 14 _ _ _ _ _ _ _ _ _ _ _; refine wpList_new_var rfl 26 rfl R HA.out ?_; intro g14 w5 HM5; have HG14 := hidk HM5.out.row; try simp only [Act.put, pS1, pS2, pS3])
        | (refine wpList_set_var rfl 26 (.tmp 14) (.tmp 30) rfl g14 C rfl rfl 26 R HG14.out HSC.out HZC.out H1C.out ?_; intro w6 HW6; have HR14 := hidk HW6.out.row; have h14 : w.heap.size ≤ g14 := Nat.le_trans HB4.out.size (by rw [HM5.out.new]; exact Nat.le_refl _); have hlt14 : g10 < g14 := (by rw [HM5.out.new]; exact heap_lt HG4.out); have HB6 : Hid (Below w.heap.size w w6) := HW6.out.below _ _ (HB4.out.trans (HM5.out.below.mono HB4.out.size)) h14; have HG6 : Hid (w6.heap[g10]? = some (.cells R 26 (0, 0))) := (HW6.out.other g10 (by omega)).trans ((HM5.out.below.block _ (heap_lt HG4.out)).trans HG4.out); try simp only [Act.put, pS1, pS2, pS3])
        | (show aD 31 _ _ _ _ _ _ _ _ _ _ _; refine wpList_load_row rfl 26 (.tmp 14) rfl g14 rfl 26 C (0, 0) _ HR14.out Tryz.underlying26 rfl HSC.out ?_; try simp only [Act.put, pS1, pS2, pS3])
        | fail)
      refine (RT.out _).mono ?_
      rintro x w7 ⟨rfl, hb7⟩
      have HB7 := hidk (HB6.out.trans (hb7.mono HB6.out.size))
      have HG7 := hidk ((hb7.block _ (heap_lt HG6.out)).trans HG6.out)
      have HR7 := hidk ((hb7.block _ (heap_lt HR14.out)).trans HR14.out)
      clear hb7
      go_wp2_with (first
        | (show aD 34 _ _ _ _ _ _ _ _ _ _ _; refine wpList_build_none rfl 26 rfl R HBZ.out ?_; try simp only [Act.put, pS1, pS2, pS3])
        | (refine wpList_set_var rfl 26 (.tmp 10) (.tmp 34) rfl g10 R rfl rfl 26 R HG7.out HSR.out rfl H1R.out ?_; intro w8 HW8; try simp only [Act.put, pS1, pS2, pS3])
        | fail)
      refine bodyPost_ret (v := .tuple #[.agg R, .int .i64 100]) ?_ rfl ⟨rfl, HW8.out.below w.heap.size w HB7.out h10⟩
      exact results_row_tmp (p := 10) (q := 11) (ty := 26) rfl _ _ g10 26 R (0, 0) _ rfl HW8.out.row Tryz.underlying26 rfl HSR.out
    · rw [if_pos rfl] at RT
      obtain ⟨e1, e2⟩ := hdE_ok HSZ.out Hb.out
      rw [e1]
      have hRC : R = C := by rw [HR.out, HCc.out, e2]
      clear h hK ck hd hn hr he ht HD HSZ Hb HCc HR HZ e1 e2 hrt hdX hdR h32
      subst hRC
      go_enter Tryz.func40, Tryz.ntmps40
      go_wp2_with (first
        | (show aD 10 _ _ _ _ _ _ _ _ _ _ _; refine wpList_new_var rfl 26 rfl Z HA.out ?_; intro g10 w1 HM; have HG := hidk HM.out.row; have HB1 := hidk HM.out.below; have h10 : w.heap.size ≤ g10 := (by rw [HM.out.new]; exact Nat.le_refl _); try simp only [Act.put, pS1, pS2, pS3])
        | fail)
      refine (HC.out _ HB1.out).mono ?_
      rintro e w2 ⟨rfl, hb2⟩
      have HB2 := hidk (HB1.out.trans (hb2.mono HB1.out.size))
      have HG2 := hidk ((hb2.block _ (heap_lt HG.out)).trans HG.out)
      clear hb2 HM HG HB1
      go_wp2_with (first
        | (show aD 12 _ _ _ _ _ _ _ _ _ _ _; refine wpList_new_var rfl 24 rfl ZD HAD.out ?_; intro g12 w3 HM3; have HG12 := hidk HM3.out.row; try simp only [Act.put, pS1, pS2, pS3])
        | (refine wpList_set_var rfl 24 (.tmp 12) (.tmp 19) rfl g12 D rfl rfl 24 ZD HG12.out HSD.out HZDD.out H1D.out ?_; intro w4 HW4; have HR12 := hidk HW4.out.row; have hlt12 : g10 < g12 := (by rw [HM3.out.new]; exact heap_lt HG2.out); have h12 : w.heap.size ≤ g12 := Nat.le_trans HB2.out.size (by rw [HM3.out.new]; exact Nat.le_refl _); have HB4 : Hid (Below w.heap.size w w4) := HW4.out.below _ _ (HB2.out.trans (HM3.out.below.mono HB2.out.size)) h12; have HG4 : Hid (w4.heap[g10]? = some (.cells Z 26 (0, 0))) := (HW4.out.other g10 (by omega)).trans ((HM3.out.below.block _ (heap_lt HG2.out)).trans HG2.out); try simp only [Act.put, pS1, pS2, pS3])
        | (show aD 28 _ _ _ _ _ _ _ _ _ _ _; refine wpList_load_row rfl 24 (.tmp 12) rfl g12 rfl 24 D (0, 0) _ HR12.out Tryz.underlying24 rfl HSD.out ?_; try simp only [Act.put, pS1, pS2, pS3])
        | (show aD 30 _ _ _ _ _ _ _ _ _ _ _; refine wpList_build_some rfl 26 _ rfl [(0, .int .i64 r), (1, .int .i64 e), (2, .int .i64 n), (3, .agg D), (4, .int .i64 t)] rfl R HBC.out ?_; try simp only [Act.put, pS1, pS2, pS3])
        | (show aD 14 _ _ _ _ _ _ _ _ _ _ _; refine wpList_new_var rfl 26 rfl Z HA.out ?_; intro g14 w5 HM5; have HG14 := hidk HM5.out.row; try simp only [Act.put, pS1, pS2, pS3])
        | (refine wpList_set_var rfl 26 (.tmp 14) (.tmp 30) rfl g14 R rfl rfl 26 Z HG14.out HSC.out HZC.out H1C.out ?_; intro w6 HW6; have HR14 := hidk HW6.out.row; have h14 : w.heap.size ≤ g14 := Nat.le_trans HB4.out.size (by rw [HM5.out.new]; exact Nat.le_refl _); have hlt14 : g10 < g14 := (by rw [HM5.out.new]; exact heap_lt HG4.out); have HB6 : Hid (Below w.heap.size w w6) := HW6.out.below _ _ (HB4.out.trans (HM5.out.below.mono HB4.out.size)) h14; have HG6 : Hid (w6.heap[g10]? = some (.cells Z 26 (0, 0))) := (HW6.out.other g10 (by omega)).trans ((HM5.out.below.block _ (heap_lt HG4.out)).trans HG4.out); try simp only [Act.put, pS1, pS2, pS3])
        | (show aD 31 _ _ _ _ _ _ _ _ _ _ _; refine wpList_load_row rfl 26 (.tmp 14) rfl g14 rfl 26 R (0, 0) _ HR14.out Tryz.underlying26 rfl HSC.out ?_; try simp only [Act.put, pS1, pS2, pS3])
        | fail)
      refine (RT.out _).mono ?_
      rintro x w7 ⟨rfl, hb7⟩
      have HB7 := hidk (HB6.out.trans (hb7.mono HB6.out.size))
      have HG7 := hidk ((hb7.block _ (heap_lt HG6.out)).trans HG6.out)
      have HR7 := hidk ((hb7.block _ (heap_lt HR14.out)).trans HR14.out)
      clear hb7
      go_wp2_with (first
        | (show aD 35 _ _ _ _ _ _ _ _ _ _ _; refine wpList_load_row rfl 26 (.tmp 14) rfl g14 rfl 26 R (0, 0) _ HR7.out Tryz.underlying26 rfl HSR.out ?_; try simp only [Act.put, pS1, pS2, pS3])
        | (refine wpList_set_var rfl 26 (.tmp 10) (.tmp 35) rfl g10 R rfl rfl 26 Z HG7.out HSR.out HZR.out H1R.out ?_; intro w8 HW8; try simp only [Act.put, pS1, pS2, pS3])
        | fail)
      refine bodyPost_ret (v := .tuple #[.agg R, .int .i64 0]) ?_ rfl ⟨rfl, HW8.out.below w.heap.size w HB7.out h10⟩
      exact results_row_tmp (p := 10) (q := 11) (ty := 26) rfl _ _ g10 26 R (0, 0) _ rfl HW8.out.row Tryz.underlying26 rfl HSR.out
  · obtain ⟨e1, e2⟩ := hdE_no (r := r) (e := e) (t := t) (by rw [HSZ.out]; exact hs)
    rw [e1, HSZ.out]
    have hne : (!(s == 0)) = true := by simp [hs]
    have hRZ : R = Z := by rw [HR.out, HZ.out, e2]
    clear h hK ck hd hn hr he ht HD HSZ HR HZ e1 e2 hdR h32
    subst hRZ
    go_enter Tryz.func40, Tryz.ntmps40
    go_wp2_with (first
      | (show aD 10 _ _ _ _ _ _ _ _ _ _ _; refine wpList_new_var rfl 26 rfl R HA.out ?_; intro g10 w1 HM; have HG := hidk HM.out.row; have HB1 := hidk HM.out.below; have h10 : w.heap.size ≤ g10 := (by rw [HM.out.new]; exact Nat.le_refl _); try simp only [Act.put, pS1, pS2, pS3])
      | fail)
    refine (HC.out _ HB1.out).mono ?_
    rintro e w2 ⟨rfl, hb2⟩
    have HB2 := hidk (HB1.out.trans (hb2.mono HB1.out.size))
    have HG2 := hidk ((hb2.block _ (heap_lt HG.out)).trans HG.out)
    clear hb2 HM HG HB1
    go_wp2_with (first
      | (show aD 12 _ _ _ _ _ _ _ _ _ _ _; refine wpList_new_var rfl 24 rfl ZD HAD.out ?_; intro g12 w3 HM3; have HG12 := hidk HM3.out.row; try simp only [Act.put, pS1, pS2, pS3])
      | (refine wpList_set_var rfl 24 (.tmp 12) (.tmp 19) rfl g12 D rfl rfl 24 ZD HG12.out HSD.out HZDD.out H1D.out ?_; intro w4 HW4; have HR12 := hidk HW4.out.row; have hlt12 : g10 < g12 := (by rw [HM3.out.new]; exact heap_lt HG2.out); have h12 : w.heap.size ≤ g12 := Nat.le_trans HB2.out.size (by rw [HM3.out.new]; exact Nat.le_refl _); have HB4 : Hid (Below w.heap.size w w4) := HW4.out.below _ _ (HB2.out.trans (HM3.out.below.mono HB2.out.size)) h12; have HG4 : Hid (w4.heap[g10]? = some (.cells R 26 (0, 0))) := (HW4.out.other g10 (by omega)).trans ((HM3.out.below.block _ (heap_lt HG2.out)).trans HG2.out); try simp only [Act.put, pS1, pS2, pS3])
      | (show aD 23 _ _ _ _ _ _ _ _ _ _ _; refine wpList_build_none rfl 26 rfl R HBZ.out ?_; try simp only [Act.put, pS1, pS2, pS3])
      | (refine wpList_set_var rfl 26 (.tmp 10) (.tmp 23) rfl g10 R rfl rfl 26 R HG4.out HSR.out rfl H1R.out ?_; intro w8 HW8; try simp only [Act.put, pS1, pS2, pS3])
      | fail)
    refine bodyPost_ret (v := .tuple #[.agg R, .int .i64 s]) ?_ rfl ⟨rfl, HW8.out.below w.heap.size w HB4.out h10⟩
    exact results_row_tmp (p := 10) (q := 11) (ty := 26) rfl _ _ g10 26 R (0, 0) _ rfl HW8.out.row Tryz.underlying26 rfl HSR.out
theorem lreads_nil (w : World) : LReads w none 0 0 [] := ⟨rfl, (fun d hd => by cases hd), Nat.le_refl _, Nat.zero_le _, .inl rfl⟩
theorem incl_call11 (a : Option Addr) (len cap : Nat) (l : List (List UInt8)) (i : Nat) (w : World) (hR : LReads w a len cap l) (hi : i < len) (hl : len ≤ 100000) (hK : Table 1 w) :
    Calls Tryz.prog 33 #[.slice a len cap, .int .i64 i] w fun e w' => ∃ x cx, e = .returned (.tuple #[.slice x (incl l i).length cx, .int .i64 0]) ∧ LReads w' x (incl l i).length cx (incl l i) ∧ Below w.heap.size w w' := by
  refine (inclusion_in a len cap l i w hR hi hl hK).mono ?_
  rintro e w' ⟨v, rfl, ho, hb⟩
  obtain ⟨x, cx, rfl, hx, _⟩ := LReads.own ho (incl_digs sumD_length _ l i rfl hR.2.1)
  exact ⟨x, cx, rfl, hx, hb⟩
set_option maxHeartbeats 8000000 in
theorem hIncl (ck : EntryC) (a : Option Addr) (len cap : Nat) (l : List ItT) (n i : Int) (w : World) (h : InL w a len cap l) (hT : TabH w) :
    Calls Tryz.prog 19 #[.slice a len cap, .int .i64 n, .int .i64 i] w fun e w' => ∃ x cx, e = .returned (.tuple #[.slice x (incL11 l n i).length cx, .int .i64 (incE11 l n i)]) ∧ LReads w' x (incL11 l n i).length cx (incL11 l n i) ∧ Below w.heap.size w w' := by
  by_cases hs : sizeX l n = 0
  · have HC := hidk (hFirst_ok ck a len cap l n w h hs hT)
    have hvl := sizeX_vals l n hs
    have hln := h.rd.ln
    have hle := h.le
    by_cases hi : 0 ≤ i ∧ i < n
    · obtain ⟨e1, e2⟩ := incE11_ok hs hi
      obtain ⟨k, hk⟩ : ∃ k : Nat, i = k := ⟨i.toNat, by omega⟩
      subst hk
      rw [Int.toNat_natCast] at e2
      rw [e1, e2]
      have HT : Hid (∀ W x cx, Below w.heap.size w W → LReads W x n.toNat cx (leavesL (l.take n.toNat)) → Calls Tryz.prog 33 #[.slice x n.toNat cx, .int .i64 (k : Int)] W fun e w' => ∃ x cx, e = .returned (.tuple #[.slice x (incl (leavesL (l.take n.toNat)) k).length cx, .int .i64 0]) ∧ LReads w' x (incl (leavesL (l.take n.toNat)) k).length cx (incl (leavesL (l.take n.toNat)) k) ∧ Below W.heap.size W w') := fun W x cx hb hx => incl_call11 x n.toNat cx _ k W hx (by omega) (by omega) (hT.keep hb)
      clear h hT hs hi e1 e2 hvl ck
      go_enter Tryz.func19, Tryz.ntmps19
      go_wp2_with fail
      refine HC.out.mono ?_
      rintro e w1 ⟨⟨x, cx, rfl, hx⟩, hb1⟩
      have HR := hidk (HT.out w1 x cx hb1 hx)
      have HB1 := hidk hb1
      clear hx hb1
      go_wp2_with fail
      refine HR.out.mono ?_
      rintro e w2 ⟨y, cy, rfl, hy, hb2⟩
      have HY := hidk hy
      have HB2 := hidk (HB1.out.trans (hb2.mono HB1.out.size))
      clear hy hb2
      go_wp2
      go_ret2
      exact ⟨y, cy, rfl, HY.out, HB2.out⟩
    · obtain ⟨e1, e2⟩ := incE11_bad hs hi
      rw [e1, e2]
      have HT : Hid (∀ W x cx, Calls Tryz.prog 33 #[.slice x n.toNat cx, .int .i64 i] W fun e w' => e = .returned (.tuple #[.slice none 0 0, .int .i64 20]) ∧ Below W.heap.size W w') := fun W x cx => inclusion_out x n.toNat cx i W (by unfold maxLen; omega) (by omega)
      clear h hT hs hi e1 e2 hvl ck
      go_enter Tryz.func19, Tryz.ntmps19
      go_wp2_with fail
      refine HC.out.mono ?_
      rintro e w1 ⟨⟨x, cx, rfl, hx⟩, hb1⟩
      have HB1 := hidk hb1
      clear hx hb1
      go_wp2_with fail
      refine (HT.out _ _ _).mono ?_
      rintro e w2 ⟨rfl, hb2⟩
      have HB2 := hidk (HB1.out.trans (hb2.mono HB1.out.size))
      clear hb2
      go_wp2
      go_ret2
      exact ⟨none, 0, rfl, lreads_nil _, HB2.out⟩
  · obtain ⟨e1, e2⟩ := incE11_no (i := i) hs
    rw [e1, e2]
    have HC := hidk (hFirst_no ck a len cap l n w h hs)
    obtain ⟨s, HSZ⟩ : ∃ s, Hid (sizeX l n = s) := ⟨_, hidk rfl⟩
    rw [HSZ.out] at HC hs ⊢
    have hne : (!(s == 0)) = true := by simp [hs]
    clear h hT e1 e2 HSZ ck
    go_enter Tryz.func19, Tryz.ntmps19
    go_wp2_with fail
    refine HC.out.mono ?_
    rintro e w1 ⟨rfl, hb1⟩
    have HB1 := hidk hb1
    clear hb1
    go_wp2
    go_ret2
    exact ⟨none, 0, rfl, lreads_nil _, HB1.out⟩
def zeroK : List UInt8 := List.replicate 32 0
theorem builtKey : Tryz.prog.built 48 [] = some (cellsOf zeroK).toArray := by kernel_rfl
def hdN (e : Int) : HdT := ⟨2, e, 0, sumD [], 0⟩
def anI (e : Int) (s : SgT) : ItT := ⟨e, ⟨2, 0, 0, ByteArray.empty, s, zeroC⟩⟩
def sgN (e : Int) : SgT := signO zeroK (hdN e) 1
end Go.Proofs.YtkmedlfbkddmoaaGreatDoor
/- What is admitted may come next, and is admitted again (chapter 13). -/
namespace Go.Proofs.YtkmedlfbkddmoaaGreatDoor
open Nums Sums
set_option linter.unusedVariables false
set_option maxRecDepth 100000
end Go.Proofs.YtkmedlfbkddmoaaGreatDoor
/- The statements' admits() of chapter 13. -/
namespace Go.Proofs.YtkmedlfbkddmoaaGreatDoor
open Go.RowKit Nums Sums
set_option linter.unusedVariables false
set_option linter.unusedSimpArgs false
set_option maxRecDepth 100000
structure HeldA (w : World) (gl g1 g3 : Nat) (S : Array Value) (V : World) : Prop where
  b : Below w.heap.size w V
  t : TabH V
  i : InL V (some ⟨gl, 0, none⟩) 1 1 [anI 1 (sgN 1)]
  a : V.heap[g1]? = some (.cells S 28 (0, 0))
  s : V.heap[g3]? = some (.cells S 28 (0, 0))
theorem HeldA.keep {w : World} {gl g1 g3 : Nat} {S : Array Value} {V V' : World} (h : HeldA w gl g1 g3 S V) (hb : Below V.heap.size V V') : HeldA w gl g1 g3 S V' :=
  ⟨h.b.trans (hb.mono h.b.size), h.t.keep hb, h.i.keep hb, (hb.block _ (heap_lt h.a)).trans h.a, (hb.block _ (heap_lt h.s)).trans h.s⟩
theorem HeldA.drew {w : World} {gl g1 g3 : Nat} {S : Array Value} {V : World} (h : HeldA w gl g1 g3 S V) : HeldA w gl g1 g3 S V.drew := h.keep (Below.refl _ _).drew
end Go.Proofs.YtkmedlfbkddmoaaGreatDoor
/- The program's Find and isOld. -/
namespace Go.Proofs.YtkmedlfbkddmoaaGreatDoor
open Go.RowKit Go.Shelf Nums Sums
set_option linter.unusedVariables false
set_option linter.unusedSimpArgs false
set_option maxRecDepth 100000
attribute [local go_sem] Oper.semAt_some
structure FndB (w : World) (s i : Int) (b : Bool) (W : World) : Prop where
  s : W.heap[w.heap.size]? = some (.cells #[.int .i64 s] 3 (0, 0))
  i : W.heap[w.heap.size + 1]? = some (.cells #[.int .i64 i] 3 (0, 0))
  b : W.heap[w.heap.size + 1 + 1]? = some (.cells #[.bool b] 4 (0, 0))
  bl : Below w.heap.size w W
  z : w.heap.size + 5 ≤ W.heap.size
theorem FndB.own {w : World} {s i : Int} {b : Bool} {X Y : World} {row : Option Nat} {B : Nat} (h : FndB w s i b X) (hB : w.heap.size ≤ B) (hg : X.grownBy Y row) (hr : ∀ r, row = some r → B ≤ r ∧ ∃ o : Obj, X.heap[r]? = some o ∧ o.isCells = false) : FndB w s i b Y :=
  ⟨cells_stay h.s hg (fun r e => (hr r e).2), cells_stay h.i hg (fun r e => (hr r e).2), cells_stay h.b hg (fun r e => (hr r e).2), h.bl.grown hg (Nat.le_trans h.bl.size (Nat.le_refl _)) (fun k e => by have := (hr k e).1; omega), Nat.le_trans h.z hg.size⟩
theorem FndB.keep {w : World} {s i : Int} {b : Bool} {X Y : World} (h : FndB w s i b X) (hb : Below X.heap.size X Y) : FndB w s i b Y :=
  ⟨(hb.block _ (heap_lt h.s)).trans h.s, (hb.block _ (heap_lt h.i)).trans h.i, (hb.block _ (heap_lt h.b)).trans h.b, h.bl.trans (hb.mono h.bl.size), Nat.le_trans h.z hb.size⟩
structure OldB (w : World) (V : Array Value) (b : Bool) (W : World) : Prop where
  e : W.heap[w.heap.size]? = some (.cells V 35 (0, 0))
  b : W.heap[w.heap.size + 1]? = some (.cells #[.bool b] 4 (0, 0))
  bl : Below w.heap.size w W
  z : w.heap.size + 4 ≤ W.heap.size
theorem OldB.own {w : World} {V : Array Value} {b : Bool} {X Y : World} {row : Option Nat} {B : Nat} (h : OldB w V b X) (hB : w.heap.size ≤ B) (hg : X.grownBy Y row) (hr : ∀ r, row = some r → B ≤ r ∧ ∃ o : Obj, X.heap[r]? = some o ∧ o.isCells = false) : OldB w V b Y :=
  ⟨cells_stay h.e hg (fun r e => (hr r e).2), cells_stay h.b hg (fun r e => (hr r e).2), h.bl.grown hg (Nat.le_trans h.bl.size (Nat.le_refl _)) (fun k e => by have := (hr k e).1; omega), Nat.le_trans h.z hg.size⟩
theorem OldB.keep {w : World} {V : Array Value} {b : Bool} {X Y : World} (h : OldB w V b X) (hb : Below X.heap.size X Y) : OldB w V b Y :=
  ⟨(hb.block _ (heap_lt h.e)).trans h.e, (hb.block _ (heap_lt h.b)).trans h.b, h.bl.trans (hb.mono h.bl.size), Nat.le_trans h.z hb.size⟩
end Go.Proofs.YtkmedlfbkddmoaaGreatDoor
/- The program's May of logs. -/
namespace Go.Proofs.YtkmedlfbkddmoaaGreatDoor
open Go.RowKit Nums Sums
set_option linter.unusedVariables false
set_option linter.unusedSimpArgs false
set_option maxRecDepth 100000
end Go.Proofs.YtkmedlfbkddmoaaGreatDoor
