/- CheckTwice over what the calls of check answer. -/
import Derived.Test.YtehfoeedlchphaaDoorFinds
import Derived.OpenShut
namespace Go.Proofs.YtehfoeedlchphaaDoor
open Go.RowKit Sums
set_option linter.unusedVariables false
set_option linter.unusedSimpArgs false

set_option maxHeartbeats 8000000 in
theorem twice_in (ck : CheckC) (a0 : Option Addr) (len0 cap0 : Nat) (z0 : List (List UInt8)) (i k : Nat) (w : World) (w0 : LReads w a0 len0 cap0 z0) (hK : TabC w) (hl : len0 ≤ 200) (hik : i ≤ k) (hkl : k ≤ len0) :
    Calls Tryd.prog 8 #[.slice a0 len0 cap0, .int .i64 i, .int .i64 k] w fun e w' => e = .returned (.bool true) ∧ Below w.heap.size w w' := by
  have hlen := w0.1
  have d1 : decide (200 < (len0 : Int)) = false := by rw [decide_eq_false_iff_not]; omega
  have d2 : decide ((i : Int) < 0) = false := by rw [decide_eq_false_iff_not]; omega
  have d3 : decide ((k : Int) < (i : Int)) = false := by rw [decide_eq_false_iff_not]; omega
  have d4 : decide ((len0 : Int) < (k : Int)) = false := by rw [decide_eq_false_iff_not]; omega
  have d5 : ¬ k < i := by omega
  have d6 : ¬ len0 < k := by omega
  obtain ⟨ak, slk, hslk⟩ := slice_first w0 k hkl
  obtain ⟨ai, sli, hsli⟩ := slice_first w0 i (by omega)
  obtain ⟨Z, HZ, HA, HS, H1, H32⟩ := noughts27
  have lA := root_length sumD_length _ (w0.2.1.take i)
  have lB := root_length sumD_length _ (w0.2.1.take k)
  have lC := root_length sumD_length _ w0.2.1
  obtain ⟨A, HAr, HSA, H1A, H32A⟩ := dig_row' (root (z0.take i)) lA
  obtain ⟨B, HBr, HSB, H1B, H32B⟩ := dig_row' (root (z0.take k)) lB
  obtain ⟨C, HCr, HSC, H1C, H32C⟩ := dig_row' (root z0) lC
  have HZA : Hid (Z.size = A.size) := by show _ = _; rw [H32.out, H32A.out]
  have HZB : Hid (Z.size = B.size) := by show _ = _; rw [H32.out, H32B.out]
  have HZC : Hid (Z.size = C.size) := by show _ = _; rw [H32.out, H32C.out]
  have R1 : Hid (∀ W, Below w.heap.size w W → Calls Tryd.prog 20 #[.slice ai i cap0] W fun e w' => e = .returned (.agg A) ∧ Below W.heap.size W w') := fun W hb => root_any i ai i cap0 _ W rfl (hsli W (w0.keep hb)) (hK.keep hb).sha A HAr
  have R2 : Hid (∀ W, Below w.heap.size w W → Calls Tryd.prog 20 #[.slice ak k cap0] W fun e w' => e = .returned (.agg B) ∧ Below W.heap.size W w') := fun W hb => root_any k ak k cap0 _ W rfl (hslk W (w0.keep hb)) (hK.keep hb).sha B HBr
  have R3 : Hid (∀ W, Below w.heap.size w W → Calls Tryd.prog 20 #[.slice a0 len0 cap0] W fun e w' => e = .returned (.agg C) ∧ Below W.heap.size W w') := fun W hb => root_any len0 a0 len0 cap0 _ W rfl (w0.keep hb) (hK.keep hb).sha C HCr
  obtain ⟨np, Hnp⟩ : ∃ n, Hid (n = (goesW (z0.take k) i).length) := ⟨_, (rfl : _ = _)⟩
  obtain ⟨nq, Hnq⟩ : ∃ n, Hid (n = (goesW z0 k).length) := ⟨_, (rfl : _ = _)⟩
  obtain ⟨nr, Hnr⟩ : ∃ n, Hid (n = (goesW z0 i).length) := ⟨_, (rfl : _ = _)⟩
  have C1 : Hid (∀ W, Below w.heap.size w W → Calls Tryd.prog 19 #[.slice ak k cap0, .int .i64 i] W fun e w' => ∃ x cx, e = .returned (.tuple #[.slice x np cx, .int .i64 0]) ∧ LReads w' x np cx (goesW (z0.take k) i) ∧ Below W.heap.size W w') := fun W hb => by
    rw [Hnp.out]; exact goes_call ak k cap0 (z0.take k) i W (hslk W (w0.keep hb)) hik (by omega) (hK.keep hb).sha
  have C2 : Hid (∀ W, Below w.heap.size w W → Calls Tryd.prog 19 #[.slice a0 len0 cap0, .int .i64 k] W fun e w' => ∃ x cx, e = .returned (.tuple #[.slice x nq cx, .int .i64 0]) ∧ LReads w' x nq cx (goesW z0 k) ∧ Below W.heap.size W w') := fun W hb => by
    rw [Hnq.out]; exact goes_call a0 len0 cap0 z0 k W (w0.keep hb) hkl (by omega) (hK.keep hb).sha
  have C3 : Hid (∀ W, Below w.heap.size w W → Calls Tryd.prog 19 #[.slice a0 len0 cap0, .int .i64 i] W fun e w' => ∃ x cx, e = .returned (.tuple #[.slice x nr cx, .int .i64 0]) ∧ LReads w' x nr cx (goesW z0 i) ∧ Below W.heap.size W w') := fun W hb => by
    rw [Hnr.out]; exact goes_call a0 len0 cap0 z0 i W (w0.keep hb) (by omega) (by omega) (hK.keep hb).sha
  have TH : Hid (∀ W, Below w.heap.size w W → Calls Tryd.prog 11 #[] W fun e w' => e = .returned (.bool true) ∧ Below W.heap.size W w') := fun W hb => three5_true ck W (hK.keep hb)
  have htk : (z0.take k).length = k := by rw [List.length_take]; omega
  have htt : (z0.take k).take i = z0.take i := by rw [List.take_take, Nat.min_eq_left hik]
  have N1 : Hid (∀ W x cx, Below w.heap.size w W → LReads W x np cx (goesW (z0.take k) i) → Calls Tryd.prog 14 #[.int .i64 i, .agg A, .int .i64 k, .agg B, .slice x np cx] W fun e w' => e = .returned (.int .i64 0) ∧ Below W.heap.size W w') := fun W x cx hb hx => by
    have := ck.consistent i (root (z0.take i)) k (root (z0.take k)) (goesW (z0.take k) i) x np cx W A B HAr HBr lA lB (by omega) (by omega) hx (hK.keep hb)
    have e := con_finds (z0.take k) i (by omega) (by omega)
    rw [htk, htt] at e
    rwa [e] at this
  have N2 : Hid (∀ W x cx, Below w.heap.size w W → LReads W x nq cx (goesW z0 k) → Calls Tryd.prog 14 #[.int .i64 k, .agg B, .int .i64 len0, .agg C, .slice x nq cx] W fun e w' => e = .returned (.int .i64 0) ∧ Below W.heap.size W w') := fun W x cx hb hx => by
    have := ck.consistent k (root (z0.take k)) len0 (root z0) (goesW z0 k) x nq cx W B C HBr HCr lB lC (by omega) (by omega) hx (hK.keep hb)
    have e := con_finds z0 k (by omega) (by omega)
    rw [hlen] at e
    rwa [e] at this
  have N3 : Hid (∀ W x cx, Below w.heap.size w W → LReads W x nr cx (goesW z0 i) → Calls Tryd.prog 14 #[.int .i64 i, .agg A, .int .i64 len0, .agg C, .slice x nr cx] W fun e w' => e = .returned (.int .i64 0) ∧ Below W.heap.size W w') := fun W x cx hb hx => by
    have := ck.consistent i (root (z0.take i)) len0 (root z0) (goesW z0 i) x nr cx W A C HAr HCr lA lC (by omega) (by omega) hx (hK.keep hb)
    have e := con_finds z0 i (by omega) (by omega)
    rw [hlen] at e
    rwa [e] at this
  have hl9 : len0 ≤ 9223372036854775807 := by omega
  clear ck hK w0 hslk hsli HAr HBr HCr lA lB lC H32A H32B H32C htk htt Hnp Hnq Hnr hlen
  go_enter Tryd.func8, Tryd.ntmps8
  go_wp2_with fail
  refine (C1.out _ (Below.refl _ _)).mono ?_
  rintro e wa ⟨xp, cp, rfl, hpa, hba⟩
  have Ha := hidk (And.intro hba hpa)
  clear hba hpa C1
  go_wp2_with fail
  refine (C2.out _ Ha.out.1).mono ?_
  rintro e wb ⟨xq, cq, rfl, hqb, hbb⟩
  have Hb : Hid (Below w.heap.size w wb ∧ LReads wb xp np cp (goesW (z0.take k) i) ∧ LReads wb xq nq cq (goesW z0 k)) := ⟨Ha.out.1.trans (hbb.mono Ha.out.1.size), Ha.out.2.keep hbb, hqb⟩
  clear hbb hqb C2 Ha
  go_wp2_with fail
  refine (C3.out _ Hb.out.1).mono ?_
  rintro e wc ⟨xr, cr, rfl, hrc, hbc⟩
  have Hc : Hid (Below w.heap.size w wc ∧ LReads wc xp np cp (goesW (z0.take k) i) ∧ LReads wc xq nq cq (goesW z0 k) ∧ LReads wc xr nr cr (goesW z0 i)) := ⟨Hb.out.1.trans (hbc.mono Hb.out.1.size), Hb.out.2.1.keep hbc, Hb.out.2.2.keep hbc, hrc⟩
  clear hbc hrc C3 Hb
  go_wp2_with fail
  refine (R1.out _ Hc.out.1).mono ?_
  rintro e wd ⟨rfl, hbd⟩
  have Hd : Hid (Below w.heap.size w wd ∧ LReads wd xp np cp (goesW (z0.take k) i) ∧ LReads wd xq nq cq (goesW z0 k) ∧ LReads wd xr nr cr (goesW z0 i)) := ⟨Hc.out.1.trans (hbd.mono Hc.out.1.size), Hc.out.2.1.keep hbd, Hc.out.2.2.1.keep hbd, Hc.out.2.2.2.keep hbd⟩
  clear hbd R1 Hc
  go_wp2_with (first
    | (show wpList _ _ _ ({ dst := some 13, op := _, type := _, pos := _, after := _, guard := _ } :: _) _ _; refine wpList_new_row rfl rfl 23 rfl (.tmp 13) (.tmp 57) rfl Z A HA.out (fun _ => by simp [Act.put, Act.eval]) (fun _ => by simp [Act.put, Act.eval]) HSA.out HZA.out H1A.out ?_; intro g1 we Fe; try simp only [Act.put, List.setIfInBounds_toArray, List.set_cons_zero, List.set_cons_succ])
    | fail)
  have He : Hid (Below w.heap.size w we ∧ LReads we xp np cp (goesW (z0.take k) i) ∧ LReads we xq nq cq (goesW z0 k) ∧ LReads we xr nr cr (goesW z0 i) ∧ we.heap[g1]? = some (.cells A 23 (0, 0))) := ⟨Hd.out.1.trans (Fe.out.2.2.mono Hd.out.1.size), Hd.out.2.1.keep Fe.out.2.2, Hd.out.2.2.1.keep Fe.out.2.2, Hd.out.2.2.2.keep Fe.out.2.2, Fe.out.2.1⟩
  clear Fe Hd
  refine (R2.out _ He.out.1).mono ?_
  rintro e wf ⟨rfl, hbf⟩
  have Hf : Hid (Below w.heap.size w wf ∧ LReads wf xp np cp (goesW (z0.take k) i) ∧ LReads wf xq nq cq (goesW z0 k) ∧ LReads wf xr nr cr (goesW z0 i) ∧ wf.heap[g1]? = some (.cells A 23 (0, 0))) := ⟨He.out.1.trans (hbf.mono He.out.1.size), He.out.2.1.keep hbf, He.out.2.2.1.keep hbf, He.out.2.2.2.1.keep hbf, (hbf.block _ (heap_lt He.out.2.2.2.2)).trans He.out.2.2.2.2⟩
  clear hbf R2 He
  go_wp2_with (first
    | (show wpList _ _ _ ({ dst := some 14, op := _, type := _, pos := _, after := _, guard := _ } :: _) _ _; refine wpList_new_row rfl rfl 23 rfl (.tmp 14) (.tmp 61) rfl Z B HA.out (fun _ => by simp [Act.put, Act.eval]) (fun _ => by simp [Act.put, Act.eval]) HSB.out HZB.out H1B.out ?_; intro g2 wg Fg; try simp only [Act.put, List.setIfInBounds_toArray, List.set_cons_zero, List.set_cons_succ])
    | fail)
  have Hg : Hid (Below w.heap.size w wg ∧ LReads wg xp np cp (goesW (z0.take k) i) ∧ LReads wg xq nq cq (goesW z0 k) ∧ LReads wg xr nr cr (goesW z0 i) ∧ wg.heap[g1]? = some (.cells A 23 (0, 0)) ∧ wg.heap[g2]? = some (.cells B 23 (0, 0))) := ⟨Hf.out.1.trans (Fg.out.2.2.mono Hf.out.1.size), Hf.out.2.1.keep Fg.out.2.2, Hf.out.2.2.1.keep Fg.out.2.2, Hf.out.2.2.2.1.keep Fg.out.2.2, (Fg.out.2.2.block _ (heap_lt Hf.out.2.2.2.2)).trans Hf.out.2.2.2.2, Fg.out.2.1⟩
  clear Fg Hf
  refine (R3.out _ Hg.out.1).mono ?_
  rintro e wh ⟨rfl, hbh⟩
  have Hh : Hid (Below w.heap.size w wh ∧ LReads wh xp np cp (goesW (z0.take k) i) ∧ LReads wh xq nq cq (goesW z0 k) ∧ LReads wh xr nr cr (goesW z0 i) ∧ wh.heap[g1]? = some (.cells A 23 (0, 0)) ∧ wh.heap[g2]? = some (.cells B 23 (0, 0))) := ⟨Hg.out.1.trans (hbh.mono Hg.out.1.size), Hg.out.2.1.keep hbh, Hg.out.2.2.1.keep hbh, Hg.out.2.2.2.1.keep hbh, (hbh.block _ (heap_lt Hg.out.2.2.2.2.1)).trans Hg.out.2.2.2.2.1, (hbh.block _ (heap_lt Hg.out.2.2.2.2.2)).trans Hg.out.2.2.2.2.2⟩
  clear hbh R3 Hg
  go_wp2_with (first
    | (show wpList _ _ _ ({ dst := some 15, op := _, type := _, pos := _, after := _, guard := _ } :: _) _ _; refine wpList_new_row rfl rfl 23 rfl (.tmp 15) (.tmp 63) rfl Z C HA.out (fun _ => by simp [Act.put, Act.eval]) (fun _ => by simp [Act.put, Act.eval]) HSC.out HZC.out H1C.out ?_; intro g3 wi Fi; try simp only [Act.put, List.setIfInBounds_toArray, List.set_cons_zero, List.set_cons_succ])
    | fail)
  have Hi : Hid (Below w.heap.size w wi ∧ LReads wi xp np cp (goesW (z0.take k) i) ∧ LReads wi xq nq cq (goesW z0 k) ∧ LReads wi xr nr cr (goesW z0 i) ∧ wi.heap[g1]? = some (.cells A 23 (0, 0)) ∧ wi.heap[g2]? = some (.cells B 23 (0, 0)) ∧ wi.heap[g3]? = some (.cells C 23 (0, 0))) := ⟨Hh.out.1.trans (Fi.out.2.2.mono Hh.out.1.size), Hh.out.2.1.keep Fi.out.2.2, Hh.out.2.2.1.keep Fi.out.2.2, Hh.out.2.2.2.1.keep Fi.out.2.2, (Fi.out.2.2.block _ (heap_lt Hh.out.2.2.2.2.1)).trans Hh.out.2.2.2.2.1, (Fi.out.2.2.block _ (heap_lt Hh.out.2.2.2.2.2)).trans Hh.out.2.2.2.2.2, Fi.out.2.1⟩
  clear Fi Hh
  refine (TH.out _ Hi.out.1).mono ?_
  rintro e wj ⟨rfl, hbj⟩
  have Hj : Hid (Below w.heap.size w wj ∧ LReads wj xp np cp (goesW (z0.take k) i) ∧ LReads wj xq nq cq (goesW z0 k) ∧ LReads wj xr nr cr (goesW z0 i) ∧ wj.heap[g1]? = some (.cells A 23 (0, 0)) ∧ wj.heap[g2]? = some (.cells B 23 (0, 0)) ∧ wj.heap[g3]? = some (.cells C 23 (0, 0))) := ⟨Hi.out.1.trans (hbj.mono Hi.out.1.size), Hi.out.2.1.keep hbj, Hi.out.2.2.1.keep hbj, Hi.out.2.2.2.1.keep hbj, (hbj.block _ (heap_lt Hi.out.2.2.2.2.1)).trans Hi.out.2.2.2.2.1, (hbj.block _ (heap_lt Hi.out.2.2.2.2.2.1)).trans Hi.out.2.2.2.2.2.1, (hbj.block _ (heap_lt Hi.out.2.2.2.2.2.2)).trans Hi.out.2.2.2.2.2.2⟩
  clear hbj TH Hi
  go_wp2_with (first
  | (show wpList _ _ _ ({ dst := some 79, op := _, type := _, pos := _, after := _, guard := _ } :: _) _ _; refine wpList_load_row_w (by rfl) 23 (.tmp 13) rfl g1 rfl 23 A (0, 0) _ Hj.out.2.2.2.2.1 Tryd.underlying23 rfl HSA.out ?_; try simp only [Act.put, List.setIfInBounds_toArray, List.set_cons_zero, List.set_cons_succ])
  | (show wpList _ _ _ ({ dst := some 81, op := _, type := _, pos := _, after := _, guard := _ } :: _) _ _; refine wpList_load_row_w (by rfl) 23 (.tmp 14) rfl g2 rfl 23 B (0, 0) _ Hj.out.2.2.2.2.2.1 Tryd.underlying23 rfl HSB.out ?_; try simp only [Act.put, List.setIfInBounds_toArray, List.set_cons_zero, List.set_cons_succ])
    | fail)
  refine (N1.out _ _ _ Hj.out.1 Hj.out.2.1).mono ?_
  rintro e wk ⟨rfl, hbk⟩
  have Hk : Hid (Below w.heap.size w wk ∧ LReads wk xp np cp (goesW (z0.take k) i) ∧ LReads wk xq nq cq (goesW z0 k) ∧ LReads wk xr nr cr (goesW z0 i) ∧ wk.heap[g1]? = some (.cells A 23 (0, 0)) ∧ wk.heap[g2]? = some (.cells B 23 (0, 0)) ∧ wk.heap[g3]? = some (.cells C 23 (0, 0))) := ⟨Hj.out.1.trans (hbk.mono Hj.out.1.size), Hj.out.2.1.keep hbk, Hj.out.2.2.1.keep hbk, Hj.out.2.2.2.1.keep hbk, (hbk.block _ (heap_lt Hj.out.2.2.2.2.1)).trans Hj.out.2.2.2.2.1, (hbk.block _ (heap_lt Hj.out.2.2.2.2.2.1)).trans Hj.out.2.2.2.2.2.1, (hbk.block _ (heap_lt Hj.out.2.2.2.2.2.2)).trans Hj.out.2.2.2.2.2.2⟩
  clear hbk N1 Hj
  go_wp2_with (first
  | (show wpList _ _ _ ({ dst := some 88, op := _, type := _, pos := _, after := _, guard := _ } :: _) _ _; refine wpList_load_row_w (by rfl) 23 (.tmp 14) rfl g2 rfl 23 B (0, 0) _ Hk.out.2.2.2.2.2.1 Tryd.underlying23 rfl HSB.out ?_; try simp only [Act.put, List.setIfInBounds_toArray, List.set_cons_zero, List.set_cons_succ])
  | (show wpList _ _ _ ({ dst := some 91, op := _, type := _, pos := _, after := _, guard := _ } :: _) _ _; refine wpList_load_row_w (by rfl) 23 (.tmp 15) rfl g3 rfl 23 C (0, 0) _ Hk.out.2.2.2.2.2.2 Tryd.underlying23 rfl HSC.out ?_; try simp only [Act.put, List.setIfInBounds_toArray, List.set_cons_zero, List.set_cons_succ])
    | fail)
  refine (N2.out _ _ _ Hk.out.1 Hk.out.2.2.1).mono ?_
  rintro e wl ⟨rfl, hbl⟩
  have Hl : Hid (Below w.heap.size w wl ∧ LReads wl xp np cp (goesW (z0.take k) i) ∧ LReads wl xq nq cq (goesW z0 k) ∧ LReads wl xr nr cr (goesW z0 i) ∧ wl.heap[g1]? = some (.cells A 23 (0, 0)) ∧ wl.heap[g2]? = some (.cells B 23 (0, 0)) ∧ wl.heap[g3]? = some (.cells C 23 (0, 0))) := ⟨Hk.out.1.trans (hbl.mono Hk.out.1.size), Hk.out.2.1.keep hbl, Hk.out.2.2.1.keep hbl, Hk.out.2.2.2.1.keep hbl, (hbl.block _ (heap_lt Hk.out.2.2.2.2.1)).trans Hk.out.2.2.2.2.1, (hbl.block _ (heap_lt Hk.out.2.2.2.2.2.1)).trans Hk.out.2.2.2.2.2.1, (hbl.block _ (heap_lt Hk.out.2.2.2.2.2.2)).trans Hk.out.2.2.2.2.2.2⟩
  clear hbl N2 Hk
  go_wp2_with (first
  | (show wpList _ _ _ ({ dst := some 98, op := _, type := _, pos := _, after := _, guard := _ } :: _) _ _; refine wpList_load_row_w (by rfl) 23 (.tmp 13) rfl g1 rfl 23 A (0, 0) _ Hl.out.2.2.2.2.1 Tryd.underlying23 rfl HSA.out ?_; try simp only [Act.put, List.setIfInBounds_toArray, List.set_cons_zero, List.set_cons_succ])
  | (show wpList _ _ _ ({ dst := some 101, op := _, type := _, pos := _, after := _, guard := _ } :: _) _ _; refine wpList_load_row_w (by rfl) 23 (.tmp 15) rfl g3 rfl 23 C (0, 0) _ Hl.out.2.2.2.2.2.2 Tryd.underlying23 rfl HSC.out ?_; try simp only [Act.put, List.setIfInBounds_toArray, List.set_cons_zero, List.set_cons_succ])
    | fail)
  refine (N3.out _ _ _ Hl.out.1 Hl.out.2.2.2.1).mono ?_
  rintro e wm ⟨rfl, hbm⟩
  have Hm : Hid (Below w.heap.size w wm) := Hl.out.1.trans (hbm.mono Hl.out.1.size)
  clear hbm N3 Hl
  go_wp2
  go_ret
  exact ⟨rfl, Hm.out⟩

set_option maxHeartbeats 4000000 in
theorem checkTwice_of (ck : CheckC) (a0 : Option Addr) (len0 cap0 : Nat) (z0 : List (List UInt8)) (a1 a2 : Int) (w : World) (w0 : LReads w a0 len0 cap0 z0) (w1 : (Lit.int .i64 a1).wf = true) (w2 : (Lit.int .i64 a2).wf = true) (hK : TabC w) :
    Calls Tryd.prog 8 #[.slice a0 len0 cap0, .int .i64 a1, .int .i64 a2] w fun e w' => e = .returned (.bool true) ∧ Below w.heap.size w w' := by
  have hb1 := bounds_i64 w1
  have hb2 := bounds_i64 w2
  have hlx : len0 ≤ 9223372036854775807 := by have := w0.2.2.2.1; unfold maxLen at this; omega
  by_cases hin : len0 ≤ 200 ∧ 0 ≤ a1 ∧ a1 ≤ a2 ∧ a2 ≤ (len0 : Int)
  · obtain ⟨i, rfl⟩ : ∃ i : Nat, a1 = i := ⟨a1.toNat, by omega⟩
    obtain ⟨k, rfl⟩ : ∃ k : Nat, a2 = k := ⟨a2.toNat, by omega⟩
    exact twice_in ck a0 len0 cap0 z0 i k w w0 hK hin.1 (by omega) (by omega)
  · have cs : (decide (200 < (len0 : Int)) = true) ∨ (decide (200 < (len0 : Int)) = false ∧ decide (a1 < 0) = true) ∨ (decide (200 < (len0 : Int)) = false ∧ decide (a1 < 0) = false ∧ decide (a2 < a1) = true) ∨ (decide (200 < (len0 : Int)) = false ∧ decide (a1 < 0) = false ∧ decide (a2 < a1) = false ∧ decide ((len0 : Int) < a2) = true) := by
      simp only [decide_eq_true_eq, decide_eq_false_iff_not]
      omega
    clear hin hK w0 ck
    rcases cs with d1 | ⟨d1, d2⟩ | ⟨d1, d2, d3⟩ | ⟨d1, d2, d3, d4⟩
    all_goals
      go_enter Tryd.func8, Tryd.ntmps8
      go_wp2
      go_ret
      exact ⟨rfl, Below.refl _ _⟩
end Go.Proofs.YtehfoeedlchphaaDoor
