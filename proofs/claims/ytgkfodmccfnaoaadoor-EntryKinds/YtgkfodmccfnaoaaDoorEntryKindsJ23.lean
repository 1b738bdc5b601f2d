/- Texts of our own that the row of EntryKinds leans on, part 23. -/
import Derived.Test.YtgkfodmccfnaoaaDoorEntryKindsJ15
import Derived.Test.YtgkfodmccfnaoaaDoorEntryKindsJ20
import Derived.Test.YtgkfodmccfnaoaaDoorEntryKindsJ22
import Derived.ChangeArms

/- What entry.Get answers. -/
namespace Go.Proofs.YtgkfodmccfnaoaaDoor
open Go.RowKit Sums Nums
set_option linter.unusedVariables false
set_option linter.unusedSimpArgs false
set_option maxRecDepth 100000
set_option maxHeartbeats 16000000 in
theorem eTakeE_any (n₀ : Nat) (a : Option Addr) (len cap : Nat) (fs : List (Int × ByteArray)) (w : World) (hR : FReads n₀ w a len cap fs) (hn : n₀ ≤ w.heap.size) (hfz : ∀ f ∈ fs, f.2.size ≤ 65536) (X : Array Value) (HX : Hid (X = (ecells (takeE fs)).toArray)) :
    Calls Tryd.prog 28 #[.slice a len cap] w fun e w' => e = .returned (.agg X) ∧ Below w.heap.size w w' := by
  obtain ⟨Z, HZ, HA, HBZ, HNZ⟩ := noughtsE
  have HSX : Hid ((Tryd.prog.info? 32).map (·.size) = some X.size) := by show _ = _; rw [sizeE, HX.out]; simp [ecells_length _ (takeE_ok fs)]
  have H1X : Hid (X.all (·.oneCell') = true) := by show _ = _; rw [HX.out]; exact one_cellsE _
  have HZX : Hid (Z.size = X.size) := by show _ = _; rw [HNZ.out, HX.out]; simp [ecells_length _ (takeE_ok fs)]
  have z5 := fdD_le 5 65536 fs hfz
  have z6 := fdD_le 6 65536 fs hfz
  obtain ⟨v1, Hv1⟩ : ∃ v, Hid (v = fdN 1 fs) := ⟨_, hidk rfl⟩
  have N1 : Hid (∀ W, Below w.heap.size w W → Calls Tryd.prog 51 #[.slice a len cap, .int .i64 1] W fun e w' => e = .returned (.int .i64 v1) ∧ Below W.heap.size W w') := fun W hb => by rw [Hv1.out]; exact eNumber_any n₀ a len cap fs 1 W (hR.below (hb.mono hn)) (Nat.le_trans hn hb.size)
  obtain ⟨v2, Hv2⟩ : ∃ v, Hid (v = fdN 2 fs) := ⟨_, hidk rfl⟩
  have N2 : Hid (∀ W, Below w.heap.size w W → Calls Tryd.prog 51 #[.slice a len cap, .int .i64 2] W fun e w' => e = .returned (.int .i64 v2) ∧ Below W.heap.size W w') := fun W hb => by rw [Hv2.out]; exact eNumber_any n₀ a len cap fs 2 W (hR.below (hb.mono hn)) (Nat.le_trans hn hb.size)
  obtain ⟨v3, Hv3⟩ : ∃ v, Hid (v = fdN 3 fs) := ⟨_, hidk rfl⟩
  have N3 : Hid (∀ W, Below w.heap.size w W → Calls Tryd.prog 51 #[.slice a len cap, .int .i64 3] W fun e w' => e = .returned (.int .i64 v3) ∧ Below W.heap.size W w') := fun W hb => by rw [Hv3.out]; exact eNumber_any n₀ a len cap fs 3 W (hR.below (hb.mono hn)) (Nat.le_trans hn hb.size)
  obtain ⟨d4, Hd4⟩ : ∃ v, Hid (v = fdD 4 fs) := ⟨_, hidk rfl⟩
  have N4 : Hid (∀ W, Below w.heap.size w W → Calls Tryd.prog 52 #[.slice a len cap, .int .i64 4] W fun e w' => e = .returned (.string d4) ∧ Below W.heap.size W w') := fun W hb => by rw [Hd4.out]; exact eData_any n₀ a len cap fs 4 W (hR.below (hb.mono hn)) (Nat.le_trans hn hb.size)
  obtain ⟨d5, Hd5⟩ : ∃ v, Hid (v = fdD 5 fs) := ⟨_, hidk rfl⟩
  have N5 : Hid (∀ W, Below w.heap.size w W → Calls Tryd.prog 52 #[.slice a len cap, .int .i64 5] W fun e w' => e = .returned (.string d5) ∧ Below W.heap.size W w') := fun W hb => by rw [Hd5.out]; exact eData_any n₀ a len cap fs 5 W (hR.below (hb.mono hn)) (Nat.le_trans hn hb.size)
  obtain ⟨d6, Hd6⟩ : ∃ v, Hid (v = fdD 6 fs) := ⟨_, hidk rfl⟩
  have N6 : Hid (∀ W, Below w.heap.size w W → Calls Tryd.prog 52 #[.slice a len cap, .int .i64 6] W fun e w' => e = .returned (.string d6) ∧ Below W.heap.size W w') := fun W hb => by rw [Hd6.out]; exact eData_any n₀ a len cap fs 6 W (hR.below (hb.mono hn)) (Nat.le_trans hn hb.size)
  rw [← Hd5.out] at z5
  rw [← Hd6.out] at z6
  have m5 : d5.size ≤ maxLen := by unfold maxLen; omega
  have m6 : d6.size ≤ maxLen := by unfold maxLen; omega
  have ok1 : OkE ⟨v1, v2, v3, d4, zeroS, zeroC⟩ := ⟨rfl, rfl, rfl⟩
  obtain ⟨B, HB, HSB, H1B, HNB⟩ := entry_row ⟨v1, v2, v3, d4, zeroS, zeroC⟩ ok1
  have HZB : Hid (Z.size = B.size) := by show _ = _; rw [HNZ.out, HNB.out]
  have HBO : Hid (Tryd.prog.built 32 [(0, .int .i64 v1), (1, .int .i64 v2), (2, .int .i64 v3), (3, .string d4)] = some B) := builtE4 v1 v2 v3 d4 B HB
  have hgS := getSO_ok d5.data.toList
  have hgC := getCO_ok d6.data.toList
  obtain ⟨Q, HQ, HSQ, H1Q, HNQ⟩ := sign_row (getSO d5.data.toList) hgS.1 hgS.2
  obtain ⟨C, HC, HSC, H1C, HNC⟩ := claim_row5 (getCO d6.data.toList) hgC
  obtain ⟨e5, He5⟩ : ∃ z, Hid (z = getSE d5.data.toList) := ⟨_, hidk rfl⟩
  obtain ⟨e6, He6⟩ : ∃ z, Hid (z = getCE d6.data.toList) := ⟨_, hidk rfl⟩
  have G5 : Hid (∀ W a c, Reads W a d5.size c d5.data.toList → Calls Tryd.prog 53 #[.slice a d5.size c] W fun e w' => e = .returned (.tuple #[.agg Q, .int .i64 e5]) ∧ Below W.heap.size W w') := fun W a c h => by rw [He5.out]; exact hGetS_any a d5.size c _ W h (by omega) Q HQ
  have G6 : Hid (∀ W a c, Reads W a d6.size c d6.data.toList → Calls Tryd.prog 37 #[.slice a d6.size c] W fun e w' => e = .returned (.tuple #[.agg C, .int .i64 e6]) ∧ Below W.heap.size W w') := fun W a c h => by rw [He6.out]; exact eGetC_any a d6.size c _ W h (by omega) C HC
  have ok2 : OkE ⟨v1, v2, v3, d4, getSO d5.data.toList, zeroC⟩ := ⟨hgS.1, hgS.2, rfl⟩
  obtain ⟨B2, HB2, HSB2, H1B2, HNB2⟩ := entry_row ⟨v1, v2, v3, d4, getSO d5.data.toList, zeroC⟩ ok2
  have HE5 : Hid ((B.toList.take 4 ++ Q.toList ++ B.toList.drop (4 + Q.size)).toArray = B2) := by
    show _ = _
    rw [HNQ.out, HB.out, HQ.out, HB2.out]
    exact eset_h ⟨v1, v2, v3, d4, zeroS, zeroC⟩ ok1 _ hgS.1 hgS.2
  have HE6 : Hid ((B2.toList.take 73 ++ C.toList ++ B2.toList.drop (73 + C.size)).toArray = X) := by
    show _ = _
    rw [HNC.out, HB2.out, HC.out, HX.out, show takeE fs = ⟨v1, v2, v3, d4, getSO d5.data.toList, getCO d6.data.toList⟩ by rw [Hv1.out, Hv2.out, Hv3.out, Hd4.out, Hd5.out, Hd6.out]; rfl]
    exact eset_m ⟨v1, v2, v3, d4, getSO d5.data.toList, zeroC⟩ ok2 _ hgC
  have F5 : Hid (4 + Q.size ≤ B.size) := by show _ ≤ _; rw [HNQ.out, HNB.out]; omega
  have F6 : Hid (73 + C.size ≤ B2.size) := by show _ ≤ _; rw [HNC.out, HNB2.out]; omega
  clear hR HX HZ HBZ HNZ HB HQ HC HB2 He5 He6 hgS hgC ok1 ok2 Hv1 Hv2 Hv3 Hd4 Hd5 Hd6 HNQ HNC HNB HNB2 hfz
  go_enter Tryd.func28, Tryd.ntmps28
  go_wp2_with (first
    | (show wpList _ _ _ ({ dst := some 2, op := _, type := _, pos := _, after := _, guard := _ } :: _) _ _; refine wpList_new_var rfl 32 rfl Z HA.out ?_; intro g2 w1 HM2; try simp only [Act.put, List.setIfInBounds_toArray, List.set_cons_zero, List.set_cons_succ])
    | fail)
  have h2 : w.heap.size ≤ g2 := Nat.le_of_eq HM2.out.new.symm
  have HBc := hidk HM2.out.below
  have HR2 := hidk HM2.out.row
  clear HM2
  refine (N1.out _ HBc.out).mono ?_
  rintro e w2 ⟨rfl, hb2⟩
  replace HR2 := hidk ((hb2.block _ (heap_lt HR2.out)).trans HR2.out)
  replace HBc := hidk (HBc.out.trans (hb2.mono HBc.out.size))
  clear hb2 N1
  go_wp2_with fail
  refine (N2.out _ HBc.out).mono ?_
  rintro e w3 ⟨rfl, hb3⟩
  replace HR2 := hidk ((hb3.block _ (heap_lt HR2.out)).trans HR2.out)
  replace HBc := hidk (HBc.out.trans (hb3.mono HBc.out.size))
  clear hb3 N2
  go_wp2_with fail
  refine (N3.out _ HBc.out).mono ?_
  rintro e w4 ⟨rfl, hb4⟩
  replace HR2 := hidk ((hb4.block _ (heap_lt HR2.out)).trans HR2.out)
  replace HBc := hidk (HBc.out.trans (hb4.mono HBc.out.size))
  clear hb4 N3
  go_wp2_with fail
  refine (N4.out _ HBc.out).mono ?_
  rintro e w5 ⟨rfl, hb5⟩
  replace HR2 := hidk ((hb5.block _ (heap_lt HR2.out)).trans HR2.out)
  replace HBc := hidk (HBc.out.trans (hb5.mono HBc.out.size))
  clear hb5 N4
  go_wp2_with (first
    | (show wpList _ _ _ ({ dst := some 12, op := _, type := _, pos := _, after := _, guard := _ } :: _) _ _; refine wpList_build_some rfl 32 _ rfl _ rfl B HBO.out ?_; try simp only [Act.put, List.setIfInBounds_toArray, List.set_cons_zero, List.set_cons_succ])
    | (show wpList _ _ _ ({ dst := some 3, op := _, type := _, pos := _, after := _, guard := _ } :: _) _ _; refine wpList_new_var rfl 32 rfl Z HA.out ?_; intro g3 w6 HM3; try simp only [Act.put, List.setIfInBounds_toArray, List.set_cons_zero, List.set_cons_succ])
    | (refine wpList_set_var rfl 32 (.tmp 3) (.tmp 12) rfl g3 B rfl rfl 32 Z HM3.out.row HSB.out HZB.out H1B.out ?_; intro w7 HW3; try simp only [Act.put, List.setIfInBounds_toArray, List.set_cons_zero, List.set_cons_succ])
    | fail)
  have g23 : g2 < g3 := by rw [HM3.out.new]; exact heap_lt HR2.out
  replace HR2 := hidk ((HW3.out.other g2 (by omega)).trans ((HM3.out.below.block _ (heap_lt HR2.out)).trans HR2.out))
  have HR3 := hidk HW3.out.row
  replace HBc := hidk (HW3.out.below _ _ (HBc.out.trans (HM3.out.below.mono HBc.out.size)) (by omega))
  clear HM3 HW3
  refine (N5.out _ HBc.out).mono ?_
  rintro e w8 ⟨rfl, hb8⟩
  replace HR2 := hidk ((hb8.block _ (heap_lt HR2.out)).trans HR2.out)
  replace HR3 := hidk ((hb8.block _ (heap_lt HR3.out)).trans HR3.out)
  replace HBc := hidk (HBc.out.trans (hb8.mono HBc.out.size))
  clear hb8 N5
  go_wp2_with (first
    | (show wpList _ _ _ ({ dst := some 16, op := _, type := _, pos := _, after := _, guard := _ } :: _) _ _; refine wpList_conv_text rfl 9 33 5 (.tmp 15) rfl d5 rfl Tryd.underlying9 Tryd.underlying33 Tryd.underlying5 m5 ?_; intro ax5 cx5 wx5 HV5; try simp only [Act.put, List.setIfInBounds_toArray, List.set_cons_zero, List.set_cons_succ])
    | fail)
  replace HR2 := hidk ((HV5.out.2.block _ (heap_lt HR2.out)).trans HR2.out)
  replace HR3 := hidk ((HV5.out.2.block _ (heap_lt HR3.out)).trans HR3.out)
  replace HBc := hidk (HBc.out.trans (HV5.out.2.mono HBc.out.size))
  refine (G5.out _ _ _ HV5.out.1).mono ?_
  rintro e wy5 ⟨rfl, hy5⟩
  replace HR2 := hidk ((hy5.block _ (heap_lt HR2.out)).trans HR2.out)
  replace HR3 := hidk ((hy5.block _ (heap_lt HR3.out)).trans HR3.out)
  replace HBc := hidk (HBc.out.trans (hy5.mono HBc.out.size))
  clear hy5 HV5 G5
  go_wp2_with (first
    | (refine wpList_set_mid rfl 28 (.tmp 20) (.tmp 18) rfl g3 4 Q rfl rfl 32 B HR3.out F5.out HSQ.out H1Q.out ?_; intro wz5 HWm; rw [HE5.out] at HWm; replace HR2 := hidk ((HWm.out.other g2 (by omega)).trans HR2.out); replace HR3 := hidk HWm.out.row; replace HBc := hidk (HWm.out.below _ _ HBc.out (by omega)); clear HWm; try simp only [Act.put, List.setIfInBounds_toArray, List.set_cons_zero, List.set_cons_succ])
    | fail)
  refine (N6.out _ HBc.out).mono ?_
  rintro e w9 ⟨rfl, hb9⟩
  replace HR2 := hidk ((hb9.block _ (heap_lt HR2.out)).trans HR2.out)
  replace HR3 := hidk ((hb9.block _ (heap_lt HR3.out)).trans HR3.out)
  replace HBc := hidk (HBc.out.trans (hb9.mono HBc.out.size))
  clear hb9 N6
  go_wp2_with (first
    | (show wpList _ _ _ ({ dst := some 24, op := _, type := _, pos := _, after := _, guard := _ } :: _) _ _; refine wpList_conv_text rfl 9 33 5 (.tmp 23) rfl d6 rfl Tryd.underlying9 Tryd.underlying33 Tryd.underlying5 m6 ?_; intro ax6 cx6 wx6 HV6; try simp only [Act.put, List.setIfInBounds_toArray, List.set_cons_zero, List.set_cons_succ])
    | fail)
  replace HR2 := hidk ((HV6.out.2.block _ (heap_lt HR2.out)).trans HR2.out)
  replace HR3 := hidk ((HV6.out.2.block _ (heap_lt HR3.out)).trans HR3.out)
  replace HBc := hidk (HBc.out.trans (HV6.out.2.mono HBc.out.size))
  refine (G6.out _ _ _ HV6.out.1).mono ?_
  rintro e wy6 ⟨rfl, hy6⟩
  replace HR2 := hidk ((hy6.block _ (heap_lt HR2.out)).trans HR2.out)
  replace HR3 := hidk ((hy6.block _ (heap_lt HR3.out)).trans HR3.out)
  replace HBc := hidk (HBc.out.trans (hy6.mono HBc.out.size))
  clear hy6 HV6 G6
  go_wp2_with (first
    | (refine wpList_set_mid rfl 30 (.tmp 28) (.tmp 26) rfl g3 73 C rfl rfl 32 B2 HR3.out F6.out HSC.out H1C.out ?_; intro wz6 HWm; rw [HE6.out] at HWm; replace HR2 := hidk ((HWm.out.other g2 (by omega)).trans HR2.out); replace HR3 := hidk HWm.out.row; replace HBc := hidk (HWm.out.below _ _ HBc.out (by omega)); clear HWm; try simp only [Act.put, List.setIfInBounds_toArray, List.set_cons_zero, List.set_cons_succ])
    | (show wpList _ _ _ ({ dst := some 29, op := _, type := _, pos := _, after := _, guard := _ } :: _) _ _; refine wpList_load_row rfl 32 (.tmp 3) rfl g3 rfl 32 X (0, 0) _ HR3.out Tryd.underlying32 rfl HSX.out ?_; try simp only [Act.put, List.setIfInBounds_toArray, List.set_cons_zero, List.set_cons_succ])
    | (refine wpList_set_var rfl 32 (.tmp 2) (.tmp 29) rfl g2 X rfl rfl 32 Z HR2.out HSX.out HZX.out H1X.out ?_; intro wl HW2; try simp only [Act.put, List.setIfInBounds_toArray, List.set_cons_zero, List.set_cons_succ])
    | fail)
  refine bodyPost_ret (v := .agg X) ?_ rfl ⟨rfl, HW2.out.below _ _ HBc.out h2⟩
  exact results_cell_row (p := 2) (ty := 32) rfl _ _ g2 32 X (0, 0) _ rfl HW2.out.row Tryd.underlying32 rfl HSX.out
set_option maxHeartbeats 8000000 in
theorem eReadE_any (a : Option Addr) (len cap : Nat) (bs : List UInt8) (w : World) (hR : Reads w a len cap bs) (hl : len ≤ 1000000) (R : Array Value) (HR : Hid (R = (ecells (getEO bs)).toArray)) :
    Calls Tryd.prog 27 #[.slice a len cap, .func (.func 28) #[] #[], .func (.func 7) #[] #[]] w fun e w' => e = .returned (.tuple #[.agg R, .int .i64 (getEE bs)]) ∧ Below w.heap.size w w' := by
  have hnot : ∀ (x : Bool) (w : World), (Op.unary .not (.bool x)).run Tryd.prog w = .ok (.bool (!x)) w := fun _ _ => rfl
  obtain ⟨Z, HZ, HA, HBZ, HNZ⟩ := noughtsE
  obtain ⟨fs, hfs⟩ : ∃ f, f = readF bs := ⟨_, rfl⟩
  have hfz : ∀ f ∈ fs, f.2.size ≤ 65536 := by rw [hfs]; exact readF_65 bs
  obtain ⟨x, hx⟩ : ∃ x, x = takeE fs := ⟨_, rfl⟩
  have hok : OkE x := by rw [hx]; exact takeE_ok fs
  have hin : InE x := by rw [hx]; exact takeE_in fs hfz
  obtain ⟨X, HX, HSX, H1X, HNX⟩ := entry_row x hok
  have HZX : Hid (Z.size = X.size) := by show _ = _; rw [HNZ.out, HNX.out]
  have HSZ : Hid ((Tryd.prog.info? 32).map (·.size) = some Z.size) := by show _ = _; rw [sizeE, HNZ.out]
  have H1Z : Hid (Z.all (·.oneCell') = true) := by show _ = _; rw [HZ.out]; exact one_cellsE _
  obtain ⟨L, hL⟩ : ∃ L, L = eB x := ⟨_, rfl⟩
  obtain ⟨E, hE⟩ : ∃ E, E = eE x := ⟨_, rfl⟩
  obtain ⟨q, hq⟩ : ∃ q : Bool, q = true ↔ L = bs := by
    by_cases h : L = bs
    · exact ⟨true, by simp [h]⟩
    · exact ⟨false, by simp [h]⟩
  obtain ⟨K, hK⟩ : ∃ K, K = getEE bs := ⟨_, rfl⟩
  have hE2 : E = 0 ∧ rightE x = true ∨ E = 60 ∧ rightE x = false := by rw [hE]; exact eE_two x
  have HT : Hid (E = 0 → q = true → R = X ∧ K = 0) := fun h0 hqt => by
    have hr : rightE x = true := by
      rcases hE2 with h | h
      · exact h.2
      · omega
    have hb : entryB x = bs := by
      have := hq.1 hqt
      rw [hL] at this
      unfold eB at this
      rw [if_pos hr] at this
      exact this
    have hh := getEO_yes (bs := bs) (by rw [← hfs, ← hx]; exact ⟨hr, hb⟩)
    rw [HR.out, HX.out, hK, hh.1, hh.2, ← hfs, ← hx]
    exact ⟨rfl, rfl⟩
  have HF : Hid (E = 60 ∨ q = false → R = Z ∧ K = 60) := fun h0 => by
    have hh := getEO_no (bs := bs) (by
      rw [← hfs, ← hx]
      rintro ⟨hr, hb⟩
      rcases h0 with h0 | h0
      · rcases hE2 with h | h
        · omega
        · rw [hr] at h; cases h.2
      · have : q = true := hq.2 (by rw [hL]; unfold eB; rw [if_pos hr]; exact hb)
        rw [h0] at this; cases this)
    rw [HR.out, HZ.out, hK, hh.1, hh.2]
    exact ⟨rfl, rfl⟩
  rw [← hK]
  have HRD : Hid (∀ W, Below w.heap.size w W → Reads W a len cap bs) := fun W hb => hR.below hb
  obtain ⟨ke, hke⟩ : ∃ k : Nat, k = readE bs := ⟨_, rfl⟩
  have R1 : Hid (∀ W, Below w.heap.size w W → Calls Tryd.prog 49 #[.slice a len cap] W fun e W' => ∃ a' c', e = .returned (.tuple #[.slice a' fs.length c', .int .i64 ke]) ∧ FReads W'.heap.size W' a' fs.length c' fs ∧ Below W.heap.size W W') := fun W hb => read_reads a len cap bs W (hR.below hb) hl hke.symm hfs.symm
  have T1 : Hid (∀ W a' c', FReads W.heap.size W a' fs.length c' fs → Calls Tryd.prog 28 #[.slice a' fs.length c'] W fun e w' => e = .returned (.agg X) ∧ Below W.heap.size W w') := fun W a' c' h => eTakeE_any W.heap.size a' fs.length c' fs W h (Nat.le_refl _) hfz X (by rw [← hx]; exact HX)
  have P1 : Hid (∀ W, Calls Tryd.prog 7 #[.agg X] W fun e w' => (∃ a' c', e = .returned (.tuple #[.slice a' L.length c', .int .i64 E]) ∧ Reads w' a' L.length c' L) ∧ Below W.heap.size W w') := fun W => by
    rw [hL, hE]
    exact ePutE_any x hin W X HX
  have Q1 : Hid (∀ W a' c', Reads W a' L.length c' L → Reads W a len cap bs → Calls Tryd.prog 50 #[.slice a' L.length c', .slice a len cap] W fun e w' => e = .returned (.bool q) ∧ w' = W) := fun W a' c' h1 h2 => eSame_any a' a L.length c' len cap L bs W h1 h2 q hq
  have hE3 : E = 0 ∨ E = 60 := by omega
  clear hR HR hfs hfz hx hok hin HX HZ HBZ HNZ HNX hL hE hq hK hE2 hke
  rcases hE3 with rfl | rfl
  all_goals
    cases q
    all_goals
      first
        | have HQ : Hid (R = Z ∧ K = 60) := HF.out (.inl rfl)
        | have HQ : Hid (R = Z ∧ K = 60) := HF.out (.inr rfl)
        | have HQ : Hid (R = X ∧ K = 0) := HT.out rfl rfl
      clear HF HT
      go_enter Tryd.func27, Tryd.ntmps27
      go_wp2_with (first
        | (show wpList _ _ _ ({ dst := some 6, op := _, type := _, pos := _, after := _, guard := _ } :: _) _ _; refine wpList_new_var rfl 32 rfl Z HA.out ?_; intro g6 w1 HM6; try simp only [Act.put, List.setIfInBounds_toArray, List.set_cons_zero, List.set_cons_succ])
        | (show wpList _ _ _ ({ dst := some 8, op := _, type := _, pos := _, after := _, guard := _ } :: _) _ _; refine wpList_new_var rfl 32 rfl Z HA.out ?_; intro g8 w2 HM8; try simp only [Act.put, List.setIfInBounds_toArray, List.set_cons_zero, List.set_cons_succ])
        | fail)
      have h6 : w.heap.size ≤ g6 := Nat.le_of_eq HM6.out.new.symm
      have h8 : g6 < g8 := by have e1 := HM8.out.new; have := heap_lt HM6.out.row; omega
      have HB2 : Hid (Below w.heap.size w w2) := HM6.out.below.trans (HM8.out.below.mono HM6.out.below.size)
      have HR6 := hidk ((HM8.out.below.block _ (heap_lt HM6.out.row)).trans HM6.out.row)
      have HR8 := hidk HM8.out.row
      clear HM6 HM8
      refine (R1.out w2 HB2.out).mono ?_
      rintro e w3 ⟨a3, c3, rfl, hf3, hb3⟩
      have HF3 := hidk hf3
      have HB3 := hidk (HB2.out.trans (hb3.mono HB2.out.size))
      replace HR6 := hidk ((hb3.block _ (heap_lt HR6.out)).trans HR6.out)
      replace HR8 := hidk ((hb3.block _ (heap_lt HR8.out)).trans HR8.out)
      clear hf3 hb3 HB2 R1
      go_wp2_with fail
      refine (T1.out w3 a3 c3 HF3.out).mono ?_
      rintro e w4 ⟨rfl, hb4⟩
      have HB4 := hidk (HB3.out.trans (hb4.mono HB3.out.size))
      replace HR6 := hidk ((hb4.block _ (heap_lt HR6.out)).trans HR6.out)
      replace HR8 := hidk ((hb4.block _ (heap_lt HR8.out)).trans HR8.out)
      clear hb4 HB3 HF3 T1
      go_wp2_with (first
        | (show wpList _ _ _ ({ dst := some 11, op := _, type := _, pos := _, after := _, guard := _ } :: _) _ _; refine wpList_new_var rfl 32 rfl Z HA.out ?_; intro g11 w5 HM11; try simp only [Act.put, List.setIfInBounds_toArray, List.set_cons_zero, List.set_cons_succ])
        | (refine wpList_set_var rfl 32 (.tmp 11) (.tmp 21) rfl g11 X rfl rfl 32 Z HM11.out.row HSX.out HZX.out H1X.out ?_; intro w6 HW11; try simp only [Act.put, List.setIfInBounds_toArray, List.set_cons_zero, List.set_cons_succ])
        | (show wpList _ _ _ ({ dst := some 24, op := _, type := _, pos := _, after := _, guard := _ } :: _) _ _; refine wpList_load_row rfl 32 (.tmp 11) rfl g11 rfl 32 X (0, 0) _ HW11.out.row Tryd.underlying32 rfl HSX.out ?_; try simp only [Act.put, List.setIfInBounds_toArray, List.set_cons_zero, List.set_cons_succ])
        | fail)
      have h11 : w4.heap.size ≤ g11 := Nat.le_of_eq HM11.out.new.symm
      have g68 := heap_lt HR8.out
      have HB6 := hidk (HW11.out.below _ _ (HB4.out.trans (HM11.out.below.mono HB4.out.size)) (Nat.le_trans HB4.out.size h11))
      replace HR6 := hidk ((HW11.out.other _ (by omega)).trans ((HM11.out.below.block _ (heap_lt HR6.out)).trans HR6.out))
      replace HR8 := hidk ((HW11.out.other _ (by omega)).trans ((HM11.out.below.block _ (heap_lt HR8.out)).trans HR8.out))
      have HR11 := hidk HW11.out.row
      clear HM11 HW11 HB4
      refine (P1.out w6).mono ?_
      rintro e w7 ⟨⟨a7, c7, rfl, hr7⟩, hb7⟩
      have HL7 := hidk hr7
      have HB7 := hidk (HB6.out.trans (hb7.mono HB6.out.size))
      replace HR6 := hidk ((hb7.block _ (heap_lt HR6.out)).trans HR6.out)
      replace HR8 := hidk ((hb7.block _ (heap_lt HR8.out)).trans HR8.out)
      replace HR11 := hidk ((hb7.block _ (heap_lt HR11.out)).trans HR11.out)
      have HRB := hidk (HRD.out w7 HB7.out)
      clear hr7 hb7 HB6 P1 HRD
      go_wp2_with (first
        | (show wpList _ _ _ ({ dst := some 36, op := _, type := _, pos := _, after := _, guard := _ } :: _) _ _; refine wpList_load_row rfl 32 (.tmp 8) rfl g8 rfl 32 Z (0, 0) _ HR8.out Tryd.underlying32 rfl HSZ.out ?_; try simp only [Act.put, List.setIfInBounds_toArray, List.set_cons_zero, List.set_cons_succ])
        | (refine wpList_set_var rfl 32 (.tmp 6) (.tmp 36) rfl g6 Z rfl rfl 32 Z HR6.out HSZ.out rfl H1Z.out ?_; intro wz HW6; try simp only [Act.put, List.setIfInBounds_toArray, List.set_cons_zero, List.set_cons_succ])
        | fail)
      first
        | (obtain ⟨rfl, rfl⟩ := HQ.out
           refine bodyPost_ret (v := .tuple #[.agg R, .int .i64 60]) ?_ rfl ⟨rfl, HW6.out.below _ _ HB7.out h6⟩
           exact results_row_tmp (p := 6) (q := 7) (ty := 32) rfl _ _ g6 32 R (0, 0) _ rfl HW6.out.row Tryd.underlying32 rfl HSZ.out)
        | (refine (Q1.out _ _ _ HL7.out HRB.out).mono ?_
           rintro e w8 ⟨rfl, rfl⟩
           go_wp2_with (first
             | (show wpList _ _ _ ({ dst := some 36, op := _, type := _, pos := _, after := _, guard := _ } :: _) _ _; refine wpList_load_row rfl 32 (.tmp 8) rfl g8 rfl 32 Z (0, 0) _ HR8.out Tryd.underlying32 rfl HSZ.out ?_; try simp only [Act.put, List.setIfInBounds_toArray, List.set_cons_zero, List.set_cons_succ])
             | (show wpList _ _ _ ({ dst := some 37, op := _, type := _, pos := _, after := _, guard := _ } :: _) _ _; refine wpList_load_row rfl 32 (.tmp 11) rfl g11 rfl 32 X (0, 0) _ HR11.out Tryd.underlying32 rfl HSX.out ?_; try simp only [Act.put, List.setIfInBounds_toArray, List.set_cons_zero, List.set_cons_succ])
             | (refine wpList_set_var rfl 32 (.tmp 6) (.tmp 36) rfl g6 Z rfl rfl 32 Z HR6.out HSZ.out rfl H1Z.out ?_; intro wz HW6; try simp only [Act.put, List.setIfInBounds_toArray, List.set_cons_zero, List.set_cons_succ])
             | (refine wpList_set_var rfl 32 (.tmp 6) (.tmp 37) rfl g6 X rfl rfl 32 Z HR6.out HSX.out HZX.out H1X.out ?_; intro wz HW6; try simp only [Act.put, List.setIfInBounds_toArray, List.set_cons_zero, List.set_cons_succ])
             | fail)
           first
             | (obtain ⟨rfl, rfl⟩ := HQ.out
                refine bodyPost_ret (v := .tuple #[.agg R, .int .i64 60]) ?_ rfl ⟨rfl, HW6.out.below _ _ HB7.out h6⟩
                exact results_row_tmp (p := 6) (q := 7) (ty := 32) rfl _ _ g6 32 R (0, 0) _ rfl HW6.out.row Tryd.underlying32 rfl HSZ.out)
             | (obtain ⟨rfl, rfl⟩ := HQ.out
                refine bodyPost_ret (v := .tuple #[.agg R, .int .i64 0]) ?_ rfl ⟨rfl, HW6.out.below _ _ HB7.out h6⟩
                exact results_row_tmp (p := 6) (q := 7) (ty := 32) rfl _ _ g6 32 R (0, 0) _ rfl HW6.out.row Tryd.underlying32 rfl HSX.out))
set_option maxHeartbeats 2000000 in
theorem eGetE_any (a : Option Addr) (len cap : Nat) (bs : List UInt8) (w : World) (hR : Reads w a len cap bs) (hl : len ≤ 1000000) (R : Array Value) (HR : Hid (R = (ecells (getEO bs)).toArray)) :
    Calls Tryd.prog 11 #[.slice a len cap] w fun e w' => e = .returned (.tuple #[.agg R, .int .i64 (getEE bs)]) ∧ Below w.heap.size w w' := by
  obtain ⟨Z, HZ, HA, HBZ, HNZ⟩ := noughtsE
  obtain ⟨X, HX, HSX, H1X, HNX⟩ := entry_row (getEO bs) (getEO_okT bs)
  obtain rfl : X = R := by rw [HX.out, HR.out]
  have HZX : Hid (Z.size = X.size) := by show _ = _; rw [HNZ.out, HNX.out]
  obtain ⟨K, hK⟩ : ∃ K, K = getEE bs := ⟨_, rfl⟩
  have R1 : Hid (∀ W, Below w.heap.size w W → Calls Tryd.prog 27 #[.slice a len cap, .func (.func 28) #[] #[], .func (.func 7) #[] #[]] W fun e w' => e = .returned (.tuple #[.agg X, .int .i64 K]) ∧ Below W.heap.size W w') := fun W hb => by rw [hK]; exact eReadE_any a len cap bs W (hR.below hb) hl X HR
  rw [← hK]
  clear hR HR HX HZ HBZ HNZ HNX hK
  go_enter Tryd.func11, Tryd.ntmps11
  go_wp2_with (first
    | (show wpList _ _ _ ({ dst := some 2, op := _, type := _, pos := _, after := _, guard := _ } :: _) _ _; refine wpList_new_var rfl 32 rfl Z HA.out ?_; intro g2 w1 HM2; try simp only [Act.put, List.setIfInBounds_toArray, List.set_cons_zero, List.set_cons_succ])
    | fail)
  have h2 : w.heap.size ≤ g2 := Nat.le_of_eq HM2.out.new.symm
  refine (R1.out w1 HM2.out.below).mono ?_
  rintro e w2 ⟨rfl, hb2⟩
  have HB2 := hidk (HM2.out.below.trans (hb2.mono HM2.out.below.size))
  have HR2 := hidk ((hb2.block _ (heap_lt HM2.out.row)).trans HM2.out.row)
  clear hb2 HM2 R1
  go_wp2_with (first
    | (refine wpList_set_var rfl 32 (.tmp 2) (.tmp 6) rfl g2 X rfl rfl 32 Z HR2.out HSX.out HZX.out H1X.out ?_; intro wz HW2; try simp only [Act.put, List.setIfInBounds_toArray, List.set_cons_zero, List.set_cons_succ])
    | fail)
  refine bodyPost_ret (v := .tuple #[.agg X, .int .i64 K]) ?_ rfl ⟨rfl, HW2.out.below _ _ HB2.out h2⟩
  exact results_row_tmp (p := 2) (q := 3) (ty := 32) rfl _ _ g2 32 X (0, 0) _ rfl HW2.out.row Tryd.underlying32 rfl HSX.out
end Go.Proofs.YtgkfodmccfnaoaaDoor

/- What entry.PutItem and entry.GetItem answer. -/
namespace Go.Proofs.YtgkfodmccfnaoaaDoor
open Go.RowKit Sums Nums
set_option linter.unusedVariables false
set_option linter.unusedSimpArgs false
set_option maxRecDepth 100000
theorem builtI1 (p : Int) (R : Array Value) (HR : Hid (R = (icells ⟨p, zeroE⟩).toArray)) : Tryd.prog.built 43 [(0, .int .i64 p)] = some R := by
  have hi := infoI
  cases hq : Tryd.prog.info? 43 with
  | none => rw [hq] at hi; cases hi
  | some i =>
    rw [hq] at hi
    simp only [Option.map_some, Option.some.injEq, Prod.mk.injEq] at hi
    have h3 : (Tryd.prog.info? 3).map (·.size) = some 1 := by kernel_rfl
    have hE := sizeE
    cases hq3 : Tryd.prog.info? 3 with
    | none => rw [hq3] at h3; cases h3
    | some i3 =>
    cases hqE : Tryd.prog.info? 32 with
    | none => rw [hqE] at hE; cases hE
    | some iE =>
    rw [hq3] at h3
    rw [hqE] at hE
    simp only [Option.map_some, Option.some.injEq] at h3 hE
    unfold Program.built
    simp only [hq, Tryd.underlying43, hi.1, List.mapM_cons, List.mapM_nil, hq3, hqE, h3, hE, Option.map_some, Option.bind_eq_bind, Option.bind_some, Option.pure_def]
    show Instr.fill _ (icells zeroI).toArray _ = some R
    refine (fill_val _ 0 0 1 (.int .i64 p) #[.int .i64 p] _ [] [.int .i64 0] (ecells zeroE) _ rfl rfl rfl (by simp [icells, zeroI]) rfl rfl).trans ?_
    simp only [Instr.fill, List.append_nil, Option.some.injEq]
    rw [HR.out]
    rfl
theorem iset_e (x : ItT) (ok : OkE x.e) (v : EnT) (hv : OkE v) : ((icells x).take 1 ++ ecells v ++ (icells x).drop (1 + 109)).toArray = (icells ⟨x.p, v⟩).toArray := by
  congr 1
  rw [List.drop_of_length_le (by rw [icells_length x ok]; omega), List.append_nil]
  rfl
set_option maxHeartbeats 8000000 in
theorem eTakeI_any (n₀ : Nat) (a : Option Addr) (len cap : Nat) (fs : List (Int × ByteArray)) (w : World) (hR : FReads n₀ w a len cap fs) (hn : n₀ ≤ w.heap.size) (hfz : ∀ f ∈ fs, f.2.size ≤ 65536) (X : Array Value) (HX : Hid (X = (icells (takeI fs)).toArray)) :
    Calls Tryd.prog 33 #[.slice a len cap] w fun e w' => e = .returned (.agg X) ∧ Below w.heap.size w w' := by
  obtain ⟨Z, HZ, HA, HBZ, HNZ⟩ := noughtsI
  have HSX : Hid ((Tryd.prog.info? 43).map (·.size) = some X.size) := by show _ = _; rw [sizeI, HX.out]; simp [icells_length _ (takeI_ok fs)]
  have H1X : Hid (X.all (·.oneCell') = true) := by show _ = _; rw [HX.out]; exact one_cellsI _
  have HZX : Hid (Z.size = X.size) := by show _ = _; rw [HNZ.out, HX.out]; simp [icells_length _ (takeI_ok fs)]
  have z2 := fdD_le 2 65536 fs hfz
  obtain ⟨v1, Hv1⟩ : ∃ v, Hid (v = fdN 1 fs) := ⟨_, hidk rfl⟩
  have N1 : Hid (∀ W, Below w.heap.size w W → Calls Tryd.prog 51 #[.slice a len cap, .int .i64 1] W fun e w' => e = .returned (.int .i64 v1) ∧ Below W.heap.size W w') := fun W hb => by rw [Hv1.out]; exact eNumber_any n₀ a len cap fs 1 W (hR.below (hb.mono hn)) (Nat.le_trans hn hb.size)
  obtain ⟨d2, Hd2⟩ : ∃ v, Hid (v = fdD 2 fs) := ⟨_, hidk rfl⟩
  have N2 : Hid (∀ W, Below w.heap.size w W → Calls Tryd.prog 52 #[.slice a len cap, .int .i64 2] W fun e w' => e = .returned (.string d2) ∧ Below W.heap.size W w') := fun W hb => by rw [Hd2.out]; exact eData_any n₀ a len cap fs 2 W (hR.below (hb.mono hn)) (Nat.le_trans hn hb.size)
  rw [← Hd2.out] at z2
  have m2 : d2.size ≤ maxLen := by unfold maxLen; omega
  obtain ⟨B, HB, HSB, H1B, HNB⟩ := item_row ⟨v1, zeroE⟩ zeroE_ok
  have HZB : Hid (Z.size = B.size) := by show _ = _; rw [HNZ.out, HNB.out]
  have HBO : Hid (Tryd.prog.built 43 [(0, .int .i64 v1)] = some B) := builtI1 v1 B HB
  have hgE := getEO_okT d2.data.toList
  obtain ⟨Q, HQ, HSQ, H1Q, HNQ⟩ := entry_row (getEO d2.data.toList) hgE
  obtain ⟨e2, He2⟩ : ∃ z, Hid (z = getEE d2.data.toList) := ⟨_, hidk rfl⟩
  have G2 : Hid (∀ W a c, Reads W a d2.size c d2.data.toList → Calls Tryd.prog 11 #[.slice a d2.size c] W fun e w' => e = .returned (.tuple #[.agg Q, .int .i64 e2]) ∧ Below W.heap.size W w') := fun W a c h => by rw [He2.out]; exact eGetE_any a d2.size c _ W h (by omega) Q HQ
  have HE2 : Hid ((B.toList.take 1 ++ Q.toList ++ B.toList.drop (1 + Q.size)).toArray = X) := by
    show _ = _
    rw [HNQ.out, HB.out, HQ.out, HX.out, show takeI fs = ⟨v1, getEO d2.data.toList⟩ by rw [Hv1.out, Hd2.out]; rfl]
    exact iset_e ⟨v1, zeroE⟩ zeroE_ok _ hgE
  have F2 : Hid (1 + Q.size ≤ B.size) := by show _ ≤ _; rw [HNQ.out, HNB.out]; omega
  clear hR HX HZ HBZ HNZ HB HQ He2 hgE Hv1 Hd2 HNQ HNB hfz
  go_enter Tryd.func33, Tryd.ntmps33
  go_wp2_with (first
    | (show wpList _ _ _ ({ dst := some 2, op := _, type := _, pos := _, after := _, guard := _ } :: _) _ _; refine wpList_new_var rfl 43 rfl Z HA.out ?_; intro g2 w1 HM2; try simp only [Act.put, List.setIfInBounds_toArray, List.set_cons_zero, List.set_cons_succ])
    | fail)
  have h2 : w.heap.size ≤ g2 := Nat.le_of_eq HM2.out.new.symm
  have HBc := hidk HM2.out.below
  have HR2 := hidk HM2.out.row
  clear HM2
  refine (N1.out _ HBc.out).mono ?_
  rintro e w2 ⟨rfl, hb2⟩
  replace HR2 := hidk ((hb2.block _ (heap_lt HR2.out)).trans HR2.out)
  replace HBc := hidk (HBc.out.trans (hb2.mono HBc.out.size))
  clear hb2 N1
  go_wp2_with (first
    | (show wpList _ _ _ ({ dst := some 6, op := _, type := _, pos := _, after := _, guard := _ } :: _) _ _; refine wpList_build_some rfl 43 _ rfl _ rfl B HBO.out ?_; try simp only [Act.put, List.setIfInBounds_toArray, List.set_cons_zero, List.set_cons_succ])
    | (show wpList _ _ _ ({ dst := some 3, op := _, type := _, pos := _, after := _, guard := _ } :: _) _ _; refine wpList_new_var rfl 43 rfl Z HA.out ?_; intro g3 w6 HM3; try simp only [Act.put, List.setIfInBounds_toArray, List.set_cons_zero, List.set_cons_succ])
    | (refine wpList_set_var rfl 43 (.tmp 3) (.tmp 6) rfl g3 B rfl rfl 43 Z HM3.out.row HSB.out HZB.out H1B.out ?_; intro w7 HW3; try simp only [Act.put, List.setIfInBounds_toArray, List.set_cons_zero, List.set_cons_succ])
    | fail)
  have g23 : g2 < g3 := by rw [HM3.out.new]; exact heap_lt HR2.out
  replace HR2 := hidk ((HW3.out.other g2 (by omega)).trans ((HM3.out.below.block _ (heap_lt HR2.out)).trans HR2.out))
  have HR3 := hidk HW3.out.row
  replace HBc := hidk (HW3.out.below _ _ (HBc.out.trans (HM3.out.below.mono HBc.out.size)) (by omega))
  clear HM3 HW3
  refine (N2.out _ HBc.out).mono ?_
  rintro e w8 ⟨rfl, hb8⟩
  replace HR2 := hidk ((hb8.block _ (heap_lt HR2.out)).trans HR2.out)
  replace HR3 := hidk ((hb8.block _ (heap_lt HR3.out)).trans HR3.out)
  replace HBc := hidk (HBc.out.trans (hb8.mono HBc.out.size))
  clear hb8 N2
  go_wp2_with (first
    | (show wpList _ _ _ ({ dst := some 10, op := _, type := _, pos := _, after := _, guard := _ } :: _) _ _; refine wpList_conv_text rfl 9 33 5 (.tmp 9) rfl d2 rfl Tryd.underlying9 Tryd.underlying33 Tryd.underlying5 m2 ?_; intro ax2 cx2 wx2 HV2; try simp only [Act.put, List.setIfInBounds_toArray, List.set_cons_zero, List.set_cons_succ])
    | fail)
  replace HR2 := hidk ((HV2.out.2.block _ (heap_lt HR2.out)).trans HR2.out)
  replace HR3 := hidk ((HV2.out.2.block _ (heap_lt HR3.out)).trans HR3.out)
  replace HBc := hidk (HBc.out.trans (HV2.out.2.mono HBc.out.size))
  refine (G2.out _ _ _ HV2.out.1).mono ?_
  rintro e wy2 ⟨rfl, hy2⟩
  replace HR2 := hidk ((hy2.block _ (heap_lt HR2.out)).trans HR2.out)
  replace HR3 := hidk ((hy2.block _ (heap_lt HR3.out)).trans HR3.out)
  replace HBc := hidk (HBc.out.trans (hy2.mono HBc.out.size))
  clear hy2 HV2 G2
  go_wp2_with (first
    | (refine wpList_set_mid rfl 32 (.tmp 14) (.tmp 12) rfl g3 1 Q rfl rfl 43 B HR3.out F2.out HSQ.out H1Q.out ?_; intro wz2 HWm; rw [HE2.out] at HWm; replace HR2 := hidk ((HWm.out.other g2 (by omega)).trans HR2.out); replace HR3 := hidk HWm.out.row; replace HBc := hidk (HWm.out.below _ _ HBc.out (by omega)); clear HWm; try simp only [Act.put, List.setIfInBounds_toArray, List.set_cons_zero, List.set_cons_succ])
    | (show wpList _ _ _ ({ dst := some 15, op := _, type := _, pos := _, after := _, guard := _ } :: _) _ _; refine wpList_load_row rfl 43 (.tmp 3) rfl g3 rfl 43 X (0, 0) _ HR3.out Tryd.underlying43 rfl HSX.out ?_; try simp only [Act.put, List.setIfInBounds_toArray, List.set_cons_zero, List.set_cons_succ])
    | (refine wpList_set_var rfl 43 (.tmp 2) (.tmp 15) rfl g2 X rfl rfl 43 Z HR2.out HSX.out HZX.out H1X.out ?_; intro wl HW2; try simp only [Act.put, List.setIfInBounds_toArray, List.set_cons_zero, List.set_cons_succ])
    | fail)
  refine bodyPost_ret (v := .agg X) ?_ rfl ⟨rfl, HW2.out.below _ _ HBc.out h2⟩
  exact results_cell_row (p := 2) (ty := 43) rfl _ _ g2 43 X (0, 0) _ rfl HW2.out.row Tryd.underlying43 rfl HSX.out
theorem irow_row {W : World} {g : Nat} {x : ItT} {X : Array Value} (HX : Hid (X = (icells x).toArray)) {t : TypeId} (h : W.heap[g]? = some (.cells X t (0, 0))) : W.cell? ⟨g, 0, none⟩ = some (.int .i64 x.p) ∧ W.rangeAt g 1 (ecells x.e) := by
  constructor
  · rw [cell_of_row W g 0 X t (0, 0) h, HX.out]; rfl
  · intro j v hj
    rw [cell_of_row W g (1 + j) X t (0, 0) h, HX.out]
    have : (icells x)[1 + j]? = some v := by
      unfold icells
      rw [List.getElem?_append_right (by simp)]
      simpa using hj
    simpa using this
set_option maxHeartbeats 8000000 in
theorem ePutI_any (x : ItT) (hin : InI x) (w : World) (X : Array Value) (HX : Hid (X = (icells x).toArray)) :
    Calls Tryd.prog 12 #[.agg X] w fun e w' => BytesE (iB x) (iE x) e w' ∧ Below w.heap.size w w' := by
  have hnot : ∀ (x : Bool) (w : World), (Op.unary .not (.bool x)).run Tryd.prog w = .ok (.bool (!x)) w := fun _ _ => rfl
  have ok := hin.e.ok
  have HX0 : Hid ((w.alloc (.cells X 43)).heap[w.heap.size]? = some (.cells X 43 (0, 0))) := heap_alloc_new w _
  have HB : Hid (Below w.heap.size w (w.alloc (.cells X 43))) := (Below.refl _ _).alloc (Nat.le_refl _) _
  obtain ⟨Q, HQ, HSQ, H1Q, HNQ⟩ := entry_row x.e ok
  obtain ⟨k, Hk⟩ : ∃ k, Hid (k = x.p) := ⟨_, hidk rfl⟩
  have KP : Hid (∀ W : World, W.heap[w.heap.size]? = some (.cells X 43 (0, 0)) → W.cell? ⟨w.heap.size, 0, none⟩ = some (.int .i64 k)) := fun W h => by rw [Hk.out]; exact (irow_row HX h).1
  have KQ : Hid (∀ W : World, W.heap[w.heap.size]? = some (.cells X 43 (0, 0)) → W.rangeAt w.heap.size 1 Q.toList) := fun W h => by rw [HQ.out]; exact (irow_row HX h).2
  obtain ⟨l, Hl⟩ : ∃ l, Hid (l = eB x.e) := ⟨_, hidk rfl⟩
  obtain ⟨E, HE⟩ : ∃ l, Hid (l = eE x.e) := ⟨_, hidk rfl⟩
  have P1 : Hid (∀ W, Calls Tryd.prog 7 #[.agg Q] W fun e w' => (∃ a c, e = .returned (.tuple #[.slice a l.length c, .int .i64 E]) ∧ Reads w' a l.length c l) ∧ Below W.heap.size W w') := fun W => by rw [Hl.out, HE.out]; exact ePutE_any x.e hin.e W Q HQ
  obtain ⟨u, hu⟩ : ∃ u, (decide (1 ≤ k) && decide (k ≤ 900000000)) = u := ⟨_, rfl⟩
  have W1 : Hid (∀ W, Calls Tryd.prog 29 #[.int .i64 k, .int .i64 1, .int .i64 900000000] W fun e w' => e = .returned (.bool u) ∧ w' = W) := fun W => by rw [← hu]; exact eWithin_any k 1 900000000 W
  obtain ⟨n1, Hn1⟩ : ∃ n, Hid (n = nOf k) := ⟨_, hidk rfl⟩
  obtain ⟨y, Hy⟩ : ∃ y : ByteArray, Hid (y = bA l) := ⟨_, hidk rfl⟩
  have N1 : Hid (∀ W, Calls Tryd.prog 20 #[.int .i64 1, .int .i64 k] W fun e w' => e = .returned (.agg #[.int .i64 1, .string n1]) ∧ Below W.heap.size W w') := fun W => by rw [Hn1.out]; exact eNum_any 1 k W
  have hri : rightI x = (u && rightE x.e) := by unfold rightI; rw [← hu, Hk.out]
  obtain ⟨L, HL⟩ : ∃ l, Hid (l = iB x) := ⟨_, hidk rfl⟩
  obtain ⟨K, HK⟩ : ∃ l, Hid (l = iE x) := ⟨_, hidk rfl⟩
  have HNO : Hid (u = false ∨ E = 60 → L = [] ∧ K = 60) := fun h => by
    have hr : rightI x = false := by
      rw [hri]
      rcases h with h | h
      · rw [h]; rfl
      · rcases eE_two x.e with h2 | h2
        · rw [HE.out, h2.1] at h; cases h
        · rw [h2.2]; simp
    rw [HL.out, HK.out]
    unfold iB iE
    rw [hr]
    exact ⟨rfl, rfl⟩
  have HYES : Hid (u = true → E = 0 → L = itemB x ∧ K = 0 ∧ rightI x = true ∧ l = entryB x.e) := fun h0 h => by
    have hre : rightE x.e = true := by
      rcases eE_two x.e with h2 | h2
      · exact h2.2
      · rw [HE.out, h2.1] at h; cases h
    have hr : rightI x = true := by rw [hri, h0, hre]; rfl
    rw [HL.out, HK.out, Hl.out]
    unfold iB iE eB
    rw [if_pos hr, if_pos hr, if_pos hre]
    exact ⟨rfl, rfl, hr, rfl⟩
  have LY : Hid (u = true → E = 0 → ∀ W, Calls Tryd.prog 21 #[.slice (some ⟨W.heap.size, 0, none⟩) 2 2] (W.alloc (.cells #[.int .i64 1, .string n1, .int .i64 2, .string y] 56)) fun e w' => ∃ a c, e = .returned (.tuple #[.slice a L.length c, .int .i64 0]) ∧ Reads w' a L.length c L ∧ Below W.heap.size W w') := fun h0 h W => by
    obtain ⟨e1, _, hr, e4⟩ := HYES.out h0 h
    have hk := layE_iL hr ok
    have hL2 : fieldsN (iL x) = [(1, n1), (2, y)] := by rw [Hn1.out, Hy.out, e4, Hk.out]; rfl
    rw [hL2] at hk
    refine eLay_lit W _ [((1 : Int), n1), (2, y)] 2 L rfl rfl (by omega) (fun z hz => ?_) hk (by rw [e1, ← hL2]; rfl)
    simp only [List.mem_cons, List.not_mem_nil, or_false] at hz
    unfold maxLen
    rcases hz with rfl | rfl
    · have := nOf_size k; rw [← Hn1.out] at this; show n1.size ≤ _; omega
    · have h5 := bA_size l; rw [← Hy.out] at h5; have := eB_length x.e ok; rw [← Hl.out] at this; show y.size ≤ _; omega
  have hE2 : E = 0 ∨ E = 60 := by
    rw [HE.out]
    rcases eE_two x.e with h | h
    · exact .inl h.1
    · exact .inr h.1
  rw [← HL.out, ← HK.out]
  clear HX HQ Hk Hl HE hu Hn1 hri HL HK ok hin H1Q HNQ
  rcases hE2 with rfl | rfl
  · cases u
    · obtain ⟨rfl, rfl⟩ := HNO.out (.inl rfl)
      clear HNO HYES LY N1
      go_enter Tryd.func12, Tryd.ntmps12
      go_wp2_with (first
        | (show wpList _ _ _ ({ dst := some 8, op := _, type := _, pos := _, after := _, guard := _ } :: _) _ _; refine wpList_mid rfl 32 (.tmp 7) rfl w.heap.size 1 rfl Q _ (KQ.out _ HX0.out) Tryd.underlying32 rfl HSQ.out ?_; try simp only [Act.put, List.setIfInBounds_toArray, List.set_cons_zero, List.set_cons_succ])
        | fail)
      refine (P1.out _).mono ?_
      rintro e w1 ⟨⟨a1, c1, rfl, hr1⟩, hb1⟩
      have HB1 := hidk (HB.out.trans (hb1.mono HB.out.size))
      have c0 := KP.out w1 ((hb1.block _ (heap_lt HX0.out)).trans HX0.out)
      clear hb1 hr1
      go_wp2_with fail
      refine (W1.out _).mono ?_
      rintro e w2 ⟨rfl, rfl⟩
      go_wp2
      go_ret2
      exact ⟨eBytes_no _ _, HB1.out⟩
    · obtain rfl : K = 0 := (HYES.out rfl rfl).2.1
      have LY2 := hidk (LY.out rfl rfl)
      clear HNO HYES LY
      go_enter Tryd.func12, Tryd.ntmps12
      go_wp2_with (first
        | (show wpList _ _ _ ({ dst := some 8, op := _, type := _, pos := _, after := _, guard := _ } :: _) _ _; refine wpList_mid rfl 32 (.tmp 7) rfl w.heap.size 1 rfl Q _ (KQ.out _ HX0.out) Tryd.underlying32 rfl HSQ.out ?_; try simp only [Act.put, List.setIfInBounds_toArray, List.set_cons_zero, List.set_cons_succ])
        | fail)
      refine (P1.out _).mono ?_
      rintro e w1 ⟨⟨a1, c1, rfl, hr1⟩, hb1⟩
      have HB1 := hidk (HB.out.trans (hb1.mono HB.out.size))
      have HX1 := hidk ((hb1.block _ (heap_lt HX0.out)).trans HX0.out)
      have c0 := KP.out w1 HX1.out
      have CV : Hid (∀ W, Below w1.heap.size w1 W → Sem.run Tryd.prog (convert 33 9 (.slice a1 l.length c1)) W = .ok (.string y) W) := fun W h => by rw [Hy.out]; exact conv_reads (hr1.below h)
      clear hb1 hr1
      go_wp2_with fail
      refine (W1.out _).mono ?_
      rintro e w2 ⟨rfl, rfl⟩
      go_wp2
      refine wp_region_held_drew (S := (fun W => W.heap[w.heap.size]? = some (.cells X 43 (0, 0)) ∧ Below w2.heap.size w2 W)) (by kernel_rfl) ⟨HX1.out, (Below.refl _ _).drew⟩ (fun hHeld => ?_)
      refine wpAnyH_take (i := 0) (oi := { dst := some 20, op := Op.fieldAddr 43 (Operand.tmp 1) 0, type := 0, pos := "entry.go:96", after := #[], guard := none }) (v := .pointer (some ⟨w.heap.size, 0, none⟩)) rfl (by kernel_rfl) (by kernel_rfl) (by kernel_rfl) (fun _ _ _ h => h) (Or.inl ⟨by rfl, by intro W hSw; go_simp⟩) hHeld ?_
      try simp only [Act.put, List.setIfInBounds_toArray, List.set_cons_zero, List.set_cons_succ]
      refine wpAnyH_take (i := 1) (oi := { dst := some 21, op := Op.load 3 (Operand.tmp 20), type := 3, pos := "entry.go:96", after := #[{ on := 0, ground := Ground.data }], guard := none }) (v := .int .i64 k) rfl (by kernel_rfl) (by kernel_rfl) (by kernel_rfl) (fun _ _ _ h => h) (Or.inl ⟨by rfl, by intro W hSw; have h1 := KP.out W hSw.1; go_simp⟩) hHeld ?_
      try simp only [Act.put, List.setIfInBounds_toArray, List.set_cons_zero, List.set_cons_succ]
      refine wpAnyH_take (i := 3) (oi := { dst := some 23, op := Op.move (Operand.tmp 4), type := 33, pos := "entry.go:96", after := #[], guard := none }) (v := .slice a1 l.length c1) rfl (by kernel_rfl) (by kernel_rfl) (by kernel_rfl) (fun _ _ _ h => h) (Or.inl ⟨by rfl, by intro W hSw; go_simp⟩) hHeld ?_
      try simp only [Act.put, List.setIfInBounds_toArray, List.set_cons_zero, List.set_cons_succ]
      refine wpAnyH_take (i := 4) (oi := { dst := some 24, op := Op.convert 33 9 (Operand.tmp 23), type := 9, pos := "entry.go:96", after := #[{ on := 3, ground := Ground.data }], guard := none }) (v := .string y) rfl (by kernel_rfl) (by kernel_rfl) (by kernel_rfl) (fun _ _ _ h => h) (Or.inl ⟨by rfl, by intro W hSw; have h1 := CV.out W hSw.2; go_simp⟩) hHeld ?_
      try simp only [Act.put, List.setIfInBounds_toArray, List.set_cons_zero, List.set_cons_succ]
      refine wpAnyH_take (i := 5) (oi := { dst := some 25, op := Op.build 56 #[(0, Operand.const (Value.int IntKind.i64 2)), (1, Operand.tmp 24)], type := 56, pos := "entry.go:96", after := #[{ on := 4, ground := Ground.data }], guard := none }) (v := .agg #[.int .i64 2, .string y]) rfl (by kernel_rfl) (by kernel_rfl) (by kernel_rfl) (fun _ _ _ h => h) (Or.inl ⟨by rfl, by intro W hSw; go_simp⟩) hHeld ?_
      try simp only [Act.put, List.setIfInBounds_toArray, List.set_cons_zero, List.set_cons_succ]
      refine wpAnyH_ready (rs := [2]) (by kernel_rfl) (by simp) ?_
      refine (AllReadyH.cons (o := { dst := some 22, op := Op.call { callee := Callee.value (Operand.func 20), args := #[Operand.const (Value.int IntKind.i64 1), Operand.tmp 21], argTypes := #[3, 3] }, type := 56, pos := "entry.go:97", after := #[{ on := 1, ground := Ground.data }], guard := none }) rfl (fun K hK => ?_) AllReadyH.nil)
      go_simp
      refine (N1.out _).mono ?_
      rintro e w3 ⟨rfl, hb3⟩
      have HBc := hidk (HB1.out.drew.trans (hb3.mono HB1.out.size))
      go_wp2_with fail
      refine hK.out _ _ ⟨(hb3.block _ (heap_lt HX1.out)).trans HX1.out, hHeld.2.trans (hb3.mono hHeld.2.size)⟩ (fun hHeld => ?_)
      clear hK K
      try simp only [Act.put, List.setIfInBounds_toArray, List.set_cons_zero, List.set_cons_succ]
      refine wpAnyH_ready (rs := [6]) (by kernel_rfl) (by simp) ?_
      refine (AllReadyH.cons (o := { dst := some 26, op := Op.buildSlice 58 2 #[(0, Operand.tmp 22), (1, Operand.tmp 25)], type := 58, pos := "entry.go:96", after := #[{ on := 2, ground := Ground.data }, { on := 5, ground := Ground.data }], guard := none }) rfl (fun K hK => ?_) AllReadyH.nil)
      have HHc := hidk hHeld
      go_simp
      refine hK.out _ _ ⟨heap_keep hHeld.1, hHeld.2.alloc hHeld.2.size _⟩ (fun hHeld => ?_)
      clear hK K
      try simp only [Act.put, List.setIfInBounds_toArray, List.set_cons_zero, List.set_cons_succ]
      refine wpAnyH_ready (rs := [7]) (by kernel_rfl) (by simp) ?_
      refine (AllReadyH.cons (o := { dst := some 27, op := Op.call { callee := Callee.value (Operand.func 21), args := #[Operand.tmp 26], argTypes := #[58] }, type := 35, pos := "entry.go:96", after := #[{ on := 6, ground := Ground.data }, { on := 2, ground := Ground.chain }], guard := none }) rfl (fun K hK => ?_) AllReadyH.nil)
      go_simp
      refine (LY2.out _).mono ?_
      rintro e w7 ⟨a7, c7, rfl, hrd, hb7⟩
      have HRD := hidk hrd
      have HBF := hidk (HBc.out.trans (hb7.mono HBc.out.size))
      go_wp2_with fail
      refine hK.out _ _ ⟨(hb7.block _ (heap_lt HHc.out.1)).trans HHc.out.1, HHc.out.2.trans (hb7.mono HHc.out.2.size)⟩ (fun hHeld => ?_)
      clear hK K
      try simp only [Act.put, List.setIfInBounds_toArray, List.set_cons_zero, List.set_cons_succ]
      refine wpAnyH_take (i := 8) (oi := { dst := some 28, op := Op.extract (Operand.tmp 27) 0, type := 33, pos := "entry.go:96", after := #[{ on := 7, ground := Ground.data }], guard := none }) (v := .slice a7 L.length c7) rfl (by kernel_rfl) (by kernel_rfl) (by kernel_rfl) (fun _ _ _ h => h) (Or.inl ⟨by rfl, by intro W hSw; go_simp⟩) hHeld ?_
      try simp only [Act.put, List.setIfInBounds_toArray, List.set_cons_zero, List.set_cons_succ]
      refine wpAnyH_take (i := 9) (oi := { dst := some 29, op := Op.extract (Operand.tmp 27) 1, type := 34, pos := "entry.go:96", after := #[{ on := 7, ground := Ground.data }], guard := none }) (v := .int .i64 0) rfl (by kernel_rfl) (by kernel_rfl) (by kernel_rfl) (fun _ _ _ h => h) (Or.inl ⟨by rfl, by intro W hSw; go_simp⟩) hHeld ?_
      try simp only [Act.put, List.setIfInBounds_toArray, List.set_cons_zero, List.set_cons_succ]
      refine wpAnyH_take (i := 10) (oi := { dst := some 2, op := Op.assign (Operand.tmp 28), type := 33, pos := "entry.go:96", after := #[{ on := 8, ground := Ground.data }, { on := 7, ground := Ground.chain }, { on := 0, ground := Ground.phase }, { on := 1, ground := Ground.phase }, { on := 2, ground := Ground.phase }, { on := 3, ground := Ground.phase }, { on := 4, ground := Ground.phase }, { on := 5, ground := Ground.phase }, { on := 6, ground := Ground.phase }, { on := 7, ground := Ground.phase }, { on := 8, ground := Ground.phase }, { on := 9, ground := Ground.phase }], guard := none }) (v := .slice a7 L.length c7) rfl (by kernel_rfl) (by kernel_rfl) (by kernel_rfl) (fun _ _ _ h => h) (Or.inl ⟨by rfl, by intro W hSw; go_simp⟩) hHeld ?_
      try simp only [Act.put, List.setIfInBounds_toArray, List.set_cons_zero, List.set_cons_succ]
      refine wpAnyH_take (i := 11) (oi := { dst := some 3, op := Op.assign (Operand.tmp 29), type := 34, pos := "entry.go:96", after := #[{ on := 9, ground := Ground.data }, { on := 10, ground := Ground.chain }, { on := 0, ground := Ground.phase }, { on := 1, ground := Ground.phase }, { on := 2, ground := Ground.phase }, { on := 3, ground := Ground.phase }, { on := 4, ground := Ground.phase }, { on := 5, ground := Ground.phase }, { on := 6, ground := Ground.phase }, { on := 7, ground := Ground.phase }, { on := 8, ground := Ground.phase }, { on := 9, ground := Ground.phase }, { on := 10, ground := Ground.phase }], guard := none }) (v := .int .i64 0) rfl (by kernel_rfl) (by kernel_rfl) (by kernel_rfl) (fun _ _ _ h => h) (Or.inl ⟨by rfl, by intro W hSw; go_simp⟩) hHeld ?_
      try simp only [Act.put, List.setIfInBounds_toArray, List.set_cons_zero, List.set_cons_succ]
      refine wpAnyH_done (by kernel_rfl) ?_ _
      go_wp2
      go_ret2
      exact ⟨⟨_, _, rfl, HRD.out⟩, HBF.out⟩
  · obtain ⟨rfl, rfl⟩ := HNO.out (.inr rfl)
    clear HNO HYES LY N1
    go_enter Tryd.func12, Tryd.ntmps12
    go_wp2_with (first
      | (show wpList _ _ _ ({ dst := some 8, op := _, type := _, pos := _, after := _, guard := _ } :: _) _ _; refine wpList_mid rfl 32 (.tmp 7) rfl w.heap.size 1 rfl Q _ (KQ.out _ HX0.out) Tryd.underlying32 rfl HSQ.out ?_; try simp only [Act.put, List.setIfInBounds_toArray, List.set_cons_zero, List.set_cons_succ])
      | fail)
    refine (P1.out _).mono ?_
    rintro e w1 ⟨⟨a1, c1, rfl, hr1⟩, hb1⟩
    have HB1 := hidk (HB.out.trans (hb1.mono HB.out.size))
    clear hb1 hr1
    go_wp2
    go_ret2
    exact ⟨eBytes_no _ _, HB1.out⟩
set_option maxHeartbeats 8000000 in
theorem eReadI_any (a : Option Addr) (len cap : Nat) (bs : List UInt8) (w : World) (hR : Reads w a len cap bs) (hl : len ≤ 1000000) (R : Array Value) (HR : Hid (R = (icells (getIO bs)).toArray)) :
    Calls Tryd.prog 32 #[.slice a len cap, .func (.func 33) #[] #[], .func (.func 12) #[] #[]] w fun e w' => e = .returned (.tuple #[.agg R, .int .i64 (getIE bs)]) ∧ Below w.heap.size w w' := by
  have hnot : ∀ (x : Bool) (w : World), (Op.unary .not (.bool x)).run Tryd.prog w = .ok (.bool (!x)) w := fun _ _ => rfl
  obtain ⟨Z, HZ, HA, HBZ, HNZ⟩ := noughtsI
  obtain ⟨fs, hfs⟩ : ∃ f, f = readF bs := ⟨_, rfl⟩
  have hfz : ∀ f ∈ fs, f.2.size ≤ 65536 := by rw [hfs]; exact readF_65 bs
  obtain ⟨x, hx⟩ : ∃ x, x = takeI fs := ⟨_, rfl⟩
  have hok : OkE x.e := by rw [hx]; exact takeI_ok fs
  have hin : InI x := by rw [hx]; exact takeI_in fs
  obtain ⟨X, HX, HSX, H1X, HNX⟩ := item_row x hok
  have HZX : Hid (Z.size = X.size) := by show _ = _; rw [HNZ.out, HNX.out]
  have HSZ : Hid ((Tryd.prog.info? 43).map (·.size) = some Z.size) := by show _ = _; rw [sizeI, HNZ.out]
  have H1Z : Hid (Z.all (·.oneCell') = true) := by show _ = _; rw [HZ.out]; exact one_cellsI _
  obtain ⟨L, hL⟩ : ∃ L, L = iB x := ⟨_, rfl⟩
  obtain ⟨E, hE⟩ : ∃ E, E = iE x := ⟨_, rfl⟩
  obtain ⟨q, hq⟩ : ∃ q : Bool, q = true ↔ L = bs := by
    by_cases h : L = bs
    · exact ⟨true, by simp [h]⟩
    · exact ⟨false, by simp [h]⟩
  obtain ⟨K, hK⟩ : ∃ K, K = getIE bs := ⟨_, rfl⟩
  have hE2 : E = 0 ∧ rightI x = true ∨ E = 60 ∧ rightI x = false := by rw [hE]; exact iE_two x
  have HT : Hid (E = 0 → q = true → R = X ∧ K = 0) := fun h0 hqt => by
    have hr : rightI x = true := by
      rcases hE2 with h | h
      · exact h.2
      · omega
    have hb : itemB x = bs := by
      have := hq.1 hqt
      rw [hL] at this
      unfold iB at this
      rw [if_pos hr] at this
      exact this
    have hh := getIO_yes (bs := bs) (by rw [← hfs, ← hx]; exact ⟨hr, hb⟩)
    rw [HR.out, HX.out, hK, hh.1, hh.2, ← hfs, ← hx]
    exact ⟨rfl, rfl⟩
  have HF : Hid (E = 60 ∨ q = false → R = Z ∧ K = 60) := fun h0 => by
    have hh := getIO_no (bs := bs) (by
      rw [← hfs, ← hx]
      rintro ⟨hr, hb⟩
      rcases h0 with h0 | h0
      · rcases hE2 with h | h
        · omega
        · rw [hr] at h; cases h.2
      · have : q = true := hq.2 (by rw [hL]; unfold iB; rw [if_pos hr]; exact hb)
        rw [h0] at this; cases this)
    rw [HR.out, HZ.out, hK, hh.1, hh.2]
    exact ⟨rfl, rfl⟩
  rw [← hK]
  have HRD : Hid (∀ W, Below w.heap.size w W → Reads W a len cap bs) := fun W hb => hR.below hb
  obtain ⟨ke, hke⟩ : ∃ k : Nat, k = readE bs := ⟨_, rfl⟩
  have R1 : Hid (∀ W, Below w.heap.size w W → Calls Tryd.prog 49 #[.slice a len cap] W fun e W' => ∃ a' c', e = .returned (.tuple #[.slice a' fs.length c', .int .i64 ke]) ∧ FReads W'.heap.size W' a' fs.length c' fs ∧ Below W.heap.size W W') := fun W hb => read_reads a len cap bs W (hR.below hb) hl hke.symm hfs.symm
  have T1 : Hid (∀ W a' c', FReads W.heap.size W a' fs.length c' fs → Calls Tryd.prog 33 #[.slice a' fs.length c'] W fun e w' => e = .returned (.agg X) ∧ Below W.heap.size W w') := fun W a' c' h => eTakeI_any W.heap.size a' fs.length c' fs W h (Nat.le_refl _) hfz X (by rw [← hx]; exact HX)
  have P1 : Hid (∀ W, Calls Tryd.prog 12 #[.agg X] W fun e w' => (∃ a' c', e = .returned (.tuple #[.slice a' L.length c', .int .i64 E]) ∧ Reads w' a' L.length c' L) ∧ Below W.heap.size W w') := fun W => by
    rw [hL, hE]
    exact ePutI_any x hin W X HX
  have Q1 : Hid (∀ W a' c', Reads W a' L.length c' L → Reads W a len cap bs → Calls Tryd.prog 50 #[.slice a' L.length c', .slice a len cap] W fun e w' => e = .returned (.bool q) ∧ w' = W) := fun W a' c' h1 h2 => eSame_any a' a L.length c' len cap L bs W h1 h2 q hq
  have hE3 : E = 0 ∨ E = 60 := by omega
  clear hR HR hfs hfz hx hok hin HX HZ HBZ HNZ HNX hL hE hq hK hE2 hke
  rcases hE3 with rfl | rfl
  all_goals
    cases q
    all_goals
      first
        | have HQ : Hid (R = Z ∧ K = 60) := HF.out (.inl rfl)
        | have HQ : Hid (R = Z ∧ K = 60) := HF.out (.inr rfl)
        | have HQ : Hid (R = X ∧ K = 0) := HT.out rfl rfl
      clear HF HT
      go_enter Tryd.func32, Tryd.ntmps32
      go_wp2_with (first
        | (show wpList _ _ _ ({ dst := some 6, op := _, type := _, pos := _, after := _, guard := _ } :: _) _ _; refine wpList_new_var rfl 43 rfl Z HA.out ?_; intro g6 w1 HM6; try simp only [Act.put, List.setIfInBounds_toArray, List.set_cons_zero, List.set_cons_succ])
        | (show wpList _ _ _ ({ dst := some 8, op := _, type := _, pos := _, after := _, guard := _ } :: _) _ _; refine wpList_new_var rfl 43 rfl Z HA.out ?_; intro g8 w2 HM8; try simp only [Act.put, List.setIfInBounds_toArray, List.set_cons_zero, List.set_cons_succ])
        | fail)
      have h6 : w.heap.size ≤ g6 := Nat.le_of_eq HM6.out.new.symm
      have h8 : g6 < g8 := by have e1 := HM8.out.new; have := heap_lt HM6.out.row; omega
      have HB2 : Hid (Below w.heap.size w w2) := HM6.out.below.trans (HM8.out.below.mono HM6.out.below.size)
      have HR6 := hidk ((HM8.out.below.block _ (heap_lt HM6.out.row)).trans HM6.out.row)
      have HR8 := hidk HM8.out.row
      clear HM6 HM8
      refine (R1.out w2 HB2.out).mono ?_
      rintro e w3 ⟨a3, c3, rfl, hf3, hb3⟩
      have HF3 := hidk hf3
      have HB3 := hidk (HB2.out.trans (hb3.mono HB2.out.size))
      replace HR6 := hidk ((hb3.block _ (heap_lt HR6.out)).trans HR6.out)
      replace HR8 := hidk ((hb3.block _ (heap_lt HR8.out)).trans HR8.out)
      clear hf3 hb3 HB2 R1
      go_wp2_with fail
      refine (T1.out w3 a3 c3 HF3.out).mono ?_
      rintro e w4 ⟨rfl, hb4⟩
      have HB4 := hidk (HB3.out.trans (hb4.mono HB3.out.size))
      replace HR6 := hidk ((hb4.block _ (heap_lt HR6.out)).trans HR6.out)
      replace HR8 := hidk ((hb4.block _ (heap_lt HR8.out)).trans HR8.out)
      clear hb4 HB3 HF3 T1
      go_wp2_with (first
        | (show wpList _ _ _ ({ dst := some 11, op := _, type := _, pos := _, after := _, guard := _ } :: _) _ _; refine wpList_new_var rfl 43 rfl Z HA.out ?_; intro g11 w5 HM11; try simp only [Act.put, List.setIfInBounds_toArray, List.set_cons_zero, List.set_cons_succ])
        | (refine wpList_set_var rfl 43 (.tmp 11) (.tmp 21) rfl g11 X rfl rfl 43 Z HM11.out.row HSX.out HZX.out H1X.out ?_; intro w6 HW11; try simp only [Act.put, List.setIfInBounds_toArray, List.set_cons_zero, List.set_cons_succ])
        | (show wpList _ _ _ ({ dst := some 24, op := _, type := _, pos := _, after := _, guard := _ } :: _) _ _; refine wpList_load_row rfl 43 (.tmp 11) rfl g11 rfl 43 X (0, 0) _ HW11.out.row Tryd.underlying43 rfl HSX.out ?_; try simp only [Act.put, List.setIfInBounds_toArray, List.set_cons_zero, List.set_cons_succ])
        | fail)
      have h11 : w4.heap.size ≤ g11 := Nat.le_of_eq HM11.out.new.symm
      have g68 := heap_lt HR8.out
      have HB6 := hidk (HW11.out.below _ _ (HB4.out.trans (HM11.out.below.mono HB4.out.size)) (Nat.le_trans HB4.out.size h11))
      replace HR6 := hidk ((HW11.out.other _ (by omega)).trans ((HM11.out.below.block _ (heap_lt HR6.out)).trans HR6.out))
      replace HR8 := hidk ((HW11.out.other _ (by omega)).trans ((HM11.out.below.block _ (heap_lt HR8.out)).trans HR8.out))
      have HR11 := hidk HW11.out.row
      clear HM11 HW11 HB4
      refine (P1.out w6).mono ?_
      rintro e w7 ⟨⟨a7, c7, rfl, hr7⟩, hb7⟩
      have HL7 := hidk hr7
      have HB7 := hidk (HB6.out.trans (hb7.mono HB6.out.size))
      replace HR6 := hidk ((hb7.block _ (heap_lt HR6.out)).trans HR6.out)
      replace HR8 := hidk ((hb7.block _ (heap_lt HR8.out)).trans HR8.out)
      replace HR11 := hidk ((hb7.block _ (heap_lt HR11.out)).trans HR11.out)
      have HRB := hidk (HRD.out w7 HB7.out)
      clear hr7 hb7 HB6 P1 HRD
      go_wp2_with (first
        | (show wpList _ _ _ ({ dst := some 36, op := _, type := _, pos := _, after := _, guard := _ } :: _) _ _; refine wpList_load_row rfl 43 (.tmp 8) rfl g8 rfl 43 Z (0, 0) _ HR8.out Tryd.underlying43 rfl HSZ.out ?_; try simp only [Act.put, List.setIfInBounds_toArray, List.set_cons_zero, List.set_cons_succ])
        | (refine wpList_set_var rfl 43 (.tmp 6) (.tmp 36) rfl g6 Z rfl rfl 43 Z HR6.out HSZ.out rfl H1Z.out ?_; intro wz HW6; try simp only [Act.put, List.setIfInBounds_toArray, List.set_cons_zero, List.set_cons_succ])
        | fail)
      first
        | (obtain ⟨rfl, rfl⟩ := HQ.out
           refine bodyPost_ret (v := .tuple #[.agg R, .int .i64 60]) ?_ rfl ⟨rfl, HW6.out.below _ _ HB7.out h6⟩
           exact results_row_tmp (p := 6) (q := 7) (ty := 43) rfl _ _ g6 43 R (0, 0) _ rfl HW6.out.row Tryd.underlying43 rfl HSZ.out)
        | (refine (Q1.out _ _ _ HL7.out HRB.out).mono ?_
           rintro e w8 ⟨rfl, rfl⟩
           go_wp2_with (first
             | (show wpList _ _ _ ({ dst := some 36, op := _, type := _, pos := _, after := _, guard := _ } :: _) _ _; refine wpList_load_row rfl 43 (.tmp 8) rfl g8 rfl 43 Z (0, 0) _ HR8.out Tryd.underlying43 rfl HSZ.out ?_; try simp only [Act.put, List.setIfInBounds_toArray, List.set_cons_zero, List.set_cons_succ])
             | (show wpList _ _ _ ({ dst := some 37, op := _, type := _, pos := _, after := _, guard := _ } :: _) _ _; refine wpList_load_row rfl 43 (.tmp 11) rfl g11 rfl 43 X (0, 0) _ HR11.out Tryd.underlying43 rfl HSX.out ?_; try simp only [Act.put, List.setIfInBounds_toArray, List.set_cons_zero, List.set_cons_succ])
             | (refine wpList_set_var rfl 43 (.tmp 6) (.tmp 36) rfl g6 Z rfl rfl 43 Z HR6.out HSZ.out rfl H1Z.out ?_; intro wz HW6; try simp only [Act.put, List.setIfInBounds_toArray, List.set_cons_zero, List.set_cons_succ])
             | (refine wpList_set_var rfl 43 (.tmp 6) (.tmp 37) rfl g6 X rfl rfl 43 Z HR6.out HSX.out HZX.out H1X.out ?_; intro wz HW6; try simp only [Act.put, List.setIfInBounds_toArray, List.set_cons_zero, List.set_cons_succ])
             | fail)
           first
             | (obtain ⟨rfl, rfl⟩ := HQ.out
                refine bodyPost_ret (v := .tuple #[.agg R, .int .i64 60]) ?_ rfl ⟨rfl, HW6.out.below _ _ HB7.out h6⟩
                exact results_row_tmp (p := 6) (q := 7) (ty := 43) rfl _ _ g6 43 R (0, 0) _ rfl HW6.out.row Tryd.underlying43 rfl HSZ.out)
             | (obtain ⟨rfl, rfl⟩ := HQ.out
                refine bodyPost_ret (v := .tuple #[.agg R, .int .i64 0]) ?_ rfl ⟨rfl, HW6.out.below _ _ HB7.out h6⟩
                exact results_row_tmp (p := 6) (q := 7) (ty := 43) rfl _ _ g6 43 R (0, 0) _ rfl HW6.out.row Tryd.underlying43 rfl HSX.out))
set_option maxHeartbeats 2000000 in
theorem eGetI_any (a : Option Addr) (len cap : Nat) (bs : List UInt8) (w : World) (hR : Reads w a len cap bs) (hl : len ≤ 1000000) (R : Array Value) (HR : Hid (R = (icells (getIO bs)).toArray)) :
    Calls Tryd.prog 15 #[.slice a len cap] w fun e w' => e = .returned (.tuple #[.agg R, .int .i64 (getIE bs)]) ∧ Below w.heap.size w w' := by
  obtain ⟨Z, HZ, HA, HBZ, HNZ⟩ := noughtsI
  obtain ⟨X, HX, HSX, H1X, HNX⟩ := item_row (getIO bs) ((getIO_in bs).e.ok)
  obtain rfl : X = R := by rw [HX.out, HR.out]
  have HZX : Hid (Z.size = X.size) := by show _ = _; rw [HNZ.out, HNX.out]
  obtain ⟨K, hK⟩ : ∃ K, K = getIE bs := ⟨_, rfl⟩
  have R1 : Hid (∀ W, Below w.heap.size w W → Calls Tryd.prog 32 #[.slice a len cap, .func (.func 33) #[] #[], .func (.func 12) #[] #[]] W fun e w' => e = .returned (.tuple #[.agg X, .int .i64 K]) ∧ Below W.heap.size W w') := fun W hb => by rw [hK]; exact eReadI_any a len cap bs W (hR.below hb) hl X HR
  rw [← hK]
  clear hR HR HX HZ HBZ HNZ HNX hK
  go_enter Tryd.func15, Tryd.ntmps15
  go_wp2_with (first
    | (show wpList _ _ _ ({ dst := some 2, op := _, type := _, pos := _, after := _, guard := _ } :: _) _ _; refine wpList_new_var rfl 43 rfl Z HA.out ?_; intro g2 w1 HM2; try simp only [Act.put, List.setIfInBounds_toArray, List.set_cons_zero, List.set_cons_succ])
    | fail)
  have h2 : w.heap.size ≤ g2 := Nat.le_of_eq HM2.out.new.symm
  refine (R1.out w1 HM2.out.below).mono ?_
  rintro e w2 ⟨rfl, hb2⟩
  have HB2 := hidk (HM2.out.below.trans (hb2.mono HM2.out.below.size))
  have HR2 := hidk ((hb2.block _ (heap_lt HM2.out.row)).trans HM2.out.row)
  clear hb2 HM2 R1
  go_wp2_with (first
    | (refine wpList_set_var rfl 43 (.tmp 2) (.tmp 6) rfl g2 X rfl rfl 43 Z HR2.out HSX.out HZX.out H1X.out ?_; intro wz HW2; try simp only [Act.put, List.setIfInBounds_toArray, List.set_cons_zero, List.set_cons_succ])
    | fail)
  refine bodyPost_ret (v := .tuple #[.agg X, .int .i64 K]) ?_ rfl ⟨rfl, HW2.out.below _ _ HB2.out h2⟩
  exact results_row_tmp (p := 2) (q := 3) (ty := 43) rfl _ _ g2 43 X (0, 0) _ rfl HW2.out.row Tryd.underlying43 rfl HSX.out
end Go.Proofs.YtgkfodmccfnaoaaDoor

/- What entry.Leaf answers. -/
namespace Go.Proofs.YtgkfodmccfnaoaaDoor
open Go.RowKit Sums Nums
set_option linter.unusedVariables false
set_option linter.unusedSimpArgs false
set_option maxRecDepth 100000
set_option maxHeartbeats 4000000 in
theorem eLeaf_any (x : ItT) (hin : InI x) (w : World) (X D : Array Value) (HX : Hid (X = (icells x).toArray)) (hT : TabH w) (HD : Hid (D = (cellsOf (leafO x)).toArray)) :
    Calls Tryd.prog 14 #[.agg X] w fun e w' => e = .returned (.tuple #[.agg D, .int .i64 (iE x)]) ∧ Below w.heap.size w w' := by
  have ok := hin.e.ok
  obtain ⟨Z, HZ, HA, HS, H1, H32⟩ := noughts27
  have HSX : Hid ((Tryd.prog.info? 43).map (·.size) = some X.size) := by show _ = _; rw [sizeI, HX.out]; simp [icells_length _ ok]
  have hd : (leafO x).length = 32 := by
    unfold leafO
    split
    · exact sumD_length _
    · rfl
  have HSD : Hid ((Tryd.prog.info? 24).map (·.size) = some D.size) := by show _ = _; rw [size23, HD.out]; simp [cellsOf_length, hd]
  have H1D : Hid (D.all (·.oneCell') = true) := by show _ = _; rw [HD.out]; exact cellsOf_all _
  have HZD : Hid (Z.size = D.size) := by show _ = _; rw [H32.out, HD.out]; simp [cellsOf_length, hd]
  have HX0 : Hid ((w.alloc (.cells X 43)).heap[w.heap.size]? = some (.cells X 43 (0, 0))) := heap_alloc_new w _
  have HB : Hid (Below w.heap.size w (w.alloc (.cells X 43))) := (Below.refl _ _).alloc (Nat.le_refl _) _
  have HBN : Hid (Tryd.prog.built 24 [] = some Z) := by show _ = _; rw [HZ.out]; kernel_rfl
  obtain ⟨l, Hl⟩ : ∃ l, Hid (l = iB x) := ⟨_, hidk rfl⟩
  obtain ⟨E, HE⟩ : ∃ l, Hid (l = iE x) := ⟨_, hidk rfl⟩
  have P1 : Hid (∀ W, Calls Tryd.prog 12 #[.agg X] W fun e w' => (∃ a c, e = .returned (.tuple #[.slice a l.length c, .int .i64 E]) ∧ Reads w' a l.length c l) ∧ Below W.heap.size W w') := fun W => by rw [Hl.out, HE.out]; exact ePutI_any x hin W X HX
  obtain ⟨y, Hy⟩ : ∃ y : ByteArray, Hid (y = bA l) := ⟨_, hidk rfl⟩
  have hE2 : E = 0 ∧ rightI x = true ∨ E = 60 ∧ rightI x = false := by rw [HE.out]; exact iE_two x
  rw [← HE.out]
  have LF : Hid (rightI x = true → ∀ W, Below w.heap.size w W → Calls Tryd.prog 17 #[.string y] W fun e w' => e = .returned (.agg D) ∧ Below W.heap.size W w') := fun h W hb => by
    have hl : l = itemB x := by rw [Hl.out]; unfold iB; rw [if_pos h]
    have hz := itemB_length h ok
    exact leaf_any y W (by rw [Hy.out, bA_size, hl]; omega) (hT.keep hb) D (by
      show _ = _
      rw [HD.out]
      unfold leafO leafI
      rw [if_pos h, Hy.out, bA_list, hl])
  have HNO : Hid (rightI x = false → D = Z) := fun h => by
    rw [HD.out, HZ.out]
    unfold leafO
    rw [if_neg (by rw [h]; simp)]
  clear HX HD HE hT ok hin hd HZ
  rcases hE2 with ⟨rfl, hr⟩ | ⟨rfl, hr⟩
  · have LF2 := hidk (LF.out hr)
    clear LF HNO hr
    go_enter Tryd.func14, Tryd.ntmps14
    go_wp2_with (first
      | (show wpList _ _ _ ({ dst := some 2, op := _, type := _, pos := _, after := _, guard := _ } :: _) _ _; refine wpList_new_var rfl 24 rfl Z HA.out ?_; intro g2 w1 HM2; try simp only [Act.put, List.setIfInBounds_toArray, List.set_cons_zero, List.set_cons_succ])
      | (show wpList _ _ _ ({ dst := some 7, op := _, type := _, pos := _, after := _, guard := _ } :: _) _ _; refine wpList_load_row rfl 43 (.tmp 1) rfl w.heap.size rfl 43 X (0, 0) _ ((HM2.out.below.block _ (heap_lt HX0.out)).trans HX0.out) Tryd.underlying43 rfl HSX.out ?_; try simp only [Act.put, List.setIfInBounds_toArray, List.set_cons_zero, List.set_cons_succ])
      | fail)
    have h2 : w.heap.size ≤ g2 := by rw [HM2.out.new]; exact HB.out.size
    have HB1 := hidk (HB.out.trans (HM2.out.below.mono HB.out.size))
    have HR2 := hidk HM2.out.row
    clear HM2 HB HX0
    refine (P1.out _).mono ?_
    rintro e w2 ⟨⟨a2, c2, rfl, hr2⟩, hb2⟩
    have HB2 := hidk (HB1.out.trans (hb2.mono HB1.out.size))
    replace HR2 := hidk ((hb2.block _ (heap_lt HR2.out)).trans HR2.out)
    have hcv := conv_reads hr2
    rw [show (⟨l.toArray⟩ : ByteArray) = y from Hy.out.symm] at hcv
    clear hb2 hr2 HB1 P1
    go_wp2_with fail
    refine (LF2.out _ HB2.out).mono ?_
    rintro e w3 ⟨rfl, hb3⟩
    have HB3 := hidk (HB2.out.trans (hb3.mono HB2.out.size))
    replace HR2 := hidk ((hb3.block _ (heap_lt HR2.out)).trans HR2.out)
    clear hb3 HB2 LF2 hcv
    go_wp2_with (first
      | (refine wpList_set_var rfl 24 (.tmp 2) (.tmp 17) rfl g2 D rfl rfl 24 Z HR2.out HSD.out HZD.out H1D.out ?_; intro wl HW2; try simp only [Act.put, List.setIfInBounds_toArray, List.set_cons_zero, List.set_cons_succ])
      | fail)
    refine bodyPost_ret (v := .tuple #[.agg D, .int .i64 0]) ?_ rfl ⟨rfl, HW2.out.below _ _ HB3.out h2⟩
    exact results_row_tmp (p := 2) (q := 3) (ty := 24) rfl _ _ g2 24 D (0, 0) _ rfl HW2.out.row Tryd.underlying24 rfl HSD.out
  · obtain rfl := HNO.out hr
    clear LF HNO hr
    go_enter Tryd.func14, Tryd.ntmps14
    go_wp2_with (first
      | (show wpList _ _ _ ({ dst := some 2, op := _, type := _, pos := _, after := _, guard := _ } :: _) _ _; refine wpList_new_var rfl 24 rfl D HA.out ?_; intro g2 w1 HM2; try simp only [Act.put, List.setIfInBounds_toArray, List.set_cons_zero, List.set_cons_succ])
      | (show wpList _ _ _ ({ dst := some 7, op := _, type := _, pos := _, after := _, guard := _ } :: _) _ _; refine wpList_load_row rfl 43 (.tmp 1) rfl w.heap.size rfl 43 X (0, 0) _ ((HM2.out.below.block _ (heap_lt HX0.out)).trans HX0.out) Tryd.underlying43 rfl HSX.out ?_; try simp only [Act.put, List.setIfInBounds_toArray, List.set_cons_zero, List.set_cons_succ])
      | fail)
    have h2 : w.heap.size ≤ g2 := by rw [HM2.out.new]; exact HB.out.size
    have HB1 := hidk (HB.out.trans (HM2.out.below.mono HB.out.size))
    have HR2 := hidk HM2.out.row
    clear HM2 HB HX0
    refine (P1.out _).mono ?_
    rintro e w2 ⟨⟨a2, c2, rfl, hr2⟩, hb2⟩
    have HB2 := hidk (HB1.out.trans (hb2.mono HB1.out.size))
    replace HR2 := hidk ((hb2.block _ (heap_lt HR2.out)).trans HR2.out)
    clear hb2 hr2 HB1 P1
    go_wp2_with (first
      | (show wpList _ _ _ ({ dst := some 13, op := _, type := _, pos := _, after := _, guard := _ } :: _) _ _; refine wpList_build_none rfl 24 rfl D HBN.out ?_; try simp only [Act.put, List.setIfInBounds_toArray, List.set_cons_zero, List.set_cons_succ])
      | (refine wpList_set_var rfl 24 (.tmp 2) (.tmp 13) rfl g2 D rfl rfl 24 D HR2.out HSD.out rfl H1D.out ?_; intro wl HW2; try simp only [Act.put, List.setIfInBounds_toArray, List.set_cons_zero, List.set_cons_succ])
      | fail)
    refine bodyPost_ret (v := .tuple #[.agg D, .int .i64 60]) ?_ rfl ⟨rfl, HW2.out.below _ _ HB2.out h2⟩
    exact results_row_tmp (p := 2) (q := 3) (ty := 24) rfl _ _ g2 24 D (0, 0) _ rfl HW2.out.row Tryd.underlying24 rfl HSD.out
end Go.Proofs.YtgkfodmccfnaoaaDoor

/- What the calls of package entry answer, all together. -/
namespace Go.Proofs.YtgkfodmccfnaoaaDoor
open Go.RowKit Sums Nums
set_option maxRecDepth 100000
set_option linter.unusedVariables false
/-- What the calls of package entry answer. -/
theorem entryC : EntryC where
  checkC := fun c hc w C HC => eCheckC_any c w C HC
  putC := fun c hc w C HC => ePutC_any c hc.d w C HC
  getC := fun a len cap bs w hR hl R HR => eGetC_any a len cap bs w hR (by omega) R HR
  check := fun x hx w X HX => eCheck_any x hx.ok w X HX
  put := fun x hx w X HX => ePutE_any x hx w X HX
  get := fun a len cap bs w hR hl R HR => eGetE_any a len cap bs w hR (by omega) R HR
  putI := fun x hx w X HX => ePutI_any x hx w X HX
  getI := fun a len cap bs w hR hl R HR => eGetI_any a len cap bs w hR (by omega) R HR
  leaf := fun x hx w X D HX hT HD => eLeaf_any x hx w X D HX hT HD
end Go.Proofs.YtgkfodmccfnaoaaDoor

/- Claims that came in. -/
namespace Go.Proofs.YtgkfodmccfnaoaaDoor
open Go.RowKit Sums Nums
set_option linter.unusedVariables false
set_option maxRecDepth 100000
variable {H : Type} {enc : TypeId × Value → H} {W : World} {base : Nat} {sp : Nat → Bool} {held : Bool} {fuel : Nat} {x : DataW H × List MemPlace}
theorem open_claim_cells {cs : List Value} (hf : DataW.trod enc Tryd.prog W base sp held fuel 30 cs = some x) : ∃ z : ClT, InC z ∧ cs = ccells z := by
  obtain ⟨xs, m, rfl, _, hl, hx, hall⟩ := DataW.trod_struct Tryd.underlying30 hf
  have h32 : Tryd.prog.cellsOf 24 = 32 := by kernel_rfl
  have h1 : Tryd.prog.cellsOf 3 = 1 := by kernel_rfl
  have hsz : Tryd.prog.cellsOf 30 = 36 := by kernel_rfl
  rw [hsz] at hl
  obtain ⟨y0, e0⟩ := part_some hx (i := 0) (by decide)
  obtain ⟨y1, e1⟩ := part_some hx (i := 1) (by decide)
  obtain ⟨y2, e2⟩ := part_some hx (i := 2) (by decide)
  obtain ⟨y3, e3⟩ := part_some hx (i := 3) (by decide)
  obtain ⟨y4, e4⟩ := part_some hx (i := 4) (by decide)
  have f0 : DataW.trod enc Tryd.prog W base sp held m 3 ((cs.drop 0).take (Tryd.prog.cellsOf 3)) = some y0 := (hall 0 _ rfl).trans e0
  have f1 : DataW.trod enc Tryd.prog W base sp held m 3 ((cs.drop 1).take (Tryd.prog.cellsOf 3)) = some y1 := (hall 1 _ rfl).trans e1
  have f2 : DataW.trod enc Tryd.prog W base sp held m 3 ((cs.drop 2).take (Tryd.prog.cellsOf 3)) = some y2 := (hall 2 _ rfl).trans e2
  have f3 : DataW.trod enc Tryd.prog W base sp held m 3 ((cs.drop 3).take (Tryd.prog.cellsOf 3)) = some y3 := (hall 3 _ rfl).trans e3
  have f4 : DataW.trod enc Tryd.prog W base sp held m 24 ((cs.drop 4).take (Tryd.prog.cellsOf 24)) = some y4 := (hall 4 _ rfl).trans e4
  rw [h1] at f0
  rw [h1] at f1
  rw [h1] at f2
  rw [h1] at f3
  rw [h32] at f4
  obtain ⟨r, ir, cr'⟩ := open_int_cells f0
  obtain ⟨e, ie, ce'⟩ := open_int_cells f1
  obtain ⟨n, in', cn'⟩ := open_int_cells f2
  obtain ⟨s, is, cs'⟩ := open_int_cells f3
  obtain ⟨d, id, cd'⟩ := open_dig_cells f4
  refine ⟨⟨r, e, n, s, d⟩, ⟨id, ir, ie, in', is⟩, ?_⟩
  unfold ccells
  show cs = [Value.int .i64 r, .int .i64 e, .int .i64 n, .int .i64 s] ++ cellsOf d
  have k0 : cs = ((cs.drop 0).take 1 ++ ((cs.drop 1).take 1 ++ ((cs.drop 2).take 1 ++ ((cs.drop 3).take 1 ++ (cs.drop 4).take 32)))) := by
    have q4 : (cs.drop 4).take 32 = cs.drop 4 := List.take_of_length_le (by rw [List.length_drop]; omega)
    have q3 : (cs.drop 3).take 1 ++ cs.drop 4 = cs.drop 3 := by
      have := List.take_append_drop 1 (cs.drop 3)
      rw [List.drop_drop] at this
      exact this
    have q2 : (cs.drop 2).take 1 ++ cs.drop 3 = cs.drop 2 := by
      have := List.take_append_drop 1 (cs.drop 2)
      rw [List.drop_drop] at this
      exact this
    have q1 : (cs.drop 1).take 1 ++ cs.drop 2 = cs.drop 1 := by
      have := List.take_append_drop 1 (cs.drop 1)
      rw [List.drop_drop] at this
      exact this
    rw [q4, q3, q2, q1, List.drop_zero, List.take_append_drop]
  rw [cr', ce', cn', cs', cd'] at k0
  rw [k0]
  all_goals simp
theorem open_claim {base' : Nat} {r : Reach} {v : Value} {d : DataW H} {p : List MemPlace}
    (hv : Value.okWide Tryd.prog W r base' 30 v) (h : DataW.Trod enc Tryd.prog W base sp held 30 v d p) : ∃ z : ClT, InC z ∧ v = claimV z := by
  obtain ⟨cs, rfl⟩ : ∃ cs, v = .agg cs := by
    simp only [Value.okWide, Tryd.underlying30] at hv
    obtain ⟨cs, h1, _⟩ := hv
    exact ⟨cs, h1⟩
  obtain ⟨fuel, hf⟩ := h
  obtain ⟨z, iz, hz⟩ := open_claim_cells hf
  refine ⟨z, iz, ?_⟩
  unfold claimV
  rw [← hz]
  rfl
end Go.Proofs.YtgkfodmccfnaoaaDoor

/- Entries and items that came in. -/
namespace Go.Proofs.YtgkfodmccfnaoaaDoor
open Go.RowKit Sums Nums
set_option linter.unusedVariables false
set_option maxRecDepth 100000
variable {H : Type} {enc : TypeId × Value → H} {W : World} {base : Nat} {sp : Nat → Bool} {held : Bool} {fuel : Nat} {x : DataW H × List MemPlace}
theorem open_kind_cells {cs : List Value} (hf : DataW.trod enc Tryd.prog W base sp held fuel 22 cs = some x) : ∃ z : Int, In64 z ∧ cs = [.int .i64 z] := by
  obtain ⟨z, hz, _, hwf⟩ := DataW.trod_int Tryd.underlying22 hf
  exact ⟨z, bounds_i64 hwf, hz⟩
theorem open_str_cells {cs : List Value} (hf : DataW.trod enc Tryd.prog W base sp held fuel 9 cs = some x) : ∃ s : ByteArray, s.size ≤ maxLen ∧ cs = [.string s] := by
  obtain ⟨s, hz, _, hwf⟩ := DataW.trod_string Tryd.underlying9 hf
  exact ⟨s, hwf, hz⟩
theorem open_entry_cells {cs : List Value} (hf : DataW.trod enc Tryd.prog W base sp held fuel 32 cs = some x) : ∃ z : EnT, CmE z ∧ cs = ecells z := by
  obtain ⟨xs, m, rfl, _, hl, hx, hall⟩ := DataW.trod_struct Tryd.underlying32 hf
  have h36 : Tryd.prog.cellsOf 30 = 36 := by kernel_rfl
  have h1 : Tryd.prog.cellsOf 3 = 1 := by kernel_rfl
  have hk : Tryd.prog.cellsOf 22 = 1 := by kernel_rfl
  have h69 : Tryd.prog.cellsOf 28 = 69 := by kernel_rfl
  have h9 : Tryd.prog.cellsOf 9 = 1 := by kernel_rfl
  have hsz : Tryd.prog.cellsOf 32 = 109 := by kernel_rfl
  rw [hsz] at hl
  obtain ⟨y0, e0⟩ := part_some hx (i := 0) (by decide)
  obtain ⟨y1, e1⟩ := part_some hx (i := 1) (by decide)
  obtain ⟨y2, e2⟩ := part_some hx (i := 2) (by decide)
  obtain ⟨y3, e3⟩ := part_some hx (i := 3) (by decide)
  obtain ⟨y4, e4⟩ := part_some hx (i := 4) (by decide)
  obtain ⟨y5, e5⟩ := part_some hx (i := 5) (by decide)
  have f0 : DataW.trod enc Tryd.prog W base sp held m 22 ((cs.drop 0).take (Tryd.prog.cellsOf 22)) = some y0 := (hall 0 _ rfl).trans e0
  have f1 : DataW.trod enc Tryd.prog W base sp held m 3 ((cs.drop 1).take (Tryd.prog.cellsOf 3)) = some y1 := (hall 1 _ rfl).trans e1
  have f2 : DataW.trod enc Tryd.prog W base sp held m 3 ((cs.drop 2).take (Tryd.prog.cellsOf 3)) = some y2 := (hall 2 _ rfl).trans e2
  have f3 : DataW.trod enc Tryd.prog W base sp held m 9 ((cs.drop 3).take (Tryd.prog.cellsOf 9)) = some y3 := (hall 3 _ rfl).trans e3
  have f4 : DataW.trod enc Tryd.prog W base sp held m 28 ((cs.drop 4).take (Tryd.prog.cellsOf 28)) = some y4 := (hall 4 _ rfl).trans e4
  have f5 : DataW.trod enc Tryd.prog W base sp held m 30 ((cs.drop 73).take (Tryd.prog.cellsOf 30)) = some y5 := (hall 5 _ rfl).trans e5
  rw [hk] at f0
  rw [h1] at f1
  rw [h1] at f2
  rw [h9] at f3
  rw [h69] at f4
  rw [h36] at f5
  obtain ⟨k, ik, ck'⟩ := open_kind_cells f0
  obtain ⟨c, ic, cc'⟩ := open_int_cells f1
  obtain ⟨s, is, cs'⟩ := open_int_cells f2
  obtain ⟨t, it, ct'⟩ := open_str_cells f3
  obtain ⟨h, ih, ch'⟩ := open_signed_cells f4
  obtain ⟨m, im, cm'⟩ := open_claim_cells f5
  refine ⟨⟨k, c, s, t, h, m⟩, ⟨ik, ic, is, it, ih, im⟩, ?_⟩
  unfold ecells
  show cs = [Value.int .i64 k, .int .i64 c, .int .i64 s, .string t] ++ scells h ++ ccells m
  have k0 : cs = ((cs.drop 0).take 1 ++ ((cs.drop 1).take 1 ++ ((cs.drop 2).take 1 ++ ((cs.drop 3).take 1 ++ ((cs.drop 4).take 69 ++ (cs.drop 73).take 36))))) := by
    have q5 : (cs.drop 73).take 36 = cs.drop 73 := List.take_of_length_le (by rw [List.length_drop]; omega)
    have q4 : (cs.drop 4).take 69 ++ cs.drop 73 = cs.drop 4 := by
      have := List.take_append_drop 69 (cs.drop 4)
      rw [List.drop_drop] at this
      exact this
    have q3 : (cs.drop 3).take 1 ++ cs.drop 4 = cs.drop 3 := by
      have := List.take_append_drop 1 (cs.drop 3)
      rw [List.drop_drop] at this
      exact this
    have q2 : (cs.drop 2).take 1 ++ cs.drop 3 = cs.drop 2 := by
      have := List.take_append_drop 1 (cs.drop 2)
      rw [List.drop_drop] at this
      exact this
    have q1 : (cs.drop 1).take 1 ++ cs.drop 2 = cs.drop 1 := by
      have := List.take_append_drop 1 (cs.drop 1)
      rw [List.drop_drop] at this
      exact this
    rw [q5, q4, q3, q2, q1, List.drop_zero, List.take_append_drop]
  rw [ck', cc', cs', ct', ch', cm'] at k0
  rw [k0]
  all_goals simp
theorem open_entry {base' : Nat} {r : Reach} {v : Value} {d : DataW H} {p : List MemPlace}
    (hv : Value.okWide Tryd.prog W r base' 32 v) (h : DataW.Trod enc Tryd.prog W base sp held 32 v d p) : ∃ z : EnT, CmE z ∧ v = entryV z := by
  obtain ⟨cs, rfl⟩ : ∃ cs, v = .agg cs := by
    simp only [Value.okWide, Tryd.underlying32] at hv
    obtain ⟨cs, h1, _⟩ := hv
    exact ⟨cs, h1⟩
  obtain ⟨fuel, hf⟩ := h
  obtain ⟨z, iz, hz⟩ := open_entry_cells hf
  refine ⟨z, iz, ?_⟩
  unfold entryV
  rw [← hz]
  rfl
end Go.Proofs.YtgkfodmccfnaoaaDoor
