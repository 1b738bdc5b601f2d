/- Texts of our own that the row of KeepFolds leans on, part 41. -/
import Derived.Test.YtjpmmbmhkpgjcaaKeepFoldsJ0
import Derived.Test.YtjpmmbmhkpgjcaaKeepFoldsJ15
import Derived.Test.YtjpmmbmhkpgjcaaKeepFoldsJ29
/- What entry.PutItem and entry.GetItem answer. -/
namespace Go.Proofs.Ytjpmmbmhkpgjcaa
open Go.RowKit Sums Nums
set_option linter.unusedVariables false
set_option linter.unusedSimpArgs false
set_option maxRecDepth 100000
theorem builtI1 (p : Int) (R : Array Value) (HR : Hid (R = (icells ⟨p, zeroE⟩).toArray)) : Try.prog.built 40 [(0, .int .i64 p)] = some R := by
  have hi := infoI
  cases hq : Try.prog.info? 40 with
  | none => rw [hq] at hi; cases hi
  | some i =>
    rw [hq] at hi
    simp only [Option.map_some, Option.some.injEq, Prod.mk.injEq] at hi
    have h3 : (Try.prog.info? 3).map (·.size) = some 1 := by kernel_rfl
    have hE := sizeE
    cases hq3 : Try.prog.info? 3 with
    | none => rw [hq3] at h3; cases h3
    | some i3 =>
    cases hqE : Try.prog.info? 38 with
    | none => rw [hqE] at hE; cases hE
    | some iE =>
    rw [hq3] at h3
    rw [hqE] at hE
    simp only [Option.map_some, Option.some.injEq] at h3 hE
    unfold Program.built
    simp only [hq, Try.underlying40, hi.1, List.mapM_cons, List.mapM_nil, hq3, hqE, h3, hE, Option.map_some, Option.bind_eq_bind, Option.bind_some, Option.pure_def]
    show Instr.fill _ (icells zeroI).toArray _ = some R
    refine (fill_val _ 0 0 1 (.int .i64 p) #[.int .i64 p] _ [] [.int .i64 0] (ecells zeroE) _ rfl rfl rfl (by simp [icells, zeroI]) rfl rfl).trans ?_
    simp only [Instr.fill, List.append_nil, Option.some.injEq]
    rw [HR.out]
    rfl
theorem iset_e (x : ItT) (ok : OkE x.e) (v : EnT) (hv : OkE v) : ((icells x).take 1 ++ ecells v ++ (icells x).drop (1 + 109)).toArray = (icells ⟨x.p, v⟩).toArray := by
  congr 1
  rw [List.drop_of_length_le (by rw [icells_length x ok]; omega), List.append_nil]
  rfl
set_option maxHeartbeats 8000000 in
theorem eTakeI_any (n₀ : Nat) (a : Option Addr) (len cap : Nat) (fs : List (Int × ByteArray)) (w : World) (hR : FReads n₀ w a len cap fs) (hn : n₀ ≤ w.heap.size) (hfz : ∀ f ∈ fs, f.2.size ≤ 65536) (X : Array Value) (HX : Hid (X = (icells (takeI fs)).toArray)) :
    Calls Try.prog 111 #[.slice a len cap] w fun e w' => e = .returned (.agg X) ∧ Below w.heap.size w w' := by
  obtain ⟨Z, HZ, HA, HBZ, HNZ⟩ := noughtsI
  have HSX : Hid ((Try.prog.info? 40).map (·.size) = some X.size) := by show _ = _; rw [sizeI, HX.out]; simp [icells_length _ (takeI_ok fs)]
  have H1X : Hid (X.all (·.oneCell') = true) := by show _ = _; rw [HX.out]; exact one_cellsI _
  have HZX : Hid (Z.size = X.size) := by show _ = _; rw [HNZ.out, HX.out]; simp [icells_length _ (takeI_ok fs)]
  have z2 := fdD_le 2 65536 fs hfz
  obtain ⟨v1, Hv1⟩ : ∃ v, Hid (v = fdN 1 fs) := ⟨_, hidk rfl⟩
  have N1 : Hid (∀ W, Below w.heap.size w W → Calls Try.prog 114 #[.slice a len cap, .int .i64 1] W fun e w' => e = .returned (.int .i64 v1) ∧ Below W.heap.size W w') := fun W hb => by rw [Hv1.out]; exact eNumber_any n₀ a len cap fs 1 W (hR.below (hb.mono hn)) (Nat.le_trans hn hb.size)
  obtain ⟨d2, Hd2⟩ : ∃ v, Hid (v = fdD 2 fs) := ⟨_, hidk rfl⟩
  have N2 : Hid (∀ W, Below w.heap.size w W → Calls Try.prog 126 #[.slice a len cap, .int .i64 2] W fun e w' => e = .returned (.string d2) ∧ Below W.heap.size W w') := fun W hb => by rw [Hd2.out]; exact eData_any n₀ a len cap fs 2 W (hR.below (hb.mono hn)) (Nat.le_trans hn hb.size)
  rw [← Hd2.out] at z2
  have m2 : d2.size ≤ maxLen := by unfold maxLen; omega
  obtain ⟨B, HB, HSB, H1B, HNB⟩ := item_row ⟨v1, zeroE⟩ zeroE_ok
  have HZB : Hid (Z.size = B.size) := by show _ = _; rw [HNZ.out, HNB.out]
  have HBO : Hid (Try.prog.built 40 [(0, .int .i64 v1)] = some B) := builtI1 v1 B HB
  have hgE := getEO_okT d2.data.toList
  obtain ⟨Q, HQ, HSQ, H1Q, HNQ⟩ := entry_row (getEO d2.data.toList) hgE
  obtain ⟨e2, He2⟩ : ∃ z, Hid (z = getEE d2.data.toList) := ⟨_, hidk rfl⟩
  have G2 : Hid (∀ W a c, Reads W a d2.size c d2.data.toList → Calls Try.prog 125 #[.slice a d2.size c] W fun e w' => e = .returned (.tuple #[.agg Q, .int .i64 e2]) ∧ Below W.heap.size W w') := fun W a c h => by rw [He2.out]; exact eGetE_any a d2.size c _ W h (by omega) Q HQ
  have HE2 : Hid ((B.toList.take 1 ++ Q.toList ++ B.toList.drop (1 + Q.size)).toArray = X) := by
    show _ = _
    rw [HNQ.out, HB.out, HQ.out, HX.out, show takeI fs = ⟨v1, getEO d2.data.toList⟩ by rw [Hv1.out, Hd2.out]; rfl]
    exact iset_e ⟨v1, zeroE⟩ zeroE_ok _ hgE
  have F2 : Hid (1 + Q.size ≤ B.size) := by show _ ≤ _; rw [HNQ.out, HNB.out]; omega
  clear hR HX HZ HBZ HNZ HB HQ He2 hgE Hv1 Hd2 HNQ HNB hfz
  go_enter Try.func111, Try.ntmps111
  go_wp2_with (first
    | (show aD 2 _ _ _ _ _ _ _ _ _ _ _; refine wpList_new_var rfl 40 rfl Z HA.out ?_; intro g2 w1 HM2; try simp only [Act.put, pS1, pS2, pS3])
    | fail)
  have h2 : w.heap.size ≤ g2 := Nat.le_of_eq HM2.out.new.symm
  have HBc := hidk HM2.out.below
  have HR2 := hidk HM2.out.row
  clear HM2
  refine (N1.out _ HBc.out).mono ?_
  rintro e w2 ⟨rfl, hb2⟩
  replace HR2 := hidk ((hb2.block _ (heap_lt HR2.out)).trans HR2.out)
  replace HBc := hidk (HBc.out.trans (hb2.mono HBc.out.size))
  clear hb2 N1
  go_wp2_with (first
    | (show aD 6 _ _ _ _ _ _ _ _ _ _ _; refine wpList_build_some rfl 40 _ rfl _ rfl B HBO.out ?_; try simp only [Act.put, pS1, pS2, pS3])
    | (show aD 3 _ _ _ _ _ _ _ _ _ _ _; refine wpList_new_var rfl 40 rfl Z HA.out ?_; intro g3 w6 HM3; try simp only [Act.put, pS1, pS2, pS3])
    | (refine wpList_set_var rfl 40 (.tmp 3) (.tmp 6) rfl g3 B rfl rfl 40 Z HM3.out.row HSB.out HZB.out H1B.out ?_; intro w7 HW3; try simp only [Act.put, pS1, pS2, pS3])
    | fail)
  have g23 : g2 < g3 := by rw [HM3.out.new]; exact heap_lt HR2.out
  replace HR2 := hidk ((HW3.out.other g2 (by omega)).trans ((HM3.out.below.block _ (heap_lt HR2.out)).trans HR2.out))
  have HR3 := hidk HW3.out.row
  replace HBc := hidk (HW3.out.below _ _ (HBc.out.trans (HM3.out.below.mono HBc.out.size)) (by omega))
  clear HM3 HW3
  refine (N2.out _ HBc.out).mono ?_
  rintro e w8 ⟨rfl, hb8⟩
  replace HR2 := hidk ((hb8.block _ (heap_lt HR2.out)).trans HR2.out)
  replace HR3 := hidk ((hb8.block _ (heap_lt HR3.out)).trans HR3.out)
  replace HBc := hidk (HBc.out.trans (hb8.mono HBc.out.size))
  clear hb8 N2
  go_wp2_with (first
    | (show aD 10 _ _ _ _ _ _ _ _ _ _ _; refine wpList_conv_text rfl 9 61 5 (.tmp 9) rfl d2 rfl Try.underlying9 Try.underlying61 Try.underlying5 m2 ?_; intro ax2 cx2 wx2 HV2; try simp only [Act.put, pS1, pS2, pS3])
    | fail)
  replace HR2 := hidk ((HV2.out.2.block _ (heap_lt HR2.out)).trans HR2.out)
  replace HR3 := hidk ((HV2.out.2.block _ (heap_lt HR3.out)).trans HR3.out)
  replace HBc := hidk (HBc.out.trans (HV2.out.2.mono HBc.out.size))
  refine (G2.out _ _ _ HV2.out.1).mono ?_
  rintro e wy2 ⟨rfl, hy2⟩
  replace HR2 := hidk ((hy2.block _ (heap_lt HR2.out)).trans HR2.out)
  replace HR3 := hidk ((hy2.block _ (heap_lt HR3.out)).trans HR3.out)
  replace HBc := hidk (HBc.out.trans (hy2.mono HBc.out.size))
  clear hy2 HV2 G2
  go_wp2_with (first
    | (refine wpList_set_mid rfl 38 (.tmp 14) (.tmp 12) rfl g3 1 Q rfl rfl 40 B HR3.out F2.out HSQ.out H1Q.out ?_; intro wz2 HWm; rw [HE2.out] at HWm; replace HR2 := hidk ((HWm.out.other g2 (by omega)).trans HR2.out); replace HR3 := hidk HWm.out.row; replace HBc := hidk (HWm.out.below _ _ HBc.out (by omega)); clear HWm; try simp only [Act.put, pS1, pS2, pS3])
    | (show aD 15 _ _ _ _ _ _ _ _ _ _ _; refine wpList_load_row rfl 40 (.tmp 3) rfl g3 rfl 40 X (0, 0) _ HR3.out Try.underlying40 rfl HSX.out ?_; try simp only [Act.put, pS1, pS2, pS3])
    | (refine wpList_set_var rfl 40 (.tmp 2) (.tmp 15) rfl g2 X rfl rfl 40 Z HR2.out HSX.out HZX.out H1X.out ?_; intro wl HW2; try simp only [Act.put, pS1, pS2, pS3])
    | fail)
  refine bodyPost_ret (v := .agg X) ?_ rfl ⟨rfl, HW2.out.below _ _ HBc.out h2⟩
  exact results_cell_row (p := 2) (ty := 40) rfl _ _ g2 40 X (0, 0) _ rfl HW2.out.row Try.underlying40 rfl HSX.out
theorem irow_row {W : World} {g : Nat} {x : ItT} {X : Array Value} (HX : Hid (X = (icells x).toArray)) {t : TypeId} (h : W.heap[g]? = some (.cells X t (0, 0))) : W.cell? ⟨g, 0, none⟩ = some (.int .i64 x.p) ∧ W.rangeAt g 1 (ecells x.e) := by
  constructor
  · rw [cell_of_row W g 0 X t (0, 0) h, HX.out]; rfl
  · intro j v hj
    rw [cell_of_row W g (1 + j) X t (0, 0) h, HX.out]
    have : (icells x)[1 + j]? = some v := by
      unfold icells
      rw [List.getElem?_append_right (by simp)]
      simpa using hj
    simpa using this
set_option maxHeartbeats 8000000 in
theorem ePutI_any (x : ItT) (hin : InI x) (w : World) (X : Array Value) (HX : Hid (X = (icells x).toArray)) :
    Calls Try.prog 75 #[.agg X] w fun e w' => BytesE (iB x) (iE x) e w' ∧ Below w.heap.size w w' := by
  have hnot : ∀ (x : Bool) (w : World), (Op.unary .not (.bool x)).run Try.prog w = .ok (.bool (!x)) w := fun _ _ => rfl
  have ok := hin.e.ok
  have HX0 : Hid ((w.alloc (.cells X 40)).heap[w.heap.size]? = some (.cells X 40 (0, 0))) := heap_alloc_new w _
  have HB : Hid (Below w.heap.size w (w.alloc (.cells X 40))) := (Below.refl _ _).alloc (Nat.le_refl _) _
  obtain ⟨Q, HQ, HSQ, H1Q, HNQ⟩ := entry_row x.e ok
  obtain ⟨k, Hk⟩ : ∃ k, Hid (k = x.p) := ⟨_, hidk rfl⟩
  have KP : Hid (∀ W : World, W.heap[w.heap.size]? = some (.cells X 40 (0, 0)) → W.cell? ⟨w.heap.size, 0, none⟩ = some (.int .i64 k)) := fun W h => by rw [Hk.out]; exact (irow_row HX h).1
  have KQ : Hid (∀ W : World, W.heap[w.heap.size]? = some (.cells X 40 (0, 0)) → W.rangeAt w.heap.size 1 Q.toList) := fun W h => by rw [HQ.out]; exact (irow_row HX h).2
  obtain ⟨l, Hl⟩ : ∃ l, Hid (l = eB x.e) := ⟨_, hidk rfl⟩
  obtain ⟨E, HE⟩ : ∃ l, Hid (l = eE x.e) := ⟨_, hidk rfl⟩
  have P1 : Hid (∀ W, Calls Try.prog 91 #[.agg Q] W fun e w' => (∃ a c, e = .returned (.tuple #[.slice a l.length c, .int .i64 E]) ∧ Reads w' a l.length c l) ∧ Below W.heap.size W w') := fun W => by rw [Hl.out, HE.out]; exact ePutE_any x.e hin.e W Q HQ
  obtain ⟨u, hu⟩ : ∃ u, (decide (1 ≤ k) && decide (k ≤ 900000000)) = u := ⟨_, rfl⟩
  have W1 : Hid (∀ W, Calls Try.prog 85 #[.int .i64 k, .int .i64 1, .int .i64 900000000] W fun e w' => e = .returned (.bool u) ∧ w' = W) := fun W => by rw [← hu]; exact eWithin_any k 1 900000000 W
  obtain ⟨n1, Hn1⟩ : ∃ n, Hid (n = nOf k) := ⟨_, hidk rfl⟩
  obtain ⟨y, Hy⟩ : ∃ y : ByteArray, Hid (y = bA l) := ⟨_, hidk rfl⟩
  have N1 : Hid (∀ W, Calls Try.prog 71 #[.int .i64 1, .int .i64 k] W fun e w' => e = .returned (.agg #[.int .i64 1, .string n1]) ∧ Below W.heap.size W w') := fun W => by rw [Hn1.out]; exact eNum_any 1 k W
  have hri : rightI x = (u && rightE x.e) := by unfold rightI; rw [← hu, Hk.out]
  obtain ⟨L, HL⟩ : ∃ l, Hid (l = iB x) := ⟨_, hidk rfl⟩
  obtain ⟨K, HK⟩ : ∃ l, Hid (l = iE x) := ⟨_, hidk rfl⟩
  have HNO : Hid (u = false ∨ E = 60 → L = [] ∧ K = 60) := fun h => by
    have hr : rightI x = false := by
      rw [hri]
      rcases h with h | h
      · rw [h]; rfl
      · rcases eE_two x.e with h2 | h2
        · rw [HE.out, h2.1] at h; cases h
        · rw [h2.2]; simp
    rw [HL.out, HK.out]
    unfold iB iE
    rw [hr]
    exact ⟨rfl, rfl⟩
  have HYES : Hid (u = true → E = 0 → L = itemB x ∧ K = 0 ∧ rightI x = true ∧ l = entryB x.e) := fun h0 h => by
    have hre : rightE x.e = true := by
      rcases eE_two x.e with h2 | h2
      · exact h2.2
      · rw [HE.out, h2.1] at h; cases h
    have hr : rightI x = true := by rw [hri, h0, hre]; rfl
    rw [HL.out, HK.out, Hl.out]
    unfold iB iE eB
    rw [if_pos hr, if_pos hr, if_pos hre]
    exact ⟨rfl, rfl, hr, rfl⟩
  have LY : Hid (u = true → E = 0 → ∀ W, Calls Try.prog 46 #[.slice (some ⟨W.heap.size, 0, none⟩) 2 2] (W.alloc (.cells #[.int .i64 1, .string n1, .int .i64 2, .string y] 85)) fun e w' => ∃ a c, e = .returned (.tuple #[.slice a L.length c, .int .i64 0]) ∧ Reads w' a L.length c L ∧ Below W.heap.size W w') := fun h0 h W => by
    obtain ⟨e1, _, hr, e4⟩ := HYES.out h0 h
    have hk := layE_iL hr ok
    have hL2 : fieldsN (iL x) = [(1, n1), (2, y)] := by rw [Hn1.out, Hy.out, e4, Hk.out]; rfl
    rw [hL2] at hk
    refine eLay_lit W _ [((1 : Int), n1), (2, y)] 2 L rfl rfl (by omega) (fun z hz => ?_) hk (by rw [e1, ← hL2]; rfl)
    simp only [List.mem_cons, List.not_mem_nil, or_false] at hz
    unfold maxLen
    rcases hz with rfl | rfl
    · have := nOf_size k; rw [← Hn1.out] at this; show n1.size ≤ _; omega
    · have h5 := bA_size l; rw [← Hy.out] at h5; have := eB_length x.e ok; rw [← Hl.out] at this; show y.size ≤ _; omega
  have hE2 : E = 0 ∨ E = 60 := by
    rw [HE.out]
    rcases eE_two x.e with h | h
    · exact .inl h.1
    · exact .inr h.1
  rw [← HL.out, ← HK.out]
  clear HX HQ Hk Hl HE hu Hn1 hri HL HK ok hin H1Q HNQ
  rcases hE2 with rfl | rfl
  · cases u
    · obtain ⟨rfl, rfl⟩ := HNO.out (.inl rfl)
      clear HNO HYES LY N1
      go_enter Try.func75, Try.ntmps75
      go_wp2_with (first
        | (show aD 8 _ _ _ _ _ _ _ _ _ _ _; refine wpList_mid rfl 38 (.tmp 7) rfl w.heap.size 1 rfl Q _ (KQ.out _ HX0.out) Try.underlying38 rfl HSQ.out ?_; try simp only [Act.put, pS1, pS2, pS3])
        | fail)
      refine (P1.out _).mono ?_
      rintro e w1 ⟨⟨a1, c1, rfl, hr1⟩, hb1⟩
      have HB1 := hidk (HB.out.trans (hb1.mono HB.out.size))
      have c0 := KP.out w1 ((hb1.block _ (heap_lt HX0.out)).trans HX0.out)
      clear hb1 hr1
      go_wp2_with fail
      refine (W1.out _).mono ?_
      rintro e w2 ⟨rfl, rfl⟩
      go_wp2
      go_ret2
      exact ⟨eBytes_no _ _, HB1.out⟩
    · obtain rfl : K = 0 := (HYES.out rfl rfl).2.1
      have LY2 := hidk (LY.out rfl rfl)
      clear HNO HYES LY
      go_enter Try.func75, Try.ntmps75
      go_wp2_with (first
        | (show aD 8 _ _ _ _ _ _ _ _ _ _ _; refine wpList_mid rfl 38 (.tmp 7) rfl w.heap.size 1 rfl Q _ (KQ.out _ HX0.out) Try.underlying38 rfl HSQ.out ?_; try simp only [Act.put, pS1, pS2, pS3])
        | fail)
      refine (P1.out _).mono ?_
      rintro e w1 ⟨⟨a1, c1, rfl, hr1⟩, hb1⟩
      have HB1 := hidk (HB.out.trans (hb1.mono HB.out.size))
      have HX1 := hidk ((hb1.block _ (heap_lt HX0.out)).trans HX0.out)
      have c0 := KP.out w1 HX1.out
      have CV : Hid (∀ W, Below w1.heap.size w1 W → Sem.run Try.prog (convert 61 9 (.slice a1 l.length c1)) W = .ok (.string y) W) := fun W h => by rw [Hy.out]; exact conv_reads (hr1.below h)
      clear hb1 hr1
      go_wp2_with fail
      refine (W1.out _).mono ?_
      rintro e w2 ⟨rfl, rfl⟩
      go_wp2
      refine wp_region_held_drew (S := (fun W => W.heap[w.heap.size]? = some (.cells X 40 (0, 0)) ∧ Below w2.heap.size w2 W)) (by kernel_rfl) ⟨HX1.out, (Below.refl _ _).drew⟩ (fun hHeld => ?_)
      refine zX 0 (.pointer (some ⟨w.heap.size, 0, none⟩)) rfl hHeld ?_
      try simp only [Act.put, pS1, pS2, pS3]
      refine zW 1 (.int .i64 k) rfl (Or.inl ⟨by rfl, by intro W hSw; have h1 := KP.out W hSw.1; go_simp⟩) hHeld ?_
      try simp only [Act.put, pS1, pS2, pS3]
      refine zX 3 (.slice a1 l.length c1) rfl hHeld ?_
      try simp only [Act.put, pS1, pS2, pS3]
      refine zW 4 (.string y) rfl (Or.inl ⟨by rfl, by intro W hSw; have h1 := CV.out W hSw.2; go_simp⟩) hHeld ?_
      try simp only [Act.put, pS1, pS2, pS3]
      refine zX 5 (.agg #[.int .i64 2, .string y]) rfl hHeld ?_
      try simp only [Act.put, pS1, pS2, pS3]
      refine wpAnyH_ready (rs := [2]) (by kernel_rfl) (by simp) ?_
      refine (AllReadyH.cons (o := { dst := some 22, op := .call { callee := .value (.func 71), args := #[.const (.int .i64 1), .tmp 21], argTypes := #[3, 3] }, type := 85, pos := "entry.go:97", after := #[zD 1], guard := none }) rfl (fun K hK => ?_) AllReadyH.nil)
      go_simp
      refine (N1.out _).mono ?_
      rintro e w3 ⟨rfl, hb3⟩
      have HBc := hidk (HB1.out.drew.trans (hb3.mono HB1.out.size))
      go_wp2_with fail
      refine hK.out _ _ ⟨(hb3.block _ (heap_lt HX1.out)).trans HX1.out, hHeld.2.trans (hb3.mono hHeld.2.size)⟩ (fun hHeld => ?_)
      clear hK K
      try simp only [Act.put, pS1, pS2, pS3]
      refine wpAnyH_ready (rs := [6]) (by kernel_rfl) (by simp) ?_
      refine (AllReadyH.cons (o := { dst := some 26, op := .buildSlice 88 2 #[(0, .tmp 22), (1, .tmp 25)], type := 88, pos := "entry.go:96", after := #[zD 2, zD 5], guard := none }) rfl (fun K hK => ?_) AllReadyH.nil)
      have HHc := hidk hHeld
      go_simp
      refine hK.out _ _ ⟨heap_keep hHeld.1, hHeld.2.alloc hHeld.2.size _⟩ (fun hHeld => ?_)
      clear hK K
      try simp only [Act.put, pS1, pS2, pS3]
      refine wpAnyH_ready (rs := [7]) (by kernel_rfl) (by simp) ?_
      refine (AllReadyH.cons (o := { dst := some 27, op := .call { callee := .value (.func 46), args := #[.tmp 26], argTypes := #[88] }, type := 81, pos := "entry.go:96", after := #[zD 6, zC 2], guard := none }) rfl (fun K hK => ?_) AllReadyH.nil)
      go_simp
      refine (LY2.out _).mono ?_
      rintro e w7 ⟨a7, c7, rfl, hrd, hb7⟩
      have HRD := hidk hrd
      have HBF := hidk (HBc.out.trans (hb7.mono HBc.out.size))
      go_wp2_with fail
      refine hK.out _ _ ⟨(hb7.block _ (heap_lt HHc.out.1)).trans HHc.out.1, HHc.out.2.trans (hb7.mono HHc.out.2.size)⟩ (fun hHeld => ?_)
      clear hK K
      try simp only [Act.put, pS1, pS2, pS3]
      refine zX 8 (.slice a7 L.length c7) rfl hHeld ?_
      try simp only [Act.put, pS1, pS2, pS3]
      refine zX 9 (.int .i64 0) rfl hHeld ?_
      try simp only [Act.put, pS1, pS2, pS3]
      refine zX 10 (.slice a7 L.length c7) rfl hHeld ?_
      try simp only [Act.put, pS1, pS2, pS3]
      refine zX 11 (.int .i64 0) rfl hHeld ?_
      try simp only [Act.put, pS1, pS2, pS3]
      refine wpAnyH_done (by kernel_rfl) ?_ _
      go_wp2
      go_ret2
      exact ⟨⟨_, _, rfl, HRD.out⟩, HBF.out⟩
  · obtain ⟨rfl, rfl⟩ := HNO.out (.inr rfl)
    clear HNO HYES LY N1
    go_enter Try.func75, Try.ntmps75
    go_wp2_with (first
      | (show aD 8 _ _ _ _ _ _ _ _ _ _ _; refine wpList_mid rfl 38 (.tmp 7) rfl w.heap.size 1 rfl Q _ (KQ.out _ HX0.out) Try.underlying38 rfl HSQ.out ?_; try simp only [Act.put, pS1, pS2, pS3])
      | fail)
    refine (P1.out _).mono ?_
    rintro e w1 ⟨⟨a1, c1, rfl, hr1⟩, hb1⟩
    have HB1 := hidk (HB.out.trans (hb1.mono HB.out.size))
    clear hb1 hr1
    go_wp2
    go_ret2
    exact ⟨eBytes_no _ _, HB1.out⟩
set_option maxHeartbeats 8000000 in
theorem eReadI_any (a : Option Addr) (len cap : Nat) (bs : List UInt8) (w : World) (hR : Reads w a len cap bs) (hl : len ≤ 1000000) (R : Array Value) (HR : Hid (R = (icells (getIO bs)).toArray)) :
    Calls Try.prog 110 #[.slice a len cap, .func (.func 111) #[] #[], .func (.func 75) #[] #[]] w fun e w' => e = .returned (.tuple #[.agg R, .int .i64 (getIE bs)]) ∧ Below w.heap.size w w' := by
  have hnot : ∀ (x : Bool) (w : World), (Op.unary .not (.bool x)).run Try.prog w = .ok (.bool (!x)) w := fun _ _ => rfl
  obtain ⟨Z, HZ, HA, HBZ, HNZ⟩ := noughtsI
  obtain ⟨fs, hfs⟩ : ∃ f, f = readF bs := ⟨_, rfl⟩
  have hfz : ∀ f ∈ fs, f.2.size ≤ 65536 := by rw [hfs]; exact readF_65 bs
  obtain ⟨x, hx⟩ : ∃ x, x = takeI fs := ⟨_, rfl⟩
  have hok : OkE x.e := by rw [hx]; exact takeI_ok fs
  have hin : InI x := by rw [hx]; exact takeI_in fs
  obtain ⟨X, HX, HSX, H1X, HNX⟩ := item_row x hok
  have HZX : Hid (Z.size = X.size) := by show _ = _; rw [HNZ.out, HNX.out]
  have HSZ : Hid ((Try.prog.info? 40).map (·.size) = some Z.size) := by show _ = _; rw [sizeI, HNZ.out]
  have H1Z : Hid (Z.all (·.oneCell') = true) := by show _ = _; rw [HZ.out]; exact one_cellsI _
  obtain ⟨L, hL⟩ : ∃ L, L = iB x := ⟨_, rfl⟩
  obtain ⟨E, hE⟩ : ∃ E, E = iE x := ⟨_, rfl⟩
  obtain ⟨q, hq⟩ : ∃ q : Bool, q = true ↔ L = bs := by
    by_cases h : L = bs
    · exact ⟨true, by simp [h]⟩
    · exact ⟨false, by simp [h]⟩
  obtain ⟨K, hK⟩ : ∃ K, K = getIE bs := ⟨_, rfl⟩
  have hE2 : E = 0 ∧ rightI x = true ∨ E = 60 ∧ rightI x = false := by rw [hE]; exact iE_two x
  have HT : Hid (E = 0 → q = true → R = X ∧ K = 0) := fun h0 hqt => by
    have hr : rightI x = true := by
      rcases hE2 with h | h
      · exact h.2
      · omega
    have hb : itemB x = bs := by
      have := hq.1 hqt
      rw [hL] at this
      unfold iB at this
      rw [if_pos hr] at this
      exact this
    have hh := getIO_yes (bs := bs) (by rw [← hfs, ← hx]; exact ⟨hr, hb⟩)
    rw [HR.out, HX.out, hK, hh.1, hh.2, ← hfs, ← hx]
    exact ⟨rfl, rfl⟩
  have HF : Hid (E = 60 ∨ q = false → R = Z ∧ K = 60) := fun h0 => by
    have hh := getIO_no (bs := bs) (by
      rw [← hfs, ← hx]
      rintro ⟨hr, hb⟩
      rcases h0 with h0 | h0
      · rcases hE2 with h | h
        · omega
        · rw [hr] at h; cases h.2
      · have : q = true := hq.2 (by rw [hL]; unfold iB; rw [if_pos hr]; exact hb)
        rw [h0] at this; cases this)
    rw [HR.out, HZ.out, hK, hh.1, hh.2]
    exact ⟨rfl, rfl⟩
  rw [← hK]
  have HRD : Hid (∀ W, Below w.heap.size w W → Reads W a len cap bs) := fun W hb => hR.below hb
  obtain ⟨ke, hke⟩ : ∃ k : Nat, k = readE bs := ⟨_, rfl⟩
  have R1 : Hid (∀ W, Below w.heap.size w W → Calls Try.prog 112 #[.slice a len cap] W fun e W' => ∃ a' c', e = .returned (.tuple #[.slice a' fs.length c', .int .i64 ke]) ∧ FReads W'.heap.size W' a' fs.length c' fs ∧ Below W.heap.size W W') := fun W hb => read_reads a len cap bs W (hR.below hb) hl hke.symm hfs.symm
  have T1 : Hid (∀ W a' c', FReads W.heap.size W a' fs.length c' fs → Calls Try.prog 111 #[.slice a' fs.length c'] W fun e w' => e = .returned (.agg X) ∧ Below W.heap.size W w') := fun W a' c' h => eTakeI_any W.heap.size a' fs.length c' fs W h (Nat.le_refl _) hfz X (by rw [← hx]; exact HX)
  have P1 : Hid (∀ W, Calls Try.prog 75 #[.agg X] W fun e w' => (∃ a' c', e = .returned (.tuple #[.slice a' L.length c', .int .i64 E]) ∧ Reads w' a' L.length c' L) ∧ Below W.heap.size W w') := fun W => by
    rw [hL, hE]
    exact ePutI_any x hin W X HX
  have Q1 : Hid (∀ W a' c', Reads W a' L.length c' L → Reads W a len cap bs → Calls Try.prog 113 #[.slice a' L.length c', .slice a len cap] W fun e w' => e = .returned (.bool q) ∧ w' = W) := fun W a' c' h1 h2 => eSame_any a' a L.length c' len cap L bs W h1 h2 q hq
  have hE3 : E = 0 ∨ E = 60 := by omega
  clear hR HR hfs hfz hx hok hin HX HZ HBZ HNZ HNX hL hE hq hK hE2 hke
  rcases hE3 with rfl | rfl
  all_goals
    cases q
    all_goals
      first
        | have HQ : Hid (R = Z ∧ K = 60) := HF.out (.inl rfl)
        | have HQ : Hid (R = Z ∧ K = 60) := HF.out (.inr rfl)
        | have HQ : Hid (R = X ∧ K = 0) := HT.out rfl rfl
      clear HF HT
      go_enter Try.func110, Try.ntmps110
      go_wp2_with (first
        | (show aD 6 _ _ _ _ _ _ _ _ _ _ _; refine wpList_new_var rfl 40 rfl Z HA.out ?_; intro g6 w1 HM6; try simp only [Act.put, pS1, pS2, pS3])
        | (show aD 8 _ _ _ _ _ _ _ _ _ _ _; refine wpList_new_var rfl 40 rfl Z HA.out ?_; intro g8 w2 HM8; try simp only [Act.put, pS1, pS2, pS3])
        | fail)
      have h6 : w.heap.size ≤ g6 := Nat.le_of_eq HM6.out.new.symm
      have h8 : g6 < g8 := by have e1 := HM8.out.new; have := heap_lt HM6.out.row; omega
      have HB2 : Hid (Below w.heap.size w w2) := HM6.out.below.trans (HM8.out.below.mono HM6.out.below.size)
      have HR6 := hidk ((HM8.out.below.block _ (heap_lt HM6.out.row)).trans HM6.out.row)
      have HR8 := hidk HM8.out.row
      clear HM6 HM8
      refine (R1.out w2 HB2.out).mono ?_
      rintro e w3 ⟨a3, c3, rfl, hf3, hb3⟩
      have HF3 := hidk hf3
      have HB3 := hidk (HB2.out.trans (hb3.mono HB2.out.size))
      replace HR6 := hidk ((hb3.block _ (heap_lt HR6.out)).trans HR6.out)
      replace HR8 := hidk ((hb3.block _ (heap_lt HR8.out)).trans HR8.out)
      clear hf3 hb3 HB2 R1
      go_wp2_with fail
      refine (T1.out w3 a3 c3 HF3.out).mono ?_
      rintro e w4 ⟨rfl, hb4⟩
      have HB4 := hidk (HB3.out.trans (hb4.mono HB3.out.size))
      replace HR6 := hidk ((hb4.block _ (heap_lt HR6.out)).trans HR6.out)
      replace HR8 := hidk ((hb4.block _ (heap_lt HR8.out)).trans HR8.out)
      clear hb4 HB3 HF3 T1
      go_wp2_with (first
        | (show aD 11 _ _ _ _ _ _ _ _ _ _ _; refine wpList_new_var rfl 40 rfl Z HA.out ?_; intro g11 w5 HM11; try simp only [Act.put, pS1, pS2, pS3])
        | (refine wpList_set_var rfl 40 (.tmp 11) (.tmp 21) rfl g11 X rfl rfl 40 Z HM11.out.row HSX.out HZX.out H1X.out ?_; intro w6 HW11; try simp only [Act.put, pS1, pS2, pS3])
        | (show aD 24 _ _ _ _ _ _ _ _ _ _ _; refine wpList_load_row rfl 40 (.tmp 11) rfl g11 rfl 40 X (0, 0) _ HW11.out.row Try.underlying40 rfl HSX.out ?_; try simp only [Act.put, pS1, pS2, pS3])
        | fail)
      have h11 : w4.heap.size ≤ g11 := Nat.le_of_eq HM11.out.new.symm
      have g68 := heap_lt HR8.out
      have HB6 := hidk (HW11.out.below _ _ (HB4.out.trans (HM11.out.below.mono HB4.out.size)) (Nat.le_trans HB4.out.size h11))
      replace HR6 := hidk ((HW11.out.other _ (by omega)).trans ((HM11.out.below.block _ (heap_lt HR6.out)).trans HR6.out))
      replace HR8 := hidk ((HW11.out.other _ (by omega)).trans ((HM11.out.below.block _ (heap_lt HR8.out)).trans HR8.out))
      have HR11 := hidk HW11.out.row
      clear HM11 HW11 HB4
      refine (P1.out w6).mono ?_
      rintro e w7 ⟨⟨a7, c7, rfl, hr7⟩, hb7⟩
      have HL7 := hidk hr7
      have HB7 := hidk (HB6.out.trans (hb7.mono HB6.out.size))
      replace HR6 := hidk ((hb7.block _ (heap_lt HR6.out)).trans HR6.out)
      replace HR8 := hidk ((hb7.block _ (heap_lt HR8.out)).trans HR8.out)
      replace HR11 := hidk ((hb7.block _ (heap_lt HR11.out)).trans HR11.out)
      have HRB := hidk (HRD.out w7 HB7.out)
      clear hr7 hb7 HB6 P1 HRD
      go_wp2_with (first
        | (show aD 36 _ _ _ _ _ _ _ _ _ _ _; refine wpList_load_row rfl 40 (.tmp 8) rfl g8 rfl 40 Z (0, 0) _ HR8.out Try.underlying40 rfl HSZ.out ?_; try simp only [Act.put, pS1, pS2, pS3])
        | (refine wpList_set_var rfl 40 (.tmp 6) (.tmp 36) rfl g6 Z rfl rfl 40 Z HR6.out HSZ.out rfl H1Z.out ?_; intro wz HW6; try simp only [Act.put, pS1, pS2, pS3])
        | fail)
      first
        | (obtain ⟨rfl, rfl⟩ := HQ.out
           refine bodyPost_ret (v := .tuple #[.agg R, .int .i64 60]) ?_ rfl ⟨rfl, HW6.out.below _ _ HB7.out h6⟩
           exact results_row_tmp (p := 6) (q := 7) (ty := 40) rfl _ _ g6 40 R (0, 0) _ rfl HW6.out.row Try.underlying40 rfl HSZ.out)
        | (refine (Q1.out _ _ _ HL7.out HRB.out).mono ?_
           rintro e w8 ⟨rfl, rfl⟩
           go_wp2_with (first
             | (show aD 36 _ _ _ _ _ _ _ _ _ _ _; refine wpList_load_row rfl 40 (.tmp 8) rfl g8 rfl 40 Z (0, 0) _ HR8.out Try.underlying40 rfl HSZ.out ?_; try simp only [Act.put, pS1, pS2, pS3])
             | (show aD 37 _ _ _ _ _ _ _ _ _ _ _; refine wpList_load_row rfl 40 (.tmp 11) rfl g11 rfl 40 X (0, 0) _ HR11.out Try.underlying40 rfl HSX.out ?_; try simp only [Act.put, pS1, pS2, pS3])
             | (refine wpList_set_var rfl 40 (.tmp 6) (.tmp 36) rfl g6 Z rfl rfl 40 Z HR6.out HSZ.out rfl H1Z.out ?_; intro wz HW6; try simp only [Act.put, pS1, pS2, pS3])
             | (refine wpList_set_var rfl 40 (.tmp 6) (.tmp 37) rfl g6 X rfl rfl 40 Z HR6.out HSX.out HZX.out H1X.out ?_; intro wz HW6; try simp only [Act.put, pS1, pS2, pS3])
             | fail)
           first
             | (obtain ⟨rfl, rfl⟩ := HQ.out
                refine bodyPost_ret (v := .tuple #[.agg R, .int .i64 60]) ?_ rfl ⟨rfl, HW6.out.below _ _ HB7.out h6⟩
                exact results_row_tmp (p := 6) (q := 7) (ty := 40) rfl _ _ g6 40 R (0, 0) _ rfl HW6.out.row Try.underlying40 rfl HSZ.out)
             | (obtain ⟨rfl, rfl⟩ := HQ.out
                refine bodyPost_ret (v := .tuple #[.agg R, .int .i64 0]) ?_ rfl ⟨rfl, HW6.out.below _ _ HB7.out h6⟩
                exact results_row_tmp (p := 6) (q := 7) (ty := 40) rfl _ _ g6 40 R (0, 0) _ rfl HW6.out.row Try.underlying40 rfl HSX.out))
set_option maxHeartbeats 2000000 in
theorem eGetI_any (a : Option Addr) (len cap : Nat) (bs : List UInt8) (w : World) (hR : Reads w a len cap bs) (hl : len ≤ 1000000) (R : Array Value) (HR : Hid (R = (icells (getIO bs)).toArray)) :
    Calls Try.prog 94 #[.slice a len cap] w fun e w' => e = .returned (.tuple #[.agg R, .int .i64 (getIE bs)]) ∧ Below w.heap.size w w' := by
  obtain ⟨Z, HZ, HA, HBZ, HNZ⟩ := noughtsI
  obtain ⟨X, HX, HSX, H1X, HNX⟩ := item_row (getIO bs) ((getIO_in bs).e.ok)
  obtain rfl : X = R := by rw [HX.out, HR.out]
  have HZX : Hid (Z.size = X.size) := by show _ = _; rw [HNZ.out, HNX.out]
  obtain ⟨K, hK⟩ : ∃ K, K = getIE bs := ⟨_, rfl⟩
  have R1 : Hid (∀ W, Below w.heap.size w W → Calls Try.prog 110 #[.slice a len cap, .func (.func 111) #[] #[], .func (.func 75) #[] #[]] W fun e w' => e = .returned (.tuple #[.agg X, .int .i64 K]) ∧ Below W.heap.size W w') := fun W hb => by rw [hK]; exact eReadI_any a len cap bs W (hR.below hb) hl X HR
  rw [← hK]
  clear hR HR HX HZ HBZ HNZ HNX hK
  go_enter Try.func94, Try.ntmps94
  go_wp2_with (first
    | (show aD 2 _ _ _ _ _ _ _ _ _ _ _; refine wpList_new_var rfl 40 rfl Z HA.out ?_; intro g2 w1 HM2; try simp only [Act.put, pS1, pS2, pS3])
    | fail)
  have h2 : w.heap.size ≤ g2 := Nat.le_of_eq HM2.out.new.symm
  refine (R1.out w1 HM2.out.below).mono ?_
  rintro e w2 ⟨rfl, hb2⟩
  have HB2 := hidk (HM2.out.below.trans (hb2.mono HM2.out.below.size))
  have HR2 := hidk ((hb2.block _ (heap_lt HM2.out.row)).trans HM2.out.row)
  clear hb2 HM2 R1
  go_wp2_with (first
    | (refine wpList_set_var rfl 40 (.tmp 2) (.tmp 6) rfl g2 X rfl rfl 40 Z HR2.out HSX.out HZX.out H1X.out ?_; intro wz HW2; try simp only [Act.put, pS1, pS2, pS3])
    | fail)
  refine bodyPost_ret (v := .tuple #[.agg X, .int .i64 K]) ?_ rfl ⟨rfl, HW2.out.below _ _ HB2.out h2⟩
  exact results_row_tmp (p := 2) (q := 3) (ty := 40) rfl _ _ g2 40 X (0, 0) _ rfl HW2.out.row Try.underlying40 rfl HSX.out
end Go.Proofs.Ytjpmmbmhkpgjcaa
/- What the calls of package entry answer, all together. -/
namespace Go.Proofs.Ytjpmmbmhkpgjcaa
open Go.RowKit Sums Nums
set_option maxRecDepth 100000
set_option linter.unusedVariables false
theorem entryC : EntryC where
  checkC := fun c hc w C HC => eCheckC_any c w C HC
  putC := fun c hc w C HC => ePutC_any c hc.d w C HC
  getC := fun a len cap bs w hR hl R HR => eGetC_any a len cap bs w hR (by omega) R HR
  check := fun x hx w X HX => eCheck_any x hx.ok w X HX
  put := fun x hx w X HX => ePutE_any x hx w X HX
  get := fun a len cap bs w hR hl R HR => eGetE_any a len cap bs w hR (by omega) R HR
  putI := fun x hx w X HX => ePutI_any x hx w X HX
  getI := fun a len cap bs w hR hl R HR => eGetI_any a len cap bs w hR (by omega) R HR
end Go.Proofs.Ytjpmmbmhkpgjcaa
