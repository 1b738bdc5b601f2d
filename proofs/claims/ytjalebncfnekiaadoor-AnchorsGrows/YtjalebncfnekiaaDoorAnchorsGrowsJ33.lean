/- Texts of our own that the row of AnchorsGrows leans on, part 33. -/
import Derived.Test.YtjalebncfnekiaaDoorAnchorsGrowsJ0
import Derived.Test.YtjalebncfnekiaaDoorAnchorsGrowsJ19
import Derived.Test.YtjalebncfnekiaaDoorAnchorsGrowsJ25
import Derived.Test.YtjalebncfnekiaaDoorAnchorsGrowsJ26
import Derived.Test.YtjalebncfnekiaaDoorAnchorsGrowsJ27
/- The program's Apart. -/
namespace Go.Proofs.YtjalebncfnekiaaDoor
open Go.RowKit Nums Sums
set_option linter.unusedVariables false
set_option linter.unusedSimpArgs false
set_option maxRecDepth 100000
structure HeldT (w : World) (K A B : Array Value) (V : World) : Prop where
  b : Below w.heap.size w V
  k : V.heap[w.heap.size]? = some (.cells K 38 (0, 0))
  a : V.heap[w.heap.size + 1]? = some (.cells A 30 (0, 0))
  c : V.heap[w.heap.size + 1 + 1]? = some (.cells B 30 (0, 0))
theorem HeldT.keep {w : World} {K A B : Array Value} {V V' : World} (h : HeldT w K A B V) (hb : Below V.heap.size V V') : HeldT w K A B V' :=
  ⟨h.b.trans (hb.mono h.b.size), (hb.block _ (heap_lt h.k)).trans h.k, (hb.block _ (heap_lt h.a)).trans h.a, (hb.block _ (heap_lt h.c)).trans h.c⟩
theorem HeldT.drew {w : World} {K A B : Array Value} {V : World} (h : HeldT w K A B V) : HeldT w K A B V.drew := h.keep (Below.refl _ _).drew
theorem HeldT.wrote {w : World} {K A B : Array Value} {V V' : World} {g : Nat} {D : Array Value} {t : TypeId} (h : HeldT w K A B V) (hw : Wrote g D t V V') (hg : w.heap.size + 1 + 1 < g) : HeldT w K A B V' :=
  ⟨hw.below _ _ h.b (by omega), (hw.other _ (by omega)).trans h.k, (hw.other _ (by omega)).trans h.a, (hw.other _ (by omega)).trans h.c⟩
theorem heldT (w : World) (K A B : Array Value) : HeldT w K A B (((w.alloc (.cells K 38)).alloc (.cells A 30)).alloc (.cells B 30)) := by
  have h0 := heldK w K A
  have h2 : ((w.alloc (.cells K 38)).alloc (.cells A 30)).heap.size = w.heap.size + 1 + 1 := by simp
  refine ⟨h0.b.alloc (by omega) _, heap_keep h0.k, heap_keep h0.a, ?_⟩
  have := heap_alloc_new ((w.alloc (.cells K 38)).alloc (.cells A 30)) (.cells B 30)
  rw [h2] at this
  exact this
set_option maxHeartbeats 16000000 in
theorem anApart (hd : HeadC) (master : List UInt8) (s t : SgT) (w : World) (K A B : Array Value) (HK : Hid (K = (cellsOf master).toArray)) (HA : Hid (A = (scells s).toArray)) (HB : Hid (B = (scells t).toArray)) (hm : master.length = 32) (hs : InS s) (ht : InS t) (hT : TabH w) :
    Calls Tryd.prog 24 #[.agg K, .agg A, .agg B] w fun e w' => e = .returned (.bool (apB master s t)) ∧ Below w.heap.size w w' := by
  have H0 := hidk (heldT w K A B)
  have HSK : Hid ((Tryd.prog.info? 38).map (·.size) = some K.size) := by show _ = _; rw [sizeY, HK.out]; simp [cellsOf_length, hm]
  have HSA : Hid ((Tryd.prog.info? 30).map (·.size) = some A.size) := by show _ = _; rw [sizeS, HA.out]; simp [scells_length _ hs.h.d hs.g]
  have HSB : Hid ((Tryd.prog.info? 30).map (·.size) = some B.size) := by show _ = _; rw [sizeS, HB.out]; simp [scells_length _ ht.h.d ht.g]
  obtain ⟨ZH, HZH, HAH, HBH, H36⟩ := noughtsH
  obtain ⟨x, Hx⟩ : ∃ x, Hid (apB master s t = x) := ⟨_, hidk rfl⟩
  rw [Hx.out]
  obtain ⟨v, Hv⟩ : ∃ v, Hid (verE master s = v) := ⟨_, hidk rfl⟩
  obtain ⟨u, Hu⟩ : ∃ v, Hid (verE master t = v) := ⟨_, hidk rfl⟩
  obtain ⟨X, HX, HSX, H1X, N36⟩ := head_row5 s.h hs.h.d
  obtain ⟨Y, HY, HSY, H1Y, M36⟩ := head_row5 t.h ht.h.d
  have HZX : Hid (ZH.size = X.size) := by show _ = _; rw [H36.out, N36.out]
  have HZY : Hid (ZH.size = Y.size) := by show _ = _; rw [H36.out, M36.out]
  obtain ⟨cd, hcd⟩ : ∃ b, (!decide (s.h.d = t.h.d)) = b := ⟨_, rfl⟩
  obtain ⟨ar, Har⟩ : ∃ k, Hid (s.h.r = k) := ⟨_, hidk rfl⟩
  obtain ⟨br, Hbr⟩ : ∃ k, Hid (t.h.r = k) := ⟨_, hidk rfl⟩
  obtain ⟨ae, Hae⟩ : ∃ k, Hid (s.h.e = k) := ⟨_, hidk rfl⟩
  obtain ⟨be, Hbe⟩ : ∃ k, Hid (t.h.e = k) := ⟨_, hidk rfl⟩
  obtain ⟨az, Haz⟩ : ∃ k, Hid (s.h.s = k) := ⟨_, hidk rfl⟩
  obtain ⟨bz, Hbz⟩ : ∃ k, Hid (t.h.s = k) := ⟨_, hidk rfl⟩
  have HAP : Hid ((decide (v = 0) && (decide (u = 0) && (decide (ar = br) && (decide (ae = be) && (decide (az = bz) && cd))))) = x) := by
    show _ = _
    rw [← Hx.out, ← Hv.out, ← Hu.out, ← Har.out, ← Hbr.out, ← Hae.out, ← Hbe.out, ← Haz.out, ← Hbz.out, ← hcd]
    rfl
  obtain ⟨D, HD⟩ : ∃ D : Array Value, Hid (D = (cellsOf s.h.d).toArray) := ⟨_, hidk rfl⟩
  obtain ⟨E, HE⟩ : ∃ D : Array Value, Hid (D = (cellsOf t.h.d).toArray) := ⟨_, hidk rfl⟩
  have HSD : Hid ((Tryd.prog.info? 26).map (·.size) = some D.size) := by show _ = _; rw [size23, HD.out]; simp [cellsOf_length, hs.h.d]
  have HSE : Hid ((Tryd.prog.info? 26).map (·.size) = some E.size) := by show _ = _; rw [size23, HE.out]; simp [cellsOf_length, ht.h.d]
  have nqd : ∀ W, (binOp .neq 26 (.agg D) (.agg E)).run Tryd.prog W = .ok (.bool cd) W := fun W => neqDigV _ _ hs.h.d ht.h.d D E HD HE cd hcd W
  have VA : Hid (∀ W, Below w.heap.size w W → Calls Tryd.prog 25 #[.agg K, .agg A] W fun e w' => e = .returned (.int .i64 v) ∧ Below W.heap.size W w') := fun W hb => by rw [← Hv.out]; exact hd.verify master s W K A HK HA hm hs (hT.keep hb)
  have VB : Hid (∀ W, Below w.heap.size w W → Calls Tryd.prog 25 #[.agg K, .agg B] W fun e w' => e = .returned (.int .i64 u) ∧ Below W.heap.size W w') := fun W hb => by rw [← Hu.out]; exact hd.verify master t W K B HK HB hm ht (hT.keep hb)
  have HRA : Hid (∀ V : World, V.heap[w.heap.size + 1]? = some (.cells A 30 (0, 0)) → V.rangeAt (w.heap.size + 1) 0 X.toList) := fun V hv => by rw [HX.out]; exact sh_row HA hv
  have HRB : Hid (∀ V : World, V.heap[w.heap.size + 1 + 1]? = some (.cells B 30 (0, 0)) → V.rangeAt (w.heap.size + 1 + 1) 0 Y.toList) := fun V hv => by rw [HY.out]; exact sh_row HB hv
  have HCA : Hid (∀ (V : World) (g : Nat), V.heap[g]? = some (.cells X 28 (0, 0)) → V.cell? ⟨g, 0, none⟩ = some (.int .i64 ar) ∧ V.cell? ⟨g, 1, none⟩ = some (.int .i64 ae) ∧ V.cell? ⟨g, 2, none⟩ = some (.int .i64 az) ∧ V.rangeAt g 3 D.toList) := fun V g hv => by
    have ra := hd_row hs.h.d HX hv
    refine ⟨by rw [← Har.out]; simpa using ra.r, by rw [← Hae.out]; simpa using ra.e, by rw [← Haz.out]; simpa using ra.s, by rw [HD.out]; simpa using ra.d⟩
  have HCB : Hid (∀ (V : World) (g : Nat), V.heap[g]? = some (.cells Y 28 (0, 0)) → V.cell? ⟨g, 0, none⟩ = some (.int .i64 br) ∧ V.cell? ⟨g, 1, none⟩ = some (.int .i64 be) ∧ V.cell? ⟨g, 2, none⟩ = some (.int .i64 bz) ∧ V.rangeAt g 3 E.toList) := fun V g hv => by
    have ra := hd_row ht.h.d HY hv
    refine ⟨by rw [← Hbr.out]; simpa using ra.r, by rw [← Hbe.out]; simpa using ra.e, by rw [← Hbz.out]; simpa using ra.s, by rw [HE.out]; simpa using ra.d⟩
  clear hd HK HA HB hm hs ht hT HZH HBH H36 N36 M36 Hx Hv Hu HX HY Har Hbr Hae Hbe Haz Hbz HD HE hcd
  go_enter Tryd.func24, Tryd.ntmps24
  go_wp2_with (first
    | ((with_reducible show aD 10 _ _ _ _ _ _ _ _ _ _ _); refine wpList_load_row_w (by rfl) 38 (.tmp 3) rfl w.heap.size rfl 38 K (0, 0) _ H0.out.k Tryd.underlying38 rfl HSK.out ?_; try simp only [Act.put, pS1, pS2, pS3])
    | ((with_reducible show aD 11 _ _ _ _ _ _ _ _ _ _ _); refine wpList_load_row_w (by rfl) 30 (.tmp 4) rfl (w.heap.size + 1) rfl 30 A (0, 0) _ H0.out.a Tryd.underlying30 rfl HSA.out ?_; try simp only [Act.put, pS1, pS2, pS3])
    | fail)
  refine (VA.out _ H0.out.b).mono ?_
  rintro e w1 ⟨rfl, hb1⟩
  have H1 := hidk (H0.out.keep hb1)
  clear hb1 H0 VA
  by_cases hv0 : v = 0
  · subst hv0
    go_wp2_with (first
      | ((with_reducible show aD 15 _ _ _ _ _ _ _ _ _ _ _); refine wpList_load_row_w (by rfl) 38 (.tmp 3) rfl w.heap.size rfl 38 K (0, 0) _ H1.out.k Tryd.underlying38 rfl HSK.out ?_; try simp only [Act.put, pS1, pS2, pS3])
      | ((with_reducible show aD 16 _ _ _ _ _ _ _ _ _ _ _); refine wpList_load_row_w (by rfl) 30 (.tmp 5) rfl (w.heap.size + 1 + 1) rfl 30 B (0, 0) _ H1.out.c Tryd.underlying30 rfl HSB.out ?_; try simp only [Act.put, pS1, pS2, pS3])
      | fail)
    refine (VB.out _ H1.out.b).mono ?_
    rintro e w2 ⟨rfl, hb2⟩
    have H2 := hidk (H1.out.keep hb2)
    clear hb2 H1 VB
    by_cases hu0 : u = 0
    · subst hu0
      have HAP2 : Hid ((decide (ar = br) && (decide (ae = be) && (decide (az = bz) && cd))) = x) := HAP.out
      clear HAP
      go_wp2_with fail
      refine wp_region_held_drew (S := (HeldT w K A B)) (by kernel_rfl) H2.out.drew (fun hHeld => ?_)
      refine zX 0 (.pointer (some ⟨w.heap.size + 1, 0, none⟩)) rfl hHeld ?_
      try simp only [Act.put, pS1, pS2, pS3]
      refine zW 1 (.agg X) rfl (yieldsIf_mid (by rfl) 28 (.tmp 20) rfl (w.heap.size + 1) 0 rfl X _ (fun V hv => HRA.out V hv.a) Tryd.underlying28 rfl HSX.out) hHeld ?_
      try simp only [Act.put, pS1, pS2, pS3]
      refine zX 2 (.pointer (some ⟨w.heap.size + 1 + 1, 0, none⟩)) rfl hHeld ?_
      try simp only [Act.put, pS1, pS2, pS3]
      refine zW 3 (.agg Y) rfl (yieldsIf_mid (by rfl) 28 (.tmp 22) rfl (w.heap.size + 1 + 1) 0 rfl Y _ (fun V hv => HRB.out V hv.c) Tryd.underlying28 rfl HSY.out) hHeld ?_
      try simp only [Act.put, pS1, pS2, pS3]
      refine wpAnyH_ready (rs := [4, 5]) (by kernel_rfl) (by simp) ?_
      refine (AllReadyH.cons (o := { dst := some 7, op := .alloc 28, type := 0, pos := "anchors.go:59", after := #[], guard := none }) rfl (fun K hK => ?_) (AllReadyH.cons (o := { dst := some 8, op := .alloc 28, type := 0, pos := "anchors.go:59", after := #[], guard := none }) rfl (fun K hK => ?_) AllReadyH.nil))
      · refine step_new_var (by rfl) 28 rfl ZH HAH.out ?_
        intro g7 u4 HM7
        have HR7 := hidk HM7.out.row
        have h7 : w.heap.size + 1 + 1 < g7 := (by have := heap_lt hHeld.c; rw [HM7.out.new]; exact this)
        try (have h78 : g8 ≠ g7 := (by have := heap_lt HR8.out; have := HM7.out.new; omega))
        try replace HR8 := hidk ((HM7.out.below.block _ (heap_lt HR8.out)).trans HR8.out)
        refine hK.out _ _ (hHeld.keep HM7.out.below) (fun hHeld => ?_)
        clear hK K
        try simp only [Act.put, pS1, pS2, pS3]
        refine wpAnyH_ready (rs := [5]) (by kernel_rfl) (by simp) ?_
        refine (AllReadyH.cons (o := { dst := some 8, op := .alloc 28, type := 0, pos := "anchors.go:59", after := #[], guard := none }) rfl (fun K hK => ?_) AllReadyH.nil)
        refine step_new_var (by rfl) 28 rfl ZH HAH.out ?_
        intro g8 u5 HM8
        have HR8 := hidk HM8.out.row
        have h8 : w.heap.size + 1 + 1 < g8 := (by have := heap_lt hHeld.c; rw [HM8.out.new]; exact this)
        try (have h78 : g8 ≠ g7 := (by have := heap_lt HR7.out; have := HM8.out.new; omega))
        try replace HR7 := hidk ((HM8.out.below.block _ (heap_lt HR7.out)).trans HR7.out)
        refine hK.out _ _ (hHeld.keep HM8.out.below) (fun hHeld => ?_)
        clear hK K
        try simp only [Act.put, pS1, pS2, pS3]
        refine wpAnyH_ready (rs := [6]) (by kernel_rfl) (by simp) ?_
        refine (AllReadyH.cons (o := { dst := none, op := .store 28 (.tmp 7) (.tmp 21), type := 0, pos := "anchors.go:59", after := #[zD 4, zD 1, zP 0, zP 1, { on := 2, ground := Ground.textOnly Departure.lateStores }, { on := 3, ground := Ground.textOnly Departure.lateStores }, zP 4, zP 5], guard := none }) rfl (fun K hK => ?_) AllReadyH.nil)
        refine step_set_var (by rfl) 28 (.tmp 7) (.tmp 21) rfl g7 X rfl rfl 28 ZH HR7.out HSX.out HZX.out H1X.out ?_
        intro u6 HW7
        replace HR8 := hidk ((HW7.out.other g8 h78).trans HR8.out)
        replace HR7 := hidk HW7.out.row
        refine hK.out _ _ (hHeld.wrote HW7.out h7) (fun hHeld => ?_)
        clear hK K
        try simp only [Act.put, pS1, pS2, pS3]
        refine wpAnyH_ready (rs := [7]) (by kernel_rfl) (by simp) ?_
        refine (AllReadyH.cons (o := { dst := none, op := .store 28 (.tmp 8) (.tmp 23), type := 0, pos := "anchors.go:59", after := #[zD 5, zD 3, zC 6, zP 0, zP 1, zP 2, zP 3, zP 4, zP 5, zP 6], guard := none }) rfl (fun K hK => ?_) AllReadyH.nil)
        refine step_set_var (by rfl) 28 (.tmp 8) (.tmp 23) rfl g8 Y rfl rfl 28 ZH HR8.out HSY.out HZY.out H1Y.out ?_
        intro u7 HW8
        replace HR7 := hidk ((HW8.out.other g7 (Ne.symm h78)).trans HR7.out)
        replace HR8 := hidk HW8.out.row
        have HB9 := hidk (hHeld.wrote HW8.out h8).b
        obtain ⟨ca0, ca1, ca2, DA⟩ := HCA.out _ _ HR7.out
        obtain ⟨cb0, cb1, cb2, DB⟩ := HCB.out _ _ HR8.out
        have HDA := hidk DA
        have HDB := hidk DB
        clear DA DB HM7 HM8 HW7
        refine hK.out _ _ (hHeld.wrote HW8.out h8) (fun hHeld => ?_)
        clear hK K
        try simp only [Act.put, pS1, pS2, pS3]
        refine wpAnyH_done (by kernel_rfl) ?_ _
        clear hHeld
        by_cases h1 : ar = br
        · subst h1
          by_cases h2 : ae = be
          · subst h2
            by_cases h3 : az = bz
            · subst h3
              have e3 : (decide (ar = ar) && (decide (ae = ae) && (decide (az = az) && cd))) = cd := by simp
              rw [e3] at HAP2
              clear e3
              go_wp2_with (first
                | ((with_reducible show aD 46 _ _ _ _ _ _ _ _ _ _ _); refine wpList_mid_w (by rfl) 26 (.tmp 45) rfl g7 3 rfl D _ HDA.out Tryd.underlying26 rfl HSD.out ?_; try simp only [Act.put, pS1, pS2, pS3])
                | ((with_reducible show aD 48 _ _ _ _ _ _ _ _ _ _ _); refine wpList_mid_w (by rfl) 26 (.tmp 47) rfl g8 3 rfl E _ HDB.out Tryd.underlying26 rfl HSE.out ?_; try simp only [Act.put, pS1, pS2, pS3])
                | fail)
              go_ret
              exact ⟨by rw [← HAP2.out]; rfl, HB9.out⟩
            · have b3 : (az == bz) = false := by rw [beq_eq_false_iff_ne]; exact h3
              have d3 : decide (az = bz) = false := decide_eq_false h3
              have e3 : (decide (ar = ar) && (decide (ae = ae) && (decide (az = bz) && cd))) = false := by simp [h3]
              rw [e3] at HAP2
              clear e3 h3
              go_wp2_with (first
                | ((with_reducible show aD 46 _ _ _ _ _ _ _ _ _ _ _); refine wpList_mid_w (by rfl) 26 (.tmp 45) rfl g7 3 rfl D _ HDA.out Tryd.underlying26 rfl HSD.out ?_; try simp only [Act.put, pS1, pS2, pS3])
                | ((with_reducible show aD 48 _ _ _ _ _ _ _ _ _ _ _); refine wpList_mid_w (by rfl) 26 (.tmp 47) rfl g8 3 rfl E _ HDB.out Tryd.underlying26 rfl HSE.out ?_; try simp only [Act.put, pS1, pS2, pS3])
                | fail)
              go_ret
              exact ⟨by rw [← HAP2.out]; rfl, HB9.out⟩
          · have b2 : (ae == be) = false := by rw [beq_eq_false_iff_ne]; exact h2
            have d2 : decide (ae = be) = false := decide_eq_false h2
            have e3 : (decide (ar = ar) && (decide (ae = be) && (decide (az = bz) && cd))) = false := by simp [h2]
            rw [e3] at HAP2
            clear e3 h2
            go_wp2_with (first
              | ((with_reducible show aD 46 _ _ _ _ _ _ _ _ _ _ _); refine wpList_mid_w (by rfl) 26 (.tmp 45) rfl g7 3 rfl D _ HDA.out Tryd.underlying26 rfl HSD.out ?_; try simp only [Act.put, pS1, pS2, pS3])
              | ((with_reducible show aD 48 _ _ _ _ _ _ _ _ _ _ _); refine wpList_mid_w (by rfl) 26 (.tmp 47) rfl g8 3 rfl E _ HDB.out Tryd.underlying26 rfl HSE.out ?_; try simp only [Act.put, pS1, pS2, pS3])
              | fail)
            go_ret
            exact ⟨by rw [← HAP2.out]; rfl, HB9.out⟩
        · have b1 : (ar == br) = false := by rw [beq_eq_false_iff_ne]; exact h1
          have d1 : decide (ar = br) = false := decide_eq_false h1
          have e3 : (decide (ar = br) && (decide (ae = be) && (decide (az = bz) && cd))) = false := by simp [h1]
          rw [e3] at HAP2
          clear e3 h1
          go_wp2_with (first
            | ((with_reducible show aD 46 _ _ _ _ _ _ _ _ _ _ _); refine wpList_mid_w (by rfl) 26 (.tmp 45) rfl g7 3 rfl D _ HDA.out Tryd.underlying26 rfl HSD.out ?_; try simp only [Act.put, pS1, pS2, pS3])
            | ((with_reducible show aD 48 _ _ _ _ _ _ _ _ _ _ _); refine wpList_mid_w (by rfl) 26 (.tmp 47) rfl g8 3 rfl E _ HDB.out Tryd.underlying26 rfl HSE.out ?_; try simp only [Act.put, pS1, pS2, pS3])
            | fail)
          go_ret
          exact ⟨by rw [← HAP2.out]; rfl, HB9.out⟩
      · refine step_new_var (by rfl) 28 rfl ZH HAH.out ?_
        intro g8 u5 HM8
        have HR8 := hidk HM8.out.row
        have h8 : w.heap.size + 1 + 1 < g8 := (by have := heap_lt hHeld.c; rw [HM8.out.new]; exact this)
        try (have h78 : g8 ≠ g7 := (by have := heap_lt HR7.out; have := HM8.out.new; omega))
        try replace HR7 := hidk ((HM8.out.below.block _ (heap_lt HR7.out)).trans HR7.out)
        refine hK.out _ _ (hHeld.keep HM8.out.below) (fun hHeld => ?_)
        clear hK K
        try simp only [Act.put, pS1, pS2, pS3]
        refine wpAnyH_ready (rs := [4]) (by kernel_rfl) (by simp) ?_
        refine (AllReadyH.cons (o := { dst := some 7, op := .alloc 28, type := 0, pos := "anchors.go:59", after := #[], guard := none }) rfl (fun K hK => ?_) AllReadyH.nil)
        refine step_new_var (by rfl) 28 rfl ZH HAH.out ?_
        intro g7 u4 HM7
        have HR7 := hidk HM7.out.row
        have h7 : w.heap.size + 1 + 1 < g7 := (by have := heap_lt hHeld.c; rw [HM7.out.new]; exact this)
        try (have h78 : g8 ≠ g7 := (by have := heap_lt HR8.out; have := HM7.out.new; omega))
        try replace HR8 := hidk ((HM7.out.below.block _ (heap_lt HR8.out)).trans HR8.out)
        refine hK.out _ _ (hHeld.keep HM7.out.below) (fun hHeld => ?_)
        clear hK K
        try simp only [Act.put, pS1, pS2, pS3]
        refine wpAnyH_ready (rs := [6]) (by kernel_rfl) (by simp) ?_
        refine (AllReadyH.cons (o := { dst := none, op := .store 28 (.tmp 7) (.tmp 21), type := 0, pos := "anchors.go:59", after := #[zD 4, zD 1, zP 0, zP 1, { on := 2, ground := Ground.textOnly Departure.lateStores }, { on := 3, ground := Ground.textOnly Departure.lateStores }, zP 4, zP 5], guard := none }) rfl (fun K hK => ?_) AllReadyH.nil)
        refine step_set_var (by rfl) 28 (.tmp 7) (.tmp 21) rfl g7 X rfl rfl 28 ZH HR7.out HSX.out HZX.out H1X.out ?_
        intro u6 HW7
        replace HR8 := hidk ((HW7.out.other g8 h78).trans HR8.out)
        replace HR7 := hidk HW7.out.row
        refine hK.out _ _ (hHeld.wrote HW7.out h7) (fun hHeld => ?_)
        clear hK K
        try simp only [Act.put, pS1, pS2, pS3]
        refine wpAnyH_ready (rs := [7]) (by kernel_rfl) (by simp) ?_
        refine (AllReadyH.cons (o := { dst := none, op := .store 28 (.tmp 8) (.tmp 23), type := 0, pos := "anchors.go:59", after := #[zD 5, zD 3, zC 6, zP 0, zP 1, zP 2, zP 3, zP 4, zP 5, zP 6], guard := none }) rfl (fun K hK => ?_) AllReadyH.nil)
        refine step_set_var (by rfl) 28 (.tmp 8) (.tmp 23) rfl g8 Y rfl rfl 28 ZH HR8.out HSY.out HZY.out H1Y.out ?_
        intro u7 HW8
        replace HR7 := hidk ((HW8.out.other g7 (Ne.symm h78)).trans HR7.out)
        replace HR8 := hidk HW8.out.row
        have HB9 := hidk (hHeld.wrote HW8.out h8).b
        obtain ⟨ca0, ca1, ca2, DA⟩ := HCA.out _ _ HR7.out
        obtain ⟨cb0, cb1, cb2, DB⟩ := HCB.out _ _ HR8.out
        have HDA := hidk DA
        have HDB := hidk DB
        clear DA DB HM7 HM8 HW7
        refine hK.out _ _ (hHeld.wrote HW8.out h8) (fun hHeld => ?_)
        clear hK K
        try simp only [Act.put, pS1, pS2, pS3]
        refine wpAnyH_done (by kernel_rfl) ?_ _
        clear hHeld
        by_cases h1 : ar = br
        · subst h1
          by_cases h2 : ae = be
          · subst h2
            by_cases h3 : az = bz
            · subst h3
              have e3 : (decide (ar = ar) && (decide (ae = ae) && (decide (az = az) && cd))) = cd := by simp
              rw [e3] at HAP2
              clear e3
              go_wp2_with (first
                | ((with_reducible show aD 46 _ _ _ _ _ _ _ _ _ _ _); refine wpList_mid_w (by rfl) 26 (.tmp 45) rfl g7 3 rfl D _ HDA.out Tryd.underlying26 rfl HSD.out ?_; try simp only [Act.put, pS1, pS2, pS3])
                | ((with_reducible show aD 48 _ _ _ _ _ _ _ _ _ _ _); refine wpList_mid_w (by rfl) 26 (.tmp 47) rfl g8 3 rfl E _ HDB.out Tryd.underlying26 rfl HSE.out ?_; try simp only [Act.put, pS1, pS2, pS3])
                | fail)
              go_ret
              exact ⟨by rw [← HAP2.out]; rfl, HB9.out⟩
            · have b3 : (az == bz) = false := by rw [beq_eq_false_iff_ne]; exact h3
              have d3 : decide (az = bz) = false := decide_eq_false h3
              have e3 : (decide (ar = ar) && (decide (ae = ae) && (decide (az = bz) && cd))) = false := by simp [h3]
              rw [e3] at HAP2
              clear e3 h3
              go_wp2_with (first
                | ((with_reducible show aD 46 _ _ _ _ _ _ _ _ _ _ _); refine wpList_mid_w (by rfl) 26 (.tmp 45) rfl g7 3 rfl D _ HDA.out Tryd.underlying26 rfl HSD.out ?_; try simp only [Act.put, pS1, pS2, pS3])
                | ((with_reducible show aD 48 _ _ _ _ _ _ _ _ _ _ _); refine wpList_mid_w (by rfl) 26 (.tmp 47) rfl g8 3 rfl E _ HDB.out Tryd.underlying26 rfl HSE.out ?_; try simp only [Act.put, pS1, pS2, pS3])
                | fail)
              go_ret
              exact ⟨by rw [← HAP2.out]; rfl, HB9.out⟩
          · have b2 : (ae == be) = false := by rw [beq_eq_false_iff_ne]; exact h2
            have d2 : decide (ae = be) = false := decide_eq_false h2
            have e3 : (decide (ar = ar) && (decide (ae = be) && (decide (az = bz) && cd))) = false := by simp [h2]
            rw [e3] at HAP2
            clear e3 h2
            go_wp2_with (first
              | ((with_reducible show aD 46 _ _ _ _ _ _ _ _ _ _ _); refine wpList_mid_w (by rfl) 26 (.tmp 45) rfl g7 3 rfl D _ HDA.out Tryd.underlying26 rfl HSD.out ?_; try simp only [Act.put, pS1, pS2, pS3])
              | ((with_reducible show aD 48 _ _ _ _ _ _ _ _ _ _ _); refine wpList_mid_w (by rfl) 26 (.tmp 47) rfl g8 3 rfl E _ HDB.out Tryd.underlying26 rfl HSE.out ?_; try simp only [Act.put, pS1, pS2, pS3])
              | fail)
            go_ret
            exact ⟨by rw [← HAP2.out]; rfl, HB9.out⟩
        · have b1 : (ar == br) = false := by rw [beq_eq_false_iff_ne]; exact h1
          have d1 : decide (ar = br) = false := decide_eq_false h1
          have e3 : (decide (ar = br) && (decide (ae = be) && (decide (az = bz) && cd))) = false := by simp [h1]
          rw [e3] at HAP2
          clear e3 h1
          go_wp2_with (first
            | ((with_reducible show aD 46 _ _ _ _ _ _ _ _ _ _ _); refine wpList_mid_w (by rfl) 26 (.tmp 45) rfl g7 3 rfl D _ HDA.out Tryd.underlying26 rfl HSD.out ?_; try simp only [Act.put, pS1, pS2, pS3])
            | ((with_reducible show aD 48 _ _ _ _ _ _ _ _ _ _ _); refine wpList_mid_w (by rfl) 26 (.tmp 47) rfl g8 3 rfl E _ HDB.out Tryd.underlying26 rfl HSE.out ?_; try simp only [Act.put, pS1, pS2, pS3])
            | fail)
          go_ret
          exact ⟨by rw [← HAP2.out]; rfl, HB9.out⟩
    · have bu : (!(u == 0)) = true := by simp [hu0]
      have bu2 : (u != 0) = true := by simpa using hu0
      have hx := HAP.out
      rw [decide_eq_false hu0, Bool.false_and, Bool.and_false] at hx
      subst hx
      go_wp2
      go_ret
      exact ⟨rfl, H2.out.b⟩
  · have bv : (!(v == 0)) = true := by simp [hv0]
    have bv2 : (v != 0) = true := by simpa using hv0
    have hx := HAP.out
    rw [decide_eq_false hv0, Bool.false_and] at hx
    subst hx
    go_wp2
    go_ret
    exact ⟨rfl, H1.out.b⟩
end Go.Proofs.YtjalebncfnekiaaDoor
/- The program's Find and isOld. -/
namespace Go.Proofs.YtjalebncfnekiaaDoor
open Go.RowKit Go.Shelf Nums Sums
set_option linter.unusedVariables false
set_option linter.unusedSimpArgs false
set_option maxRecDepth 100000
attribute [local go_sem] Oper.semAt_some
structure FndB (w : World) (s i : Int) (b : Bool) (W : World) : Prop where
  s : W.heap[w.heap.size]? = some (.cells #[.int .i64 s] 3 (0, 0))
  i : W.heap[w.heap.size + 1]? = some (.cells #[.int .i64 i] 3 (0, 0))
  b : W.heap[w.heap.size + 1 + 1]? = some (.cells #[.bool b] 4 (0, 0))
  bl : Below w.heap.size w W
  z : w.heap.size + 5 ≤ W.heap.size
theorem FndB.own {w : World} {s i : Int} {b : Bool} {X Y : World} {row : Option Nat} {B : Nat} (h : FndB w s i b X) (hB : w.heap.size ≤ B) (hg : X.grownBy Y row) (hr : ∀ r, row = some r → B ≤ r ∧ ∃ o : Obj, X.heap[r]? = some o ∧ o.isCells = false) : FndB w s i b Y :=
  ⟨cells_stay h.s hg (fun r e => (hr r e).2), cells_stay h.i hg (fun r e => (hr r e).2), cells_stay h.b hg (fun r e => (hr r e).2), h.bl.grown hg (Nat.le_trans h.bl.size (Nat.le_refl _)) (fun k e => by have := (hr k e).1; omega), Nat.le_trans h.z hg.size⟩
theorem FndB.keep {w : World} {s i : Int} {b : Bool} {X Y : World} (h : FndB w s i b X) (hb : Below X.heap.size X Y) : FndB w s i b Y :=
  ⟨(hb.block _ (heap_lt h.s)).trans h.s, (hb.block _ (heap_lt h.i)).trans h.i, (hb.block _ (heap_lt h.b)).trans h.b, h.bl.trans (hb.mono h.bl.size), Nat.le_trans h.z hb.size⟩
structure OldB (w : World) (V : Array Value) (b : Bool) (W : World) : Prop where
  e : W.heap[w.heap.size]? = some (.cells V 46 (0, 0))
  b : W.heap[w.heap.size + 1]? = some (.cells #[.bool b] 4 (0, 0))
  bl : Below w.heap.size w W
  z : w.heap.size + 4 ≤ W.heap.size
theorem OldB.own {w : World} {V : Array Value} {b : Bool} {X Y : World} {row : Option Nat} {B : Nat} (h : OldB w V b X) (hB : w.heap.size ≤ B) (hg : X.grownBy Y row) (hr : ∀ r, row = some r → B ≤ r ∧ ∃ o : Obj, X.heap[r]? = some o ∧ o.isCells = false) : OldB w V b Y :=
  ⟨cells_stay h.e hg (fun r e => (hr r e).2), cells_stay h.b hg (fun r e => (hr r e).2), h.bl.grown hg (Nat.le_trans h.bl.size (Nat.le_refl _)) (fun k e => by have := (hr k e).1; omega), Nat.le_trans h.z hg.size⟩
theorem OldB.keep {w : World} {V : Array Value} {b : Bool} {X Y : World} (h : OldB w V b X) (hb : Below X.heap.size X Y) : OldB w V b Y :=
  ⟨(hb.block _ (heap_lt h.e)).trans h.e, (hb.block _ (heap_lt h.b)).trans h.b, h.bl.trans (hb.mono h.bl.size), Nat.le_trans h.z hb.size⟩
theorem olds_no {l : List ItT} (hok : ∀ x ∈ l, OkE x.e) {c s : Int} (h : ∀ y ∈ entsF l hok c 0, y.e.s < s) : oldL l c s = false := by
  rw [old_any hok, List.any_eq_false]
  intro y hy
  have := h y hy
  simp; omega
theorem olds_at {l : List ItT} (hok : ∀ x ∈ l, OkE x.e) {c s : Int} {pre : List Ur} {x : Ur} (hp : pre ++ [x] <+: entsF l hok c 0) (h : s ≤ x.e.s) : oldL l c s = true := by
  rw [old_any hok, List.any_eq_true]
  obtain ⟨t, ht⟩ := hp
  exact ⟨x, by rw [← ht]; simp, by simpa using h⟩
set_option maxHeartbeats 8000000 in
theorem old_in (n : Nat) (hn : 3 ≤ n) (a : Option Addr) (len cap : Nat) (l : List ItT) (v : EnT) (V : Array Value) (HV : Hid (V = (ecells v).toArray)) (w : World) (h : InL w a len cap l) :
    CallsIn Fence.wide n Tryd.prog 33 #[.slice a len cap, .agg V] w fun e w' => e = .returned (.bool (oldL l v.c v.s)) ∧ Below w.heap.size w w' := by
  have h1 : 1 ≤ n := by omega
  obtain ⟨Z, HZ, HAZ, HBZ, HNZ⟩ := noughtsE
  have hA : ∀ g o, a = some ⟨g, o, none⟩ → 0 < len → g < w.heap.size := fun g o e h0 => by
    obtain ⟨g', o', e', hl⟩ := h.rd.at h0
    rw [e] at e'; cases e'; exact hl
  have HVC : Hid (∀ (W : World), W.heap[w.heap.size]? = some (.cells V 46 (0, 0)) → W.cell? ⟨w.heap.size, 1, none⟩ = some (.int .i64 v.c) ∧ W.cell? ⟨w.heap.size, 2, none⟩ = some (.int .i64 v.s)) := fun W hh => by
    rw [cell_of_row W _ 1 _ _ (0, 0) hh, cell_of_row W _ 2 _ _ (0, 0) hh, HV.out]
    exact ⟨rfl, rfl⟩
  obtain ⟨c, Hc⟩ : ∃ z, Hid (v.c = z) := ⟨_, hidk rfl⟩
  obtain ⟨s, Hs⟩ : ∃ z, Hid (v.s = z) := ⟨_, hidk rfl⟩
  rw [Hc.out, Hs.out] at HVC ⊢
  have g0 : ((w.alloc (.cells V 46)).alloc (.cells #[.bool false] 4)).heap[w.heap.size]? = some (.cells V 46 (0, 0)) := heap_keep (heap_alloc_new w _)
  obtain ⟨c10, c20⟩ := HVC.out _ g0
  clear HV Hc Hs HZ HBZ
  refine callsIn_of_wp_marks Tryd.func33 rfl trivial ?_ rfl
  simp only [Tryd.ntmps33, List.size_toArray, List.length_cons, List.length_nil, Nat.reduceAdd, Nat.reduceSub, Array.replicate_succ, Array.replicate_zero, List.push_toArray, List.append_toArray, List.nil_append, List.cons_append]
  gi_wp2_with (refine ⟨trivial, ?_⟩; gi_at_call 50; refine (ents_in (n - 1) _ _ _ _ _).mono ?_; rintro e w' ⟨rfl, rfl⟩)
  have hB0 : Below w.heap.size w ((((w.alloc (.cells V 46)).alloc (.cells #[.bool false] 4)).alloc (.cells #[.slice a len cap] 22)).alloc (.cells #[.int .i64 c] 3)) :=
    ((((Below.refl _ w).alloc (Nat.le_refl _) _).alloc (by simp) _).alloc (by simp; omega) _).alloc (by simp; omega) _
  have hsz : ((((w.alloc (.cells V 46)).alloc (.cells #[.bool false] 4)).alloc (.cells #[.slice a len cap] 22)).alloc (.cells #[.int .i64 c] 3)).heap.size = w.heap.size + 4 := by simp
  have b0 := heap_keep (o' := .cells #[.int .i64 c] 3) (heap_keep (o' := .cells #[.slice a len cap] 22) g0)
  have b2 := ((Boxed.new (w.alloc (.cells V 46)) 4 (.bool false)).alloc (.cells #[.slice a len cap] 22)).alloc (.cells #[.int .i64 c] 3)
  have b3 := (Boxed.new ((w.alloc (.cells V 46)).alloc (.cells #[.bool false] 4)) 22 (.slice a len cap)).alloc (.cells #[.int .i64 c] 3)
  have b4 := Boxed.new (((w.alloc (.cells V 46)).alloc (.cells #[.bool false] 4)).alloc (.cells #[.slice a len cap] 22)) 3 (.int .i64 c)
  simp only [World.size_alloc] at b2 b3 b4
  obtain ⟨W0, hW0⟩ : ∃ W0, ((((w.alloc (.cells V 46)).alloc (.cells #[.bool false] 4)).alloc (.cells #[.slice a len cap] 22)).alloc (.cells #[.int .i64 c] 3)) = W0 := ⟨_, rfl⟩
  rw [hW0] at b0 b2 b3 b4 hB0 hsz ⊢
  clear hW0 g0 c10 c20
  have hge : w.heap.size + 4 ≤ W0.heap.size := Nat.le_of_eq hsz.symm
  clear hsz
  have F0 : OldB w V false W0 := ⟨b0, b2, hB0, hge⟩
  have hRd := h.rd.keep hB0
  refine wpIn_rangeFunc_ownH rfl h1 (gf := 69) (lb := #[.pointer (some ⟨w.heap.size + 1 + 1, 0, none⟩), .pointer (some ⟨w.heap.size + 1 + 1 + 1, 0, none⟩)]) rfl trivial (enters_of Tryd.func69 (by kernel_rfl) rfl)
    (ents_stops (n - 1) (by omega) (w.heap.size + 1 + 1) (w.heap.size + 1 + 1 + 1) w.heap.size a len cap l c W0 (by have := h.le; omega) (by omega) (by omega) (by omega) b3.cell b4.cell hRd hA) kpE_t (kpE_b (by omega) (by omega) (by omega)) (Below.refl _ _) (fun _ => rfl)
    (fun pre W => OldB w V false W ∧ ∀ x ∈ pre, x.e.s < s)
    (fun cd pre W => cd = .ret ∧ ∃ pre' x, pre = pre' ++ [x] ∧ s ≤ x.e.s ∧ OldB w V true W)
    (fun pre X Y row hs hg hr => ⟨hs.1.own (by omega) hg hr, hs.2⟩)
    (fun cd pre X Y row hs hg hr => by
      obtain ⟨hc, pre', x, e1, e2, e4⟩ := hs
      exact ⟨hc, pre', x, e1, e2, e4.own (by omega) hg hr⟩)
    ⟨F0, fun x hx => by cases hx⟩
    (fun x a' W => ∃ Bx, W.heap[Bx]? = some (.cells (ecells x.e).toArray 46 (0, 0)) ∧ a' = { tmps := #[.slice a len cap, .agg V, undef, .pointer (some ⟨w.heap.size, 0, none⟩), .pointer (some ⟨w.heap.size + 1, 0, none⟩), undef, .pointer (some ⟨Bx, 0, none⟩), .slice a len cap, .pointer (some ⟨w.heap.size, 1, none⟩), .int .i64 c, .func (.func 69) #[] #[.pointer (some ⟨w.heap.size + 1 + 1, 0, none⟩), .pointer (some ⟨w.heap.size + 1 + 1 + 1, 0, none⟩)], .int .i64 (x.i : Int), .agg (ecells x.e).toArray, undef, undef, undef, undef, undef], defers := [] })
    (fun x a' _ X Y row hs hg hr => by obtain ⟨Bx, k2, k3⟩ := hs; exact ⟨Bx, cells_stay k2 hg (fun r e => (hr r e).2), k3⟩)
    ?assign ?body ?done ?stop
  case assign =>
    rintro lp pre x W K ⟨hF, hz⟩ hK
    obtain ⟨U, HU, HSU, H1U, HNU⟩ := entry_row x.e x.ok
    have HZU : Hid (Z.size = U.size) := by show _ = _; rw [HNZ.out, HNU.out]
    dsimp only [encU]
    rw [← HU.out] at hK ⊢
    have hls := hF.bl.size
    have l3 := hF.z
    have HFF := hidk hF
    have HKK := hidk hK
    clear hF hK HU HNU
    simp only [List.zip_toArray, List.foldl_toArray, List.zip_cons_cons, List.zip_nil_right, List.foldl_cons, List.foldl_nil, List.setIfInBounds_toArray, List.set_cons_succ, List.set_cons_zero]
    gi_wp2_with (first
      | (show wpListIn _ _ _ _ _ ({ dst := some 6, op := _, type := _, pos := _, after := _, guard := _ } :: _) _ _; refine wpListIn_new_var rfl 46 rfl Z HAZ.out ?_; intro g9 w1 HM; have HG := hidk HM.out.row; try simp only [Act.put, pS1, pS2, pS3])
      | (refine wpListIn_set_var rfl 46 (.tmp 6) (.tmp 12) rfl g9 U rfl rfl 46 Z HG.out HSU.out HZU.out H1U.out ?_; intro w2 HW; have HB2 : Hid (Below W.heap.size W w2) := HW.out.below W.heap.size W HM.out.below (by rw [HM.out.new]; exact Nat.le_refl _); have HG2 := hidk HW.out.row; try simp only [Act.put, pS1, pS2, pS3])
      | fail)
    exact HKK.out _ _ (KeepsFrom.of_grownBy (grown_of_below11 HB2.out) (fun j e => by cases e)) (kpE_below (by omega) (by omega) (by omega) HB2.out) ⟨HFF.out.keep HB2.out, hz⟩ ⟨g9, HG2.out, rfl⟩
  case body =>
    rintro lp pre x a' W hl0 ⟨r, hlr⟩ ⟨hF, hz⟩ ⟨Bx, hBx, rfl⟩ hlt
    have HFF := hidk hF
    have cX : W.cell? ⟨Bx, 2, none⟩ = some (.int .i64 x.e.s) := by rw [cell_of_row W Bx 2 _ _ (0, 0) hBx]; rfl
    have cS := (HVC.out W hF.e).2
    have c2 : W.cell? ⟨w.heap.size + 1, 0, none⟩ = some (.bool false) := by rw [cell_of_row W _ 0 _ _ (0, 0) hF.b]; rfl
    have f2 := frozen_of_row W (w.heap.size + 1) 0 _ _ hF.b
    obtain ⟨U, HU⟩ : ∃ U, Hid ((ecells x.e).toArray = U) := ⟨_, hidk rfl⟩
    rw [HU.out]
    obtain ⟨ss, Hss⟩ : ∃ z, Hid (x.e.s = z) := ⟨_, hidk rfl⟩
    rw [Hss.out] at cX
    by_cases hs : s ≤ ss
    · have FIN : Hid (OldB w V true (W.setCell ⟨w.heap.size + 1, 0, none⟩ (.bool true)) ∧ KeepsFrom W0.heap.size W (W.setCell ⟨w.heap.size + 1, 0, none⟩ (.bool true))) := by
        refine ⟨⟨?_, ?_, HFF.out.bl.setCell (p := ⟨w.heap.size + 1, 0, none⟩) (by show w.heap.size ≤ w.heap.size + 1; omega) _, by simpa using HFF.out.z⟩, (KeepsOthers.setCell _ _ _).from _⟩
        · exact set_other HFF.out.e (by omega) _
        · exact Boxed.set _ (show Boxed W (w.heap.size + 1) 4 (.bool false) from HFF.out.b)
      have HS : Hid (s ≤ x.e.s) := by show _ ≤ _; rw [Hss.out]; exact hs
      have ds : decide (s ≤ ss) = true := decide_eq_true hs
      clear hF hBx HFF Hss HU hs
      gi_wp2
      exact ⟨FIN.out.2, rfl, pre, x, rfl, HS.out, FIN.out.1⟩
    · have ds : decide (s ≤ ss) = false := decide_eq_false hs
      have HS : Hid (x.e.s < s) := by show _ < _; rw [Hss.out]; omega
      have hls := hF.z
      clear hF hBx Hss HU hs
      gi_wp2
      refine ⟨KeepsFrom.refl _ _, ⟨Below.refl _ _, rfl, rfl⟩, HFF.out, fun y hy => ?_⟩
      rcases List.mem_append.1 hy with h | h
      · exact hz y h
      · rw [List.mem_singleton] at h; rw [h]; exact HS.out
  case done =>
    rintro D ys W hD rfl ⟨hF, hz⟩ hK
    have c2 : W.cell? ⟨w.heap.size + 1, 0, none⟩ = some (.bool false) := by rw [cell_of_row W _ 0 _ _ (0, 0) hF.b]; rfl
    have f2 := frozen_of_row W (w.heap.size + 1) 0 _ _ hF.b
    have HFN := hidk (olds_no h.rd.ok hz)
    have FIN : Hid (OldB w V false (W.setCell ⟨w.heap.size + 1, 0, none⟩ (.bool false))) := by
      refine ⟨?_, ?_, hF.bl.setCell (p := ⟨w.heap.size + 1, 0, none⟩) (by show w.heap.size ≤ w.heap.size + 1; omega) _, by simpa using hF.z⟩
      · exact set_other hF.e (by omega) _
      · exact Boxed.set _ (show Boxed W (w.heap.size + 1) 4 (.bool false) from hF.b)
    have hK' := hidk ((KeepsOthers.setCell W ⟨w.heap.size + 1, 0, none⟩ (.bool false)).same D _ hK rfl)
    clear hF hz hK
    gi_wp2
    refine ⟨by simp, .inl ⟨_, _, rfl, run_takeDeferred hK'.out, ?_⟩⟩
    have FE := FIN.out.own (B := W0.heap.size) (by omega) (grownBy_putObj' _ D (.deferred none)) (fun r e => by cases e; exact ⟨hD, _, hK'.out, rfl⟩)
    have q2 := cell_of_row _ _ 0 _ _ (0, 0) FE.b
    refine ⟨.bool false, ?_, by rw [HFN.out], FE.bl⟩
    simp [results, Tryd.f33, go_sem, q2]
  case stop =>
    rintro D cd pre W hD hpre ⟨rfl, pre', x, rfl, hx, hF⟩ hK
    have HFN := hidk (olds_at h.rd.ok hpre hx)
    gi_wp2
    refine ⟨by simp, .inl ⟨_, _, rfl, run_takeDeferred hK, ?_⟩⟩
    have FE := hF.own (B := W0.heap.size) (by omega) (grownBy_putObj' _ D (.deferred none)) (fun r e => by cases e; exact ⟨hD, _, hK, rfl⟩)
    have q2 := cell_of_row _ _ 0 _ _ (0, 0) FE.b
    refine ⟨.bool true, ?_, by rw [HFN.out], FE.bl⟩
    simp [results, Tryd.f33, go_sem, q2]
theorem hOld (a : Option Addr) (len cap : Nat) (l : List ItT) (v : EnT) (V : Array Value) (HV : Hid (V = (ecells v).toArray)) (w : World) (h : InL w a len cap l) :
    Calls Tryd.prog 33 #[.slice a len cap, .agg V] w fun e w' => e = .returned (.bool (oldL l v.c v.s)) ∧ Below w.heap.size w w' := callsIn_wide.1 (old_in 3 (Nat.le_refl _) a len cap l v V HV w h)
end Go.Proofs.YtjalebncfnekiaaDoor
/- The program's May of logs. -/
namespace Go.Proofs.YtjalebncfnekiaaDoor
open Go.RowKit Nums Sums
set_option linter.unusedVariables false
set_option linter.unusedSimpArgs false
set_option maxRecDepth 100000
set_option maxHeartbeats 16000000 in
theorem hMay (ck : EntryC) (a : Option Addr) (len cap : Nat) (l : List ItT) (x : ItT) (hx : InI x) (w : World) (hin : InL w a len cap l) (X : Array Value) (HX : Hid (X = (icells x).toArray)) :
    Calls Tryd.prog 18 #[.slice a len cap, .agg X] w fun e w' => e = .returned (.int .i64 (mayE l x)) ∧ Below w.heap.size w w' := by
  have h := hin.rd
  have ok := hx.e.ok
  have hmx : len ≤ 100 := hin.le
  have HSX : Hid ((Tryd.prog.info? 48).map (·.size) = some X.size) := by show _ = _; rw [sizeI, HX.out]; simp [icells_length _ ok]
  have HB : Hid (Below w.heap.size w (w.alloc (.cells X 48))) := (Below.refl _ _).alloc (Nat.le_refl _) _
  have HG := hidk (heap_alloc_new w (.cells X 48))
  have HRL : Hid (∀ W, Below w.heap.size w W → Calls Tryd.prog 20 #[.slice a len cap] W fun e w' => e = .returned (.int .i64 (if rightL l = true then 0 else 100)) ∧ Below W.heap.size W w') := fun W hb => hCheck ck a len cap l W (hin.keep hb)
  have HRI : Hid (∀ W, Calls Tryd.prog 32 #[.agg X] W fun e w' => e = .returned (.bool (rightI x)) ∧ Below W.heap.size W w') := fun W => hIsRight ck x hx W X HX
  obtain ⟨V, HV, HSV, H1V, HNV⟩ := entry_row x.e ok
  have HRV : Hid (∀ W : World, W.heap[w.heap.size]? = some (.cells X 48 (0, 0)) → W.rangeAt w.heap.size 1 V.toList) := fun W hh => by
    have h0 := range_row (l := icells x) (W := W) (g := w.heap.size) (t := 48) (fr := (0, 0)) (by rw [← HX.out]; exact hh)
    rw [HV.out]
    have := range_entry h0
    simpa using this
  have HOL : Hid (∀ W, Below w.heap.size w W → Calls Tryd.prog 33 #[.slice a len cap, .agg V] W fun e w' => e = .returned (.bool (oldL l x.e.c x.e.s)) ∧ Below W.heap.size W w') := fun W hb => hOld a len cap l x.e V HV W (hin.keep hb)
  have HCL : Hid (∀ (W : World) (b : Nat), W.heap[b]? = some (.cells X 48 (0, 0)) → W.cell? ⟨b, 0, none⟩ = some (.int .i64 x.p) ∧ W.cell? ⟨b, 1, none⟩ = some (.int .i64 x.e.k) ∧ W.cell? ⟨b, 2, none⟩ = some (.int .i64 x.e.c) ∧ W.cell? ⟨b, 3, none⟩ = some (.int .i64 x.e.s)) := fun W b hh => by
    have hX := HX.out
    subst hX
    refine ⟨?_, ?_, ?_, ?_⟩ <;> (rw [cell_of_row _ _ _ _ _ (0, 0) hh]; rfl)
  have HLN := hidk h.ln
  have HIR := hidk h
  obtain ⟨b1, H1⟩ : ∃ b, Hid (rightL l = b) := ⟨_, hidk rfl⟩
  obtain ⟨b2, H2⟩ : ∃ b, Hid (rightI x = b) := ⟨_, hidk rfl⟩
  rw [H1.out] at HRL
  rw [H2.out] at HRI
  clear HX ok h hin hx HV H1V HNV ck
  cases b1
  · have HE := hidk (mayE_form (x := x) (.inl H1.out))
    rw [if_neg (by decide)] at HRL
    go_enter Tryd.func18, Tryd.ntmps18
    go_wp2_with fail
    refine (HRL.out _ HB.out).mono ?_
    rintro e w1 ⟨rfl, hb1⟩
    have HB1 := hidk (HB.out.trans (hb1.mono HB.out.size))
    have HG1 := hidk ((hb1.block _ (heap_lt HG.out)).trans HG.out)
    clear hb1
    go_wp2
    go_ret
    exact ⟨by rw [HE.out]; rfl, HB1.out⟩
  · rw [if_pos rfl] at HRL
    cases b2
    · have HE := hidk (mayE_form (l := l) (.inr H2.out))
      go_enter Tryd.func18, Tryd.ntmps18
      go_wp2_with fail
      refine (HRL.out _ HB.out).mono ?_
      rintro e w1 ⟨rfl, hb1⟩
      have HB1 := hidk (HB.out.trans (hb1.mono HB.out.size))
      have HG1 := hidk ((hb1.block _ (heap_lt HG.out)).trans HG.out)
      clear hb1
      go_wp2_with (first
        | (show aD 10 _ _ _ _ _ _ _ _ _ _ _; refine wpList_load_row_w (by rfl) 48 (.tmp 3) rfl w.heap.size rfl 48 X (0, 0) _ HG1.out Tryd.underlying48 rfl HSX.out ?_; try simp only [Act.put, pS1, pS2, pS3])
        | fail)
      refine (HRI.out _).mono ?_
      rintro e w2 ⟨rfl, hb2⟩
      have HB2 := hidk (HB1.out.trans (hb2.mono HB1.out.size))
      have HG2 := hidk ((hb2.block _ (heap_lt HG1.out)).trans HG1.out)
      clear hb2
      go_wp2
      go_ret
      exact ⟨by rw [HE.out]; rfl, HB2.out⟩
    · obtain ⟨px, Hpx⟩ : ∃ p, Hid (x.p = p) := ⟨_, hidk rfl⟩
      obtain ⟨kx, Hkx⟩ : ∃ p, Hid (x.e.k = p) := ⟨_, hidk rfl⟩
      obtain ⟨cx, Hcx⟩ : ∃ p, Hid (x.e.c = p) := ⟨_, hidk rfl⟩
      obtain ⟨sx, Hsx⟩ : ∃ p, Hid (x.e.s = p) := ⟨_, hidk rfl⟩
      rw [Hpx.out, Hkx.out, Hcx.out, Hsx.out] at HCL
      rw [Hcx.out, Hsx.out] at HOL
      have HLF : Hid (lowB l px = true → mayE l x = 102) := fun hh => mayE_low H1.out H2.out (by rw [Hpx.out]; exact hh)
      have HFU : Hid (lowB l px = false → len = 2000 → mayE l x = 2) := fun hh h3 => mayE_full H1.out H2.out (by rw [Hpx.out]; exact hh) (by rw [HLN.out]; exact h3)
      have HLA : Hid (lowB l px = false → len ≠ 2000 → mayE l x = if kx = 1 ∧ oldL l cx sx = true then 101 else 0) := fun hh h3 => by rw [mayE_last H1.out H2.out (by rw [Hpx.out]; exact hh) (by rw [HLN.out]; exact h3), Hkx.out, Hcx.out, Hsx.out]
      have hlen : len ≤ 2000 := by rw [← HLN.out]; exact ((rightL_iff l).1 H1.out).1
      clear Hpx Hkx Hcx Hsx H1 H2
      by_cases h0 : len = 0
      · subst h0
        have hlow : lowB l px = false := lowB_none HLN.out
        have hfull : ¬ (0 : Nat) = 2000 := by decide
        by_cases hk : kx = 1
        · have bk : (kx == 1) = true := by simp [hk]
          obtain ⟨b3, H3⟩ : ∃ b, Hid (oldL l cx sx = b) := ⟨_, hidk rfl⟩
          rw [H3.out] at HOL HLA
          have HE := hidk (HLA.out hlow hfull)
          cases b3
          · have HE2 : Hid (mayE l x = 0) := by show _ = _; rw [HE.out]; simp [hk]
            go_enter Tryd.func18, Tryd.ntmps18
            go_wp2_with fail
            refine (HRL.out _ HB.out).mono ?_
            rintro e w1 ⟨rfl, hb1⟩
            have HB1 := hidk (HB.out.trans (hb1.mono HB.out.size))
            have HG1 := hidk ((hb1.block _ (heap_lt HG.out)).trans HG.out)
            clear hb1
            go_wp2_with (first
              | (show aD 10 _ _ _ _ _ _ _ _ _ _ _; refine wpList_load_row_w (by rfl) 48 (.tmp 3) rfl w.heap.size rfl 48 X (0, 0) _ HG1.out Tryd.underlying48 rfl HSX.out ?_; try simp only [Act.put, pS1, pS2, pS3])
              | fail)
            refine (HRI.out _).mono ?_
            rintro e w2 ⟨rfl, hb2⟩
            have HB2 := hidk (HB1.out.trans (hb2.mono HB1.out.size))
            have HG2 := hidk ((hb2.block _ (heap_lt HG1.out)).trans HG1.out)
            clear hb2
            obtain ⟨c0, c1, c2, c3⟩ := HCL.out _ _ HG2.out
            go_wp2
            refine wp_region_held_drew (S := (fun _ => True)) (by kernel_rfl) trivial (fun hHeld => ?_)
            refine zW 0 (.slice a 0 cap) rfl (Or.inl ⟨by rfl, by intro w hSw; go_simp⟩) hHeld ?_
            try simp only [Act.put, pS1, pS2, pS3]
            refine zW 1 (.int .i64 0) rfl (Or.inl ⟨by rfl, by intro w hSw; go_simp⟩) hHeld ?_
            try simp only [Act.put, pS1, pS2, pS3]
            refine zW 2 (.bool false) rfl (Or.inl ⟨by rfl, by intro w hSw; go_simp⟩) hHeld ?_
            try simp only [Act.put, pS1, pS2, pS3]
            refine zW 3 (.bool false) rfl (Or.inl ⟨by rfl, by intro w hSw; go_simp⟩) hHeld ?_
            try simp only [Act.put, pS1, pS2, pS3]
            refine zW 4 (undef) rfl (Or.inr ⟨by rfl, rfl⟩) hHeld ?_
            try simp only [Act.put, pS1, pS2, pS3]
            refine zW 5 (undef) rfl (Or.inr ⟨by rfl, rfl⟩) hHeld ?_
            try simp only [Act.put, pS1, pS2, pS3]
            refine zW 6 (undef) rfl (Or.inr ⟨by rfl, rfl⟩) hHeld ?_
            try simp only [Act.put, pS1, pS2, pS3]
            refine zW 7 (undef) rfl (Or.inr ⟨by rfl, rfl⟩) hHeld ?_
            try simp only [Act.put, pS1, pS2, pS3]
            refine zW 8 (undef) rfl (Or.inr ⟨by rfl, rfl⟩) hHeld ?_
            try simp only [Act.put, pS1, pS2, pS3]
            refine zW 9 (undef) rfl (Or.inr ⟨by rfl, rfl⟩) hHeld ?_
            try simp only [Act.put, pS1, pS2, pS3]
            refine zW 10 (undef) rfl (Or.inr ⟨by rfl, rfl⟩) hHeld ?_
            try simp only [Act.put, pS1, pS2, pS3]
            refine zW 11 (undef) rfl (Or.inr ⟨by rfl, rfl⟩) hHeld ?_
            try simp only [Act.put, pS1, pS2, pS3]
            refine zW 12 (undef) rfl (Or.inr ⟨by rfl, rfl⟩) hHeld ?_
            try simp only [Act.put, pS1, pS2, pS3]
            refine zW 13 (undef) rfl (Or.inr ⟨by rfl, rfl⟩) hHeld ?_
            try simp only [Act.put, pS1, pS2, pS3]
            refine zW 14 (.bool false) rfl (Or.inl ⟨by rfl, by intro w hSw; go_simp⟩) hHeld ?_
            try simp only [Act.put, pS1, pS2, pS3]
            refine zW 15 (.bool false) rfl (Or.inl ⟨by rfl, by intro w hSw; go_simp⟩) hHeld ?_
            try simp only [Act.put, pS1, pS2, pS3]
            refine wpAnyH_done (by kernel_rfl) ?_ _
            have HBD := hidk HB2.out.drew
            have HRD : Hid (w2.drew.rangeAt w.heap.size 1 V.toList) := HRV.out w2 HG2.out
            go_wp2_with (first
              | (show aD 42 _ _ _ _ _ _ _ _ _ _ _; refine wpList_mid_w (by rfl) 46 (.tmp 41) rfl w.heap.size 1 rfl V _ HRD.out Tryd.underlying46 rfl HSV.out ?_; try simp only [Act.put, pS1, pS2, pS3])
              | fail)
            refine (HOL.out _ HBD.out).mono ?_
            rintro e w3 ⟨rfl, hb3⟩
            have HB3 := hidk (HBD.out.trans (hb3.mono HBD.out.size))
            clear hb3
            go_wp2
            go_ret
            exact ⟨by rw [HE2.out]; rfl, HB3.out⟩
          · have HE2 : Hid (mayE l x = 101) := by show _ = _; rw [HE.out]; simp [hk]
            go_enter Tryd.func18, Tryd.ntmps18
            go_wp2_with fail
            refine (HRL.out _ HB.out).mono ?_
            rintro e w1 ⟨rfl, hb1⟩
            have HB1 := hidk (HB.out.trans (hb1.mono HB.out.size))
            have HG1 := hidk ((hb1.block _ (heap_lt HG.out)).trans HG.out)
            clear hb1
            go_wp2_with (first
              | (show aD 10 _ _ _ _ _ _ _ _ _ _ _; refine wpList_load_row_w (by rfl) 48 (.tmp 3) rfl w.heap.size rfl 48 X (0, 0) _ HG1.out Tryd.underlying48 rfl HSX.out ?_; try simp only [Act.put, pS1, pS2, pS3])
              | fail)
            refine (HRI.out _).mono ?_
            rintro e w2 ⟨rfl, hb2⟩
            have HB2 := hidk (HB1.out.trans (hb2.mono HB1.out.size))
            have HG2 := hidk ((hb2.block _ (heap_lt HG1.out)).trans HG1.out)
            clear hb2
            obtain ⟨c0, c1, c2, c3⟩ := HCL.out _ _ HG2.out
            go_wp2
            refine wp_region_held_drew (S := (fun _ => True)) (by kernel_rfl) trivial (fun hHeld => ?_)
            refine zW 0 (.slice a 0 cap) rfl (Or.inl ⟨by rfl, by intro w hSw; go_simp⟩) hHeld ?_
            try simp only [Act.put, pS1, pS2, pS3]
            refine zW 1 (.int .i64 0) rfl (Or.inl ⟨by rfl, by intro w hSw; go_simp⟩) hHeld ?_
            try simp only [Act.put, pS1, pS2, pS3]
            refine zW 2 (.bool false) rfl (Or.inl ⟨by rfl, by intro w hSw; go_simp⟩) hHeld ?_
            try simp only [Act.put, pS1, pS2, pS3]
            refine zW 3 (.bool false) rfl (Or.inl ⟨by rfl, by intro w hSw; go_simp⟩) hHeld ?_
            try simp only [Act.put, pS1, pS2, pS3]
            refine zW 4 (undef) rfl (Or.inr ⟨by rfl, rfl⟩) hHeld ?_
            try simp only [Act.put, pS1, pS2, pS3]
            refine zW 5 (undef) rfl (Or.inr ⟨by rfl, rfl⟩) hHeld ?_
            try simp only [Act.put, pS1, pS2, pS3]
            refine zW 6 (undef) rfl (Or.inr ⟨by rfl, rfl⟩) hHeld ?_
            try simp only [Act.put, pS1, pS2, pS3]
            refine zW 7 (undef) rfl (Or.inr ⟨by rfl, rfl⟩) hHeld ?_
            try simp only [Act.put, pS1, pS2, pS3]
            refine zW 8 (undef) rfl (Or.inr ⟨by rfl, rfl⟩) hHeld ?_
            try simp only [Act.put, pS1, pS2, pS3]
            refine zW 9 (undef) rfl (Or.inr ⟨by rfl, rfl⟩) hHeld ?_
            try simp only [Act.put, pS1, pS2, pS3]
            refine zW 10 (undef) rfl (Or.inr ⟨by rfl, rfl⟩) hHeld ?_
            try simp only [Act.put, pS1, pS2, pS3]
            refine zW 11 (undef) rfl (Or.inr ⟨by rfl, rfl⟩) hHeld ?_
            try simp only [Act.put, pS1, pS2, pS3]
            refine zW 12 (undef) rfl (Or.inr ⟨by rfl, rfl⟩) hHeld ?_
            try simp only [Act.put, pS1, pS2, pS3]
            refine zW 13 (undef) rfl (Or.inr ⟨by rfl, rfl⟩) hHeld ?_
            try simp only [Act.put, pS1, pS2, pS3]
            refine zW 14 (.bool false) rfl (Or.inl ⟨by rfl, by intro w hSw; go_simp⟩) hHeld ?_
            try simp only [Act.put, pS1, pS2, pS3]
            refine zW 15 (.bool false) rfl (Or.inl ⟨by rfl, by intro w hSw; go_simp⟩) hHeld ?_
            try simp only [Act.put, pS1, pS2, pS3]
            refine wpAnyH_done (by kernel_rfl) ?_ _
            have HBD := hidk HB2.out.drew
            have HRD : Hid (w2.drew.rangeAt w.heap.size 1 V.toList) := HRV.out w2 HG2.out
            go_wp2_with (first
              | (show aD 42 _ _ _ _ _ _ _ _ _ _ _; refine wpList_mid_w (by rfl) 46 (.tmp 41) rfl w.heap.size 1 rfl V _ HRD.out Tryd.underlying46 rfl HSV.out ?_; try simp only [Act.put, pS1, pS2, pS3])
              | fail)
            refine (HOL.out _ HBD.out).mono ?_
            rintro e w3 ⟨rfl, hb3⟩
            have HB3 := hidk (HBD.out.trans (hb3.mono HBD.out.size))
            clear hb3
            go_wp2
            go_ret
            exact ⟨by rw [HE2.out]; rfl, HB3.out⟩
        · have bk : (kx == 1) = false := by simp [hk]
          have HE2 : Hid (mayE l x = 0) := by show _ = _; rw [HLA.out hlow hfull]; simp [hk]
          go_enter Tryd.func18, Tryd.ntmps18
          go_wp2_with fail
          refine (HRL.out _ HB.out).mono ?_
          rintro e w1 ⟨rfl, hb1⟩
          have HB1 := hidk (HB.out.trans (hb1.mono HB.out.size))
          have HG1 := hidk ((hb1.block _ (heap_lt HG.out)).trans HG.out)
          clear hb1
          go_wp2_with (first
            | (show aD 10 _ _ _ _ _ _ _ _ _ _ _; refine wpList_load_row_w (by rfl) 48 (.tmp 3) rfl w.heap.size rfl 48 X (0, 0) _ HG1.out Tryd.underlying48 rfl HSX.out ?_; try simp only [Act.put, pS1, pS2, pS3])
            | fail)
          refine (HRI.out _).mono ?_
          rintro e w2 ⟨rfl, hb2⟩
          have HB2 := hidk (HB1.out.trans (hb2.mono HB1.out.size))
          have HG2 := hidk ((hb2.block _ (heap_lt HG1.out)).trans HG1.out)
          clear hb2
          obtain ⟨c0, c1, c2, c3⟩ := HCL.out _ _ HG2.out
          go_wp2
          refine wp_region_held_drew (S := (fun _ => True)) (by kernel_rfl) trivial (fun hHeld => ?_)
          refine zW 0 (.slice a 0 cap) rfl (Or.inl ⟨by rfl, by intro w hSw; go_simp⟩) hHeld ?_
          try simp only [Act.put, pS1, pS2, pS3]
          refine zW 1 (.int .i64 0) rfl (Or.inl ⟨by rfl, by intro w hSw; go_simp⟩) hHeld ?_
          try simp only [Act.put, pS1, pS2, pS3]
          refine zW 2 (.bool false) rfl (Or.inl ⟨by rfl, by intro w hSw; go_simp⟩) hHeld ?_
          try simp only [Act.put, pS1, pS2, pS3]
          refine zW 3 (.bool false) rfl (Or.inl ⟨by rfl, by intro w hSw; go_simp⟩) hHeld ?_
          try simp only [Act.put, pS1, pS2, pS3]
          refine zW 4 (undef) rfl (Or.inr ⟨by rfl, rfl⟩) hHeld ?_
          try simp only [Act.put, pS1, pS2, pS3]
          refine zW 5 (undef) rfl (Or.inr ⟨by rfl, rfl⟩) hHeld ?_
          try simp only [Act.put, pS1, pS2, pS3]
          refine zW 6 (undef) rfl (Or.inr ⟨by rfl, rfl⟩) hHeld ?_
          try simp only [Act.put, pS1, pS2, pS3]
          refine zW 7 (undef) rfl (Or.inr ⟨by rfl, rfl⟩) hHeld ?_
          try simp only [Act.put, pS1, pS2, pS3]
          refine zW 8 (undef) rfl (Or.inr ⟨by rfl, rfl⟩) hHeld ?_
          try simp only [Act.put, pS1, pS2, pS3]
          refine zW 9 (undef) rfl (Or.inr ⟨by rfl, rfl⟩) hHeld ?_
          try simp only [Act.put, pS1, pS2, pS3]
          refine zW 10 (undef) rfl (Or.inr ⟨by rfl, rfl⟩) hHeld ?_
          try simp only [Act.put, pS1, pS2, pS3]
          refine zW 11 (undef) rfl (Or.inr ⟨by rfl, rfl⟩) hHeld ?_
          try simp only [Act.put, pS1, pS2, pS3]
          refine zW 12 (undef) rfl (Or.inr ⟨by rfl, rfl⟩) hHeld ?_
          try simp only [Act.put, pS1, pS2, pS3]
          refine zW 13 (undef) rfl (Or.inr ⟨by rfl, rfl⟩) hHeld ?_
          try simp only [Act.put, pS1, pS2, pS3]
          refine zW 14 (.bool false) rfl (Or.inl ⟨by rfl, by intro w hSw; go_simp⟩) hHeld ?_
          try simp only [Act.put, pS1, pS2, pS3]
          refine zW 15 (.bool false) rfl (Or.inl ⟨by rfl, by intro w hSw; go_simp⟩) hHeld ?_
          try simp only [Act.put, pS1, pS2, pS3]
          refine wpAnyH_done (by kernel_rfl) ?_ _
          have HBD := hidk HB2.out.drew
          have HRD : Hid (w2.drew.rangeAt w.heap.size 1 V.toList) := HRV.out w2 HG2.out
          go_wp2
          go_ret
          exact ⟨by rw [HE2.out]; rfl, HBD.out⟩
      · obtain ⟨j, HJ, hj⟩ : ∃ j, Hid (j + 1 = len) ∧ j < len := ⟨len - 1, by show _ = _; omega, by omega⟩
        have hsub : IntKind.i64.wrap ((len : Int) - 1) = (j : Int) := by rw [wrap_int _ (by omega) (by omega)]; have := HJ.out; omega
        have h0n : 0 < len := by omega
        have h0' : decide ((0 : Int) < (len : Int)) = true := by rw [decide_eq_true_eq]; omega
        obtain ⟨g, o, rfl, hg⟩ := HIR.out.at h0n
        have hjl : j < l.length := by rw [HLN.out]; exact hj
        obtain ⟨py, Hpy⟩ : ∃ p, Hid (l[j].p = p) := ⟨_, hidk rfl⟩
        have ix := fun W => index_item W g o len cap j .i64 hj
        have HLO : Hid (lowB l px = decide (px < py)) := by show _ = _; rw [lowB_some (j := j) (by rw [HLN.out]; exact HJ.out), Hpy.out]
        have HCJ : Hid (∀ W, Below w.heap.size w W → W.cell? ⟨g, o + 110 * j, none⟩ = some (.int .i64 py)) := fun W hb => by rw [← Hpy.out]; exact (HIR.out.keep hb).cell j hjl 0 _ rfl
        clear Hpy hjl
        by_cases hp : px < py
        · have d1 : decide (px < py) = true := decide_eq_true hp
          have HE := hidk (HLF.out (HLO.out.trans d1))
          go_enter Tryd.func18, Tryd.ntmps18
          go_wp2_with fail
          refine (HRL.out _ HB.out).mono ?_
          rintro e w1 ⟨rfl, hb1⟩
          have HB1 := hidk (HB.out.trans (hb1.mono HB.out.size))
          have HG1 := hidk ((hb1.block _ (heap_lt HG.out)).trans HG.out)
          clear hb1
          go_wp2_with (first
            | (show aD 10 _ _ _ _ _ _ _ _ _ _ _; refine wpList_load_row_w (by rfl) 48 (.tmp 3) rfl w.heap.size rfl 48 X (0, 0) _ HG1.out Tryd.underlying48 rfl HSX.out ?_; try simp only [Act.put, pS1, pS2, pS3])
            | fail)
          refine (HRI.out _).mono ?_
          rintro e w2 ⟨rfl, hb2⟩
          have HB2 := hidk (HB1.out.trans (hb2.mono HB1.out.size))
          have HG2 := hidk ((hb2.block _ (heap_lt HG1.out)).trans HG1.out)
          clear hb2
          obtain ⟨c0, c1, c2, c3⟩ := HCL.out _ _ HG2.out
          have hS : w2.cell? ⟨w.heap.size, 0, none⟩ = some (.int .i64 px) ∧ w2.cell? ⟨g, o + 110 * j, none⟩ = some (.int .i64 py) := ⟨c0, HCJ.out _ HB2.out⟩
          go_wp2
          refine wp_region_held_drew (S := (fun V => V.cell? ⟨w.heap.size, 0, none⟩ = some (.int .i64 px) ∧ V.cell? ⟨g, o + 110 * j, none⟩ = some (.int .i64 py))) (by kernel_rfl) hS (fun hHeld => ?_)
          refine zW 0 (.slice (some ⟨g, o, none⟩) len cap) rfl (Or.inl ⟨by rfl, by intro w hSw; go_simp⟩) hHeld ?_
          try simp only [Act.put, pS1, pS2, pS3]
          refine zW 1 (.int .i64 len) rfl (Or.inl ⟨by rfl, by intro w hSw; go_simp⟩) hHeld ?_
          try simp only [Act.put, pS1, pS2, pS3]
          refine zW 2 (.bool true) rfl (Or.inl ⟨by rfl, by intro w hSw; go_simp⟩) hHeld ?_
          try simp only [Act.put, pS1, pS2, pS3]
          refine zW 3 (.bool true) rfl (Or.inl ⟨by rfl, by intro w hSw; go_simp⟩) hHeld ?_
          try simp only [Act.put, pS1, pS2, pS3]
          refine zW 4 (.pointer (some ⟨w.heap.size, 0, none⟩)) rfl (Or.inl ⟨by rfl, by intro w hSw; go_simp⟩) hHeld ?_
          try simp only [Act.put, pS1, pS2, pS3]
          refine zW 5 (.int .i64 px) rfl (Or.inl ⟨by rfl, by intro W hSw; have h1 := hSw.1; go_simp⟩) hHeld ?_
          try simp only [Act.put, pS1, pS2, pS3]
          refine zW 6 (.slice (some ⟨g, o, none⟩) len cap) rfl (Or.inl ⟨by rfl, by intro w hSw; go_simp⟩) hHeld ?_
          try simp only [Act.put, pS1, pS2, pS3]
          refine zW 7 (.slice (some ⟨g, o, none⟩) len cap) rfl (Or.inl ⟨by rfl, by intro w hSw; go_simp⟩) hHeld ?_
          try simp only [Act.put, pS1, pS2, pS3]
          refine zW 8 (.int .i64 len) rfl (Or.inl ⟨by rfl, by intro w hSw; go_simp⟩) hHeld ?_
          try simp only [Act.put, pS1, pS2, pS3]
          refine zW 9 (.int .i64 j) rfl (Or.inl ⟨by rfl, by intro W hSw; have := hsub; go_simp⟩) hHeld ?_
          try simp only [Act.put, pS1, pS2, pS3]
          refine zW 10 (.pointer (some ⟨g, o + 110 * j, none⟩)) rfl (Or.inl ⟨by rfl, by intro W hSw; have := ix W; go_simp⟩) hHeld ?_
          try simp only [Act.put, pS1, pS2, pS3]
          refine zW 11 (.pointer (some ⟨g, o + 110 * j, none⟩)) rfl (Or.inl ⟨by rfl, by intro w hSw; go_simp⟩) hHeld ?_
          try simp only [Act.put, pS1, pS2, pS3]
          refine zW 12 (.int .i64 py) rfl (Or.inl ⟨by rfl, by intro W hSw; have h1 := hSw.2; go_simp⟩) hHeld ?_
          try simp only [Act.put, pS1, pS2, pS3]
          refine zW 13 (.bool true) rfl (Or.inl ⟨by rfl, by intro w hSw; go_simp⟩) hHeld ?_
          try simp only [Act.put, pS1, pS2, pS3]
          refine zW 14 (.bool true) rfl (Or.inl ⟨by rfl, by intro w hSw; go_simp⟩) hHeld ?_
          try simp only [Act.put, pS1, pS2, pS3]
          refine zW 15 (.bool true) rfl (Or.inl ⟨by rfl, by intro w hSw; go_simp⟩) hHeld ?_
          try simp only [Act.put, pS1, pS2, pS3]
          refine wpAnyH_done (by kernel_rfl) ?_ _
          go_wp2
          go_ret
          exact ⟨by rw [HE.out]; rfl, HB2.out.drew⟩
        · have d1 : decide (px < py) = false := decide_eq_false hp
          have hlow : lowB l px = false := HLO.out.trans d1
          by_cases hfull : len = 2000
          · omega
          · have bf : ((len : Int) == 2000) = false := by rw [beq_eq_false_iff_ne]; omega
            by_cases hk : kx = 1
            · have bk : (kx == 1) = true := by simp [hk]
              obtain ⟨b3, H3⟩ : ∃ b, Hid (oldL l cx sx = b) := ⟨_, hidk rfl⟩
              rw [H3.out] at HOL HLA
              have HE := hidk (HLA.out hlow hfull)
              cases b3
              · have HE2 : Hid (mayE l x = 0) := by show _ = _; rw [HE.out]; simp [hk]
                go_enter Tryd.func18, Tryd.ntmps18
                go_wp2_with fail
                refine (HRL.out _ HB.out).mono ?_
                rintro e w1 ⟨rfl, hb1⟩
                have HB1 := hidk (HB.out.trans (hb1.mono HB.out.size))
                have HG1 := hidk ((hb1.block _ (heap_lt HG.out)).trans HG.out)
                clear hb1
                go_wp2_with (first
                  | (show aD 10 _ _ _ _ _ _ _ _ _ _ _; refine wpList_load_row_w (by rfl) 48 (.tmp 3) rfl w.heap.size rfl 48 X (0, 0) _ HG1.out Tryd.underlying48 rfl HSX.out ?_; try simp only [Act.put, pS1, pS2, pS3])
                  | fail)
                refine (HRI.out _).mono ?_
                rintro e w2 ⟨rfl, hb2⟩
                have HB2 := hidk (HB1.out.trans (hb2.mono HB1.out.size))
                have HG2 := hidk ((hb2.block _ (heap_lt HG1.out)).trans HG1.out)
                clear hb2
                obtain ⟨c0, c1, c2, c3⟩ := HCL.out _ _ HG2.out
                have hS : w2.cell? ⟨w.heap.size, 0, none⟩ = some (.int .i64 px) ∧ w2.cell? ⟨g, o + 110 * j, none⟩ = some (.int .i64 py) := ⟨c0, HCJ.out _ HB2.out⟩
                go_wp2
                refine wp_region_held_drew (S := (fun V => V.cell? ⟨w.heap.size, 0, none⟩ = some (.int .i64 px) ∧ V.cell? ⟨g, o + 110 * j, none⟩ = some (.int .i64 py))) (by kernel_rfl) hS (fun hHeld => ?_)
                refine zW 0 (.slice (some ⟨g, o, none⟩) len cap) rfl (Or.inl ⟨by rfl, by intro w hSw; go_simp⟩) hHeld ?_
                try simp only [Act.put, pS1, pS2, pS3]
                refine zW 1 (.int .i64 len) rfl (Or.inl ⟨by rfl, by intro w hSw; go_simp⟩) hHeld ?_
                try simp only [Act.put, pS1, pS2, pS3]
                refine zW 2 (.bool true) rfl (Or.inl ⟨by rfl, by intro w hSw; go_simp⟩) hHeld ?_
                try simp only [Act.put, pS1, pS2, pS3]
                refine zW 3 (.bool true) rfl (Or.inl ⟨by rfl, by intro w hSw; go_simp⟩) hHeld ?_
                try simp only [Act.put, pS1, pS2, pS3]
                refine zW 4 (.pointer (some ⟨w.heap.size, 0, none⟩)) rfl (Or.inl ⟨by rfl, by intro w hSw; go_simp⟩) hHeld ?_
                try simp only [Act.put, pS1, pS2, pS3]
                refine zW 5 (.int .i64 px) rfl (Or.inl ⟨by rfl, by intro W hSw; have h1 := hSw.1; go_simp⟩) hHeld ?_
                try simp only [Act.put, pS1, pS2, pS3]
                refine zW 6 (.slice (some ⟨g, o, none⟩) len cap) rfl (Or.inl ⟨by rfl, by intro w hSw; go_simp⟩) hHeld ?_
                try simp only [Act.put, pS1, pS2, pS3]
                refine zW 7 (.slice (some ⟨g, o, none⟩) len cap) rfl (Or.inl ⟨by rfl, by intro w hSw; go_simp⟩) hHeld ?_
                try simp only [Act.put, pS1, pS2, pS3]
                refine zW 8 (.int .i64 len) rfl (Or.inl ⟨by rfl, by intro w hSw; go_simp⟩) hHeld ?_
                try simp only [Act.put, pS1, pS2, pS3]
                refine zW 9 (.int .i64 j) rfl (Or.inl ⟨by rfl, by intro W hSw; have := hsub; go_simp⟩) hHeld ?_
                try simp only [Act.put, pS1, pS2, pS3]
                refine zW 10 (.pointer (some ⟨g, o + 110 * j, none⟩)) rfl (Or.inl ⟨by rfl, by intro W hSw; have := ix W; go_simp⟩) hHeld ?_
                try simp only [Act.put, pS1, pS2, pS3]
                refine zW 11 (.pointer (some ⟨g, o + 110 * j, none⟩)) rfl (Or.inl ⟨by rfl, by intro w hSw; go_simp⟩) hHeld ?_
                try simp only [Act.put, pS1, pS2, pS3]
                refine zW 12 (.int .i64 py) rfl (Or.inl ⟨by rfl, by intro W hSw; have h1 := hSw.2; go_simp⟩) hHeld ?_
                try simp only [Act.put, pS1, pS2, pS3]
                refine zW 13 (.bool false) rfl (Or.inl ⟨by rfl, by intro w hSw; go_simp⟩) hHeld ?_
                try simp only [Act.put, pS1, pS2, pS3]
                refine zW 14 (.bool false) rfl (Or.inl ⟨by rfl, by intro w hSw; go_simp⟩) hHeld ?_
                try simp only [Act.put, pS1, pS2, pS3]
                refine zW 15 (.bool false) rfl (Or.inl ⟨by rfl, by intro w hSw; go_simp⟩) hHeld ?_
                try simp only [Act.put, pS1, pS2, pS3]
                refine wpAnyH_done (by kernel_rfl) ?_ _
                have HBD := hidk HB2.out.drew
                have HRD : Hid (w2.drew.rangeAt w.heap.size 1 V.toList) := HRV.out w2 HG2.out
                go_wp2_with (first
                  | (show aD 42 _ _ _ _ _ _ _ _ _ _ _; refine wpList_mid_w (by rfl) 46 (.tmp 41) rfl w.heap.size 1 rfl V _ HRD.out Tryd.underlying46 rfl HSV.out ?_; try simp only [Act.put, pS1, pS2, pS3])
                  | fail)
                refine (HOL.out _ HBD.out).mono ?_
                rintro e w3 ⟨rfl, hb3⟩
                have HB3 := hidk (HBD.out.trans (hb3.mono HBD.out.size))
                clear hb3
                go_wp2
                go_ret
                exact ⟨by rw [HE2.out]; rfl, HB3.out⟩
              · have HE2 : Hid (mayE l x = 101) := by show _ = _; rw [HE.out]; simp [hk]
                go_enter Tryd.func18, Tryd.ntmps18
                go_wp2_with fail
                refine (HRL.out _ HB.out).mono ?_
                rintro e w1 ⟨rfl, hb1⟩
                have HB1 := hidk (HB.out.trans (hb1.mono HB.out.size))
                have HG1 := hidk ((hb1.block _ (heap_lt HG.out)).trans HG.out)
                clear hb1
                go_wp2_with (first
                  | (show aD 10 _ _ _ _ _ _ _ _ _ _ _; refine wpList_load_row_w (by rfl) 48 (.tmp 3) rfl w.heap.size rfl 48 X (0, 0) _ HG1.out Tryd.underlying48 rfl HSX.out ?_; try simp only [Act.put, pS1, pS2, pS3])
                  | fail)
                refine (HRI.out _).mono ?_
                rintro e w2 ⟨rfl, hb2⟩
                have HB2 := hidk (HB1.out.trans (hb2.mono HB1.out.size))
                have HG2 := hidk ((hb2.block _ (heap_lt HG1.out)).trans HG1.out)
                clear hb2
                obtain ⟨c0, c1, c2, c3⟩ := HCL.out _ _ HG2.out
                have hS : w2.cell? ⟨w.heap.size, 0, none⟩ = some (.int .i64 px) ∧ w2.cell? ⟨g, o + 110 * j, none⟩ = some (.int .i64 py) := ⟨c0, HCJ.out _ HB2.out⟩
                go_wp2
                refine wp_region_held_drew (S := (fun V => V.cell? ⟨w.heap.size, 0, none⟩ = some (.int .i64 px) ∧ V.cell? ⟨g, o + 110 * j, none⟩ = some (.int .i64 py))) (by kernel_rfl) hS (fun hHeld => ?_)
                refine zW 0 (.slice (some ⟨g, o, none⟩) len cap) rfl (Or.inl ⟨by rfl, by intro w hSw; go_simp⟩) hHeld ?_
                try simp only [Act.put, pS1, pS2, pS3]
                refine zW 1 (.int .i64 len) rfl (Or.inl ⟨by rfl, by intro w hSw; go_simp⟩) hHeld ?_
                try simp only [Act.put, pS1, pS2, pS3]
                refine zW 2 (.bool true) rfl (Or.inl ⟨by rfl, by intro w hSw; go_simp⟩) hHeld ?_
                try simp only [Act.put, pS1, pS2, pS3]
                refine zW 3 (.bool true) rfl (Or.inl ⟨by rfl, by intro w hSw; go_simp⟩) hHeld ?_
                try simp only [Act.put, pS1, pS2, pS3]
                refine zW 4 (.pointer (some ⟨w.heap.size, 0, none⟩)) rfl (Or.inl ⟨by rfl, by intro w hSw; go_simp⟩) hHeld ?_
                try simp only [Act.put, pS1, pS2, pS3]
                refine zW 5 (.int .i64 px) rfl (Or.inl ⟨by rfl, by intro W hSw; have h1 := hSw.1; go_simp⟩) hHeld ?_
                try simp only [Act.put, pS1, pS2, pS3]
                refine zW 6 (.slice (some ⟨g, o, none⟩) len cap) rfl (Or.inl ⟨by rfl, by intro w hSw; go_simp⟩) hHeld ?_
                try simp only [Act.put, pS1, pS2, pS3]
                refine zW 7 (.slice (some ⟨g, o, none⟩) len cap) rfl (Or.inl ⟨by rfl, by intro w hSw; go_simp⟩) hHeld ?_
                try simp only [Act.put, pS1, pS2, pS3]
                refine zW 8 (.int .i64 len) rfl (Or.inl ⟨by rfl, by intro w hSw; go_simp⟩) hHeld ?_
                try simp only [Act.put, pS1, pS2, pS3]
                refine zW 9 (.int .i64 j) rfl (Or.inl ⟨by rfl, by intro W hSw; have := hsub; go_simp⟩) hHeld ?_
                try simp only [Act.put, pS1, pS2, pS3]
                refine zW 10 (.pointer (some ⟨g, o + 110 * j, none⟩)) rfl (Or.inl ⟨by rfl, by intro W hSw; have := ix W; go_simp⟩) hHeld ?_
                try simp only [Act.put, pS1, pS2, pS3]
                refine zW 11 (.pointer (some ⟨g, o + 110 * j, none⟩)) rfl (Or.inl ⟨by rfl, by intro w hSw; go_simp⟩) hHeld ?_
                try simp only [Act.put, pS1, pS2, pS3]
                refine zW 12 (.int .i64 py) rfl (Or.inl ⟨by rfl, by intro W hSw; have h1 := hSw.2; go_simp⟩) hHeld ?_
                try simp only [Act.put, pS1, pS2, pS3]
                refine zW 13 (.bool false) rfl (Or.inl ⟨by rfl, by intro w hSw; go_simp⟩) hHeld ?_
                try simp only [Act.put, pS1, pS2, pS3]
                refine zW 14 (.bool false) rfl (Or.inl ⟨by rfl, by intro w hSw; go_simp⟩) hHeld ?_
                try simp only [Act.put, pS1, pS2, pS3]
                refine zW 15 (.bool false) rfl (Or.inl ⟨by rfl, by intro w hSw; go_simp⟩) hHeld ?_
                try simp only [Act.put, pS1, pS2, pS3]
                refine wpAnyH_done (by kernel_rfl) ?_ _
                have HBD := hidk HB2.out.drew
                have HRD : Hid (w2.drew.rangeAt w.heap.size 1 V.toList) := HRV.out w2 HG2.out
                go_wp2_with (first
                  | (show aD 42 _ _ _ _ _ _ _ _ _ _ _; refine wpList_mid_w (by rfl) 46 (.tmp 41) rfl w.heap.size 1 rfl V _ HRD.out Tryd.underlying46 rfl HSV.out ?_; try simp only [Act.put, pS1, pS2, pS3])
                  | fail)
                refine (HOL.out _ HBD.out).mono ?_
                rintro e w3 ⟨rfl, hb3⟩
                have HB3 := hidk (HBD.out.trans (hb3.mono HBD.out.size))
                clear hb3
                go_wp2
                go_ret
                exact ⟨by rw [HE2.out]; rfl, HB3.out⟩
            · have bk : (kx == 1) = false := by simp [hk]
              have HE2 : Hid (mayE l x = 0) := by show _ = _; rw [HLA.out hlow hfull]; simp [hk]
              go_enter Tryd.func18, Tryd.ntmps18
              go_wp2_with fail
              refine (HRL.out _ HB.out).mono ?_
              rintro e w1 ⟨rfl, hb1⟩
              have HB1 := hidk (HB.out.trans (hb1.mono HB.out.size))
              have HG1 := hidk ((hb1.block _ (heap_lt HG.out)).trans HG.out)
              clear hb1
              go_wp2_with (first
                | (show aD 10 _ _ _ _ _ _ _ _ _ _ _; refine wpList_load_row_w (by rfl) 48 (.tmp 3) rfl w.heap.size rfl 48 X (0, 0) _ HG1.out Tryd.underlying48 rfl HSX.out ?_; try simp only [Act.put, pS1, pS2, pS3])
                | fail)
              refine (HRI.out _).mono ?_
              rintro e w2 ⟨rfl, hb2⟩
              have HB2 := hidk (HB1.out.trans (hb2.mono HB1.out.size))
              have HG2 := hidk ((hb2.block _ (heap_lt HG1.out)).trans HG1.out)
              clear hb2
              obtain ⟨c0, c1, c2, c3⟩ := HCL.out _ _ HG2.out
              have hS : w2.cell? ⟨w.heap.size, 0, none⟩ = some (.int .i64 px) ∧ w2.cell? ⟨g, o + 110 * j, none⟩ = some (.int .i64 py) := ⟨c0, HCJ.out _ HB2.out⟩
              go_wp2
              refine wp_region_held_drew (S := (fun V => V.cell? ⟨w.heap.size, 0, none⟩ = some (.int .i64 px) ∧ V.cell? ⟨g, o + 110 * j, none⟩ = some (.int .i64 py))) (by kernel_rfl) hS (fun hHeld => ?_)
              refine zW 0 (.slice (some ⟨g, o, none⟩) len cap) rfl (Or.inl ⟨by rfl, by intro w hSw; go_simp⟩) hHeld ?_
              try simp only [Act.put, pS1, pS2, pS3]
              refine zW 1 (.int .i64 len) rfl (Or.inl ⟨by rfl, by intro w hSw; go_simp⟩) hHeld ?_
              try simp only [Act.put, pS1, pS2, pS3]
              refine zW 2 (.bool true) rfl (Or.inl ⟨by rfl, by intro w hSw; go_simp⟩) hHeld ?_
              try simp only [Act.put, pS1, pS2, pS3]
              refine zW 3 (.bool true) rfl (Or.inl ⟨by rfl, by intro w hSw; go_simp⟩) hHeld ?_
              try simp only [Act.put, pS1, pS2, pS3]
              refine zW 4 (.pointer (some ⟨w.heap.size, 0, none⟩)) rfl (Or.inl ⟨by rfl, by intro w hSw; go_simp⟩) hHeld ?_
              try simp only [Act.put, pS1, pS2, pS3]
              refine zW 5 (.int .i64 px) rfl (Or.inl ⟨by rfl, by intro W hSw; have h1 := hSw.1; go_simp⟩) hHeld ?_
              try simp only [Act.put, pS1, pS2, pS3]
              refine zW 6 (.slice (some ⟨g, o, none⟩) len cap) rfl (Or.inl ⟨by rfl, by intro w hSw; go_simp⟩) hHeld ?_
              try simp only [Act.put, pS1, pS2, pS3]
              refine zW 7 (.slice (some ⟨g, o, none⟩) len cap) rfl (Or.inl ⟨by rfl, by intro w hSw; go_simp⟩) hHeld ?_
              try simp only [Act.put, pS1, pS2, pS3]
              refine zW 8 (.int .i64 len) rfl (Or.inl ⟨by rfl, by intro w hSw; go_simp⟩) hHeld ?_
              try simp only [Act.put, pS1, pS2, pS3]
              refine zW 9 (.int .i64 j) rfl (Or.inl ⟨by rfl, by intro W hSw; have := hsub; go_simp⟩) hHeld ?_
              try simp only [Act.put, pS1, pS2, pS3]
              refine zW 10 (.pointer (some ⟨g, o + 110 * j, none⟩)) rfl (Or.inl ⟨by rfl, by intro W hSw; have := ix W; go_simp⟩) hHeld ?_
              try simp only [Act.put, pS1, pS2, pS3]
              refine zW 11 (.pointer (some ⟨g, o + 110 * j, none⟩)) rfl (Or.inl ⟨by rfl, by intro w hSw; go_simp⟩) hHeld ?_
              try simp only [Act.put, pS1, pS2, pS3]
              refine zW 12 (.int .i64 py) rfl (Or.inl ⟨by rfl, by intro W hSw; have h1 := hSw.2; go_simp⟩) hHeld ?_
              try simp only [Act.put, pS1, pS2, pS3]
              refine zW 13 (.bool false) rfl (Or.inl ⟨by rfl, by intro w hSw; go_simp⟩) hHeld ?_
              try simp only [Act.put, pS1, pS2, pS3]
              refine zW 14 (.bool false) rfl (Or.inl ⟨by rfl, by intro w hSw; go_simp⟩) hHeld ?_
              try simp only [Act.put, pS1, pS2, pS3]
              refine zW 15 (.bool false) rfl (Or.inl ⟨by rfl, by intro w hSw; go_simp⟩) hHeld ?_
              try simp only [Act.put, pS1, pS2, pS3]
              refine wpAnyH_done (by kernel_rfl) ?_ _
              have HBD := hidk HB2.out.drew
              have HRD : Hid (w2.drew.rangeAt w.heap.size 1 V.toList) := HRV.out w2 HG2.out
              go_wp2
              go_ret
              exact ⟨by rw [HE2.out]; rfl, HBD.out⟩
end Go.Proofs.YtjalebncfnekiaaDoor
/- What the calls of package history answer, at this commit of the code. -/
namespace Go.Proofs.YtjalebncfnekiaaDoor
open Go.RowKit Sums Nums
set_option maxRecDepth 100000
set_option linter.unusedVariables false
theorem historyC : HistoryC where
  check := fun a len cap l w h => hCheck entryC a len cap l w h
  may := fun a len cap l x w h hx X HX => hMay entryC a len cap l x hx w h X HX
  root := fun a len cap l n w h hn D HD hT => hRoot entryC a len cap l n w h hT D HD
  head := fun a len cap l n r e t w h hn hr he ht R HR hT => hHead entryC headC a len cap l n r e t w h hn hr he ht hT R HR
  cons := fun a len cap l m n w h hm hn hT => hCons entryC a len cap l m n w h hT
theorem anchorsC : AnchorsC where
  latest := fun a len cap l r w h hr R HR => anLatest a len cap l r w h R HR
  place := fun a len cap l r s w h hr hs => anPlace a len cap l r s w h
  adm := fun master a len cap l s m p pl pc proof w M C HM HC hm h hs im hp hT => anAdmit historyC headC P5.checkC master a len cap l s m p pl pc proof w M C HM HC hm h hs im hp hT
  apart := fun master s t w M C D HM HC HD hm hs ht hT => anApart headC master s t w M C D HM HC HD hm hs ht hT
end Go.Proofs.YtjalebncfnekiaaDoor
