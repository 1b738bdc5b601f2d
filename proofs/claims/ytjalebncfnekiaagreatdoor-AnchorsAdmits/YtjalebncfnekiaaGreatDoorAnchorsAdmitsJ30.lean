/- Texts of our own that the row of AnchorsAdmits leans on, part 30. -/
import Derived.Test.YtjalebncfnekiaaGreatDoorAnchorsAdmitsJ0
import Derived.Test.YtjalebncfnekiaaGreatDoorAnchorsAdmitsJ20
import Derived.Test.YtjalebncfnekiaaGreatDoorAnchorsAdmitsJ25
import Derived.Test.YtjalebncfnekiaaGreatDoorAnchorsAdmitsJ27
import Derived.Test.YtjalebncfnekiaaGreatDoorAnchorsAdmitsJ29
/- The document's Admit and Apart. -/
namespace Go.Proofs.YtjalebncfnekiaaGreatDoor
open Go.RowKit Nums Sums
set_option linter.unusedVariables false
set_option linter.unusedSimpArgs false
set_option maxRecDepth 100000
theorem cells_dE (h : HdT) (d : List UInt8) (hd : h.d.length = 32) : ((hcells h).toArray.toList.take 3 ++ cellsOf d ++ (hcells h).toArray.toList.drop (3 + 32)).toArray = (hcells ⟨h.r, h.e, h.s, d, h.t⟩).toArray := by
  have hl : (cellsOf h.d).length = 32 := by rw [cellsOf_length, hd]
  have e1 : (hcells h).toArray.toList.take 3 = [.int .i64 h.r, .int .i64 h.e, .int .i64 h.s] := rfl
  have e2 : (hcells h).toArray.toList.drop (3 + 32) = [.int .i64 h.t] := by
    show (hcells h).drop 35 = _
    unfold hcells
    rw [List.append_assoc, List.drop_append]
    show ([] : List Value) ++ List.drop 32 (cellsOf h.d ++ [.int .i64 h.t]) = _
    rw [List.nil_append, List.drop_append_of_le_length (by omega), List.drop_of_length_le (by omega)]
    rfl
  rw [e1, e2]
  rfl
set_option maxHeartbeats 16000000 in
theorem refAdmit_any (master : List UInt8) (a : Option Addr) (len cap : Nat) (l : List ItT) (s : SgT) (m : Int) (p : Option Addr) (pl pc : Nat) (proof : List (List UInt8)) (w : World) (K A : Array Value) (HK : Hid (K = (cellsOf master).toArray)) (HA : Hid (A = (scells s).toArray)) (hm : master.length = 32) (h : IReads w a len cap l) (hlen : len ≤ 1000000) (hs : InS s) (im : In64 m) (hp : LReads w p pl pc proof) (hT : Table 0 w) :
    Calls Tryz.prog 9 #[.agg K, .slice a len cap, .agg A, .int .i64 m, .slice p pl pc] w fun e w' => e = .returned (.int .i64 (admE master l s m proof)) ∧ Below w.heap.size w w' := by
  have hnot : ∀ (x : Bool) (w : World), (Op.unary .not (.bool x)).run Tryz.prog w = .ok (.bool (!x)) w := fun _ _ => rfl
  have H0 := hidk (heldK w K A)
  have HSK : Hid ((Tryz.prog.info? 23).map (·.size) = some K.size) := by show _ = _; rw [sizeY, HK.out]; simp [cellsOf_length, hm]
  have HSA : Hid ((Tryz.prog.info? 29).map (·.size) = some A.size) := by show _ = _; rw [sizeS, HA.out]; simp [scells_length _ hs.h.d hs.g]
  obtain ⟨ZH, HZH, HAH, HBH, H36⟩ := noughtsH
  obtain ⟨ZS, HZS, HAS, HBS, H69⟩ := noughtsS
  obtain ⟨x, Hx⟩ : ∃ x, Hid (admE master l s m proof = x) := ⟨_, hidk rfl⟩
  rw [Hx.out]
  obtain ⟨v, Hv⟩ : ∃ v, Hid (verE master s = v) := ⟨_, hidk rfl⟩
  obtain ⟨lh, Hl⟩ : ∃ lh, Hid (lastH (latA l s.h.r) = lh) := ⟨_, hidk rfl⟩
  obtain ⟨b, Hb⟩ : ∃ b, Hid (rightL l = b) := ⟨_, hidk rfl⟩
  obtain ⟨c, Hc⟩ : ∃ c, Hid (P5.conE m lh.d s.h.s s.h.d proof = c) := ⟨_, hidk rfl⟩
  obtain ⟨y, Hy⟩ : ∃ y, Hid ((latA l s.h.r).isSome = y) := ⟨_, hidk rfl⟩
  have hld : lh.d.length = 32 := by rw [← Hl.out]; exact lastH_d _ (lat_okd h.ok)
  have hok := latS_ok (l := l) (r := s.h.r) h.ok
  obtain ⟨R, HR, HSR, H1R, N36⟩ := head_row5 lh hld
  obtain ⟨T, HTT, HST, H1T, N69⟩ := sign_row (latS l s.h.r) hok.1 hok.2
  have HZT : Hid (ZS.size = T.size) := by show _ = _; rw [H69.out, N69.out]
  have HZR : Hid (ZH.size = R.size) := by show _ = _; rw [H36.out, N36.out]
  have H1Z : Hid (ZH.all (·.oneCell') = true) := by show _ = _; rw [HZH.out]; exact one_cells _
  have HSZ : Hid ((Tryz.prog.info? 27).map (·.size) = some ZH.size) := by show _ = _; rw [sizeH, H36.out]
  have HAD : Hid ((if b = false then 120 else if v = 0 then (if s.h.e < lh.e ∨ s.h.s < lh.s ∨ m ≠ lh.s then 122 else if c = 0 then 0 else 121) else v) = x) := by
    show _ = _
    rw [← Hx.out, ← Hc.out, ← Hl.out, ← Hv.out, ← Hb.out]
    rfl
  obtain ⟨rr, Hrr⟩ : ∃ k, Hid (s.h.r = k) := ⟨_, hidk rfl⟩
  obtain ⟨ee, Hee⟩ : ∃ k, Hid (s.h.e = k) := ⟨_, hidk rfl⟩
  obtain ⟨zz, Hzz⟩ : ∃ k, Hid (s.h.s = k) := ⟨_, hidk rfl⟩
  obtain ⟨le, Hle⟩ : ∃ k, Hid (lh.e = k) := ⟨_, hidk rfl⟩
  obtain ⟨lz, Hlz⟩ : ∃ k, Hid (lh.s = k) := ⟨_, hidk rfl⟩
  obtain ⟨D, HD⟩ : ∃ D : Array Value, Hid (D = (cellsOf s.h.d).toArray) := ⟨_, hidk rfl⟩
  obtain ⟨E, HE⟩ : ∃ D : Array Value, Hid (D = (cellsOf lh.d).toArray) := ⟨_, hidk rfl⟩
  have HSD : Hid ((Tryz.prog.info? 25).map (·.size) = some D.size) := by show _ = _; rw [size23, HD.out]; simp [cellsOf_length, hs.h.d]
  have HSE : Hid ((Tryz.prog.info? 25).map (·.size) = some E.size) := by show _ = _; rw [size23, HE.out]; simp [cellsOf_length, hld]
  have H1E : Hid (E.all (·.oneCell') = true) := by show _ = _; rw [HE.out]; exact cellsOf_all _
  have HE32 : Hid (E.size = 32) := by show _ = _; rw [HE.out]; simp [cellsOf_length, hld]
  have CH : Hid (∀ W, Below w.heap.size w W → Calls Tryz.prog 22 #[.slice a len cap] W fun e w' => e = .returned (.bool b) ∧ Below W.heap.size W w') := fun W hb => by rw [← Hb.out]; exact refRightL_any a len cap l W (h.keep hb)
  have VE : Hid (∀ W, Below w.heap.size w W → Calls Tryz.prog 23 #[.agg K, .agg A] W fun e w' => e = .returned (.int .i64 v) ∧ Below W.heap.size W w') := fun W hb => by rw [← Hv.out]; exact refVerify_any master s W K A HK HA hm hs.h.d hs.g (hT.keep hb)
  have LT : Hid (∀ W, Below w.heap.size w W → Calls Tryz.prog 24 #[.slice a len cap, .int .i64 rr] W fun e w' => e = .returned (.tuple #[.agg T, .bool y]) ∧ Below W.heap.size W w') := fun W hb => by rw [← Hrr.out, ← Hy.out]; exact refLatest_any a len cap l s.h.r W (h.keep hb) hlen T HTT
  have CO : Hid (∀ W, Below w.heap.size w W → Calls Tryz.prog 26 #[.int .i64 m, .agg E, .int .i64 zz, .agg D, .slice p pl pc] W fun e w' => e = .returned (.int .i64 c) ∧ Below W.heap.size W w') := fun W hb => by rw [← Hc.out, ← Hzz.out]; exact P5.refCon_any m lh.d s.h.s s.h.d proof p pl pc W E D HE HD hld hs.h.d im hs.h.s (hp.keep hb) (hT.keep hb)
  have HCA : Hid (∀ V : World, V.heap[w.heap.size + 1]? = some (.cells A 29 (0, 0)) → V.cell? ⟨w.heap.size + 1, 0, none⟩ = some (.int .i64 rr) ∧ V.cell? ⟨w.heap.size + 1, 1, none⟩ = some (.int .i64 ee) ∧ V.cell? ⟨w.heap.size + 1, 2, none⟩ = some (.int .i64 zz) ∧ V.rangeAt (w.heap.size + 1) 3 D.toList) := fun V hv => by
    have ra := hrow_of hs.h.d (sh_row HA hv)
    refine ⟨by rw [← Hrr.out]; simpa using ra.r, by rw [← Hee.out]; simpa using ra.e, by rw [← Hzz.out]; simpa using ra.s, by rw [HD.out]; simpa using ra.d⟩
  have HCL : Hid (∀ (V : World) (g : Nat), V.heap[g]? = some (.cells R 27 (0, 0)) → V.cell? ⟨g, 1, none⟩ = some (.int .i64 le) ∧ V.cell? ⟨g, 2, none⟩ = some (.int .i64 lz) ∧ V.rangeAt g 3 E.toList) := fun V g hv => by
    have ra := hd_row hld HR hv
    refine ⟨by rw [← Hle.out]; simpa using ra.e, by rw [← Hlz.out]; simpa using ra.s, by rw [HE.out]; simpa using ra.d⟩
  have HYT : Hid (y = true → ∀ (V : World) (g : Nat), V.heap[g]? = some (.cells T 29 (0, 0)) → V.rangeAt g 0 R.toList) := fun hy V g hv => by
    have h0 := sh_row HTT hv
    have e : (latS l s.h.r).h = lh := by
      have := Hy.out.trans hy
      rw [← Hl.out]
      unfold latS
      cases hl : latA l s.h.r with
      | none => rw [hl] at this; cases this
      | some s => rfl
    rw [e] at h0
    rw [HR.out]
    exact h0
  have HYF : Hid (y = false → (∀ (V : World) (g : Nat), V.heap[g]? = some (.cells T 29 (0, 0)) → V.rangeAt g 0 ZH.toList) ∧ (ZH.toList.take 3 ++ E.toList ++ ZH.toList.drop (3 + E.size)).toArray = R ∧ (∀ W, Below w.heap.size w W → Calls Tryz.prog 25 #[.string ⟨#[]⟩] W fun e w' => e = .returned (.agg E) ∧ Below W.heap.size W w')) := fun hy => by
    have hnone : latA l s.h.r = none := by
      have := Hy.out.trans hy
      cases hl : latA l s.h.r with
      | none => rfl
      | some s => rw [hl] at this; cases this
    have elh : lh = ⟨0, 0, 0, sumD [], 0⟩ := by rw [← Hl.out, hnone]; rfl
    refine ⟨fun V g hv => ?_, ?_, fun W hb => refSum_any ⟨#[]⟩ W (by decide) (hT.keep hb) E (by show _ = _; rw [HE.out, elh])⟩
    · have h0 := sh_row HTT hv
      have e : (latS l s.h.r).h = zeroH := by unfold latS; rw [hnone]; rfl
      rw [e] at h0
      rw [HZH.out]
      exact h0
    · rw [HE32.out, HZH.out, HE.out, HR.out, elh]
      exact cells_dE zeroH (sumD []) rfl
  rw [Hee.out, Hzz.out, Hle.out, Hlz.out] at HAD
  have H3E : Hid (3 + E.size ≤ ZH.size) := by show _ ≤ _; rw [HE32.out, H36.out]; omega
  clear HK HA hm h hs im hp hT HZH HBH H36 H69 HZS HBS N36 N69 Hx Hv Hl Hb Hc hld hok HR HTT Hrr Hee Hzz Hle Hlz HD HE Hy hlen HE32
  go_enter Tryz.func9, Tryz.ntmps9
  go_wp2_with fail
  refine (CH.out _ H0.out.b).mono ?_
  rintro e w1 ⟨rfl, hb1⟩
  have H1 := hidk (H0.out.keep hb1)
  clear hb1 H0 CH
  cases b
  · obtain rfl : 120 = x := HAD.out
    go_wp2
    go_ret
    exact ⟨rfl, H1.out.b⟩
  have HAD2 : Hid ((if v = 0 then (if ee < le ∨ zz < lz ∨ m ≠ lz then 122 else if c = 0 then 0 else 121) else v) = x) := HAD.out
  clear HAD
  go_wp2_with (first
    | ((with_reducible show aD 18 _ _ _ _ _ _ _ _ _ _ _); refine wpList_load_row_w (by rfl) 23 (.tmp 5) rfl w.heap.size rfl 23 K (0, 0) _ H1.out.k Tryz.underlying23 rfl HSK.out ?_; try simp only [Act.put, pS1, pS2, pS3])
    | ((with_reducible show aD 19 _ _ _ _ _ _ _ _ _ _ _); refine wpList_load_row_w (by rfl) 29 (.tmp 7) rfl (w.heap.size + 1) rfl 29 A (0, 0) _ H1.out.a Tryz.underlying29 rfl HSA.out ?_; try simp only [Act.put, pS1, pS2, pS3])
    | fail)
  refine (VE.out _ H1.out.b).mono ?_
  rintro e w2 ⟨rfl, hb2⟩
  have H2 := hidk (H1.out.keep hb2)
  clear hb2 H1 VE
  by_cases hv0 : v = 0
  · subst hv0
    have HAD3 : Hid ((if ee < le ∨ zz < lz ∨ m ≠ lz then 122 else if c = 0 then 0 else 121) = x) := HAD2.out
    clear HAD2
    obtain ⟨cr, ce, cz, HD2⟩ := HCA.out _ H2.out.a
    clear HD2
    go_wp2_with fail
    refine (LT.out _ H2.out.b).mono ?_
    rintro e w3 ⟨rfl, hb3⟩
    have H3 := hidk (H2.out.keep hb3)
    clear hb3 H2 LT cr ce cz
    cases y
    · replace HYF := hidk (HYF.out rfl)
      clear HYT
      go_wp2_with (first
        | ((with_reducible show aD 12 _ _ _ _ _ _ _ _ _ _ _); refine wpList_new_var rfl 29 rfl ZS HAS.out ?_; intro g12 w4 HM12; have HR12 := hidk HM12.out.row; try simp only [Act.put, pS1, pS2, pS3])
        | (refine wpList_set_var rfl 29 (.tmp 12) (.tmp 30) rfl g12 T rfl rfl 29 ZS HR12.out HST.out HZT.out H1T.out ?_; intro w5 HW12; have hb5 : Below w3.heap.size w3 w5 := HW12.out.below _ _ HM12.out.below (by rw [HM12.out.new]; exact Nat.le_refl _); have H5 := hidk (H3.out.keep hb5); have HRT := hidk (HYF.out.1 _ _ HW12.out.row); clear hb5; try simp only [Act.put, pS1, pS2, pS3])
        | ((with_reducible show aD 33 _ _ _ _ _ _ _ _ _ _ _); refine wpList_mid_w (by rfl) 27 (.tmp 32) rfl g12 0 rfl ZH _ HRT.out Tryz.underlying27 rfl HSZ.out ?_; try simp only [Act.put, pS1, pS2, pS3])
        | ((with_reducible show aD 14 _ _ _ _ _ _ _ _ _ _ _); refine wpList_new_var rfl 27 rfl ZH HAH.out ?_; intro g14 w6 HM14; have HR14 := hidk HM14.out.row; try simp only [Act.put, pS1, pS2, pS3])
        | (refine wpList_set_var rfl 27 (.tmp 14) (.tmp 33) rfl g14 ZH rfl rfl 27 ZH HR14.out HSZ.out (hidk rfl).out H1Z.out ?_; intro w7 HW14; have hb7 : Below w5.heap.size w5 w7 := HW14.out.below _ _ HM14.out.below (by rw [HM14.out.new]; exact Nat.le_refl _); have H7 := hidk (H5.out.keep hb7); have h14 : w.heap.size + 1 < g14 := (by have := heap_lt H5.out.a; rw [HM14.out.new]; exact this); have HG14 := hidk HW14.out.row; clear hb7 HW14 HM14 HR14 HM12 HR12 HW12; try simp only [Act.put, pS1, pS2, pS3])
        | fail)
      refine (HYF.out.2.2 _ H7.out.b).mono ?_
      rintro e w8 ⟨rfl, hb8⟩
      have H8 := hidk (H7.out.keep hb8)
      have HG8 := hidk ((hb8.block _ (heap_lt HG14.out)).trans HG14.out)
      clear hb8 H7 HG14
      by_cases h1 : ee < le
      · have d1 : decide (ee < le) = true := decide_eq_true h1
        have hx := HAD3.out
        rw [if_pos (.inl h1)] at hx
        subst hx
        clear HAD3 h1
        go_wp2_with (first
          | (refine wpList_set_mid rfl 25 (.tmp 37) (.tmp 36) rfl g14 3 E rfl rfl 27 ZH HG8.out H3E.out HSE.out H1E.out ?_; intro w9 HP; have HPR := HP.out.row; rw [HYF.out.2.1] at HPR; have H9 : Hid (HeldK w K A w9) := ⟨HP.out.below _ _ H8.out.b (by omega), (HP.out.other _ (by omega)).trans H8.out.k, (HP.out.other _ (by omega)).trans H8.out.a⟩; obtain ⟨cr, ce, cz, RD⟩ := HCA.out _ H9.out.a; obtain ⟨ke, kz, RE⟩ := HCL.out _ _ HPR; have HRD := hidk RD; have HRE := hidk RE; clear RD RE; clear HP HPR; try simp only [Act.put, pS1, pS2, pS3])
          | fail)
        go_ret
        exact ⟨rfl, H9.out.b⟩
      · have d1 : decide (ee < le) = false := decide_eq_false h1
        by_cases h2 : zz < lz
        · have d2 : decide (zz < lz) = true := decide_eq_true h2
          have hx := HAD3.out
          rw [if_pos (.inr (.inl h2))] at hx
          subst hx
          clear HAD3 h1 h2
          go_wp2_with (first
            | (refine wpList_set_mid rfl 25 (.tmp 37) (.tmp 36) rfl g14 3 E rfl rfl 27 ZH HG8.out H3E.out HSE.out H1E.out ?_; intro w9 HP; have HPR := HP.out.row; rw [HYF.out.2.1] at HPR; have H9 : Hid (HeldK w K A w9) := ⟨HP.out.below _ _ H8.out.b (by omega), (HP.out.other _ (by omega)).trans H8.out.k, (HP.out.other _ (by omega)).trans H8.out.a⟩; obtain ⟨cr, ce, cz, RD⟩ := HCA.out _ H9.out.a; obtain ⟨ke, kz, RE⟩ := HCL.out _ _ HPR; have HRD := hidk RD; have HRE := hidk RE; clear RD RE; clear HP HPR; try simp only [Act.put, pS1, pS2, pS3])
            | fail)
          go_ret
          exact ⟨rfl, H9.out.b⟩
        · have d2 : decide (zz < lz) = false := decide_eq_false h2
          by_cases h3 : m = lz
          · subst h3
            have hx := HAD3.out
            rw [if_neg (by omega)] at hx
            replace hx := hidk hx
            clear HAD3 h1 h2
            go_wp2_with (first
              | (refine wpList_set_mid rfl 25 (.tmp 37) (.tmp 36) rfl g14 3 E rfl rfl 27 ZH HG8.out H3E.out HSE.out H1E.out ?_; intro w9 HP; have HPR := HP.out.row; rw [HYF.out.2.1] at HPR; have H9 : Hid (HeldK w K A w9) := ⟨HP.out.below _ _ H8.out.b (by omega), (HP.out.other _ (by omega)).trans H8.out.k, (HP.out.other _ (by omega)).trans H8.out.a⟩; obtain ⟨cr, ce, cz, RD⟩ := HCA.out _ H9.out.a; obtain ⟨ke, kz, RE⟩ := HCL.out _ _ HPR; have HRD := hidk RD; have HRE := hidk RE; clear RD RE; clear HP HPR; try simp only [Act.put, pS1, pS2, pS3])
              | ((with_reducible show aD 60 _ _ _ _ _ _ _ _ _ _ _); refine wpList_mid_w (by rfl) 25 (.tmp 59) rfl g14 3 rfl E _ HRE.out Tryz.underlying25 rfl HSE.out ?_; try simp only [Act.put, pS1, pS2, pS3])
              | ((with_reducible show aD 66 _ _ _ _ _ _ _ _ _ _ _); refine wpList_mid_w (by rfl) 25 (.tmp 65) rfl (w.heap.size + 1) 3 rfl D _ HRD.out Tryz.underlying25 rfl HSD.out ?_; try simp only [Act.put, pS1, pS2, pS3])
              | fail)
            refine (CO.out _ H9.out.b).mono ?_
            rintro e w10 ⟨rfl, hb10⟩
            have H10 := hidk (H9.out.keep hb10)
            clear hb10 CO
            by_cases hc0 : c = 0
            · subst hc0
              have hx2 := hx.out
              rw [if_pos rfl] at hx2
              subst hx2
              go_wp2
              go_ret
              exact ⟨rfl, H10.out.b⟩
            · have hx2 := hx.out
              rw [if_neg hc0] at hx2
              subst hx2
              have bc : (!(c == 0)) = true := by simp [hc0]
              have bc2 : (c != 0) = true := by simpa using hc0
              go_wp2
              go_ret
              exact ⟨rfl, H10.out.b⟩
          · have b3 : (!(m == lz)) = true := by simp [h3]
            have b3b : (m != lz) = true := by simpa using h3
            have hx := HAD3.out
            rw [if_pos (.inr (.inr h3))] at hx
            subst hx
            clear HAD3 h1 h2 h3
            go_wp2_with (first
              | (refine wpList_set_mid rfl 25 (.tmp 37) (.tmp 36) rfl g14 3 E rfl rfl 27 ZH HG8.out H3E.out HSE.out H1E.out ?_; intro w9 HP; have HPR := HP.out.row; rw [HYF.out.2.1] at HPR; have H9 : Hid (HeldK w K A w9) := ⟨HP.out.below _ _ H8.out.b (by omega), (HP.out.other _ (by omega)).trans H8.out.k, (HP.out.other _ (by omega)).trans H8.out.a⟩; obtain ⟨cr, ce, cz, RD⟩ := HCA.out _ H9.out.a; obtain ⟨ke, kz, RE⟩ := HCL.out _ _ HPR; have HRD := hidk RD; have HRE := hidk RE; clear RD RE; clear HP HPR; try simp only [Act.put, pS1, pS2, pS3])
              | fail)
            go_ret
            exact ⟨rfl, H9.out.b⟩
    · replace HYT := hidk (HYT.out rfl)
      clear HYF
      by_cases h1 : ee < le
      · have d1 : decide (ee < le) = true := decide_eq_true h1
        have hx := HAD3.out
        rw [if_pos (.inl h1)] at hx
        subst hx
        clear HAD3 h1
        go_wp2_with (first
          | ((with_reducible show aD 12 _ _ _ _ _ _ _ _ _ _ _); refine wpList_new_var rfl 29 rfl ZS HAS.out ?_; intro g12 w4 HM12; have HR12 := hidk HM12.out.row; try simp only [Act.put, pS1, pS2, pS3])
          | (refine wpList_set_var rfl 29 (.tmp 12) (.tmp 30) rfl g12 T rfl rfl 29 ZS HR12.out HST.out HZT.out H1T.out ?_; intro w5 HW12; have hb5 : Below w3.heap.size w3 w5 := HW12.out.below _ _ HM12.out.below (by rw [HM12.out.new]; exact Nat.le_refl _); have H5 := hidk (H3.out.keep hb5); have HRT := hidk (HYT.out _ _ HW12.out.row); clear hb5; try simp only [Act.put, pS1, pS2, pS3])
          | ((with_reducible show aD 33 _ _ _ _ _ _ _ _ _ _ _); refine wpList_mid_w (by rfl) 27 (.tmp 32) rfl g12 0 rfl R _ HRT.out Tryz.underlying27 rfl HSR.out ?_; try simp only [Act.put, pS1, pS2, pS3])
          | ((with_reducible show aD 14 _ _ _ _ _ _ _ _ _ _ _); refine wpList_new_var rfl 27 rfl ZH HAH.out ?_; intro g14 w6 HM14; have HR14 := hidk HM14.out.row; try simp only [Act.put, pS1, pS2, pS3])
          | (refine wpList_set_var rfl 27 (.tmp 14) (.tmp 33) rfl g14 R rfl rfl 27 ZH HR14.out HSR.out HZR.out H1R.out ?_; intro w9 HW14; have hb9 : Below w5.heap.size w5 w9 := HW14.out.below _ _ HM14.out.below (by rw [HM14.out.new]; exact Nat.le_refl _); have H9 := hidk (H5.out.keep hb9); obtain ⟨cr, ce, cz, RD⟩ := HCA.out _ H9.out.a; obtain ⟨ke, kz, RE⟩ := HCL.out _ _ HW14.out.row; have HRD := hidk RD; have HRE := hidk RE; clear RD RE; clear hb9 HW14 HM14 HR14 HM12 HR12 HW12; try simp only [Act.put, pS1, pS2, pS3])
          | fail)
        go_ret
        exact ⟨rfl, H9.out.b⟩
      · have d1 : decide (ee < le) = false := decide_eq_false h1
        by_cases h2 : zz < lz
        · have d2 : decide (zz < lz) = true := decide_eq_true h2
          have hx := HAD3.out
          rw [if_pos (.inr (.inl h2))] at hx
          subst hx
          clear HAD3 h1 h2
          go_wp2_with (first
            | ((with_reducible show aD 12 _ _ _ _ _ _ _ _ _ _ _); refine wpList_new_var rfl 29 rfl ZS HAS.out ?_; intro g12 w4 HM12; have HR12 := hidk HM12.out.row; try simp only [Act.put, pS1, pS2, pS3])
            | (refine wpList_set_var rfl 29 (.tmp 12) (.tmp 30) rfl g12 T rfl rfl 29 ZS HR12.out HST.out HZT.out H1T.out ?_; intro w5 HW12; have hb5 : Below w3.heap.size w3 w5 := HW12.out.below _ _ HM12.out.below (by rw [HM12.out.new]; exact Nat.le_refl _); have H5 := hidk (H3.out.keep hb5); have HRT := hidk (HYT.out _ _ HW12.out.row); clear hb5; try simp only [Act.put, pS1, pS2, pS3])
            | ((with_reducible show aD 33 _ _ _ _ _ _ _ _ _ _ _); refine wpList_mid_w (by rfl) 27 (.tmp 32) rfl g12 0 rfl R _ HRT.out Tryz.underlying27 rfl HSR.out ?_; try simp only [Act.put, pS1, pS2, pS3])
            | ((with_reducible show aD 14 _ _ _ _ _ _ _ _ _ _ _); refine wpList_new_var rfl 27 rfl ZH HAH.out ?_; intro g14 w6 HM14; have HR14 := hidk HM14.out.row; try simp only [Act.put, pS1, pS2, pS3])
            | (refine wpList_set_var rfl 27 (.tmp 14) (.tmp 33) rfl g14 R rfl rfl 27 ZH HR14.out HSR.out HZR.out H1R.out ?_; intro w9 HW14; have hb9 : Below w5.heap.size w5 w9 := HW14.out.below _ _ HM14.out.below (by rw [HM14.out.new]; exact Nat.le_refl _); have H9 := hidk (H5.out.keep hb9); obtain ⟨cr, ce, cz, RD⟩ := HCA.out _ H9.out.a; obtain ⟨ke, kz, RE⟩ := HCL.out _ _ HW14.out.row; have HRD := hidk RD; have HRE := hidk RE; clear RD RE; clear hb9 HW14 HM14 HR14 HM12 HR12 HW12; try simp only [Act.put, pS1, pS2, pS3])
            | fail)
          go_ret
          exact ⟨rfl, H9.out.b⟩
        · have d2 : decide (zz < lz) = false := decide_eq_false h2
          by_cases h3 : m = lz
          · subst h3
            have hx := HAD3.out
            rw [if_neg (by omega)] at hx
            replace hx := hidk hx
            clear HAD3 h1 h2
            go_wp2_with (first
              | ((with_reducible show aD 12 _ _ _ _ _ _ _ _ _ _ _); refine wpList_new_var rfl 29 rfl ZS HAS.out ?_; intro g12 w4 HM12; have HR12 := hidk HM12.out.row; try simp only [Act.put, pS1, pS2, pS3])
              | (refine wpList_set_var rfl 29 (.tmp 12) (.tmp 30) rfl g12 T rfl rfl 29 ZS HR12.out HST.out HZT.out H1T.out ?_; intro w5 HW12; have hb5 : Below w3.heap.size w3 w5 := HW12.out.below _ _ HM12.out.below (by rw [HM12.out.new]; exact Nat.le_refl _); have H5 := hidk (H3.out.keep hb5); have HRT := hidk (HYT.out _ _ HW12.out.row); clear hb5; try simp only [Act.put, pS1, pS2, pS3])
              | ((with_reducible show aD 33 _ _ _ _ _ _ _ _ _ _ _); refine wpList_mid_w (by rfl) 27 (.tmp 32) rfl g12 0 rfl R _ HRT.out Tryz.underlying27 rfl HSR.out ?_; try simp only [Act.put, pS1, pS2, pS3])
              | ((with_reducible show aD 14 _ _ _ _ _ _ _ _ _ _ _); refine wpList_new_var rfl 27 rfl ZH HAH.out ?_; intro g14 w6 HM14; have HR14 := hidk HM14.out.row; try simp only [Act.put, pS1, pS2, pS3])
              | (refine wpList_set_var rfl 27 (.tmp 14) (.tmp 33) rfl g14 R rfl rfl 27 ZH HR14.out HSR.out HZR.out H1R.out ?_; intro w9 HW14; have hb9 : Below w5.heap.size w5 w9 := HW14.out.below _ _ HM14.out.below (by rw [HM14.out.new]; exact Nat.le_refl _); have H9 := hidk (H5.out.keep hb9); obtain ⟨cr, ce, cz, RD⟩ := HCA.out _ H9.out.a; obtain ⟨ke, kz, RE⟩ := HCL.out _ _ HW14.out.row; have HRD := hidk RD; have HRE := hidk RE; clear RD RE; clear hb9 HW14 HM14 HR14 HM12 HR12 HW12; try simp only [Act.put, pS1, pS2, pS3])
              | ((with_reducible show aD 60 _ _ _ _ _ _ _ _ _ _ _); refine wpList_mid_w (by rfl) 25 (.tmp 59) rfl g14 3 rfl E _ HRE.out Tryz.underlying25 rfl HSE.out ?_; try simp only [Act.put, pS1, pS2, pS3])
              | ((with_reducible show aD 66 _ _ _ _ _ _ _ _ _ _ _); refine wpList_mid_w (by rfl) 25 (.tmp 65) rfl (w.heap.size + 1) 3 rfl D _ HRD.out Tryz.underlying25 rfl HSD.out ?_; try simp only [Act.put, pS1, pS2, pS3])
              | fail)
            refine (CO.out _ H9.out.b).mono ?_
            rintro e w10 ⟨rfl, hb10⟩
            have H10 := hidk (H9.out.keep hb10)
            clear hb10 CO
            by_cases hc0 : c = 0
            · subst hc0
              have hx2 := hx.out
              rw [if_pos rfl] at hx2
              subst hx2
              go_wp2
              go_ret
              exact ⟨rfl, H10.out.b⟩
            · have hx2 := hx.out
              rw [if_neg hc0] at hx2
              subst hx2
              have bc : (!(c == 0)) = true := by simp [hc0]
              have bc2 : (c != 0) = true := by simpa using hc0
              go_wp2
              go_ret
              exact ⟨rfl, H10.out.b⟩
          · have b3 : (!(m == lz)) = true := by simp [h3]
            have b3b : (m != lz) = true := by simpa using h3
            have hx := HAD3.out
            rw [if_pos (.inr (.inr h3))] at hx
            subst hx
            clear HAD3 h1 h2 h3
            go_wp2_with (first
              | ((with_reducible show aD 12 _ _ _ _ _ _ _ _ _ _ _); refine wpList_new_var rfl 29 rfl ZS HAS.out ?_; intro g12 w4 HM12; have HR12 := hidk HM12.out.row; try simp only [Act.put, pS1, pS2, pS3])
              | (refine wpList_set_var rfl 29 (.tmp 12) (.tmp 30) rfl g12 T rfl rfl 29 ZS HR12.out HST.out HZT.out H1T.out ?_; intro w5 HW12; have hb5 : Below w3.heap.size w3 w5 := HW12.out.below _ _ HM12.out.below (by rw [HM12.out.new]; exact Nat.le_refl _); have H5 := hidk (H3.out.keep hb5); have HRT := hidk (HYT.out _ _ HW12.out.row); clear hb5; try simp only [Act.put, pS1, pS2, pS3])
              | ((with_reducible show aD 33 _ _ _ _ _ _ _ _ _ _ _); refine wpList_mid_w (by rfl) 27 (.tmp 32) rfl g12 0 rfl R _ HRT.out Tryz.underlying27 rfl HSR.out ?_; try simp only [Act.put, pS1, pS2, pS3])
              | ((with_reducible show aD 14 _ _ _ _ _ _ _ _ _ _ _); refine wpList_new_var rfl 27 rfl ZH HAH.out ?_; intro g14 w6 HM14; have HR14 := hidk HM14.out.row; try simp only [Act.put, pS1, pS2, pS3])
              | (refine wpList_set_var rfl 27 (.tmp 14) (.tmp 33) rfl g14 R rfl rfl 27 ZH HR14.out HSR.out HZR.out H1R.out ?_; intro w9 HW14; have hb9 : Below w5.heap.size w5 w9 := HW14.out.below _ _ HM14.out.below (by rw [HM14.out.new]; exact Nat.le_refl _); have H9 := hidk (H5.out.keep hb9); obtain ⟨cr, ce, cz, RD⟩ := HCA.out _ H9.out.a; obtain ⟨ke, kz, RE⟩ := HCL.out _ _ HW14.out.row; have HRD := hidk RD; have HRE := hidk RE; clear RD RE; clear hb9 HW14 HM14 HR14 HM12 HR12 HW12; try simp only [Act.put, pS1, pS2, pS3])
              | fail)
            go_ret
            exact ⟨rfl, H9.out.b⟩
  · have hx := HAD2.out
    rw [if_neg hv0] at hx
    subst hx
    have bv : (!(v == 0)) = true := by simp [hv0]
    have bv2 : (v != 0) = true := by simpa using hv0
    go_wp2
    go_ret
    exact ⟨rfl, H2.out.b⟩
set_option maxHeartbeats 16000000 in
theorem refApart_any (master : List UInt8) (s t : SgT) (w : World) (K A B : Array Value) (HK : Hid (K = (cellsOf master).toArray)) (HA : Hid (A = (scells s).toArray)) (HB : Hid (B = (scells t).toArray)) (hm : master.length = 32) (hs : InS s) (ht : InS t) (hT : Table 0 w) :
    Calls Tryz.prog 11 #[.agg K, .agg A, .agg B] w fun e w' => e = .returned (.bool (apB master s t)) ∧ Below w.heap.size w w' := by
  have H0 := hidk (heldT w K A B)
  have HSK : Hid ((Tryz.prog.info? 23).map (·.size) = some K.size) := by show _ = _; rw [sizeY, HK.out]; simp [cellsOf_length, hm]
  have HSA : Hid ((Tryz.prog.info? 29).map (·.size) = some A.size) := by show _ = _; rw [sizeS, HA.out]; simp [scells_length _ hs.h.d hs.g]
  have HSB : Hid ((Tryz.prog.info? 29).map (·.size) = some B.size) := by show _ = _; rw [sizeS, HB.out]; simp [scells_length _ ht.h.d ht.g]
  obtain ⟨ZH, HZH, HAH, HBH, H36⟩ := noughtsH
  obtain ⟨x, Hx⟩ : ∃ x, Hid (apB master s t = x) := ⟨_, hidk rfl⟩
  rw [Hx.out]
  obtain ⟨v, Hv⟩ : ∃ v, Hid (verE master s = v) := ⟨_, hidk rfl⟩
  obtain ⟨u, Hu⟩ : ∃ v, Hid (verE master t = v) := ⟨_, hidk rfl⟩
  obtain ⟨X, HX, HSX, H1X, N36⟩ := head_row5 s.h hs.h.d
  obtain ⟨Y, HY, HSY, H1Y, M36⟩ := head_row5 t.h ht.h.d
  have HZX : Hid (ZH.size = X.size) := by show _ = _; rw [H36.out, N36.out]
  have HZY : Hid (ZH.size = Y.size) := by show _ = _; rw [H36.out, M36.out]
  obtain ⟨cd, hcd⟩ : ∃ b, (!decide (s.h.d = t.h.d)) = b := ⟨_, rfl⟩
  obtain ⟨ar, Har⟩ : ∃ k, Hid (s.h.r = k) := ⟨_, hidk rfl⟩
  obtain ⟨br, Hbr⟩ : ∃ k, Hid (t.h.r = k) := ⟨_, hidk rfl⟩
  obtain ⟨ae, Hae⟩ : ∃ k, Hid (s.h.e = k) := ⟨_, hidk rfl⟩
  obtain ⟨be, Hbe⟩ : ∃ k, Hid (t.h.e = k) := ⟨_, hidk rfl⟩
  obtain ⟨az, Haz⟩ : ∃ k, Hid (s.h.s = k) := ⟨_, hidk rfl⟩
  obtain ⟨bz, Hbz⟩ : ∃ k, Hid (t.h.s = k) := ⟨_, hidk rfl⟩
  have HAP : Hid ((decide (v = 0) && (decide (u = 0) && (decide (ar = br) && (decide (ae = be) && (decide (az = bz) && cd))))) = x) := by
    show _ = _
    rw [← Hx.out, ← Hv.out, ← Hu.out, ← Har.out, ← Hbr.out, ← Hae.out, ← Hbe.out, ← Haz.out, ← Hbz.out, ← hcd]
    rfl
  obtain ⟨D, HD⟩ : ∃ D : Array Value, Hid (D = (cellsOf s.h.d).toArray) := ⟨_, hidk rfl⟩
  obtain ⟨E, HE⟩ : ∃ D : Array Value, Hid (D = (cellsOf t.h.d).toArray) := ⟨_, hidk rfl⟩
  have HSD : Hid ((Tryz.prog.info? 25).map (·.size) = some D.size) := by show _ = _; rw [size23, HD.out]; simp [cellsOf_length, hs.h.d]
  have HSE : Hid ((Tryz.prog.info? 25).map (·.size) = some E.size) := by show _ = _; rw [size23, HE.out]; simp [cellsOf_length, ht.h.d]
  have nqd : ∀ W, (binOp .neq 25 (.agg D) (.agg E)).run Tryz.prog W = .ok (.bool cd) W := fun W => neqDigV _ _ hs.h.d ht.h.d D E HD HE cd hcd W
  have VA : Hid (∀ W, Below w.heap.size w W → Calls Tryz.prog 23 #[.agg K, .agg A] W fun e w' => e = .returned (.int .i64 v) ∧ Below W.heap.size W w') := fun W hb => by rw [← Hv.out]; exact refVerify_any master s W K A HK HA hm hs.h.d hs.g (hT.keep hb)
  have VB : Hid (∀ W, Below w.heap.size w W → Calls Tryz.prog 23 #[.agg K, .agg B] W fun e w' => e = .returned (.int .i64 u) ∧ Below W.heap.size W w') := fun W hb => by rw [← Hu.out]; exact refVerify_any master t W K B HK HB hm ht.h.d ht.g (hT.keep hb)
  have HCA : Hid (∀ V : World, V.heap[w.heap.size + 1]? = some (.cells A 29 (0, 0)) → V.cell? ⟨w.heap.size + 1, 0, none⟩ = some (.int .i64 ar) ∧ V.cell? ⟨w.heap.size + 1, 1, none⟩ = some (.int .i64 ae) ∧ V.cell? ⟨w.heap.size + 1, 2, none⟩ = some (.int .i64 az) ∧ V.rangeAt (w.heap.size + 1) 3 D.toList) := fun V hv => by
    have ra := hrow_of hs.h.d (sh_row HA hv)
    refine ⟨by rw [← Har.out]; simpa using ra.r, by rw [← Hae.out]; simpa using ra.e, by rw [← Haz.out]; simpa using ra.s, by rw [HD.out]; simpa using ra.d⟩
  have HCB : Hid (∀ V : World, V.heap[w.heap.size + 1 + 1]? = some (.cells B 29 (0, 0)) → V.cell? ⟨w.heap.size + 1 + 1, 0, none⟩ = some (.int .i64 br) ∧ V.cell? ⟨w.heap.size + 1 + 1, 1, none⟩ = some (.int .i64 be) ∧ V.cell? ⟨w.heap.size + 1 + 1, 2, none⟩ = some (.int .i64 bz) ∧ V.rangeAt (w.heap.size + 1 + 1) 3 E.toList) := fun V hv => by
    have ra := hrow_of ht.h.d (sh_row HB hv)
    refine ⟨by rw [← Hbr.out]; simpa using ra.r, by rw [← Hbe.out]; simpa using ra.e, by rw [← Hbz.out]; simpa using ra.s, by rw [HE.out]; simpa using ra.d⟩
  clear HK HA HB hm hs ht hT HZH HBH H36 N36 M36 Hx Hv Hu HX HY Har Hbr Hae Hbe Haz Hbz HD HE hcd
  go_enter Tryz.func11, Tryz.ntmps11
  go_wp2_with (first
    | ((with_reducible show aD 8 _ _ _ _ _ _ _ _ _ _ _); refine wpList_load_row_w (by rfl) 23 (.tmp 3) rfl w.heap.size rfl 23 K (0, 0) _ H0.out.k Tryz.underlying23 rfl HSK.out ?_; try simp only [Act.put, pS1, pS2, pS3])
    | ((with_reducible show aD 9 _ _ _ _ _ _ _ _ _ _ _); refine wpList_load_row_w (by rfl) 29 (.tmp 4) rfl (w.heap.size + 1) rfl 29 A (0, 0) _ H0.out.a Tryz.underlying29 rfl HSA.out ?_; try simp only [Act.put, pS1, pS2, pS3])
    | fail)
  refine (VA.out _ H0.out.b).mono ?_
  rintro e w1 ⟨rfl, hb1⟩
  have H1 := hidk (H0.out.keep hb1)
  clear hb1 H0 VA
  by_cases hv0 : v = 0
  · subst hv0
    go_wp2_with (first
      | ((with_reducible show aD 13 _ _ _ _ _ _ _ _ _ _ _); refine wpList_load_row_w (by rfl) 23 (.tmp 3) rfl w.heap.size rfl 23 K (0, 0) _ H1.out.k Tryz.underlying23 rfl HSK.out ?_; try simp only [Act.put, pS1, pS2, pS3])
      | ((with_reducible show aD 14 _ _ _ _ _ _ _ _ _ _ _); refine wpList_load_row_w (by rfl) 29 (.tmp 5) rfl (w.heap.size + 1 + 1) rfl 29 B (0, 0) _ H1.out.c Tryz.underlying29 rfl HSB.out ?_; try simp only [Act.put, pS1, pS2, pS3])
      | fail)
    refine (VB.out _ H1.out.b).mono ?_
    rintro e w2 ⟨rfl, hb2⟩
    have H2 := hidk (H1.out.keep hb2)
    clear hb2 H1 VB
    by_cases hu0 : u = 0
    · subst hu0
      have HAP2 : Hid ((decide (ar = br) && (decide (ae = be) && (decide (az = bz) && cd))) = x) := HAP.out
      clear HAP
      obtain ⟨ca0, ca1, ca2, DA⟩ := HCA.out _ H2.out.a
      obtain ⟨cb0, cb1, cb2, DB⟩ := HCB.out _ H2.out.c
      have HDA := hidk DA
      have HDB := hidk DB
      clear DA DB
      by_cases h1 : ar = br
      · subst h1
        by_cases h2 : ae = be
        · subst h2
          by_cases h3 : az = bz
          · subst h3
            have e3 : (decide (ar = ar) && (decide (ae = ae) && (decide (az = az) && cd))) = cd := by simp
            rw [e3] at HAP2
            clear e3
            go_wp2_with (first
              | ((with_reducible show aD 49 _ _ _ _ _ _ _ _ _ _ _); refine wpList_mid_w (by rfl) 25 (.tmp 48) rfl (w.heap.size + 1) 3 rfl D _ HDA.out Tryz.underlying25 rfl HSD.out ?_; try simp only [Act.put, pS1, pS2, pS3])
              | ((with_reducible show aD 52 _ _ _ _ _ _ _ _ _ _ _); refine wpList_mid_w (by rfl) 25 (.tmp 51) rfl (w.heap.size + 1 + 1) 3 rfl E _ HDB.out Tryz.underlying25 rfl HSE.out ?_; try simp only [Act.put, pS1, pS2, pS3])
              | fail)
            go_ret
            exact ⟨by rw [← HAP2.out]; rfl, H2.out.b⟩
          · have b3 : (az == bz) = false := by rw [beq_eq_false_iff_ne]; exact h3
            have d3 : decide (az = bz) = false := decide_eq_false h3
            have e3 : (decide (ar = ar) && (decide (ae = ae) && (decide (az = bz) && cd))) = false := by simp [h3]
            rw [e3] at HAP2
            clear e3 h3
            go_wp2_with (first
              | ((with_reducible show aD 49 _ _ _ _ _ _ _ _ _ _ _); refine wpList_mid_w (by rfl) 25 (.tmp 48) rfl (w.heap.size + 1) 3 rfl D _ HDA.out Tryz.underlying25 rfl HSD.out ?_; try simp only [Act.put, pS1, pS2, pS3])
              | ((with_reducible show aD 52 _ _ _ _ _ _ _ _ _ _ _); refine wpList_mid_w (by rfl) 25 (.tmp 51) rfl (w.heap.size + 1 + 1) 3 rfl E _ HDB.out Tryz.underlying25 rfl HSE.out ?_; try simp only [Act.put, pS1, pS2, pS3])
              | fail)
            go_ret
            exact ⟨by rw [← HAP2.out]; rfl, H2.out.b⟩
        · have b2 : (ae == be) = false := by rw [beq_eq_false_iff_ne]; exact h2
          have d2 : decide (ae = be) = false := decide_eq_false h2
          have e3 : (decide (ar = ar) && (decide (ae = be) && (decide (az = bz) && cd))) = false := by simp [h2]
          rw [e3] at HAP2
          clear e3 h2
          go_wp2_with (first
            | ((with_reducible show aD 49 _ _ _ _ _ _ _ _ _ _ _); refine wpList_mid_w (by rfl) 25 (.tmp 48) rfl (w.heap.size + 1) 3 rfl D _ HDA.out Tryz.underlying25 rfl HSD.out ?_; try simp only [Act.put, pS1, pS2, pS3])
            | ((with_reducible show aD 52 _ _ _ _ _ _ _ _ _ _ _); refine wpList_mid_w (by rfl) 25 (.tmp 51) rfl (w.heap.size + 1 + 1) 3 rfl E _ HDB.out Tryz.underlying25 rfl HSE.out ?_; try simp only [Act.put, pS1, pS2, pS3])
            | fail)
          go_ret
          exact ⟨by rw [← HAP2.out]; rfl, H2.out.b⟩
      · have b1 : (ar == br) = false := by rw [beq_eq_false_iff_ne]; exact h1
        have d1 : decide (ar = br) = false := decide_eq_false h1
        have e3 : (decide (ar = br) && (decide (ae = be) && (decide (az = bz) && cd))) = false := by simp [h1]
        rw [e3] at HAP2
        clear e3 h1
        go_wp2_with (first
          | ((with_reducible show aD 49 _ _ _ _ _ _ _ _ _ _ _); refine wpList_mid_w (by rfl) 25 (.tmp 48) rfl (w.heap.size + 1) 3 rfl D _ HDA.out Tryz.underlying25 rfl HSD.out ?_; try simp only [Act.put, pS1, pS2, pS3])
          | ((with_reducible show aD 52 _ _ _ _ _ _ _ _ _ _ _); refine wpList_mid_w (by rfl) 25 (.tmp 51) rfl (w.heap.size + 1 + 1) 3 rfl E _ HDB.out Tryz.underlying25 rfl HSE.out ?_; try simp only [Act.put, pS1, pS2, pS3])
          | fail)
        go_ret
        exact ⟨by rw [← HAP2.out]; rfl, H2.out.b⟩
    · have bu : (u == 0) = false := by rw [beq_eq_false_iff_ne]; exact hu0
      have bu2 : decide (u = 0) = false := decide_eq_false hu0
      have hx := HAP.out
      rw [decide_eq_false hu0, Bool.false_and, Bool.and_false] at hx
      subst hx
      go_wp2
      go_ret
      exact ⟨rfl, H2.out.b⟩
  · have bv : (v == 0) = false := by rw [beq_eq_false_iff_ne]; exact hv0
    have bv2 : decide (v = 0) = false := decide_eq_false hv0
    have hx := HAP.out
    rw [decide_eq_false hv0, Bool.false_and] at hx
    subst hx
    go_wp2
    go_ret
    exact ⟨rfl, H1.out.b⟩
end Go.Proofs.YtjalebncfnekiaaGreatDoor
