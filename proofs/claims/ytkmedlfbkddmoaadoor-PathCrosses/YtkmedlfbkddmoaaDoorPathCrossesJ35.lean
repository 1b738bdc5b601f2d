/- Texts of our own that the row of PathCrosses leans on, part 35. -/
import Derived.Test.YtkmedlfbkddmoaaDoorPathCrossesJ0
import Derived.Test.YtkmedlfbkddmoaaDoorPathCrossesJ31
/- The program's Verify. -/
namespace Go.Proofs.YtkmedlfbkddmoaaDoor
open Go.RowKit Nums Sums
set_option linter.unusedVariables false
set_option linter.unusedSimpArgs false
set_option maxRecDepth 100000
def prevO (ts : List StT) (k : Nat) : Option SgT := if k = 0 then none else (ts[k - 1]?).map (·.h)
theorem prevO_succ (ts : List StT) (k : Nat) (hk : k < ts.length) : prevO ts (k + 1) = some ts[k].h := by
  unfold prevO
  rw [if_neg (by omega), Nat.add_sub_cancel, List.getElem?_eq_getElem hk]
  rfl
theorem way_at {master : List UInt8} {ts : List StT} {k : Nat} (hk : k < ts.length) : wayE master (prevO ts k) (ts.drop k) = if wrgE master ts[k] = 0 then (if linkB (prevO ts k) ts[k] = true then wayE master (prevO ts (k + 1)) (ts.drop (k + 1)) else 130) else wrgE master ts[k] := by
  rw [List.drop_eq_getElem_cons hk, wayE, prevO_succ ts k hk]
theorem wrg_st (master : List UInt8) (x : StT) : wrgE master x = if stE master x = 60 then 130 else stE master x := by
  have hv : verE master x.h = 0 ∨ verE master x.h = 70 ∨ verE master x.h = 72 := by
    unfold verE
    split
    · split
      · exact .inl rfl
      · exact .inr (.inr rfl)
    · exact .inr (.inl rfl)
  have hi := P5.incE_vals x.h.h.d x.h.h.s x.i (leafI x.x) x.p
  unfold wrgE stE
  by_cases h0 : verE master x.h = 0
  · rw [if_pos h0, if_pos h0]
    by_cases h1 : rightI x.x = true
    · rw [if_pos h1, if_pos h1, if_neg (by rcases hi with h | h | h <;> omega)]
    · rw [if_neg h1, if_neg h1, if_pos rfl]
  · rw [if_neg h0, if_neg h0, if_neg (by omega)]
structure HeldW (w : World) (K : Array Value) (V : World) : Prop where
  b : Below w.heap.size w V
  k : V.heap[w.heap.size]? = some (.cells K 23 (0, 0))
theorem HeldW.keep {w : World} {K : Array Value} {V V' : World} (h : HeldW w K V) (hb : Below V.heap.size V V') : HeldW w K V' :=
  ⟨h.b.trans (hb.mono h.b.size), (hb.block _ (heap_lt h.k)).trans h.k⟩
structure HeldR (w : World) (K R : Array Value) (g7 : Nat) (V : World) : Prop where
  w : HeldW w K V
  s : V.heap[g7]? = some (.cells R 46 (0, 0))
theorem HeldR.keep {w : World} {K R : Array Value} {g7 : Nat} {V V' : World} (h : HeldR w K R g7 V) (hb : Below V.heap.size V V') : HeldR w K R g7 V' :=
  ⟨h.w.keep hb, (hb.block _ (heap_lt h.s)).trans h.s⟩
set_option maxHeartbeats 16000000 in
theorem pVerify (hd : HeadC) (en : EntryC) (ck : P5.CheckC) (master : List UInt8) (a : Option Addr) (len cap : Nat) (l : List StV) (w : World) (K : Array Value) (HK : Hid (K = (cellsOf master).toArray)) (hm : master.length = 32) (h : InP w a len cap l) (hT : TabH w) :
    Calls Tryd.prog 12 #[.agg K, .slice a len cap] w fun e w' => e = .returned (.int .i64 (pathE master (l.map StV.t))) ∧ Below w.heap.size w w' := by
  have HSK : Hid ((Tryd.prog.info? 23).map (·.size) = some K.size) := by show _ = _; rw [sizeY, HK.out]; simp [cellsOf_length, hm]
  have H0 : Hid (HeldW w K (w.alloc (.cells K 23))) := ⟨(Below.refl _ _).alloc (Nat.le_refl _) _, heap_alloc_new w _⟩
  have hln := h.rd.ln
  have hle := h.le
  obtain ⟨ts, hts⟩ : ∃ ts, l.map StV.t = ts := ⟨_, rfl⟩
  have HTL : Hid (ts.length = len) := by show _ = _; rw [← hts, List.length_map, hln]
  rw [hts]
  by_cases hc : 1 ≤ len ∧ len ≤ 5
  · have er : decide (1 ≤ len ∧ len ≤ 5) = true := decide_eq_true hc
    have HRI : Hid (∀ W, Calls Tryd.prog 30 #[.slice a len cap] W fun e w' => e = .returned (.bool true) ∧ W = w') := fun W => by
      have := pRight a len cap W (by omega)
      rwa [er] at this
    obtain ⟨PE, HPE⟩ : ∃ z, Hid (pathE master ts = z) := ⟨_, hidk rfl⟩
    rw [HPE.out]
    have HW0 : Hid (wayE master (prevO ts 0) (ts.drop 0) = PE) := by
      show _ = _
      rw [← HPE.out]
      unfold pathE
      rw [if_pos (by rw [HTL.out]; exact hc)]
      rfl
    have HWN : Hid (wayE master (prevO ts len) (ts.drop len) = 0) := by
      show _ = _
      rw [List.drop_of_length_le (by rw [HTL.out]; exact Nat.le_refl _)]
      rfl
    obtain ⟨Z, HZ, HA, HBZ, Z181⟩ := noughtsSt
    obtain ⟨g, o, rfl, hg⟩ := h.rd.at (by omega)
    have hmx : len ≤ 5 := hc.2
    -- what a round meets
    have HRD : Hid (∀ k, k < len → ∃ (R : Array Value) (E : Int), Hid ((Tryd.prog.info? 46).map (·.size) = some R.size) ∧ Hid (Z.size = R.size) ∧ Hid (R.all (·.oneCell') = true) ∧
        Hid (∀ V, Below w.heap.size w V → V.rangeAt g (o + 181 * k) R.toList) ∧
        Hid (∀ V, Below w.heap.size w V → Calls Tryd.prog 31 #[.agg K, .agg R] V fun e w' => e = .returned (.int .i64 E) ∧ Below V.heap.size V w') ∧
        Hid (wayE master (prevO ts k) (ts.drop k) = PE → E ≠ 0 → E ≠ 60 → PE = E) ∧ Hid (wayE master (prevO ts k) (ts.drop k) = PE → E = 60 → PE = 130) ∧
        Hid (wayE master (prevO ts k) (ts.drop k) = PE → E = 0 → k = 0 → wayE master (prevO ts (k + 1)) (ts.drop (k + 1)) = PE) ∧
        Hid (∀ j, k = j + 1 → ∃ (I S : Array Value) (b : Bool), Hid ((Tryd.prog.info? 43).map (·.size) = some I.size) ∧ Hid ((Tryd.prog.info? 33).map (·.size) = some S.size) ∧
          Hid (∀ (V : World) (q : Nat), V.heap[q]? = some (.cells R 46 (0, 0)) → V.rangeAt q 1 I.toList) ∧
          Hid (∀ V, Below w.heap.size w V → V.rangeAt g (o + 181 * j + 112) S.toList) ∧
          Hid (∀ V, Calls Tryd.prog 32 #[.agg I, .agg S] V fun e w' => e = .returned (.bool b) ∧ Below V.heap.size V w') ∧
          Hid (wayE master (prevO ts k) (ts.drop k) = PE → E = 0 → b = true → wayE master (prevO ts (k + 1)) (ts.drop (k + 1)) = PE) ∧ Hid (wayE master (prevO ts k) (ts.drop k) = PE → E = 0 → b = false → PE = 130))) := fun k hk => by
      have hkl : k < l.length := by omega
      have hkt : k < ts.length := by rw [HTL.out]; exact hk
      have etk : ts[k] = l[k].t := by subst hts; rw [List.getElem_map]
      obtain ⟨q1, q2, q3⟩ := h.its _ (List.getElem_mem hkl)
      have ok := h.rd.ok _ (List.getElem_mem hkl)
      obtain ⟨R, HR, HSR, H1R, N181⟩ := step_row l[k] ok
      have hw := way_at (master := master) hkt
      have hwr := wrg_st master ts[k]
      rw [etk] at hw hwr
      have hz : stE master l[k].t = 0 → wrgE master l[k].t = 0 := fun h0 => by rw [hwr, h0]; rfl
      refine ⟨R, stE master l[k].t, HSR, by show _ = _; rw [Z181.out, N181.out], H1R, fun V hb => ?_, fun V hb => ?_, fun e h0 h6 => ?_, fun e h6 => ?_, fun e h0 hk0 => ?_, fun j hj => ?_⟩
      · rw [HR.out]
        exact range_below (h.rd.range k hkl) hb hg
      · exact pStands hd en ck master l[k] V q1 q2 q3 ((h.prf _ (List.getElem_mem hkl)).keep hb) hm K R HK HR (hT.keep hb)
      · rw [hw, hwr, if_neg h6, if_neg h0] at e
        exact e.symm
      · rw [hw, hwr, if_pos h6, if_neg (by omega)] at e
        exact e.symm
      · rw [hw, if_pos (hz h0)] at e
        rw [if_pos (by subst hk0; rfl)] at e
        exact e
      · have hjl : j < l.length := by omega
        have okj := h.rd.ok _ (List.getElem_mem hjl)
        obtain ⟨I, HI, HSI, H1I, N110⟩ := item_row l[k].x ok.x
        obtain ⟨S, HS, HSS, H1S, N69⟩ := sign_row l[j].h okj.d okj.g
        have hp : prevO ts k = some l[j].h := by
          subst hj
          rw [prevO_succ ts j (by rw [HTL.out]; omega)]
          subst hts
          rw [List.getElem_map]
          rfl
        refine ⟨I, S, decide (l[k].x.e.k = 2) && eqSB l[k].x.e.h l[j].h, HSI, HSS, fun V q hv => ?_, fun V hb => ?_, fun V => pAnchor l[k].x l[j].h ok.x okj.d okj.g V I S HI HS, fun e h0 hb => ?_, fun e h0 hb => ?_⟩
        · have := range_stx (st_row HR hv)
          rw [HI.out]
          simpa using this
        · have := range_below (range_sth okj (h.rd.range j hjl)) hb hg
          rw [HS.out]
          exact this
        · rw [hw, if_pos (hz h0), hp, linkB_some] at e
          rw [if_pos (show (decide (l[k].t.x.e.k = 2) && eqSB l[k].t.x.e.h l[j].h) = true from hb)] at e
          exact e
        · rw [hw, if_pos (hz h0), hp, linkB_some] at e
          rw [if_neg (by show ¬ (decide (l[k].x.e.k = 2) && eqSB l[k].x.e.h l[j].h) = true; rw [hb]; decide)] at e
          exact e.symm
    have HIX : Hid (∀ (k : Nat), k < len → ∀ W, (Instr.indexAt 50 (.slice (some ⟨g, o, none⟩) len cap) (.int .i64 (k : Int))).run Tryd.prog W = .ok (.pointer (some ⟨g, o + 181 * k, none⟩)) W) := fun k hk W => index_st W g o len cap k .i64 hk
    clear hd en ck HK hm h hT HZ HBZ Z181 hts er hln hle hc HPE HTL
    go_enter Tryd.func12, Tryd.ntmps12
    go_wp2
    go_step3
    go_wp2_with fail
    refine (HRI.out _).mono ?_
    rintro e w0 ⟨rfl, rfl⟩
    clear HRI
    go_wp2
    go_step3
    go_wp2
    go_loopw [5, 14] (fun v u wr => ∃ k : Nat, k ≤ len ∧ v = .int .i64 0 ∧ u = .int .i64 k ∧ Hid (HeldW w K wr) ∧ Hid (wayE master (prevO ts k) (ts.drop k) = PE)) (fun _ u _ => len - (intOf u).toNat)
    case atStart => exact ⟨0, by omega, rfl, rfl, H0, HW0⟩
    case round =>
      obtain ⟨k, hk, rfl, rfl, HB, HWY⟩ := hrel
      by_cases hlt : k < len
      · obtain ⟨R, E, HSR, HZR, H1R, HRG, HST, HE1, HE2, HE3, HE4⟩ := HRD.out k hlt
        have HRGk := hidk (HRG.out _ HB.out.b)
        have ic := HIX.out k hlt
        have hw1 := wrap_int ((k : Int) + 1) (by omega) (by omega)
        clear HRG
        go_wp2_with (first
          | ((with_reducible show aD 18 _ _ _ _ _ _ _ _ _ _ _); refine wpList_mid_w (by rfl) 46 (.tmp 17) rfl g (o + 181 * k) rfl R _ HRGk.out Tryd.underlying46 rfl HSR.out ?_; try simp only [Act.put, pS1, pS2, pS3])
          | ((with_reducible show aD 7 _ _ _ _ _ _ _ _ _ _ _); refine wpList_new_var rfl 46 rfl Z HA.out ?_; intro g7 w2 HM7; have HN7 := hidk HM7.out.row; try simp only [Act.put, pS1, pS2, pS3])
          | (refine wpList_set_var rfl 46 (.tmp 7) (.tmp 18) rfl g7 R rfl rfl 46 Z HN7.out HSR.out HZR.out H1R.out ?_; intro w3 HW7; have hb7 : Below wr.heap.size wr w3 := HW7.out.below _ _ HM7.out.below (by rw [HM7.out.new]; exact Nat.le_refl _); have H3 : Hid (HeldR w K R g7 w3) := ⟨HB.out.keep hb7, HW7.out.row⟩; clear hb7; try simp only [Act.put, pS1, pS2, pS3])
          | ((with_reducible show aD 19 _ _ _ _ _ _ _ _ _ _ _); refine wpList_load_row_w (by rfl) 23 (.tmp 2) rfl w.heap.size rfl 23 K (0, 0) _ H3.out.w.k Tryd.underlying23 rfl HSK.out ?_; try simp only [Act.put, pS1, pS2, pS3])
          | ((with_reducible show aD 20 _ _ _ _ _ _ _ _ _ _ _); refine wpList_load_row_w (by rfl) 46 (.tmp 7) rfl g7 rfl 46 R (0, 0) _ H3.out.s Tryd.underlying46 rfl HSR.out ?_; try simp only [Act.put, pS1, pS2, pS3])
          | fail)
        refine (HST.out _ H3.out.w.b).mono ?_
        rintro e w4 ⟨rfl, hb4⟩
        have H4 := hidk (H3.out.keep hb4)
        clear hb4 H3 HM7 HN7 HW7 HST HRGk
        by_cases hE0 : E = 0
        · replace HE3 := hidk fun h => HE3.out HWY.out hE0 h
          clear HE1 HE2
          by_cases hk0 : k = 0
          · have HNX := hidk (HE3.out hk0)
            subst hE0
            subst hk0
            clear HE3 HE4 HWY
            go_wp2_with fail
            refine wp_region_held_drew (S := (HeldR w K R g7)) (by kernel_rfl) (H4.out.keep (Below.refl _ _).drew) (fun hHeld => ?_)
            refine zX 0 (.int .i64 0) rfl hHeld ?_
            try simp only [Act.put, pS1, pS2, pS3]
            refine zX 1 (.bool true) rfl hHeld ?_
            try simp only [Act.put, pS1, pS2, pS3]
            refine zX 2 (.bool true) rfl hHeld ?_
            try simp only [Act.put, pS1, pS2, pS3]
            refine zX 3 (.int .i64 0) rfl hHeld ?_
            try simp only [Act.put, pS1, pS2, pS3]
            refine zX 4 (.bool true) rfl hHeld ?_
            try simp only [Act.put, pS1, pS2, pS3]
            refine zX 5 (.bool true) rfl hHeld ?_
            try simp only [Act.put, pS1, pS2, pS3]
            refine zW 6 (undef) rfl (Or.inr ⟨by rfl, rfl⟩) hHeld ?_
            try simp only [Act.put, pS1, pS2, pS3]
            refine zW 7 (undef) rfl (Or.inr ⟨by rfl, rfl⟩) hHeld ?_
            try simp only [Act.put, pS1, pS2, pS3]
            refine zW 8 (undef) rfl (Or.inr ⟨by rfl, rfl⟩) hHeld ?_
            try simp only [Act.put, pS1, pS2, pS3]
            refine zW 9 (undef) rfl (Or.inr ⟨by rfl, rfl⟩) hHeld ?_
            try simp only [Act.put, pS1, pS2, pS3]
            refine zW 10 (undef) rfl (Or.inr ⟨by rfl, rfl⟩) hHeld ?_
            try simp only [Act.put, pS1, pS2, pS3]
            refine zW 11 (undef) rfl (Or.inr ⟨by rfl, rfl⟩) hHeld ?_
            try simp only [Act.put, pS1, pS2, pS3]
            refine zW 12 (undef) rfl (Or.inr ⟨by rfl, rfl⟩) hHeld ?_
            try simp only [Act.put, pS1, pS2, pS3]
            refine zW 13 (undef) rfl (Or.inr ⟨by rfl, rfl⟩) hHeld ?_
            try simp only [Act.put, pS1, pS2, pS3]
            refine zW 14 (undef) rfl (Or.inr ⟨by rfl, rfl⟩) hHeld ?_
            try simp only [Act.put, pS1, pS2, pS3]
            refine zX 15 (.bool true) rfl hHeld ?_
            try simp only [Act.put, pS1, pS2, pS3]
            refine zX 16 (.bool true) rfl hHeld ?_
            try simp only [Act.put, pS1, pS2, pS3]
            refine zX 17 (.bool true) rfl hHeld ?_
            try simp only [Act.put, pS1, pS2, pS3]
            refine wpAnyH_done (by kernel_rfl) ?_ _
            have HX := hidk hHeld.w
            clear hHeld
            go_wp2
            go_roundw
            case rel => exact ⟨1, by omega, rfl, by go_num, HX, HNX⟩
            case measure => simp [intOf]; omega
          · obtain ⟨j, HJ⟩ : ∃ j, Hid (k = j + 1) := ⟨k - 1, by show _ = _; omega⟩
            obtain ⟨I, S, b, HSI, HSS, HRI, HRS, HAN, HY, HN⟩ := HE4.out j HJ.out
            have hjl : j < len := by have := HJ.out; omega
            have hsub : IntKind.i64.wrap ((k : Int) - 1) = (j : Int) := by rw [wrap_int _ (by omega) (by omega)]; have := HJ.out; omega
            have icj := HIX.out j hjl
            have kne : ((k : Int) == 0) = false := by rw [beq_eq_false_iff_ne]; omega
            replace HY := hidk fun h => HY.out HWY.out hE0 h
            replace HN := hidk fun h => HN.out HWY.out hE0 h
            subst hE0
            clear HE3 HE4 HWY hk0 HJ hjl
            go_wp2_with fail
            refine wp_region_held_drew (S := (HeldR w K R g7)) (by kernel_rfl) (H4.out.keep (Below.refl _ _).drew) (fun hHeld => ?_)
            refine zX 0 (.int .i64 0) rfl hHeld ?_
            try simp only [Act.put, pS1, pS2, pS3]
            refine zX 1 (.bool true) rfl hHeld ?_
            try simp only [Act.put, pS1, pS2, pS3]
            refine zX 2 (.bool true) rfl hHeld ?_
            try simp only [Act.put, pS1, pS2, pS3]
            refine zX 3 (.int .i64 (k : Int)) rfl hHeld ?_
            try simp only [Act.put, pS1, pS2, pS3]
            refine zX 4 (.bool false) rfl hHeld ?_
            try simp only [Act.put, pS1, pS2, pS3]
            refine zX 5 (.bool false) rfl hHeld ?_
            try simp only [Act.put, pS1, pS2, pS3]
            refine zX 6 (.pointer (some ⟨g7, 1, none⟩)) rfl hHeld ?_
            try simp only [Act.put, pS1, pS2, pS3]
            refine zW 7 (.agg I) rfl (yieldsIf_mid (by rfl) 43 (.tmp 29) rfl g7 1 rfl I _ (fun V hv => HRI.out V g7 hv.s) Tryd.underlying43 rfl HSI.out) hHeld ?_
            try simp only [Act.put, pS1, pS2, pS3]
            refine zX 8 (.slice (some ⟨g, o, none⟩) len cap) rfl hHeld ?_
            try simp only [Act.put, pS1, pS2, pS3]
            refine zX 9 (.int .i64 (k : Int)) rfl hHeld ?_
            try simp only [Act.put, pS1, pS2, pS3]
            refine zX 10 (.int .i64 (j : Int)) rfl hHeld ?_
            try simp only [Act.put, pS1, pS2, pS3]
            refine zW 11 (.pointer (some ⟨g, o + 181 * j, none⟩)) rfl (Or.inl ⟨by rfl, by intro W hSw; have := icj W; go_simp⟩) hHeld ?_
            try simp only [Act.put, pS1, pS2, pS3]
            refine zX 12 (.pointer (some ⟨g, o + 181 * j + 112, none⟩)) rfl hHeld ?_
            try simp only [Act.put, pS1, pS2, pS3]
            refine zW 13 (.agg S) rfl (yieldsIf_mid (by rfl) 33 (.tmp 35) rfl g (o + 181 * j + 112) rfl S _ (fun V hv => HRS.out V hv.w.b) Tryd.underlying33 rfl HSS.out) hHeld ?_
            try simp only [Act.put, pS1, pS2, pS3]
            refine wpAnyH_ready (rs := [14]) (by kernel_rfl) (by simp) ?_
            refine (AllReadyH.cons (o := { dst := some 37, op := .call { callee := .value (.func 32), args := #[.tmp 30, .tmp 36], argTypes := #[43, 33] }, type := 4, pos := "path.go:35", after := #[zD 7, zD 13, zC 5, zG 5], guard := some (5, false) }) rfl (fun K hK => ?_) AllReadyH.nil)
            go_simp
            refine (HAN.out _).mono ?_
            rintro e w14 ⟨rfl, hb14⟩
            go_wp2_with fail
            refine hK.out _ _ (hHeld.keep hb14) (fun hHeld => ?_)
            clear hK K
            try simp only [Act.put, pS1, pS2, pS3]
            refine zX 15 (.bool b) rfl hHeld ?_
            try simp only [Act.put, pS1, pS2, pS3]
            refine zX 16 (.bool b) rfl hHeld ?_
            try simp only [Act.put, pS1, pS2, pS3]
            refine zX 17 (.bool b) rfl hHeld ?_
            try simp only [Act.put, pS1, pS2, pS3]
            refine wpAnyH_done (by kernel_rfl) ?_ _
            cases b
            · have HPE := hidk (HN.out rfl)
              have HX := hidk hHeld.w
              clear HY HN hHeld
              go_wp2
              try rw [Exit.noGoto_ret]
              go_ret
              exact ⟨by rw [HPE.out]; rfl, HX.out.b⟩
            · have HNX := hidk (HY.out rfl)
              have HX := hidk hHeld.w
              clear HY HN hHeld
              go_wp2
              go_roundw
              case rel => exact ⟨k + 1, by omega, rfl, by go_num, HX, HNX⟩
              case measure => simp [intOf]; omega
        · by_cases hE6 : E = 60
          · have HPE := hidk (HE2.out HWY.out hE6)
            subst hE6
            clear HE1 HE2 HE3 HE4 HWY hE0
            go_wp2_with fail
            refine wp_region_held_drew (S := (HeldR w K R g7)) (by kernel_rfl) (H4.out.keep (Below.refl _ _).drew) (fun hHeld => ?_)
            refine zX 0 (.int .i64 60) rfl hHeld ?_
            try simp only [Act.put, pS1, pS2, pS3]
            refine zX 1 (.bool false) rfl hHeld ?_
            try simp only [Act.put, pS1, pS2, pS3]
            refine zX 2 (.bool false) rfl hHeld ?_
            try simp only [Act.put, pS1, pS2, pS3]
            refine zW 3 (undef) rfl (Or.inr ⟨by rfl, rfl⟩) hHeld ?_
            try simp only [Act.put, pS1, pS2, pS3]
            refine zW 4 (undef) rfl (Or.inr ⟨by rfl, rfl⟩) hHeld ?_
            try simp only [Act.put, pS1, pS2, pS3]
            refine zW 5 (undef) rfl (Or.inr ⟨by rfl, rfl⟩) hHeld ?_
            try simp only [Act.put, pS1, pS2, pS3]
            refine zW 6 (undef) rfl (Or.inr ⟨by rfl, rfl⟩) hHeld ?_
            try simp only [Act.put, pS1, pS2, pS3]
            refine zW 7 (undef) rfl (Or.inr ⟨by rfl, rfl⟩) hHeld ?_
            try simp only [Act.put, pS1, pS2, pS3]
            refine zW 8 (undef) rfl (Or.inr ⟨by rfl, rfl⟩) hHeld ?_
            try simp only [Act.put, pS1, pS2, pS3]
            refine zW 9 (undef) rfl (Or.inr ⟨by rfl, rfl⟩) hHeld ?_
            try simp only [Act.put, pS1, pS2, pS3]
            refine zW 10 (undef) rfl (Or.inr ⟨by rfl, rfl⟩) hHeld ?_
            try simp only [Act.put, pS1, pS2, pS3]
            refine zW 11 (undef) rfl (Or.inr ⟨by rfl, rfl⟩) hHeld ?_
            try simp only [Act.put, pS1, pS2, pS3]
            refine zW 12 (undef) rfl (Or.inr ⟨by rfl, rfl⟩) hHeld ?_
            try simp only [Act.put, pS1, pS2, pS3]
            refine zW 13 (undef) rfl (Or.inr ⟨by rfl, rfl⟩) hHeld ?_
            try simp only [Act.put, pS1, pS2, pS3]
            refine zW 14 (undef) rfl (Or.inr ⟨by rfl, rfl⟩) hHeld ?_
            try simp only [Act.put, pS1, pS2, pS3]
            refine zW 15 (undef) rfl (Or.inr ⟨by rfl, rfl⟩) hHeld ?_
            try simp only [Act.put, pS1, pS2, pS3]
            refine zX 16 (.bool false) rfl hHeld ?_
            try simp only [Act.put, pS1, pS2, pS3]
            refine zX 17 (.bool false) rfl hHeld ?_
            try simp only [Act.put, pS1, pS2, pS3]
            refine wpAnyH_done (by kernel_rfl) ?_ _
            have HX := hidk hHeld.w
            clear hHeld
            go_wp2
            try rw [Exit.noGoto_ret]
            go_ret
            exact ⟨by rw [HPE.out]; rfl, HX.out.b⟩
          · have HPE := hidk (HE1.out HWY.out hE0 hE6)
            have be0 : (E == 0) = false := by rw [beq_eq_false_iff_ne]; exact hE0
            have be6 : (E == 60) = false := by rw [beq_eq_false_iff_ne]; exact hE6
            clear HE1 HE2 HE3 HE4 HWY
            go_wp2_with fail
            refine wp_region_held_drew (S := (HeldR w K R g7)) (by kernel_rfl) (H4.out.keep (Below.refl _ _).drew) (fun hHeld => ?_)
            refine zX 0 (.int .i64 E) rfl hHeld ?_
            try simp only [Act.put, pS1, pS2, pS3]
            refine zX 1 (.bool false) rfl hHeld ?_
            try simp only [Act.put, pS1, pS2, pS3]
            refine zX 2 (.bool false) rfl hHeld ?_
            try simp only [Act.put, pS1, pS2, pS3]
            refine zW 3 (undef) rfl (Or.inr ⟨by rfl, rfl⟩) hHeld ?_
            try simp only [Act.put, pS1, pS2, pS3]
            refine zW 4 (undef) rfl (Or.inr ⟨by rfl, rfl⟩) hHeld ?_
            try simp only [Act.put, pS1, pS2, pS3]
            refine zW 5 (undef) rfl (Or.inr ⟨by rfl, rfl⟩) hHeld ?_
            try simp only [Act.put, pS1, pS2, pS3]
            refine zW 6 (undef) rfl (Or.inr ⟨by rfl, rfl⟩) hHeld ?_
            try simp only [Act.put, pS1, pS2, pS3]
            refine zW 7 (undef) rfl (Or.inr ⟨by rfl, rfl⟩) hHeld ?_
            try simp only [Act.put, pS1, pS2, pS3]
            refine zW 8 (undef) rfl (Or.inr ⟨by rfl, rfl⟩) hHeld ?_
            try simp only [Act.put, pS1, pS2, pS3]
            refine zW 9 (undef) rfl (Or.inr ⟨by rfl, rfl⟩) hHeld ?_
            try simp only [Act.put, pS1, pS2, pS3]
            refine zW 10 (undef) rfl (Or.inr ⟨by rfl, rfl⟩) hHeld ?_
            try simp only [Act.put, pS1, pS2, pS3]
            refine zW 11 (undef) rfl (Or.inr ⟨by rfl, rfl⟩) hHeld ?_
            try simp only [Act.put, pS1, pS2, pS3]
            refine zW 12 (undef) rfl (Or.inr ⟨by rfl, rfl⟩) hHeld ?_
            try simp only [Act.put, pS1, pS2, pS3]
            refine zW 13 (undef) rfl (Or.inr ⟨by rfl, rfl⟩) hHeld ?_
            try simp only [Act.put, pS1, pS2, pS3]
            refine zW 14 (undef) rfl (Or.inr ⟨by rfl, rfl⟩) hHeld ?_
            try simp only [Act.put, pS1, pS2, pS3]
            refine zW 15 (undef) rfl (Or.inr ⟨by rfl, rfl⟩) hHeld ?_
            try simp only [Act.put, pS1, pS2, pS3]
            refine zX 16 (.bool false) rfl hHeld ?_
            try simp only [Act.put, pS1, pS2, pS3]
            refine zX 17 (.bool false) rfl hHeld ?_
            try simp only [Act.put, pS1, pS2, pS3]
            refine wpAnyH_done (by kernel_rfl) ?_ _
            have HX := hidk hHeld.w
            clear hHeld
            go_wp2
            try rw [Exit.noGoto_ret]
            go_ret
            exact ⟨by rw [HPE.out]; rfl, HX.out.b⟩
      · obtain rfl : k = len := by omega
        have HPE : Hid (PE = 0) := by show _ = _; rw [← HWY.out]; exact HWN.out
        clear HWY HRD HIX
        go_wp2
        try rw [Exit.noGoto_ret]
        go_ret
        exact ⟨by rw [HPE.out]; rfl, HB.out.b⟩
  · have er : decide (1 ≤ len ∧ len ≤ 5) = false := decide_eq_false hc
    have HRI : Hid (∀ W, Calls Tryd.prog 30 #[.slice a len cap] W fun e w' => e = .returned (.bool false) ∧ W = w') := fun W => by
      have := pRight a len cap W (by omega)
      rwa [er] at this
    have HPE : Hid (pathE master ts = 130) := by show _ = _; unfold pathE; rw [if_neg (by rw [HTL.out]; exact hc)]
    clear hd en ck HK hm h hT hts er hln hle hc HTL
    go_enter Tryd.func12, Tryd.ntmps12
    go_wp2
    go_step3
    go_wp2_with fail
    refine (HRI.out _).mono ?_
    rintro e w0 ⟨rfl, rfl⟩
    clear HRI
    go_wp2
    try rw [Exit.noGoto_ret]
    go_ret
    exact ⟨by rw [HPE.out]; rfl, H0.out.b⟩
end Go.Proofs.YtkmedlfbkddmoaaDoor
/- What the calls of package path answer, at this commit of the code. -/
namespace Go.Proofs.YtkmedlfbkddmoaaDoor
open Go.RowKit Nums Sums
set_option linter.unusedVariables false
set_option maxRecDepth 100000
theorem pathC (hc : HistoryC) (en : EntryC) (hd : HeadC) (ck : P5.CheckC) : PathC where
  make := fun a len cap l i s w h hi hs S HS hT => pMake hc en hd a len cap l i s w h hi hs S HS hT
  verify := fun master a len cap l w M HM hm h hT => pVerify hd en ck master a len cap l w M HM hm h hT
  ends := fun a len cap l w h X S HX HS => pEnds a len cap l w h X S HX HS
end Go.Proofs.YtkmedlfbkddmoaaDoor
