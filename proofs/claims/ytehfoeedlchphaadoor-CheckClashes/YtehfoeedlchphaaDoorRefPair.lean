/- What the document's pair answers. -/
import Derived.Test.YtehfoeedlchphaaDoorRefCon
namespace Go.Proofs.YtehfoeedlchphaaDoor
open Go.RowKit Sums
set_option linter.unusedVariables false
set_option linter.unusedSimpArgs false

theorem text_cat (l r : List UInt8) : (⟨#[1]⟩ : ByteArray) ++ ⟨l.toArray⟩ ++ ⟨r.toArray⟩ = ⟨(1 :: (l ++ r)).toArray⟩ := by
  apply ByteArray.ext
  simp [ByteArray.data_append]

set_option maxHeartbeats 8000000 in
theorem refPair_any (q : List (List UInt8)) (d : List UInt8) (S I : Nat) (x : List UInt8) (a : Option Addr) (m cap : Nat) (w : World) (hqm : q.length = m) (hS1 : 2 ≤ S) (hS : S ≤ 100000) (hI : I < S) (hR : LReads w a (m + 1) cap (q ++ [d])) (hx : x.length = 32) (hK : Table 1 w) (X : Array Value) (HX : Hid (X = (cellsOf x).toArray))
    (T : ByteArray) (HT : Hid (T = ⟨(pairT (d :: q.reverse) S I x).toArray⟩)) :
    Calls Tryd.prog 34 #[.int .i64 S, .int .i64 I, .agg X, .slice a (m + 1) cap] w fun e w' => e = .returned (.tuple #[.string T, .int .i64 (if I < split S then (split S : Int) else ((S : Int) - (split S : Int))), .int .i64 (if I < split S then (I : Int) else ((I : Int) - (split S : Int)))]) ∧ Below w.heap.size w w' := by
  obtain ⟨g, o, rfl, hg⟩ := hR.at (by omega)
  have hq : LReads w (some ⟨g, o, none⟩) m cap q := by
    have := hR.take m (by omega)
    rwa [List.take_left' hqm] at this
  have hd32 : d.length = 32 := hR.2.1 d (by simp)
  obtain ⟨Z, HZ, HA, HS, H1, H32⟩ := noughts27
  have HSX : Hid ((Tryd.prog.info? 23).map (·.size) = some X.size) := by show _ = _; rw [size23, HX.out]; simp [cellsOf_length, hx]
  obtain ⟨E, HE, HSE, H1E, H32E⟩ := dig_row' d hd32
  obtain ⟨L, hL⟩ : ∃ L : List Value, E = L.toArray := ⟨E.toList, by simp⟩
  have EL : L = cellsOf d := List.toArray_inj (by rw [← hL]; exact HE.out)
  have zL : Hid ((Tryd.prog.info? 23).map (·.size) = some L.length) := by show _ = _; rw [size23, EL, cellsOf_length, hd32]
  have HRG : Hid (∀ W, Below w.heap.size w W → W.rangeAt g (o + 32 * m) L) := fun W hb => by
    have := (hR.keep hb).range m (by simp; omega)
    have e : (q ++ [d])[m]'(by simp; omega) = d := by simp [← hqm]
    rw [e] at this
    rw [EL]; exact this
  have HZE : Hid (Z.size = L.toArray.size) := by show _ = _; rw [← hL, H32.out, H32E.out]
  obtain ⟨D, HDT⟩ : ∃ D : ByteArray, Hid (D = ⟨d.toArray⟩) := ⟨_, (rfl : _ = _)⟩
  have hDs : D.size = 32 := by rw [HDT.out]; exact hd32
  have TD : Hid (∀ W, Calls Tryd.prog 52 #[.agg L.toArray] W fun e w' => e = .returned (.string D) ∧ Below W.heap.size W w') := fun W => refText_any d hd32 W D HDT L EL
  rw [hL] at HSE H1E HE
  have ix := fun W => index_list W g o (m + 1) cap m .i64 (by omega)
  have slc := fun W => slice_left W g o (m + 1) cap m (by have := hR.2.2.1; omega)
  have s1 := split_lt S (by omega)
  have s2 := split_pos S (by omega)
  have SP : Hid (∀ W, Calls Tryd.prog 47 #[.int .i64 S] W fun e w' => e = .returned (.int .i64 (split S)) ∧ W = w') := fun W => by
    have := refSplit_any S W (by omega)
    rwa [Int.toNat_natCast] at this
  have hmx : m + 1 ≤ 9223372036854775807 := by have := hR.2.2.2.1; unfold maxLen at this; omega
  have e1 := wrap_int ((m : Int) + 1 - 1) (by omega) (by omega)
  have HQ := hidk hq
  have HK := hidk hK
  obtain ⟨s, HSs⟩ : ∃ s, Hid (s = split S) := ⟨_, (rfl : split S = _)⟩
  rw [← HSs.out] at SP s1 s2 ⊢
  have HB0 : Hid (Below w.heap.size w (w.alloc (.cells X 23)) ∧ (w.alloc (.cells X 23)).heap[w.heap.size]? = some (.cells X 23 (0, 0))) := ⟨(Below.refl _ _).alloc (Nat.le_refl _) _, heap_alloc_new w _⟩
  have HR0 := hidk (HRG.out _ HB0.out.1)
  clear hq hK hR hL EL H32E HE HRG
  by_cases hlt : I < s
  · rw [if_pos hlt, if_pos hlt]
    have hyl := mkR_length sumD_length q.reverse s I x hx
    obtain ⟨M1, HM1, HSM, H1M, H32M⟩ := dig_row' (mkR q.reverse s I x).1 hyl
    obtain ⟨LM, hLM⟩ : ∃ L : List Value, M1 = L.toArray := ⟨M1.toList, by simp⟩
    have HZM : Hid (Z.size = M1.size) := by show _ = _; rw [H32.out, H32M.out]
    obtain ⟨b1, Hb1⟩ : ∃ b1, Hid (b1 = (mkR q.reverse s I x).2) := ⟨_, (rfl : _ = _)⟩
    have IH : Hid (∀ W, Below w.heap.size w W → Calls Tryd.prog 27 #[.int .i64 s, .int .i64 I, .agg X, .slice (some ⟨g, o, none⟩) m cap] W fun e w' => e = .returned (.tuple #[.agg M1, .bool b1]) ∧ Below W.heap.size W w') := fun W hb =>
      refMakes_any m q hqm s I x _ m cap W s2 (by omega) hlt (HQ.out.keep hb) hx (HK.out.keep hb) X HX M1 HM1 b1 Hb1
    obtain ⟨Y, HYT⟩ : ∃ Y : ByteArray, Hid (Y = ⟨(mkR q.reverse s I x).1.toArray⟩) := ⟨_, (rfl : _ = _)⟩
    have hYs : Y.size = 32 := by rw [HYT.out]; exact hyl
    have TM : Hid (∀ W, Calls Tryd.prog 52 #[.agg M1] W fun e w' => e = .returned (.string Y) ∧ Below W.heap.size W w') := fun W => by
      rw [hLM]
      exact refText_any _ hyl W Y HYT LM (List.toArray_inj (by rw [← hLM]; exact HM1.out))
    have HTT : Hid (⟨#[1]⟩ ++ Y ++ D = T) := by
      show _ = _
      rw [HT.out, HYT.out, HDT.out, text_cat]
      show _ = (⟨(if I < split S then _ else _ : List UInt8).toArray⟩ : ByteArray)
      rw [← HSs.out, if_pos hlt]
    have hdi : decide ((I : Int) < (s : Int)) = true := by rw [decide_eq_true_eq]; omega
    clear HK HQ HSs HM1 hyl H32M HT HYT HDT hLM
    go_enter Tryd.func34, Tryd.ntmps34
    go_wp2_with fail
    refine (SP.out _).mono ?_
    rintro e w1 ⟨rfl, rfl⟩
    go_wp2_with (first
      | (show wpList _ _ _ ({ dst := some 13, op := _, type := _, pos := _, after := _, guard := _ } :: _) _ _; refine wpList_new_row rfl rfl 23 rfl (.tmp 13) (.tmp 26) rfl Z L.toArray HA.out (fun _ => by simp [Act.put, Act.eval]) (fun _ => by simp [Act.put, Act.eval]) HSE.out HZE.out H1E.out ?_; intro gd wb F1; try simp only [Act.put, List.setIfInBounds_toArray, List.set_cons_zero, List.set_cons_succ])
      | (show wpList _ _ _ ({ dst := some 26, op := _, type := _, pos := _, after := _, guard := _ } :: _) _ _; refine wpList_load_mid rfl 23 (.tmp 25) rfl g (o + 32 * m) rfl L _ HR0.out Tryd.underlying23 rfl zL.out ?_; try simp only [Act.put, List.setIfInBounds_toArray, List.set_cons_zero, List.set_cons_succ])
      | fail)
    have HB3 : Hid (Below w.heap.size w wb ∧ wb.heap[w.heap.size]? = some (.cells X 23 (0, 0))) := ⟨HB0.out.1.trans (F1.out.2.2.mono HB0.out.1.size), (F1.out.2.2.block _ (heap_lt HB0.out.2)).trans HB0.out.2⟩
    have HL : Hid (wb.heap[gd]? = some (.cells L.toArray 23 (0, 0))) := F1.out.2.1
    have HBW : Hid (Below wb.heap.size wb wb.drew) := (Below.refl _ _).drew
    clear F1 HR0 HB0 SP
    refine wp_region_held_drew (S := (fun W => W.heap[w.heap.size]? = some (.cells X 23 (0, 0)))) (by kernel_rfl) (show wb.drew.heap[w.heap.size]? = _ from HB3.out.2) (fun hHeld => ?_)
    refine wpAnyH_take (i := 0) (oi := { dst := some 31, op := Op.move (Operand.tmp 12), type := 3, pos := "ref.go:90", after := #[], guard := none }) (v := .int .i64 s) rfl (by kernel_rfl) (by kernel_rfl) (by kernel_rfl) (fun _ _ _ h => h) (Or.inl ⟨by rfl, by intro W hSw; go_simp⟩) hHeld ?_
    try simp only [Act.put, List.setIfInBounds_toArray, List.set_cons_zero, List.set_cons_succ]
    refine wpAnyH_take (i := 1) (oi := { dst := some 32, op := Op.move (Operand.tmp 1), type := 3, pos := "ref.go:90", after := #[], guard := none }) (v := .int .i64 I) rfl (by kernel_rfl) (by kernel_rfl) (by kernel_rfl) (fun _ _ _ h => h) (Or.inl ⟨by rfl, by intro W hSw; go_simp⟩) hHeld ?_
    try simp only [Act.put, List.setIfInBounds_toArray, List.set_cons_zero, List.set_cons_succ]
    refine wpAnyH_take (i := 2) (oi := { dst := some 33, op := Op.load 23 (Operand.tmp 6), type := 23, pos := "ref.go:90", after := #[], guard := none }) (v := .agg X) rfl (by kernel_rfl) (by kernel_rfl) (by kernel_rfl) (fun _ _ _ h => h) (yieldsIf_row (by rfl) 23 (.tmp 6) rfl w.heap.size rfl 23 X (0, 0) _ (fun _ h => h) Tryd.underlying23 rfl HSX.out) hHeld ?_
    try simp only [Act.put, List.setIfInBounds_toArray, List.set_cons_zero, List.set_cons_succ]
    refine wpAnyH_take (i := 3) (oi := { dst := some 34, op := Op.move (Operand.tmp 3), type := 24, pos := "ref.go:90", after := #[], guard := none }) (v := .slice (some ⟨g, o, none⟩) (m + 1) cap) rfl (by kernel_rfl) (by kernel_rfl) (by kernel_rfl) (fun _ _ _ h => h) (Or.inl ⟨by rfl, by intro W hSw; go_simp⟩) hHeld ?_
    try simp only [Act.put, List.setIfInBounds_toArray, List.set_cons_zero, List.set_cons_succ]
    refine wpAnyH_take (i := 4) (oi := { dst := some 35, op := Op.move (Operand.tmp 11), type := 3, pos := "ref.go:90", after := #[], guard := none }) (v := .int .i64 ((m : Int) + 1)) rfl (by kernel_rfl) (by kernel_rfl) (by kernel_rfl) (fun _ _ _ h => h) (Or.inl ⟨by rfl, by intro W hSw; go_simp⟩) hHeld ?_
    try simp only [Act.put, List.setIfInBounds_toArray, List.set_cons_zero, List.set_cons_succ]
    refine wpAnyH_take (i := 5) (oi := { dst := some 36, op := Op.binOp BinOp.sub 3 (Operand.tmp 35) (Operand.const (Value.int IntKind.i64 1)) 3, type := 3, pos := "ref.go:90", after := #[{ on := 4, ground := Ground.data }], guard := none }) (v := .int .i64 m) rfl (by kernel_rfl) (by kernel_rfl) (by kernel_rfl) (fun _ _ _ h => h) (Or.inl ⟨by rfl, by intro W hSw; go_simp; exact wrap_int _ (by omega) (by omega)⟩) hHeld ?_
    try simp only [Act.put, List.setIfInBounds_toArray, List.set_cons_zero, List.set_cons_succ]
    refine wpAnyH_take (i := 6) (oi := { dst := some 37, op := Op.slice 24 (Operand.tmp 34) none (some (Operand.tmp 36)) none, type := 24, pos := "ref.go:90", after := #[{ on := 3, ground := Ground.data }, { on := 5, ground := Ground.data }], guard := none }) (v := .slice (some ⟨g, o, none⟩) m cap) rfl (by kernel_rfl) (by kernel_rfl) (by kernel_rfl) (fun _ _ _ h => h) (Or.inl ⟨by rfl, by intro W hSw; have := slc W; go_simp⟩) hHeld ?_
    try simp only [Act.put, List.setIfInBounds_toArray, List.set_cons_zero, List.set_cons_succ]
    refine wpAnyH_ready (rs := [7, 11]) (by kernel_rfl) (by simp) ?_
    refine (AllReadyH.cons (o := { dst := some 38, op := Op.call { callee := Callee.value (Operand.func 27), args := #[Operand.tmp 31, Operand.tmp 32, Operand.tmp 33, Operand.tmp 37], argTypes := #[3, 3, 23, 24] }, type := 48, pos := "ref.go:90", after := #[{ on := 0, ground := Ground.data }, { on := 1, ground := Ground.data }, { on := 2, ground := Ground.data }, { on := 6, ground := Ground.data }], guard := none }) rfl (fun K hK => ?_) (AllReadyH.cons (o := { dst := some 14, op := Op.alloc 23, type := 0, pos := "ref.go:90", after := #[], guard := none }) rfl (fun K hK => ?_) AllReadyH.nil))
    · go_simp
      refine (IH.out _ (HB3.out.1.trans (HBW.out.mono HB3.out.1.size))).mono ?_
      rintro e w7 ⟨rfl, hbc⟩
      try replace V1 := hidk (And.intro V1.out.1 ((hbc.block _ (heap_lt V1.out.2)).trans V1.out.2))
      replace HBW := hidk (HBW.out.trans (hbc.mono HBW.out.size))
      go_wp2_with fail
      refine hK.out _ _ ((hbc.block _ (heap_lt hHeld)).trans hHeld) (fun hHeld => ?_)
      clear hK K
      try simp only [Act.put, List.setIfInBounds_toArray, List.set_cons_zero, List.set_cons_succ]
      refine wpAnyH_take (i := 8) (oi := { dst := some 30, op := Op.move (Operand.tmp 38), type := 48, pos := "ref.go:90", after := #[{ on := 7, ground := Ground.data }], guard := none }) (v := .tuple #[.agg M1, .bool b1]) rfl (by kernel_rfl) (by kernel_rfl) (by kernel_rfl) (fun _ _ _ h => h) (Or.inl ⟨by rfl, by intro W hSw; go_simp⟩) hHeld ?_
      try simp only [Act.put, List.setIfInBounds_toArray, List.set_cons_zero, List.set_cons_succ]
      refine wpAnyH_take (i := 9) (oi := { dst := some 39, op := Op.extract (Operand.tmp 30) 0, type := 23, pos := "ref.go:90", after := #[{ on := 8, ground := Ground.data }], guard := none }) (v := .agg M1) rfl (by kernel_rfl) (by kernel_rfl) (by kernel_rfl) (fun _ _ _ h => h) (Or.inl ⟨by rfl, by intro W hSw; go_simp⟩) hHeld ?_
      try simp only [Act.put, List.setIfInBounds_toArray, List.set_cons_zero, List.set_cons_succ]
      refine wpAnyH_take (i := 10) (oi := { dst := some 40, op := Op.extract (Operand.tmp 30) 1, type := 4, pos := "ref.go:90", after := #[{ on := 8, ground := Ground.data }, { on := 12, ground := Ground.gcOnly Departure.lateStores }], guard := none }) (v := .bool b1) rfl (by kernel_rfl) (by kernel_rfl) (by kernel_rfl) (fun _ _ _ h => h) (Or.inl ⟨by rfl, by intro W hSw; go_simp⟩) hHeld ?_
      try simp only [Act.put, List.setIfInBounds_toArray, List.set_cons_zero, List.set_cons_succ]
      refine wpAnyH_ready (rs := [11]) (by kernel_rfl) (by simp) ?_
      refine (AllReadyH.cons (o := { dst := some 14, op := Op.alloc 23, type := 0, pos := "ref.go:90", after := #[], guard := none }) rfl (fun K hK => ?_) AllReadyH.nil)
      refine step_new_var (by rfl) 23 rfl Z HA.out ?_
      intro g1 w11 F11
      have V1 : Hid (wb.heap.size ≤ g1 ∧ w11.heap[g1]? = some (.cells Z 23 (0, 0))) := ⟨by rw [F11.out.new]; exact HBW.out.size, F11.out.row⟩
      replace HBW := hidk (HBW.out.trans (F11.out.below.mono HBW.out.size))
      refine hK.out _ _ ((F11.out.below.block _ (heap_lt hHeld)).trans hHeld) (fun hHeld => ?_)
      clear hK K
      try simp only [Act.put, List.setIfInBounds_toArray, List.set_cons_zero, List.set_cons_succ]
      refine wpAnyH_ready (rs := [12]) (by kernel_rfl) (by simp) ?_
      refine (AllReadyH.cons (o := { dst := none, op := Op.store 23 (Operand.tmp 14) (Operand.tmp 39), type := 0, pos := "ref.go:90", after := #[{ on := 11, ground := Ground.data }, { on := 9, ground := Ground.data }, { on := 7, ground := Ground.chain }, { on := 0, ground := Ground.phase }, { on := 1, ground := Ground.phase }, { on := 2, ground := Ground.phase }, { on := 3, ground := Ground.phase }, { on := 4, ground := Ground.phase }, { on := 5, ground := Ground.phase }, { on := 6, ground := Ground.phase }, { on := 7, ground := Ground.phase }, { on := 8, ground := Ground.phase }, { on := 9, ground := Ground.phase }, { on := 10, ground := Ground.textOnly Departure.lateStores }, { on := 11, ground := Ground.phase }], guard := none }) rfl (fun K hK => ?_) AllReadyH.nil)
      refine step_set_var (by rfl) 23 (.tmp 14) (.tmp 39) rfl g1 M1 rfl rfl 23 Z V1.out.2 HSM.out HZM.out H1M.out ?_
      intro w12 F12
      have R1 : Hid (w12.heap[g1]? = some (.cells M1 23 (0, 0))) := F12.out.row
      replace HBW := hidk (F12.out.below _ _ HBW.out V1.out.1)
      refine hK.out _ _ ((F12.out.other _ (by have := V1.out.1; have := heap_lt HB3.out.2; omega)).trans hHeld) (fun hHeld => ?_)
      clear hK K
      try simp only [Act.put, List.setIfInBounds_toArray, List.set_cons_zero, List.set_cons_succ]
      refine wpAnyH_take (i := 13) (oi := { dst := some 15, op := Op.assign (Operand.tmp 40), type := 4, pos := "ref.go:90", after := #[{ on := 10, ground := Ground.data }, { on := 12, ground := Ground.chain }, { on := 0, ground := Ground.phase }, { on := 1, ground := Ground.phase }, { on := 2, ground := Ground.phase }, { on := 3, ground := Ground.phase }, { on := 4, ground := Ground.phase }, { on := 5, ground := Ground.phase }, { on := 6, ground := Ground.phase }, { on := 7, ground := Ground.phase }, { on := 8, ground := Ground.phase }, { on := 9, ground := Ground.phase }, { on := 10, ground := Ground.phase }, { on := 11, ground := Ground.phase }, { on := 12, ground := Ground.phase }], guard := none }) (v := .bool b1) rfl (by kernel_rfl) (by kernel_rfl) (by kernel_rfl) (fun _ _ _ h => h) (Or.inl ⟨by rfl, by intro W hSw; go_simp⟩) hHeld ?_
      try simp only [Act.put, List.setIfInBounds_toArray, List.set_cons_zero, List.set_cons_succ]
      refine wpAnyH_done (by kernel_rfl) ?_ _
      have HB5 : Hid (Below w.heap.size w w12.drew) := (HB3.out.1.trans (HBW.out.mono HB3.out.1.size)).drew
      have hS : w12.drew.heap[g1]? = some (.cells M1 23 (0, 0)) ∧ w12.drew.heap[gd]? = some (.cells L.toArray 23 (0, 0)) := ⟨R1.out, (HBW.out.block _ (heap_lt HL.out)).trans HL.out⟩
      clear hHeld HB3 HL IH HBW V1 R1
      go_wp2
      refine wp_region_held_drew (S := (fun W => W.heap[g1]? = some (.cells M1 23 (0, 0)) ∧ W.heap[gd]? = some (.cells L.toArray 23 (0, 0)))) (by kernel_rfl) hS (fun hHeld => ?_)
      refine wpAnyH_take (i := 0) (oi := { dst := some 41, op := Op.load 23 (Operand.tmp 14), type := 23, pos := "ref.go:91", after := #[], guard := none }) (v := .agg M1) rfl (by kernel_rfl) (by kernel_rfl) (by kernel_rfl) (fun _ _ _ h => h) (yieldsIf_row (by rfl) 23 (.tmp 14) rfl g1 rfl 23 M1 (0, 0) _ (fun _ h => h.1) Tryd.underlying23 rfl HSM.out) hHeld ?_
      try simp only [Act.put, List.setIfInBounds_toArray, List.set_cons_zero, List.set_cons_succ]
      refine wpAnyH_take (i := 3) (oi := { dst := some 44, op := Op.load 23 (Operand.tmp 13), type := 23, pos := "ref.go:91", after := #[], guard := none }) (v := .agg L.toArray) rfl (by kernel_rfl) (by kernel_rfl) (by kernel_rfl) (fun _ _ _ h => h) (yieldsIf_row (by rfl) 23 (.tmp 13) rfl gd rfl 23 L.toArray (0, 0) _ (fun _ h => h.2) Tryd.underlying23 rfl HSE.out) hHeld ?_
      try simp only [Act.put, List.setIfInBounds_toArray, List.set_cons_zero, List.set_cons_succ]
      refine wpAnyH_take (i := 6) (oi := { dst := some 47, op := Op.move (Operand.tmp 12), type := 3, pos := "ref.go:91", after := #[{ on := 8, ground := Ground.gcOnly Departure.lateStores }], guard := none }) (v := .int .i64 s) rfl (by kernel_rfl) (by kernel_rfl) (by kernel_rfl) (fun _ _ _ h => h) (Or.inl ⟨by rfl, by intro w hSw; go_simp⟩) hHeld ?_
      try simp only [Act.put, List.setIfInBounds_toArray, List.set_cons_zero, List.set_cons_succ]
      refine wpAnyH_take (i := 7) (oi := { dst := some 48, op := Op.move (Operand.tmp 1), type := 3, pos := "ref.go:91", after := #[{ on := 9, ground := Ground.gcOnly Departure.lateStores }], guard := none }) (v := .int .i64 I) rfl (by kernel_rfl) (by kernel_rfl) (by kernel_rfl) (fun _ _ _ h => h) (Or.inl ⟨by rfl, by intro w hSw; go_simp⟩) hHeld ?_
      try simp only [Act.put, List.setIfInBounds_toArray, List.set_cons_zero, List.set_cons_succ]
      refine wpAnyH_ready (rs := [1]) (by kernel_rfl) (by simp) ?_
      refine AllReadyH.cons (o := { dst := some 42, op := Op.call { callee := Callee.value (Operand.func 52), args := #[Operand.tmp 41], argTypes := #[23] }, type := 9, pos := "ref.go:91", after := #[{ on := 0, ground := Ground.data }], guard := none }) rfl (fun K hK => ?_) AllReadyH.nil
      go_simp
      refine (TM.out _).mono ?_
      rintro e wj ⟨rfl, hbj⟩
      go_wp2_with fail
      refine hK.out _ _ ⟨(hbj.block _ (heap_lt hHeld.1)).trans hHeld.1, (hbj.block _ (heap_lt hHeld.2)).trans hHeld.2⟩ (fun hHeld => ?_)
      clear hK K
      try simp only [Act.put, List.setIfInBounds_toArray, List.set_cons_zero, List.set_cons_succ]
      refine wpAnyH_take (i := 2) (oi := { dst := some 43, op := Op.binOp BinOp.add 9 (Operand.const (Value.string { data := #[1] })) (Operand.tmp 42) 9, type := 9, pos := "ref.go:91", after := #[{ on := 1, ground := Ground.data }], guard := none }) (v := .string (⟨#[1]⟩ ++ Y)) rfl (by kernel_rfl) (by kernel_rfl) (by kernel_rfl) (fun _ _ _ h => h) (Or.inl ⟨by rfl, by intro W hSw; go_simp⟩) hHeld ?_
      try simp only [Act.put, List.setIfInBounds_toArray, List.set_cons_zero, List.set_cons_succ]
      refine wpAnyH_ready (rs := [4]) (by kernel_rfl) (by simp) ?_
      refine AllReadyH.cons (o := { dst := some 45, op := Op.call { callee := Callee.value (Operand.func 52), args := #[Operand.tmp 44], argTypes := #[23] }, type := 9, pos := "ref.go:91", after := #[{ on := 3, ground := Ground.data }, { on := 1, ground := Ground.chain }], guard := none }) rfl (fun K hK => ?_) AllReadyH.nil
      go_simp
      refine (TD.out _).mono ?_
      rintro e wk ⟨rfl, hbk⟩
      go_wp2_with fail
      refine hK.out _ _ ⟨(hbk.block _ (heap_lt hHeld.1)).trans hHeld.1, (hbk.block _ (heap_lt hHeld.2)).trans hHeld.2⟩ (fun hHeld => ?_)
      clear hK K
      try simp only [Act.put, List.setIfInBounds_toArray, List.set_cons_zero, List.set_cons_succ]
      refine wpAnyH_take (i := 5) (oi := { dst := some 46, op := Op.binOp BinOp.add 9 (Operand.tmp 43) (Operand.tmp 45) 9, type := 9, pos := "ref.go:91", after := #[{ on := 2, ground := Ground.data }, { on := 4, ground := Ground.data }], guard := none }) (v := .string T) rfl (by kernel_rfl) (by kernel_rfl) (by kernel_rfl) (fun _ _ _ h => h) (Or.inl ⟨by rfl, by intro W hSw; have := HTT.out; go_simp⟩) hHeld ?_
      try simp only [Act.put, List.setIfInBounds_toArray, List.set_cons_zero, List.set_cons_succ]
      refine wpAnyH_take (i := 8) (oi := { dst := some 8, op := Op.assign (Operand.tmp 46), type := 9, pos := "ref.go:91", after := #[{ on := 5, ground := Ground.data }, { on := 4, ground := Ground.chain }, { on := 0, ground := Ground.phase }, { on := 1, ground := Ground.phase }, { on := 2, ground := Ground.phase }, { on := 3, ground := Ground.phase }, { on := 4, ground := Ground.phase }, { on := 5, ground := Ground.phase }, { on := 6, ground := Ground.textOnly Departure.lateStores }, { on := 7, ground := Ground.textOnly Departure.lateStores }], guard := none }) (v := .string T) rfl (by kernel_rfl) (by kernel_rfl) (by kernel_rfl) (fun _ _ _ h => h) (Or.inl ⟨by rfl, by intro w hSw; go_simp⟩) hHeld ?_
      try simp only [Act.put, List.setIfInBounds_toArray, List.set_cons_zero, List.set_cons_succ]
      refine wpAnyH_take (i := 9) (oi := { dst := some 9, op := Op.assign (Operand.tmp 47), type := 3, pos := "ref.go:91", after := #[{ on := 6, ground := Ground.data }, { on := 8, ground := Ground.chain }, { on := 0, ground := Ground.phase }, { on := 1, ground := Ground.phase }, { on := 2, ground := Ground.phase }, { on := 3, ground := Ground.phase }, { on := 4, ground := Ground.phase }, { on := 5, ground := Ground.phase }, { on := 6, ground := Ground.phase }, { on := 7, ground := Ground.textOnly Departure.lateStores }, { on := 8, ground := Ground.phase }], guard := none }) (v := .int .i64 s) rfl (by kernel_rfl) (by kernel_rfl) (by kernel_rfl) (fun _ _ _ h => h) (Or.inl ⟨by rfl, by intro w hSw; go_simp⟩) hHeld ?_
      try simp only [Act.put, List.setIfInBounds_toArray, List.set_cons_zero, List.set_cons_succ]
      refine wpAnyH_take (i := 10) (oi := { dst := some 10, op := Op.assign (Operand.tmp 48), type := 3, pos := "ref.go:91", after := #[{ on := 7, ground := Ground.data }, { on := 9, ground := Ground.chain }, { on := 0, ground := Ground.phase }, { on := 1, ground := Ground.phase }, { on := 2, ground := Ground.phase }, { on := 3, ground := Ground.phase }, { on := 4, ground := Ground.phase }, { on := 5, ground := Ground.phase }, { on := 6, ground := Ground.phase }, { on := 7, ground := Ground.phase }, { on := 8, ground := Ground.phase }, { on := 9, ground := Ground.phase }], guard := none }) (v := .int .i64 I) rfl (by kernel_rfl) (by kernel_rfl) (by kernel_rfl) (fun _ _ _ h => h) (Or.inl ⟨by rfl, by intro w hSw; go_simp⟩) hHeld ?_
      try simp only [Act.put, List.setIfInBounds_toArray, List.set_cons_zero, List.set_cons_succ]
      refine wpAnyH_done (by kernel_rfl) ?_ _
      have HB9 : Hid (Below w.heap.size w wk) := (HB5.out.trans (hbj.mono HB5.out.size)).trans (hbk.mono (Nat.le_trans HB5.out.size hbj.size))
      clear hHeld hbj hbk HB5
      go_wp2
      refine bodyPost_ret (results_three rfl _ _ _) rfl ⟨rfl, HB9.out⟩
    · refine step_new_var (by rfl) 23 rfl Z HA.out ?_
      intro g1 w11 F11
      have V1 : Hid (wb.heap.size ≤ g1 ∧ w11.heap[g1]? = some (.cells Z 23 (0, 0))) := ⟨by rw [F11.out.new]; exact HBW.out.size, F11.out.row⟩
      replace HBW := hidk (HBW.out.trans (F11.out.below.mono HBW.out.size))
      refine hK.out _ _ ((F11.out.below.block _ (heap_lt hHeld)).trans hHeld) (fun hHeld => ?_)
      clear hK K
      try simp only [Act.put, List.setIfInBounds_toArray, List.set_cons_zero, List.set_cons_succ]
      refine wpAnyH_ready (rs := [7]) (by kernel_rfl) (by simp) ?_
      refine (AllReadyH.cons (o := { dst := some 38, op := Op.call { callee := Callee.value (Operand.func 27), args := #[Operand.tmp 31, Operand.tmp 32, Operand.tmp 33, Operand.tmp 37], argTypes := #[3, 3, 23, 24] }, type := 48, pos := "ref.go:90", after := #[{ on := 0, ground := Ground.data }, { on := 1, ground := Ground.data }, { on := 2, ground := Ground.data }, { on := 6, ground := Ground.data }], guard := none }) rfl (fun K hK => ?_) AllReadyH.nil)
      go_simp
      refine (IH.out _ (HB3.out.1.trans (HBW.out.mono HB3.out.1.size))).mono ?_
      rintro e w7 ⟨rfl, hbc⟩
      try replace V1 := hidk (And.intro V1.out.1 ((hbc.block _ (heap_lt V1.out.2)).trans V1.out.2))
      replace HBW := hidk (HBW.out.trans (hbc.mono HBW.out.size))
      go_wp2_with fail
      refine hK.out _ _ ((hbc.block _ (heap_lt hHeld)).trans hHeld) (fun hHeld => ?_)
      clear hK K
      try simp only [Act.put, List.setIfInBounds_toArray, List.set_cons_zero, List.set_cons_succ]
      refine wpAnyH_take (i := 8) (oi := { dst := some 30, op := Op.move (Operand.tmp 38), type := 48, pos := "ref.go:90", after := #[{ on := 7, ground := Ground.data }], guard := none }) (v := .tuple #[.agg M1, .bool b1]) rfl (by kernel_rfl) (by kernel_rfl) (by kernel_rfl) (fun _ _ _ h => h) (Or.inl ⟨by rfl, by intro W hSw; go_simp⟩) hHeld ?_
      try simp only [Act.put, List.setIfInBounds_toArray, List.set_cons_zero, List.set_cons_succ]
      refine wpAnyH_take (i := 9) (oi := { dst := some 39, op := Op.extract (Operand.tmp 30) 0, type := 23, pos := "ref.go:90", after := #[{ on := 8, ground := Ground.data }], guard := none }) (v := .agg M1) rfl (by kernel_rfl) (by kernel_rfl) (by kernel_rfl) (fun _ _ _ h => h) (Or.inl ⟨by rfl, by intro W hSw; go_simp⟩) hHeld ?_
      try simp only [Act.put, List.setIfInBounds_toArray, List.set_cons_zero, List.set_cons_succ]
      refine wpAnyH_take (i := 10) (oi := { dst := some 40, op := Op.extract (Operand.tmp 30) 1, type := 4, pos := "ref.go:90", after := #[{ on := 8, ground := Ground.data }, { on := 12, ground := Ground.gcOnly Departure.lateStores }], guard := none }) (v := .bool b1) rfl (by kernel_rfl) (by kernel_rfl) (by kernel_rfl) (fun _ _ _ h => h) (Or.inl ⟨by rfl, by intro W hSw; go_simp⟩) hHeld ?_
      try simp only [Act.put, List.setIfInBounds_toArray, List.set_cons_zero, List.set_cons_succ]
      refine wpAnyH_ready (rs := [12]) (by kernel_rfl) (by simp) ?_
      refine (AllReadyH.cons (o := { dst := none, op := Op.store 23 (Operand.tmp 14) (Operand.tmp 39), type := 0, pos := "ref.go:90", after := #[{ on := 11, ground := Ground.data }, { on := 9, ground := Ground.data }, { on := 7, ground := Ground.chain }, { on := 0, ground := Ground.phase }, { on := 1, ground := Ground.phase }, { on := 2, ground := Ground.phase }, { on := 3, ground := Ground.phase }, { on := 4, ground := Ground.phase }, { on := 5, ground := Ground.phase }, { on := 6, ground := Ground.phase }, { on := 7, ground := Ground.phase }, { on := 8, ground := Ground.phase }, { on := 9, ground := Ground.phase }, { on := 10, ground := Ground.textOnly Departure.lateStores }, { on := 11, ground := Ground.phase }], guard := none }) rfl (fun K hK => ?_) AllReadyH.nil)
      refine step_set_var (by rfl) 23 (.tmp 14) (.tmp 39) rfl g1 M1 rfl rfl 23 Z V1.out.2 HSM.out HZM.out H1M.out ?_
      intro w12 F12
      have R1 : Hid (w12.heap[g1]? = some (.cells M1 23 (0, 0))) := F12.out.row
      replace HBW := hidk (F12.out.below _ _ HBW.out V1.out.1)
      refine hK.out _ _ ((F12.out.other _ (by have := V1.out.1; have := heap_lt HB3.out.2; omega)).trans hHeld) (fun hHeld => ?_)
      clear hK K
      try simp only [Act.put, List.setIfInBounds_toArray, List.set_cons_zero, List.set_cons_succ]
      refine wpAnyH_take (i := 13) (oi := { dst := some 15, op := Op.assign (Operand.tmp 40), type := 4, pos := "ref.go:90", after := #[{ on := 10, ground := Ground.data }, { on := 12, ground := Ground.chain }, { on := 0, ground := Ground.phase }, { on := 1, ground := Ground.phase }, { on := 2, ground := Ground.phase }, { on := 3, ground := Ground.phase }, { on := 4, ground := Ground.phase }, { on := 5, ground := Ground.phase }, { on := 6, ground := Ground.phase }, { on := 7, ground := Ground.phase }, { on := 8, ground := Ground.phase }, { on := 9, ground := Ground.phase }, { on := 10, ground := Ground.phase }, { on := 11, ground := Ground.phase }, { on := 12, ground := Ground.phase }], guard := none }) (v := .bool b1) rfl (by kernel_rfl) (by kernel_rfl) (by kernel_rfl) (fun _ _ _ h => h) (Or.inl ⟨by rfl, by intro W hSw; go_simp⟩) hHeld ?_
      try simp only [Act.put, List.setIfInBounds_toArray, List.set_cons_zero, List.set_cons_succ]
      refine wpAnyH_done (by kernel_rfl) ?_ _
      have HB5 : Hid (Below w.heap.size w w12.drew) := (HB3.out.1.trans (HBW.out.mono HB3.out.1.size)).drew
      have hS : w12.drew.heap[g1]? = some (.cells M1 23 (0, 0)) ∧ w12.drew.heap[gd]? = some (.cells L.toArray 23 (0, 0)) := ⟨R1.out, (HBW.out.block _ (heap_lt HL.out)).trans HL.out⟩
      clear hHeld HB3 HL IH HBW V1 R1
      go_wp2
      refine wp_region_held_drew (S := (fun W => W.heap[g1]? = some (.cells M1 23 (0, 0)) ∧ W.heap[gd]? = some (.cells L.toArray 23 (0, 0)))) (by kernel_rfl) hS (fun hHeld => ?_)
      refine wpAnyH_take (i := 0) (oi := { dst := some 41, op := Op.load 23 (Operand.tmp 14), type := 23, pos := "ref.go:91", after := #[], guard := none }) (v := .agg M1) rfl (by kernel_rfl) (by kernel_rfl) (by kernel_rfl) (fun _ _ _ h => h) (yieldsIf_row (by rfl) 23 (.tmp 14) rfl g1 rfl 23 M1 (0, 0) _ (fun _ h => h.1) Tryd.underlying23 rfl HSM.out) hHeld ?_
      try simp only [Act.put, List.setIfInBounds_toArray, List.set_cons_zero, List.set_cons_succ]
      refine wpAnyH_take (i := 3) (oi := { dst := some 44, op := Op.load 23 (Operand.tmp 13), type := 23, pos := "ref.go:91", after := #[], guard := none }) (v := .agg L.toArray) rfl (by kernel_rfl) (by kernel_rfl) (by kernel_rfl) (fun _ _ _ h => h) (yieldsIf_row (by rfl) 23 (.tmp 13) rfl gd rfl 23 L.toArray (0, 0) _ (fun _ h => h.2) Tryd.underlying23 rfl HSE.out) hHeld ?_
      try simp only [Act.put, List.setIfInBounds_toArray, List.set_cons_zero, List.set_cons_succ]
      refine wpAnyH_take (i := 6) (oi := { dst := some 47, op := Op.move (Operand.tmp 12), type := 3, pos := "ref.go:91", after := #[{ on := 8, ground := Ground.gcOnly Departure.lateStores }], guard := none }) (v := .int .i64 s) rfl (by kernel_rfl) (by kernel_rfl) (by kernel_rfl) (fun _ _ _ h => h) (Or.inl ⟨by rfl, by intro w hSw; go_simp⟩) hHeld ?_
      try simp only [Act.put, List.setIfInBounds_toArray, List.set_cons_zero, List.set_cons_succ]
      refine wpAnyH_take (i := 7) (oi := { dst := some 48, op := Op.move (Operand.tmp 1), type := 3, pos := "ref.go:91", after := #[{ on := 9, ground := Ground.gcOnly Departure.lateStores }], guard := none }) (v := .int .i64 I) rfl (by kernel_rfl) (by kernel_rfl) (by kernel_rfl) (fun _ _ _ h => h) (Or.inl ⟨by rfl, by intro w hSw; go_simp⟩) hHeld ?_
      try simp only [Act.put, List.setIfInBounds_toArray, List.set_cons_zero, List.set_cons_succ]
      refine wpAnyH_ready (rs := [1]) (by kernel_rfl) (by simp) ?_
      refine AllReadyH.cons (o := { dst := some 42, op := Op.call { callee := Callee.value (Operand.func 52), args := #[Operand.tmp 41], argTypes := #[23] }, type := 9, pos := "ref.go:91", after := #[{ on := 0, ground := Ground.data }], guard := none }) rfl (fun K hK => ?_) AllReadyH.nil
      go_simp
      refine (TM.out _).mono ?_
      rintro e wj ⟨rfl, hbj⟩
      go_wp2_with fail
      refine hK.out _ _ ⟨(hbj.block _ (heap_lt hHeld.1)).trans hHeld.1, (hbj.block _ (heap_lt hHeld.2)).trans hHeld.2⟩ (fun hHeld => ?_)
      clear hK K
      try simp only [Act.put, List.setIfInBounds_toArray, List.set_cons_zero, List.set_cons_succ]
      refine wpAnyH_take (i := 2) (oi := { dst := some 43, op := Op.binOp BinOp.add 9 (Operand.const (Value.string { data := #[1] })) (Operand.tmp 42) 9, type := 9, pos := "ref.go:91", after := #[{ on := 1, ground := Ground.data }], guard := none }) (v := .string (⟨#[1]⟩ ++ Y)) rfl (by kernel_rfl) (by kernel_rfl) (by kernel_rfl) (fun _ _ _ h => h) (Or.inl ⟨by rfl, by intro W hSw; go_simp⟩) hHeld ?_
      try simp only [Act.put, List.setIfInBounds_toArray, List.set_cons_zero, List.set_cons_succ]
      refine wpAnyH_ready (rs := [4]) (by kernel_rfl) (by simp) ?_
      refine AllReadyH.cons (o := { dst := some 45, op := Op.call { callee := Callee.value (Operand.func 52), args := #[Operand.tmp 44], argTypes := #[23] }, type := 9, pos := "ref.go:91", after := #[{ on := 3, ground := Ground.data }, { on := 1, ground := Ground.chain }], guard := none }) rfl (fun K hK => ?_) AllReadyH.nil
      go_simp
      refine (TD.out _).mono ?_
      rintro e wk ⟨rfl, hbk⟩
      go_wp2_with fail
      refine hK.out _ _ ⟨(hbk.block _ (heap_lt hHeld.1)).trans hHeld.1, (hbk.block _ (heap_lt hHeld.2)).trans hHeld.2⟩ (fun hHeld => ?_)
      clear hK K
      try simp only [Act.put, List.setIfInBounds_toArray, List.set_cons_zero, List.set_cons_succ]
      refine wpAnyH_take (i := 5) (oi := { dst := some 46, op := Op.binOp BinOp.add 9 (Operand.tmp 43) (Operand.tmp 45) 9, type := 9, pos := "ref.go:91", after := #[{ on := 2, ground := Ground.data }, { on := 4, ground := Ground.data }], guard := none }) (v := .string T) rfl (by kernel_rfl) (by kernel_rfl) (by kernel_rfl) (fun _ _ _ h => h) (Or.inl ⟨by rfl, by intro W hSw; have := HTT.out; go_simp⟩) hHeld ?_
      try simp only [Act.put, List.setIfInBounds_toArray, List.set_cons_zero, List.set_cons_succ]
      refine wpAnyH_take (i := 8) (oi := { dst := some 8, op := Op.assign (Operand.tmp 46), type := 9, pos := "ref.go:91", after := #[{ on := 5, ground := Ground.data }, { on := 4, ground := Ground.chain }, { on := 0, ground := Ground.phase }, { on := 1, ground := Ground.phase }, { on := 2, ground := Ground.phase }, { on := 3, ground := Ground.phase }, { on := 4, ground := Ground.phase }, { on := 5, ground := Ground.phase }, { on := 6, ground := Ground.textOnly Departure.lateStores }, { on := 7, ground := Ground.textOnly Departure.lateStores }], guard := none }) (v := .string T) rfl (by kernel_rfl) (by kernel_rfl) (by kernel_rfl) (fun _ _ _ h => h) (Or.inl ⟨by rfl, by intro w hSw; go_simp⟩) hHeld ?_
      try simp only [Act.put, List.setIfInBounds_toArray, List.set_cons_zero, List.set_cons_succ]
      refine wpAnyH_take (i := 9) (oi := { dst := some 9, op := Op.assign (Operand.tmp 47), type := 3, pos := "ref.go:91", after := #[{ on := 6, ground := Ground.data }, { on := 8, ground := Ground.chain }, { on := 0, ground := Ground.phase }, { on := 1, ground := Ground.phase }, { on := 2, ground := Ground.phase }, { on := 3, ground := Ground.phase }, { on := 4, ground := Ground.phase }, { on := 5, ground := Ground.phase }, { on := 6, ground := Ground.phase }, { on := 7, ground := Ground.textOnly Departure.lateStores }, { on := 8, ground := Ground.phase }], guard := none }) (v := .int .i64 s) rfl (by kernel_rfl) (by kernel_rfl) (by kernel_rfl) (fun _ _ _ h => h) (Or.inl ⟨by rfl, by intro w hSw; go_simp⟩) hHeld ?_
      try simp only [Act.put, List.setIfInBounds_toArray, List.set_cons_zero, List.set_cons_succ]
      refine wpAnyH_take (i := 10) (oi := { dst := some 10, op := Op.assign (Operand.tmp 48), type := 3, pos := "ref.go:91", after := #[{ on := 7, ground := Ground.data }, { on := 9, ground := Ground.chain }, { on := 0, ground := Ground.phase }, { on := 1, ground := Ground.phase }, { on := 2, ground := Ground.phase }, { on := 3, ground := Ground.phase }, { on := 4, ground := Ground.phase }, { on := 5, ground := Ground.phase }, { on := 6, ground := Ground.phase }, { on := 7, ground := Ground.phase }, { on := 8, ground := Ground.phase }, { on := 9, ground := Ground.phase }], guard := none }) (v := .int .i64 I) rfl (by kernel_rfl) (by kernel_rfl) (by kernel_rfl) (fun _ _ _ h => h) (Or.inl ⟨by rfl, by intro w hSw; go_simp⟩) hHeld ?_
      try simp only [Act.put, List.setIfInBounds_toArray, List.set_cons_zero, List.set_cons_succ]
      refine wpAnyH_done (by kernel_rfl) ?_ _
      have HB9 : Hid (Below w.heap.size w wk) := (HB5.out.trans (hbj.mono HB5.out.size)).trans (hbk.mono (Nat.le_trans HB5.out.size hbj.size))
      clear hHeld hbj hbk HB5
      go_wp2
      refine bodyPost_ret (results_three rfl _ _ _) rfl ⟨rfl, HB9.out⟩
  · rw [if_neg hlt, if_neg hlt]
    have hyl := mkR_length sumD_length q.reverse (S - s) (I - s) x hx
    obtain ⟨M1, HM1, HSM, H1M, H32M⟩ := dig_row' (mkR q.reverse (S - s) (I - s) x).1 hyl
    obtain ⟨LM, hLM⟩ : ∃ L : List Value, M1 = L.toArray := ⟨M1.toList, by simp⟩
    have HZM : Hid (Z.size = M1.size) := by show _ = _; rw [H32.out, H32M.out]
    obtain ⟨b1, Hb1⟩ : ∃ b1, Hid (b1 = (mkR q.reverse (S - s) (I - s) x).2) := ⟨_, (rfl : _ = _)⟩
    have IH : Hid (∀ W, Below w.heap.size w W → Calls Tryd.prog 27 #[.int .i64 ((S : Int) - (s : Int)), .int .i64 ((I : Int) - (s : Int)), .agg X, .slice (some ⟨g, o, none⟩) m cap] W fun e w' => e = .returned (.tuple #[.agg M1, .bool b1]) ∧ Below W.heap.size W w') := fun W hb => by
      rw [show (S : Int) - (s : Int) = ((S - s : Nat) : Int) by omega, show (I : Int) - (s : Int) = ((I - s : Nat) : Int) by omega]
      exact refMakes_any m q hqm (S - s) (I - s) x _ m cap W (by omega) (by omega) (by omega) (HQ.out.keep hb) hx (HK.out.keep hb) X HX M1 HM1 b1 Hb1
    obtain ⟨Y, HYT⟩ : ∃ Y : ByteArray, Hid (Y = ⟨(mkR q.reverse (S - s) (I - s) x).1.toArray⟩) := ⟨_, (rfl : _ = _)⟩
    have hYs : Y.size = 32 := by rw [HYT.out]; exact hyl
    have TM : Hid (∀ W, Calls Tryd.prog 52 #[.agg M1] W fun e w' => e = .returned (.string Y) ∧ Below W.heap.size W w') := fun W => by
      rw [hLM]
      exact refText_any _ hyl W Y HYT LM (List.toArray_inj (by rw [← hLM]; exact HM1.out))
    have HTT : Hid (⟨#[1]⟩ ++ D ++ Y = T) := by
      show _ = _
      rw [HT.out, HYT.out, HDT.out, text_cat]
      show _ = (⟨(if I < split S then _ else _ : List UInt8).toArray⟩ : ByteArray)
      rw [← HSs.out, if_neg hlt]
    have hdi : decide ((I : Int) < (s : Int)) = false := by rw [decide_eq_false_iff_not]; omega
    have e2 := wrap_int ((S : Int) - (s : Int)) (by omega) (by omega)
    have e3 := wrap_int ((I : Int) - (s : Int)) (by omega) (by omega)
    clear HK HQ HSs HM1 hyl H32M HT HYT HDT hLM
    go_enter Tryd.func34, Tryd.ntmps34
    go_wp2_with fail
    refine (SP.out _).mono ?_
    rintro e w1 ⟨rfl, rfl⟩
    go_wp2_with (first
      | (show wpList _ _ _ ({ dst := some 13, op := _, type := _, pos := _, after := _, guard := _ } :: _) _ _; refine wpList_new_row rfl rfl 23 rfl (.tmp 13) (.tmp 26) rfl Z L.toArray HA.out (fun _ => by simp [Act.put, Act.eval]) (fun _ => by simp [Act.put, Act.eval]) HSE.out HZE.out H1E.out ?_; intro gd wb F1; try simp only [Act.put, List.setIfInBounds_toArray, List.set_cons_zero, List.set_cons_succ])
      | (show wpList _ _ _ ({ dst := some 26, op := _, type := _, pos := _, after := _, guard := _ } :: _) _ _; refine wpList_load_mid rfl 23 (.tmp 25) rfl g (o + 32 * m) rfl L _ HR0.out Tryd.underlying23 rfl zL.out ?_; try simp only [Act.put, List.setIfInBounds_toArray, List.set_cons_zero, List.set_cons_succ])
      | fail)
    have HB3 : Hid (Below w.heap.size w wb ∧ wb.heap[w.heap.size]? = some (.cells X 23 (0, 0))) := ⟨HB0.out.1.trans (F1.out.2.2.mono HB0.out.1.size), (F1.out.2.2.block _ (heap_lt HB0.out.2)).trans HB0.out.2⟩
    have HL : Hid (wb.heap[gd]? = some (.cells L.toArray 23 (0, 0))) := F1.out.2.1
    have HBW : Hid (Below wb.heap.size wb wb.drew) := (Below.refl _ _).drew
    clear F1 HR0 HB0 SP
    refine wp_region_held_drew (S := (fun W => W.heap[w.heap.size]? = some (.cells X 23 (0, 0)))) (by kernel_rfl) (show wb.drew.heap[w.heap.size]? = _ from HB3.out.2) (fun hHeld => ?_)
    refine wpAnyH_take (i := 0) (oi := { dst := some 50, op := Op.move (Operand.tmp 0), type := 3, pos := "ref.go:93", after := #[], guard := none }) (v := .int .i64 S) rfl (by kernel_rfl) (by kernel_rfl) (by kernel_rfl) (fun _ _ _ h => h) (Or.inl ⟨by rfl, by intro W hSw; go_simp⟩) hHeld ?_
    try simp only [Act.put, List.setIfInBounds_toArray, List.set_cons_zero, List.set_cons_succ]
    refine wpAnyH_take (i := 1) (oi := { dst := some 51, op := Op.move (Operand.tmp 12), type := 3, pos := "ref.go:93", after := #[], guard := none }) (v := .int .i64 s) rfl (by kernel_rfl) (by kernel_rfl) (by kernel_rfl) (fun _ _ _ h => h) (Or.inl ⟨by rfl, by intro W hSw; go_simp⟩) hHeld ?_
    try simp only [Act.put, List.setIfInBounds_toArray, List.set_cons_zero, List.set_cons_succ]
    refine wpAnyH_take (i := 2) (oi := { dst := some 52, op := Op.binOp BinOp.sub 3 (Operand.tmp 50) (Operand.tmp 51) 3, type := 3, pos := "ref.go:93", after := #[{ on := 0, ground := Ground.data }, { on := 1, ground := Ground.data }], guard := none }) (v := .int .i64 ((S : Int) - (s : Int))) rfl (by kernel_rfl) (by kernel_rfl) (by kernel_rfl) (fun _ _ _ h => h) (Or.inl ⟨by rfl, by intro W hSw; go_simp; first | done | exact wrap_int _ (by omega) (by omega)⟩) hHeld ?_
    try simp only [Act.put, List.setIfInBounds_toArray, List.set_cons_zero, List.set_cons_succ]
    refine wpAnyH_take (i := 3) (oi := { dst := some 53, op := Op.move (Operand.tmp 1), type := 3, pos := "ref.go:93", after := #[], guard := none }) (v := .int .i64 I) rfl (by kernel_rfl) (by kernel_rfl) (by kernel_rfl) (fun _ _ _ h => h) (Or.inl ⟨by rfl, by intro W hSw; go_simp⟩) hHeld ?_
    try simp only [Act.put, List.setIfInBounds_toArray, List.set_cons_zero, List.set_cons_succ]
    refine wpAnyH_take (i := 4) (oi := { dst := some 54, op := Op.move (Operand.tmp 12), type := 3, pos := "ref.go:93", after := #[], guard := none }) (v := .int .i64 s) rfl (by kernel_rfl) (by kernel_rfl) (by kernel_rfl) (fun _ _ _ h => h) (Or.inl ⟨by rfl, by intro W hSw; go_simp⟩) hHeld ?_
    try simp only [Act.put, List.setIfInBounds_toArray, List.set_cons_zero, List.set_cons_succ]
    refine wpAnyH_take (i := 5) (oi := { dst := some 55, op := Op.binOp BinOp.sub 3 (Operand.tmp 53) (Operand.tmp 54) 3, type := 3, pos := "ref.go:93", after := #[{ on := 3, ground := Ground.data }, { on := 4, ground := Ground.data }], guard := none }) (v := .int .i64 ((I : Int) - (s : Int))) rfl (by kernel_rfl) (by kernel_rfl) (by kernel_rfl) (fun _ _ _ h => h) (Or.inl ⟨by rfl, by intro W hSw; go_simp; first | done | exact wrap_int _ (by omega) (by omega)⟩) hHeld ?_
    try simp only [Act.put, List.setIfInBounds_toArray, List.set_cons_zero, List.set_cons_succ]
    refine wpAnyH_take (i := 6) (oi := { dst := some 56, op := Op.load 23 (Operand.tmp 6), type := 23, pos := "ref.go:93", after := #[], guard := none }) (v := .agg X) rfl (by kernel_rfl) (by kernel_rfl) (by kernel_rfl) (fun _ _ _ h => h) (yieldsIf_row (by rfl) 23 (.tmp 6) rfl w.heap.size rfl 23 X (0, 0) _ (fun _ h => h) Tryd.underlying23 rfl HSX.out) hHeld ?_
    try simp only [Act.put, List.setIfInBounds_toArray, List.set_cons_zero, List.set_cons_succ]
    refine wpAnyH_take (i := 7) (oi := { dst := some 57, op := Op.move (Operand.tmp 3), type := 24, pos := "ref.go:93", after := #[], guard := none }) (v := .slice (some ⟨g, o, none⟩) (m + 1) cap) rfl (by kernel_rfl) (by kernel_rfl) (by kernel_rfl) (fun _ _ _ h => h) (Or.inl ⟨by rfl, by intro W hSw; go_simp⟩) hHeld ?_
    try simp only [Act.put, List.setIfInBounds_toArray, List.set_cons_zero, List.set_cons_succ]
    refine wpAnyH_take (i := 8) (oi := { dst := some 58, op := Op.move (Operand.tmp 11), type := 3, pos := "ref.go:93", after := #[], guard := none }) (v := .int .i64 ((m : Int) + 1)) rfl (by kernel_rfl) (by kernel_rfl) (by kernel_rfl) (fun _ _ _ h => h) (Or.inl ⟨by rfl, by intro W hSw; go_simp⟩) hHeld ?_
    try simp only [Act.put, List.setIfInBounds_toArray, List.set_cons_zero, List.set_cons_succ]
    refine wpAnyH_take (i := 9) (oi := { dst := some 59, op := Op.binOp BinOp.sub 3 (Operand.tmp 58) (Operand.const (Value.int IntKind.i64 1)) 3, type := 3, pos := "ref.go:93", after := #[{ on := 8, ground := Ground.data }], guard := none }) (v := .int .i64 m) rfl (by kernel_rfl) (by kernel_rfl) (by kernel_rfl) (fun _ _ _ h => h) (Or.inl ⟨by rfl, by intro W hSw; go_simp; exact wrap_int _ (by omega) (by omega)⟩) hHeld ?_
    try simp only [Act.put, List.setIfInBounds_toArray, List.set_cons_zero, List.set_cons_succ]
    refine wpAnyH_take (i := 10) (oi := { dst := some 60, op := Op.slice 24 (Operand.tmp 57) none (some (Operand.tmp 59)) none, type := 24, pos := "ref.go:93", after := #[{ on := 7, ground := Ground.data }, { on := 9, ground := Ground.data }], guard := none }) (v := .slice (some ⟨g, o, none⟩) m cap) rfl (by kernel_rfl) (by kernel_rfl) (by kernel_rfl) (fun _ _ _ h => h) (Or.inl ⟨by rfl, by intro W hSw; have := slc W; go_simp⟩) hHeld ?_
    try simp only [Act.put, List.setIfInBounds_toArray, List.set_cons_zero, List.set_cons_succ]
    refine wpAnyH_ready (rs := [11, 15]) (by kernel_rfl) (by simp) ?_
    refine (AllReadyH.cons (o := { dst := some 61, op := Op.call { callee := Callee.value (Operand.func 27), args := #[Operand.tmp 52, Operand.tmp 55, Operand.tmp 56, Operand.tmp 60], argTypes := #[3, 3, 23, 24] }, type := 48, pos := "ref.go:93", after := #[{ on := 2, ground := Ground.data }, { on := 5, ground := Ground.data }, { on := 6, ground := Ground.data }, { on := 10, ground := Ground.data }], guard := none }) rfl (fun K hK => ?_) (AllReadyH.cons (o := { dst := some 16, op := Op.alloc 23, type := 0, pos := "ref.go:93", after := #[], guard := none }) rfl (fun K hK => ?_) AllReadyH.nil))
    · go_simp
      refine (IH.out _ (HB3.out.1.trans (HBW.out.mono HB3.out.1.size))).mono ?_
      rintro e w11 ⟨rfl, hbc⟩
      try replace V1 := hidk (And.intro V1.out.1 ((hbc.block _ (heap_lt V1.out.2)).trans V1.out.2))
      replace HBW := hidk (HBW.out.trans (hbc.mono HBW.out.size))
      go_wp2_with fail
      refine hK.out _ _ ((hbc.block _ (heap_lt hHeld)).trans hHeld) (fun hHeld => ?_)
      clear hK K
      try simp only [Act.put, List.setIfInBounds_toArray, List.set_cons_zero, List.set_cons_succ]
      refine wpAnyH_take (i := 12) (oi := { dst := some 49, op := Op.move (Operand.tmp 61), type := 48, pos := "ref.go:93", after := #[{ on := 11, ground := Ground.data }], guard := none }) (v := .tuple #[.agg M1, .bool b1]) rfl (by kernel_rfl) (by kernel_rfl) (by kernel_rfl) (fun _ _ _ h => h) (Or.inl ⟨by rfl, by intro W hSw; go_simp⟩) hHeld ?_
      try simp only [Act.put, List.setIfInBounds_toArray, List.set_cons_zero, List.set_cons_succ]
      refine wpAnyH_take (i := 13) (oi := { dst := some 62, op := Op.extract (Operand.tmp 49) 0, type := 23, pos := "ref.go:93", after := #[{ on := 12, ground := Ground.data }], guard := none }) (v := .agg M1) rfl (by kernel_rfl) (by kernel_rfl) (by kernel_rfl) (fun _ _ _ h => h) (Or.inl ⟨by rfl, by intro W hSw; go_simp⟩) hHeld ?_
      try simp only [Act.put, List.setIfInBounds_toArray, List.set_cons_zero, List.set_cons_succ]
      refine wpAnyH_take (i := 14) (oi := { dst := some 63, op := Op.extract (Operand.tmp 49) 1, type := 4, pos := "ref.go:93", after := #[{ on := 12, ground := Ground.data }, { on := 16, ground := Ground.gcOnly Departure.lateStores }], guard := none }) (v := .bool b1) rfl (by kernel_rfl) (by kernel_rfl) (by kernel_rfl) (fun _ _ _ h => h) (Or.inl ⟨by rfl, by intro W hSw; go_simp⟩) hHeld ?_
      try simp only [Act.put, List.setIfInBounds_toArray, List.set_cons_zero, List.set_cons_succ]
      refine wpAnyH_ready (rs := [15]) (by kernel_rfl) (by simp) ?_
      refine (AllReadyH.cons (o := { dst := some 16, op := Op.alloc 23, type := 0, pos := "ref.go:93", after := #[], guard := none }) rfl (fun K hK => ?_) AllReadyH.nil)
      refine step_new_var (by rfl) 23 rfl Z HA.out ?_
      intro g1 w15 F15
      have V1 : Hid (wb.heap.size ≤ g1 ∧ w15.heap[g1]? = some (.cells Z 23 (0, 0))) := ⟨by rw [F15.out.new]; exact HBW.out.size, F15.out.row⟩
      replace HBW := hidk (HBW.out.trans (F15.out.below.mono HBW.out.size))
      refine hK.out _ _ ((F15.out.below.block _ (heap_lt hHeld)).trans hHeld) (fun hHeld => ?_)
      clear hK K
      try simp only [Act.put, List.setIfInBounds_toArray, List.set_cons_zero, List.set_cons_succ]
      refine wpAnyH_ready (rs := [16]) (by kernel_rfl) (by simp) ?_
      refine (AllReadyH.cons (o := { dst := none, op := Op.store 23 (Operand.tmp 16) (Operand.tmp 62), type := 0, pos := "ref.go:93", after := #[{ on := 15, ground := Ground.data }, { on := 13, ground := Ground.data }, { on := 11, ground := Ground.chain }, { on := 0, ground := Ground.phase }, { on := 1, ground := Ground.phase }, { on := 2, ground := Ground.phase }, { on := 3, ground := Ground.phase }, { on := 4, ground := Ground.phase }, { on := 5, ground := Ground.phase }, { on := 6, ground := Ground.phase }, { on := 7, ground := Ground.phase }, { on := 8, ground := Ground.phase }, { on := 9, ground := Ground.phase }, { on := 10, ground := Ground.phase }, { on := 11, ground := Ground.phase }, { on := 12, ground := Ground.phase }, { on := 13, ground := Ground.phase }, { on := 14, ground := Ground.textOnly Departure.lateStores }, { on := 15, ground := Ground.phase }], guard := none }) rfl (fun K hK => ?_) AllReadyH.nil)
      refine step_set_var (by rfl) 23 (.tmp 16) (.tmp 62) rfl g1 M1 rfl rfl 23 Z V1.out.2 HSM.out HZM.out H1M.out ?_
      intro w16 F16
      have R1 : Hid (w16.heap[g1]? = some (.cells M1 23 (0, 0))) := F16.out.row
      replace HBW := hidk (F16.out.below _ _ HBW.out V1.out.1)
      refine hK.out _ _ ((F16.out.other _ (by have := V1.out.1; have := heap_lt HB3.out.2; omega)).trans hHeld) (fun hHeld => ?_)
      clear hK K
      try simp only [Act.put, List.setIfInBounds_toArray, List.set_cons_zero, List.set_cons_succ]
      refine wpAnyH_take (i := 17) (oi := { dst := some 17, op := Op.assign (Operand.tmp 63), type := 4, pos := "ref.go:93", after := #[{ on := 14, ground := Ground.data }, { on := 16, ground := Ground.chain }, { on := 0, ground := Ground.phase }, { on := 1, ground := Ground.phase }, { on := 2, ground := Ground.phase }, { on := 3, ground := Ground.phase }, { on := 4, ground := Ground.phase }, { on := 5, ground := Ground.phase }, { on := 6, ground := Ground.phase }, { on := 7, ground := Ground.phase }, { on := 8, ground := Ground.phase }, { on := 9, ground := Ground.phase }, { on := 10, ground := Ground.phase }, { on := 11, ground := Ground.phase }, { on := 12, ground := Ground.phase }, { on := 13, ground := Ground.phase }, { on := 14, ground := Ground.phase }, { on := 15, ground := Ground.phase }, { on := 16, ground := Ground.phase }], guard := none }) (v := .bool b1) rfl (by kernel_rfl) (by kernel_rfl) (by kernel_rfl) (fun _ _ _ h => h) (Or.inl ⟨by rfl, by intro W hSw; go_simp⟩) hHeld ?_
      try simp only [Act.put, List.setIfInBounds_toArray, List.set_cons_zero, List.set_cons_succ]
      refine wpAnyH_done (by kernel_rfl) ?_ _
      have HB5 : Hid (Below w.heap.size w w16.drew) := (HB3.out.1.trans (HBW.out.mono HB3.out.1.size)).drew
      have hS : w16.drew.heap[g1]? = some (.cells M1 23 (0, 0)) ∧ w16.drew.heap[gd]? = some (.cells L.toArray 23 (0, 0)) := ⟨R1.out, (HBW.out.block _ (heap_lt HL.out)).trans HL.out⟩
      clear hHeld HB3 HL IH HBW V1 R1
      go_wp2
      refine wp_region_held_drew (S := (fun W => W.heap[g1]? = some (.cells M1 23 (0, 0)) ∧ W.heap[gd]? = some (.cells L.toArray 23 (0, 0)))) (by kernel_rfl) hS (fun hHeld => ?_)
      refine wpAnyH_take (i := 0) (oi := { dst := some 64, op := Op.load 23 (Operand.tmp 13), type := 23, pos := "ref.go:94", after := #[], guard := none }) (v := .agg L.toArray) rfl (by kernel_rfl) (by kernel_rfl) (by kernel_rfl) (fun _ _ _ h => h) (yieldsIf_row (by rfl) 23 (.tmp 13) rfl gd rfl 23 L.toArray (0, 0) _ (fun _ h => h.2) Tryd.underlying23 rfl HSE.out) hHeld ?_
      try simp only [Act.put, List.setIfInBounds_toArray, List.set_cons_zero, List.set_cons_succ]
      refine wpAnyH_take (i := 3) (oi := { dst := some 67, op := Op.load 23 (Operand.tmp 16), type := 23, pos := "ref.go:94", after := #[], guard := none }) (v := .agg M1) rfl (by kernel_rfl) (by kernel_rfl) (by kernel_rfl) (fun _ _ _ h => h) (yieldsIf_row (by rfl) 23 (.tmp 16) rfl g1 rfl 23 M1 (0, 0) _ (fun _ h => h.1) Tryd.underlying23 rfl HSM.out) hHeld ?_
      try simp only [Act.put, List.setIfInBounds_toArray, List.set_cons_zero, List.set_cons_succ]
      refine wpAnyH_take (i := 6) (oi := { dst := some 70, op := Op.move (Operand.tmp 0), type := 3, pos := "ref.go:94", after := #[{ on := 12, ground := Ground.gcOnly Departure.lateStores }], guard := none }) (v := .int .i64 S) rfl (by kernel_rfl) (by kernel_rfl) (by kernel_rfl) (fun _ _ _ h => h) (Or.inl ⟨by rfl, by intro w hSw; go_simp⟩) hHeld ?_
      try simp only [Act.put, List.setIfInBounds_toArray, List.set_cons_zero, List.set_cons_succ]
      refine wpAnyH_take (i := 7) (oi := { dst := some 71, op := Op.move (Operand.tmp 12), type := 3, pos := "ref.go:94", after := #[{ on := 12, ground := Ground.gcOnly Departure.lateStores }], guard := none }) (v := .int .i64 s) rfl (by kernel_rfl) (by kernel_rfl) (by kernel_rfl) (fun _ _ _ h => h) (Or.inl ⟨by rfl, by intro w hSw; go_simp⟩) hHeld ?_
      try simp only [Act.put, List.setIfInBounds_toArray, List.set_cons_zero, List.set_cons_succ]
      refine wpAnyH_take (i := 8) (oi := { dst := some 72, op := Op.binOp BinOp.sub 3 (Operand.tmp 70) (Operand.tmp 71) 3, type := 3, pos := "ref.go:94", after := #[{ on := 6, ground := Ground.data }, { on := 7, ground := Ground.data }, { on := 12, ground := Ground.gcOnly Departure.lateStores }], guard := none }) (v := .int .i64 ((S : Int) - (s : Int))) rfl (by kernel_rfl) (by kernel_rfl) (by kernel_rfl) (fun _ _ _ h => h) (Or.inl ⟨by rfl, by intro W hSw; go_simp; first | done | exact wrap_int _ (by omega) (by omega)⟩) hHeld ?_
      try simp only [Act.put, List.setIfInBounds_toArray, List.set_cons_zero, List.set_cons_succ]
      refine wpAnyH_take (i := 9) (oi := { dst := some 73, op := Op.move (Operand.tmp 1), type := 3, pos := "ref.go:94", after := #[{ on := 13, ground := Ground.gcOnly Departure.lateStores }], guard := none }) (v := .int .i64 I) rfl (by kernel_rfl) (by kernel_rfl) (by kernel_rfl) (fun _ _ _ h => h) (Or.inl ⟨by rfl, by intro w hSw; go_simp⟩) hHeld ?_
      try simp only [Act.put, List.setIfInBounds_toArray, List.set_cons_zero, List.set_cons_succ]
      refine wpAnyH_take (i := 10) (oi := { dst := some 74, op := Op.move (Operand.tmp 12), type := 3, pos := "ref.go:94", after := #[{ on := 13, ground := Ground.gcOnly Departure.lateStores }], guard := none }) (v := .int .i64 s) rfl (by kernel_rfl) (by kernel_rfl) (by kernel_rfl) (fun _ _ _ h => h) (Or.inl ⟨by rfl, by intro w hSw; go_simp⟩) hHeld ?_
      try simp only [Act.put, List.setIfInBounds_toArray, List.set_cons_zero, List.set_cons_succ]
      refine wpAnyH_take (i := 11) (oi := { dst := some 75, op := Op.binOp BinOp.sub 3 (Operand.tmp 73) (Operand.tmp 74) 3, type := 3, pos := "ref.go:94", after := #[{ on := 9, ground := Ground.data }, { on := 10, ground := Ground.data }, { on := 13, ground := Ground.gcOnly Departure.lateStores }], guard := none }) (v := .int .i64 ((I : Int) - (s : Int))) rfl (by kernel_rfl) (by kernel_rfl) (by kernel_rfl) (fun _ _ _ h => h) (Or.inl ⟨by rfl, by intro W hSw; go_simp; first | done | exact wrap_int _ (by omega) (by omega)⟩) hHeld ?_
      try simp only [Act.put, List.setIfInBounds_toArray, List.set_cons_zero, List.set_cons_succ]
      refine wpAnyH_ready (rs := [1]) (by kernel_rfl) (by simp) ?_
      refine AllReadyH.cons (o := { dst := some 65, op := Op.call { callee := Callee.value (Operand.func 52), args := #[Operand.tmp 64], argTypes := #[23] }, type := 9, pos := "ref.go:94", after := #[{ on := 0, ground := Ground.data }], guard := none }) rfl (fun K hK => ?_) AllReadyH.nil
      go_simp
      refine (TD.out _).mono ?_
      rintro e wj ⟨rfl, hbj⟩
      go_wp2_with fail
      refine hK.out _ _ ⟨(hbj.block _ (heap_lt hHeld.1)).trans hHeld.1, (hbj.block _ (heap_lt hHeld.2)).trans hHeld.2⟩ (fun hHeld => ?_)
      clear hK K
      try simp only [Act.put, List.setIfInBounds_toArray, List.set_cons_zero, List.set_cons_succ]
      refine wpAnyH_take (i := 2) (oi := { dst := some 66, op := Op.binOp BinOp.add 9 (Operand.const (Value.string { data := #[1] })) (Operand.tmp 65) 9, type := 9, pos := "ref.go:94", after := #[{ on := 1, ground := Ground.data }], guard := none }) (v := .string (⟨#[1]⟩ ++ D)) rfl (by kernel_rfl) (by kernel_rfl) (by kernel_rfl) (fun _ _ _ h => h) (Or.inl ⟨by rfl, by intro W hSw; go_simp⟩) hHeld ?_
      try simp only [Act.put, List.setIfInBounds_toArray, List.set_cons_zero, List.set_cons_succ]
      refine wpAnyH_ready (rs := [4]) (by kernel_rfl) (by simp) ?_
      refine AllReadyH.cons (o := { dst := some 68, op := Op.call { callee := Callee.value (Operand.func 52), args := #[Operand.tmp 67], argTypes := #[23] }, type := 9, pos := "ref.go:94", after := #[{ on := 3, ground := Ground.data }, { on := 1, ground := Ground.chain }], guard := none }) rfl (fun K hK => ?_) AllReadyH.nil
      go_simp
      refine (TM.out _).mono ?_
      rintro e wk ⟨rfl, hbk⟩
      go_wp2_with fail
      refine hK.out _ _ ⟨(hbk.block _ (heap_lt hHeld.1)).trans hHeld.1, (hbk.block _ (heap_lt hHeld.2)).trans hHeld.2⟩ (fun hHeld => ?_)
      clear hK K
      try simp only [Act.put, List.setIfInBounds_toArray, List.set_cons_zero, List.set_cons_succ]
      refine wpAnyH_take (i := 5) (oi := { dst := some 69, op := Op.binOp BinOp.add 9 (Operand.tmp 66) (Operand.tmp 68) 9, type := 9, pos := "ref.go:94", after := #[{ on := 2, ground := Ground.data }, { on := 4, ground := Ground.data }], guard := none }) (v := .string T) rfl (by kernel_rfl) (by kernel_rfl) (by kernel_rfl) (fun _ _ _ h => h) (Or.inl ⟨by rfl, by intro W hSw; have := HTT.out; go_simp⟩) hHeld ?_
      try simp only [Act.put, List.setIfInBounds_toArray, List.set_cons_zero, List.set_cons_succ]
      refine wpAnyH_take (i := 12) (oi := { dst := some 8, op := Op.assign (Operand.tmp 69), type := 9, pos := "ref.go:94", after := #[{ on := 5, ground := Ground.data }, { on := 4, ground := Ground.chain }, { on := 0, ground := Ground.phase }, { on := 1, ground := Ground.phase }, { on := 2, ground := Ground.phase }, { on := 3, ground := Ground.phase }, { on := 4, ground := Ground.phase }, { on := 5, ground := Ground.phase }, { on := 6, ground := Ground.textOnly Departure.lateStores }, { on := 7, ground := Ground.textOnly Departure.lateStores }, { on := 8, ground := Ground.textOnly Departure.lateStores }, { on := 9, ground := Ground.textOnly Departure.lateStores }, { on := 10, ground := Ground.textOnly Departure.lateStores }, { on := 11, ground := Ground.textOnly Departure.lateStores }], guard := none }) (v := .string T) rfl (by kernel_rfl) (by kernel_rfl) (by kernel_rfl) (fun _ _ _ h => h) (Or.inl ⟨by rfl, by intro w hSw; go_simp⟩) hHeld ?_
      try simp only [Act.put, List.setIfInBounds_toArray, List.set_cons_zero, List.set_cons_succ]
      refine wpAnyH_take (i := 13) (oi := { dst := some 9, op := Op.assign (Operand.tmp 72), type := 3, pos := "ref.go:94", after := #[{ on := 8, ground := Ground.data }, { on := 12, ground := Ground.chain }, { on := 0, ground := Ground.phase }, { on := 1, ground := Ground.phase }, { on := 2, ground := Ground.phase }, { on := 3, ground := Ground.phase }, { on := 4, ground := Ground.phase }, { on := 5, ground := Ground.phase }, { on := 6, ground := Ground.phase }, { on := 7, ground := Ground.phase }, { on := 8, ground := Ground.phase }, { on := 9, ground := Ground.textOnly Departure.lateStores }, { on := 10, ground := Ground.textOnly Departure.lateStores }, { on := 11, ground := Ground.textOnly Departure.lateStores }, { on := 12, ground := Ground.phase }], guard := none }) (v := .int .i64 ((S : Int) - (s : Int))) rfl (by kernel_rfl) (by kernel_rfl) (by kernel_rfl) (fun _ _ _ h => h) (Or.inl ⟨by rfl, by intro w hSw; go_simp⟩) hHeld ?_
      try simp only [Act.put, List.setIfInBounds_toArray, List.set_cons_zero, List.set_cons_succ]
      refine wpAnyH_take (i := 14) (oi := { dst := some 10, op := Op.assign (Operand.tmp 75), type := 3, pos := "ref.go:94", after := #[{ on := 11, ground := Ground.data }, { on := 13, ground := Ground.chain }, { on := 0, ground := Ground.phase }, { on := 1, ground := Ground.phase }, { on := 2, ground := Ground.phase }, { on := 3, ground := Ground.phase }, { on := 4, ground := Ground.phase }, { on := 5, ground := Ground.phase }, { on := 6, ground := Ground.phase }, { on := 7, ground := Ground.phase }, { on := 8, ground := Ground.phase }, { on := 9, ground := Ground.phase }, { on := 10, ground := Ground.phase }, { on := 11, ground := Ground.phase }, { on := 12, ground := Ground.phase }, { on := 13, ground := Ground.phase }], guard := none }) (v := .int .i64 ((I : Int) - (s : Int))) rfl (by kernel_rfl) (by kernel_rfl) (by kernel_rfl) (fun _ _ _ h => h) (Or.inl ⟨by rfl, by intro w hSw; go_simp⟩) hHeld ?_
      try simp only [Act.put, List.setIfInBounds_toArray, List.set_cons_zero, List.set_cons_succ]
      refine wpAnyH_done (by kernel_rfl) ?_ _
      have HB9 : Hid (Below w.heap.size w wk) := (HB5.out.trans (hbj.mono HB5.out.size)).trans (hbk.mono (Nat.le_trans HB5.out.size hbj.size))
      clear hHeld hbj hbk HB5
      go_wp2
      refine bodyPost_ret (results_three rfl _ _ _) rfl ⟨rfl, HB9.out⟩
    · refine step_new_var (by rfl) 23 rfl Z HA.out ?_
      intro g1 w15 F15
      have V1 : Hid (wb.heap.size ≤ g1 ∧ w15.heap[g1]? = some (.cells Z 23 (0, 0))) := ⟨by rw [F15.out.new]; exact HBW.out.size, F15.out.row⟩
      replace HBW := hidk (HBW.out.trans (F15.out.below.mono HBW.out.size))
      refine hK.out _ _ ((F15.out.below.block _ (heap_lt hHeld)).trans hHeld) (fun hHeld => ?_)
      clear hK K
      try simp only [Act.put, List.setIfInBounds_toArray, List.set_cons_zero, List.set_cons_succ]
      refine wpAnyH_ready (rs := [11]) (by kernel_rfl) (by simp) ?_
      refine (AllReadyH.cons (o := { dst := some 61, op := Op.call { callee := Callee.value (Operand.func 27), args := #[Operand.tmp 52, Operand.tmp 55, Operand.tmp 56, Operand.tmp 60], argTypes := #[3, 3, 23, 24] }, type := 48, pos := "ref.go:93", after := #[{ on := 2, ground := Ground.data }, { on := 5, ground := Ground.data }, { on := 6, ground := Ground.data }, { on := 10, ground := Ground.data }], guard := none }) rfl (fun K hK => ?_) AllReadyH.nil)
      go_simp
      refine (IH.out _ (HB3.out.1.trans (HBW.out.mono HB3.out.1.size))).mono ?_
      rintro e w11 ⟨rfl, hbc⟩
      try replace V1 := hidk (And.intro V1.out.1 ((hbc.block _ (heap_lt V1.out.2)).trans V1.out.2))
      replace HBW := hidk (HBW.out.trans (hbc.mono HBW.out.size))
      go_wp2_with fail
      refine hK.out _ _ ((hbc.block _ (heap_lt hHeld)).trans hHeld) (fun hHeld => ?_)
      clear hK K
      try simp only [Act.put, List.setIfInBounds_toArray, List.set_cons_zero, List.set_cons_succ]
      refine wpAnyH_take (i := 12) (oi := { dst := some 49, op := Op.move (Operand.tmp 61), type := 48, pos := "ref.go:93", after := #[{ on := 11, ground := Ground.data }], guard := none }) (v := .tuple #[.agg M1, .bool b1]) rfl (by kernel_rfl) (by kernel_rfl) (by kernel_rfl) (fun _ _ _ h => h) (Or.inl ⟨by rfl, by intro W hSw; go_simp⟩) hHeld ?_
      try simp only [Act.put, List.setIfInBounds_toArray, List.set_cons_zero, List.set_cons_succ]
      refine wpAnyH_take (i := 13) (oi := { dst := some 62, op := Op.extract (Operand.tmp 49) 0, type := 23, pos := "ref.go:93", after := #[{ on := 12, ground := Ground.data }], guard := none }) (v := .agg M1) rfl (by kernel_rfl) (by kernel_rfl) (by kernel_rfl) (fun _ _ _ h => h) (Or.inl ⟨by rfl, by intro W hSw; go_simp⟩) hHeld ?_
      try simp only [Act.put, List.setIfInBounds_toArray, List.set_cons_zero, List.set_cons_succ]
      refine wpAnyH_take (i := 14) (oi := { dst := some 63, op := Op.extract (Operand.tmp 49) 1, type := 4, pos := "ref.go:93", after := #[{ on := 12, ground := Ground.data }, { on := 16, ground := Ground.gcOnly Departure.lateStores }], guard := none }) (v := .bool b1) rfl (by kernel_rfl) (by kernel_rfl) (by kernel_rfl) (fun _ _ _ h => h) (Or.inl ⟨by rfl, by intro W hSw; go_simp⟩) hHeld ?_
      try simp only [Act.put, List.setIfInBounds_toArray, List.set_cons_zero, List.set_cons_succ]
      refine wpAnyH_ready (rs := [16]) (by kernel_rfl) (by simp) ?_
      refine (AllReadyH.cons (o := { dst := none, op := Op.store 23 (Operand.tmp 16) (Operand.tmp 62), type := 0, pos := "ref.go:93", after := #[{ on := 15, ground := Ground.data }, { on := 13, ground := Ground.data }, { on := 11, ground := Ground.chain }, { on := 0, ground := Ground.phase }, { on := 1, ground := Ground.phase }, { on := 2, ground := Ground.phase }, { on := 3, ground := Ground.phase }, { on := 4, ground := Ground.phase }, { on := 5, ground := Ground.phase }, { on := 6, ground := Ground.phase }, { on := 7, ground := Ground.phase }, { on := 8, ground := Ground.phase }, { on := 9, ground := Ground.phase }, { on := 10, ground := Ground.phase }, { on := 11, ground := Ground.phase }, { on := 12, ground := Ground.phase }, { on := 13, ground := Ground.phase }, { on := 14, ground := Ground.textOnly Departure.lateStores }, { on := 15, ground := Ground.phase }], guard := none }) rfl (fun K hK => ?_) AllReadyH.nil)
      refine step_set_var (by rfl) 23 (.tmp 16) (.tmp 62) rfl g1 M1 rfl rfl 23 Z V1.out.2 HSM.out HZM.out H1M.out ?_
      intro w16 F16
      have R1 : Hid (w16.heap[g1]? = some (.cells M1 23 (0, 0))) := F16.out.row
      replace HBW := hidk (F16.out.below _ _ HBW.out V1.out.1)
      refine hK.out _ _ ((F16.out.other _ (by have := V1.out.1; have := heap_lt HB3.out.2; omega)).trans hHeld) (fun hHeld => ?_)
      clear hK K
      try simp only [Act.put, List.setIfInBounds_toArray, List.set_cons_zero, List.set_cons_succ]
      refine wpAnyH_take (i := 17) (oi := { dst := some 17, op := Op.assign (Operand.tmp 63), type := 4, pos := "ref.go:93", after := #[{ on := 14, ground := Ground.data }, { on := 16, ground := Ground.chain }, { on := 0, ground := Ground.phase }, { on := 1, ground := Ground.phase }, { on := 2, ground := Ground.phase }, { on := 3, ground := Ground.phase }, { on := 4, ground := Ground.phase }, { on := 5, ground := Ground.phase }, { on := 6, ground := Ground.phase }, { on := 7, ground := Ground.phase }, { on := 8, ground := Ground.phase }, { on := 9, ground := Ground.phase }, { on := 10, ground := Ground.phase }, { on := 11, ground := Ground.phase }, { on := 12, ground := Ground.phase }, { on := 13, ground := Ground.phase }, { on := 14, ground := Ground.phase }, { on := 15, ground := Ground.phase }, { on := 16, ground := Ground.phase }], guard := none }) (v := .bool b1) rfl (by kernel_rfl) (by kernel_rfl) (by kernel_rfl) (fun _ _ _ h => h) (Or.inl ⟨by rfl, by intro W hSw; go_simp⟩) hHeld ?_
      try simp only [Act.put, List.setIfInBounds_toArray, List.set_cons_zero, List.set_cons_succ]
      refine wpAnyH_done (by kernel_rfl) ?_ _
      have HB5 : Hid (Below w.heap.size w w16.drew) := (HB3.out.1.trans (HBW.out.mono HB3.out.1.size)).drew
      have hS : w16.drew.heap[g1]? = some (.cells M1 23 (0, 0)) ∧ w16.drew.heap[gd]? = some (.cells L.toArray 23 (0, 0)) := ⟨R1.out, (HBW.out.block _ (heap_lt HL.out)).trans HL.out⟩
      clear hHeld HB3 HL IH HBW V1 R1
      go_wp2
      refine wp_region_held_drew (S := (fun W => W.heap[g1]? = some (.cells M1 23 (0, 0)) ∧ W.heap[gd]? = some (.cells L.toArray 23 (0, 0)))) (by kernel_rfl) hS (fun hHeld => ?_)
      refine wpAnyH_take (i := 0) (oi := { dst := some 64, op := Op.load 23 (Operand.tmp 13), type := 23, pos := "ref.go:94", after := #[], guard := none }) (v := .agg L.toArray) rfl (by kernel_rfl) (by kernel_rfl) (by kernel_rfl) (fun _ _ _ h => h) (yieldsIf_row (by rfl) 23 (.tmp 13) rfl gd rfl 23 L.toArray (0, 0) _ (fun _ h => h.2) Tryd.underlying23 rfl HSE.out) hHeld ?_
      try simp only [Act.put, List.setIfInBounds_toArray, List.set_cons_zero, List.set_cons_succ]
      refine wpAnyH_take (i := 3) (oi := { dst := some 67, op := Op.load 23 (Operand.tmp 16), type := 23, pos := "ref.go:94", after := #[], guard := none }) (v := .agg M1) rfl (by kernel_rfl) (by kernel_rfl) (by kernel_rfl) (fun _ _ _ h => h) (yieldsIf_row (by rfl) 23 (.tmp 16) rfl g1 rfl 23 M1 (0, 0) _ (fun _ h => h.1) Tryd.underlying23 rfl HSM.out) hHeld ?_
      try simp only [Act.put, List.setIfInBounds_toArray, List.set_cons_zero, List.set_cons_succ]
      refine wpAnyH_take (i := 6) (oi := { dst := some 70, op := Op.move (Operand.tmp 0), type := 3, pos := "ref.go:94", after := #[{ on := 12, ground := Ground.gcOnly Departure.lateStores }], guard := none }) (v := .int .i64 S) rfl (by kernel_rfl) (by kernel_rfl) (by kernel_rfl) (fun _ _ _ h => h) (Or.inl ⟨by rfl, by intro w hSw; go_simp⟩) hHeld ?_
      try simp only [Act.put, List.setIfInBounds_toArray, List.set_cons_zero, List.set_cons_succ]
      refine wpAnyH_take (i := 7) (oi := { dst := some 71, op := Op.move (Operand.tmp 12), type := 3, pos := "ref.go:94", after := #[{ on := 12, ground := Ground.gcOnly Departure.lateStores }], guard := none }) (v := .int .i64 s) rfl (by kernel_rfl) (by kernel_rfl) (by kernel_rfl) (fun _ _ _ h => h) (Or.inl ⟨by rfl, by intro w hSw; go_simp⟩) hHeld ?_
      try simp only [Act.put, List.setIfInBounds_toArray, List.set_cons_zero, List.set_cons_succ]
      refine wpAnyH_take (i := 8) (oi := { dst := some 72, op := Op.binOp BinOp.sub 3 (Operand.tmp 70) (Operand.tmp 71) 3, type := 3, pos := "ref.go:94", after := #[{ on := 6, ground := Ground.data }, { on := 7, ground := Ground.data }, { on := 12, ground := Ground.gcOnly Departure.lateStores }], guard := none }) (v := .int .i64 ((S : Int) - (s : Int))) rfl (by kernel_rfl) (by kernel_rfl) (by kernel_rfl) (fun _ _ _ h => h) (Or.inl ⟨by rfl, by intro W hSw; go_simp; first | done | exact wrap_int _ (by omega) (by omega)⟩) hHeld ?_
      try simp only [Act.put, List.setIfInBounds_toArray, List.set_cons_zero, List.set_cons_succ]
      refine wpAnyH_take (i := 9) (oi := { dst := some 73, op := Op.move (Operand.tmp 1), type := 3, pos := "ref.go:94", after := #[{ on := 13, ground := Ground.gcOnly Departure.lateStores }], guard := none }) (v := .int .i64 I) rfl (by kernel_rfl) (by kernel_rfl) (by kernel_rfl) (fun _ _ _ h => h) (Or.inl ⟨by rfl, by intro w hSw; go_simp⟩) hHeld ?_
      try simp only [Act.put, List.setIfInBounds_toArray, List.set_cons_zero, List.set_cons_succ]
      refine wpAnyH_take (i := 10) (oi := { dst := some 74, op := Op.move (Operand.tmp 12), type := 3, pos := "ref.go:94", after := #[{ on := 13, ground := Ground.gcOnly Departure.lateStores }], guard := none }) (v := .int .i64 s) rfl (by kernel_rfl) (by kernel_rfl) (by kernel_rfl) (fun _ _ _ h => h) (Or.inl ⟨by rfl, by intro w hSw; go_simp⟩) hHeld ?_
      try simp only [Act.put, List.setIfInBounds_toArray, List.set_cons_zero, List.set_cons_succ]
      refine wpAnyH_take (i := 11) (oi := { dst := some 75, op := Op.binOp BinOp.sub 3 (Operand.tmp 73) (Operand.tmp 74) 3, type := 3, pos := "ref.go:94", after := #[{ on := 9, ground := Ground.data }, { on := 10, ground := Ground.data }, { on := 13, ground := Ground.gcOnly Departure.lateStores }], guard := none }) (v := .int .i64 ((I : Int) - (s : Int))) rfl (by kernel_rfl) (by kernel_rfl) (by kernel_rfl) (fun _ _ _ h => h) (Or.inl ⟨by rfl, by intro W hSw; go_simp; first | done | exact wrap_int _ (by omega) (by omega)⟩) hHeld ?_
      try simp only [Act.put, List.setIfInBounds_toArray, List.set_cons_zero, List.set_cons_succ]
      refine wpAnyH_ready (rs := [1]) (by kernel_rfl) (by simp) ?_
      refine AllReadyH.cons (o := { dst := some 65, op := Op.call { callee := Callee.value (Operand.func 52), args := #[Operand.tmp 64], argTypes := #[23] }, type := 9, pos := "ref.go:94", after := #[{ on := 0, ground := Ground.data }], guard := none }) rfl (fun K hK => ?_) AllReadyH.nil
      go_simp
      refine (TD.out _).mono ?_
      rintro e wj ⟨rfl, hbj⟩
      go_wp2_with fail
      refine hK.out _ _ ⟨(hbj.block _ (heap_lt hHeld.1)).trans hHeld.1, (hbj.block _ (heap_lt hHeld.2)).trans hHeld.2⟩ (fun hHeld => ?_)
      clear hK K
      try simp only [Act.put, List.setIfInBounds_toArray, List.set_cons_zero, List.set_cons_succ]
      refine wpAnyH_take (i := 2) (oi := { dst := some 66, op := Op.binOp BinOp.add 9 (Operand.const (Value.string { data := #[1] })) (Operand.tmp 65) 9, type := 9, pos := "ref.go:94", after := #[{ on := 1, ground := Ground.data }], guard := none }) (v := .string (⟨#[1]⟩ ++ D)) rfl (by kernel_rfl) (by kernel_rfl) (by kernel_rfl) (fun _ _ _ h => h) (Or.inl ⟨by rfl, by intro W hSw; go_simp⟩) hHeld ?_
      try simp only [Act.put, List.setIfInBounds_toArray, List.set_cons_zero, List.set_cons_succ]
      refine wpAnyH_ready (rs := [4]) (by kernel_rfl) (by simp) ?_
      refine AllReadyH.cons (o := { dst := some 68, op := Op.call { callee := Callee.value (Operand.func 52), args := #[Operand.tmp 67], argTypes := #[23] }, type := 9, pos := "ref.go:94", after := #[{ on := 3, ground := Ground.data }, { on := 1, ground := Ground.chain }], guard := none }) rfl (fun K hK => ?_) AllReadyH.nil
      go_simp
      refine (TM.out _).mono ?_
      rintro e wk ⟨rfl, hbk⟩
      go_wp2_with fail
      refine hK.out _ _ ⟨(hbk.block _ (heap_lt hHeld.1)).trans hHeld.1, (hbk.block _ (heap_lt hHeld.2)).trans hHeld.2⟩ (fun hHeld => ?_)
      clear hK K
      try simp only [Act.put, List.setIfInBounds_toArray, List.set_cons_zero, List.set_cons_succ]
      refine wpAnyH_take (i := 5) (oi := { dst := some 69, op := Op.binOp BinOp.add 9 (Operand.tmp 66) (Operand.tmp 68) 9, type := 9, pos := "ref.go:94", after := #[{ on := 2, ground := Ground.data }, { on := 4, ground := Ground.data }], guard := none }) (v := .string T) rfl (by kernel_rfl) (by kernel_rfl) (by kernel_rfl) (fun _ _ _ h => h) (Or.inl ⟨by rfl, by intro W hSw; have := HTT.out; go_simp⟩) hHeld ?_
      try simp only [Act.put, List.setIfInBounds_toArray, List.set_cons_zero, List.set_cons_succ]
      refine wpAnyH_take (i := 12) (oi := { dst := some 8, op := Op.assign (Operand.tmp 69), type := 9, pos := "ref.go:94", after := #[{ on := 5, ground := Ground.data }, { on := 4, ground := Ground.chain }, { on := 0, ground := Ground.phase }, { on := 1, ground := Ground.phase }, { on := 2, ground := Ground.phase }, { on := 3, ground := Ground.phase }, { on := 4, ground := Ground.phase }, { on := 5, ground := Ground.phase }, { on := 6, ground := Ground.textOnly Departure.lateStores }, { on := 7, ground := Ground.textOnly Departure.lateStores }, { on := 8, ground := Ground.textOnly Departure.lateStores }, { on := 9, ground := Ground.textOnly Departure.lateStores }, { on := 10, ground := Ground.textOnly Departure.lateStores }, { on := 11, ground := Ground.textOnly Departure.lateStores }], guard := none }) (v := .string T) rfl (by kernel_rfl) (by kernel_rfl) (by kernel_rfl) (fun _ _ _ h => h) (Or.inl ⟨by rfl, by intro w hSw; go_simp⟩) hHeld ?_
      try simp only [Act.put, List.setIfInBounds_toArray, List.set_cons_zero, List.set_cons_succ]
      refine wpAnyH_take (i := 13) (oi := { dst := some 9, op := Op.assign (Operand.tmp 72), type := 3, pos := "ref.go:94", after := #[{ on := 8, ground := Ground.data }, { on := 12, ground := Ground.chain }, { on := 0, ground := Ground.phase }, { on := 1, ground := Ground.phase }, { on := 2, ground := Ground.phase }, { on := 3, ground := Ground.phase }, { on := 4, ground := Ground.phase }, { on := 5, ground := Ground.phase }, { on := 6, ground := Ground.phase }, { on := 7, ground := Ground.phase }, { on := 8, ground := Ground.phase }, { on := 9, ground := Ground.textOnly Departure.lateStores }, { on := 10, ground := Ground.textOnly Departure.lateStores }, { on := 11, ground := Ground.textOnly Departure.lateStores }, { on := 12, ground := Ground.phase }], guard := none }) (v := .int .i64 ((S : Int) - (s : Int))) rfl (by kernel_rfl) (by kernel_rfl) (by kernel_rfl) (fun _ _ _ h => h) (Or.inl ⟨by rfl, by intro w hSw; go_simp⟩) hHeld ?_
      try simp only [Act.put, List.setIfInBounds_toArray, List.set_cons_zero, List.set_cons_succ]
      refine wpAnyH_take (i := 14) (oi := { dst := some 10, op := Op.assign (Operand.tmp 75), type := 3, pos := "ref.go:94", after := #[{ on := 11, ground := Ground.data }, { on := 13, ground := Ground.chain }, { on := 0, ground := Ground.phase }, { on := 1, ground := Ground.phase }, { on := 2, ground := Ground.phase }, { on := 3, ground := Ground.phase }, { on := 4, ground := Ground.phase }, { on := 5, ground := Ground.phase }, { on := 6, ground := Ground.phase }, { on := 7, ground := Ground.phase }, { on := 8, ground := Ground.phase }, { on := 9, ground := Ground.phase }, { on := 10, ground := Ground.phase }, { on := 11, ground := Ground.phase }, { on := 12, ground := Ground.phase }, { on := 13, ground := Ground.phase }], guard := none }) (v := .int .i64 ((I : Int) - (s : Int))) rfl (by kernel_rfl) (by kernel_rfl) (by kernel_rfl) (fun _ _ _ h => h) (Or.inl ⟨by rfl, by intro w hSw; go_simp⟩) hHeld ?_
      try simp only [Act.put, List.setIfInBounds_toArray, List.set_cons_zero, List.set_cons_succ]
      refine wpAnyH_done (by kernel_rfl) ?_ _
      have HB9 : Hid (Below w.heap.size w wk) := (HB5.out.trans (hbj.mono HB5.out.size)).trans (hbk.mono (Nat.le_trans HB5.out.size hbj.size))
      clear hHeld hbj hbk HB5
      go_wp2
      refine bodyPost_ret (results_three rfl _ _ _) rfl ⟨rfl, HB9.out⟩
end Go.Proofs.YtehfoeedlchphaaDoor
