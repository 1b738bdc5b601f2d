/- What the document's Mac, Key and Holds answer. -/
import Derived.Test.YtkmndchbmbhlhaaDoorTagC
import Derived.Test.YtkmndchbmbhlhaaDoorRefLeafs
namespace Go.Proofs.YtkmndchbmbhlhaaDoor
open Go.RowKit Sums
set_option linter.unusedVariables false
set_option linter.unusedSimpArgs false

set_option maxHeartbeats 4000000 in
theorem refBlk_any (key : List UInt8) (turn : UInt8) (w : World) (K : Array Value) (HK : Hid (K = (cellsOf key).toArray)) (hk : key.length = 32) (s : ByteArray) (Hs : Hid (s = ⟨(blockD key turn).toArray⟩)) :
    Calls Tryd.prog 21 #[.agg K, .int .u8 (turn.toNat : Int)] w fun e w' => e = .returned (.string s) ∧ Below w.heap.size w w' := by
  obtain ⟨i0, hi, hz0, hz1, hz2⟩ := info_parts info5'
  have HI := hidk (And.intro hi (And.intro hz0 (And.intro hz1 hz2)))
  have hbl := blockD_length key turn hk
  have HW0 : Hid ((w.alloc (.cells K 23)).heap[w.heap.size]? = some (.cells K 23 (0, 0)) ∧ Below w.heap.size w (w.alloc (.cells K 23))) := ⟨heap_alloc_new w _, (Below.refl _ _).alloc (Nat.le_refl _) _⟩
  have HN0 : Hid ((w.alloc (.cells K 23)).ownsRow (w.heap.size + 1) 5 1 (.slice none 0 0) 0 (cellsOf ((blockD key turn).take 0))) := World.ownsRow_nil _ _ _ _
  clear hi hz0 hz1 hz2
  go_enter Tryd.func21, Tryd.ntmps21
  go_wp2
  go_loopw [5, 6] (fun v i wr => ∃ k : Nat, k ≤ 64 ∧ i = .int .i64 k ∧ Hid (wr.ownsRow (w.heap.size + 1) 5 1 v k (cellsOf ((blockD key turn).take k)) ∧ wr.heap[w.heap.size]? = some (.cells K 23 (0, 0)) ∧ Below w.heap.size w wr)) (fun _ i _ => 64 - (intOf i).toNat)
  case atStart => exact ⟨0, by omega, rfl, HN0.out, HW0.out⟩
  case round =>
    clear HN0 HW0
    obtain ⟨k, hk64, rfl, HO⟩ := hrel
    have hwr : w.heap.size < wr.heap.size := heap_lt HO.out.2.1
    by_cases hlt : k < 64
    · have d0 : decide ((k : Int) < 64) = true := by rw [decide_eq_true_eq]; omega
      have d0' : decide (k < 64) = true := by rw [decide_eq_true_eq]; omega
      obtain ⟨y, HY⟩ : ∃ y : UInt8, Hid (y = (blockD key turn)[k]'(by rw [hbl]; exact hlt)) := ⟨(blockD key turn)[k]'(by rw [hbl]; exact hlt), hidk rfl⟩
      have hyy := blockD_at key turn hk k hlt
      rw [List.getElem?_eq_getElem (by rw [hbl]; exact hlt), ← HY.out, Option.some.injEq] at hyy
      by_cases h32 : k < 32
      · have d1 : decide ((k : Int) < 32) = true := by rw [decide_eq_true_eq]; omega
        have d1' : decide (k < 32) = true := by rw [decide_eq_true_eq]; omega
        have hkk : k < key.length := by omega
        rw [dif_pos hkk] at hyy
        have hx : bits .xor .u8 (key[k].toNat : Int) (turn.toNat : Int) = (y.toNat : Int) := by rw [xor8, hyy]
        have hc : wr.cell? ⟨w.heap.size, k, none⟩ = some (.int .u8 (key[k].toNat : Int)) := by
          rw [cell_of_row wr _ k _ 23 (0, 0) HO.out.2.1, HK.out]
          simp [cellsOf_at key k hkk]
        clear hyy
        go_wp2_with (first
          | (at_builtin; refine wpList_append_own _ rfl (.tmp 17) (.tmp 21) 38 rfl (w.heap.size + 1) 5 i0 (.int .u8 0) 1 1 Tryd.underlying38 HI.out.1 HI.out.2.1 HI.out.2.2.1 HI.out.2.2.2 rfl (by decide) _ _ _ rfl (HO.out.1.alloc _) ⟨wr.heap.size, 0, none⟩ 1 1 [.int .u8 (y.toNat : Int)] rfl rfl ?c1 ?c2 ?c3 ?c4 ?c5 ?_)
          | fail)
        case c1 =>
          intro j u hj
          match j, hj with
          | 0, hj => simp at hj; subst hj; simp [Addr.add]
        case c2 => intro u hu; simp at hu; subst hu; rfl
        case c3 => unfold maxLen; omega
        case c4 => omega
        case c5 => simp; omega
        intro v3 w3 hown3 hgrow3 _
        have HO3 : Hid (w3.ownsRow (w.heap.size + 1) 5 1 v3 (k + 1) (cellsOf ((blockD key turn).take (k + 1))) ∧ w3.heap[w.heap.size]? = some (.cells K 23 (0, 0)) ∧ Below w.heap.size w w3) := by
          refine ⟨?_, ?_, ?_⟩
          · rw [List.take_add_one, List.getElem?_eq_getElem (by rw [hbl]; omega)]
            simp only [Option.toList_some]
            rw [cellsOf_append, show (blockD key turn)[k]'(by rw [hbl]; omega) = y by rw [HY.out]]
            exact hown3
          · rw [hgrow3.block w.heap.size (by simp; omega) (fun e => by have := (HO.out.1.lt _ e.symm).1; omega)]
            exact heap_keep HO.out.2.1
          · exact (HO.out.2.2.alloc HO.out.2.2.size _).grown hgrow3 (by simp; omega) (fun q e => by have := (HO.out.1.lt _ e).1; omega)
        clear hgrow3 hown3 HO hc
        go_wp2
        go_roundw
        case rel => exact ⟨k + 1, by omega, by go_num, HO3⟩
        case measure => simp [intOf]; omega
      · have d1 : decide ((k : Int) < 32) = false := by rw [decide_eq_false_iff_not]; omega
        have d1' : decide (k < 32) = false := by rw [decide_eq_false_iff_not]; omega
        rw [dif_neg (by omega)] at hyy
        have hx : bits .xor .u8 0 (turn.toNat : Int) = (y.toNat : Int) := by
          have := xor8 0 turn
          rw [hyy]
          exact this
        have hc : True := trivial
        clear hyy
        go_wp2_with (first
          | (at_builtin; refine wpList_append_own _ rfl (.tmp 17) (.tmp 21) 38 rfl (w.heap.size + 1) 5 i0 (.int .u8 0) 1 1 Tryd.underlying38 HI.out.1 HI.out.2.1 HI.out.2.2.1 HI.out.2.2.2 rfl (by decide) _ _ _ rfl (HO.out.1.alloc _) ⟨wr.heap.size, 0, none⟩ 1 1 [.int .u8 (y.toNat : Int)] rfl rfl ?c1 ?c2 ?c3 ?c4 ?c5 ?_)
          | fail)
        case c1 =>
          intro j u hj
          match j, hj with
          | 0, hj => simp at hj; subst hj; simp [Addr.add]
        case c2 => intro u hu; simp at hu; subst hu; rfl
        case c3 => unfold maxLen; omega
        case c4 => omega
        case c5 => simp; omega
        intro v3 w3 hown3 hgrow3 _
        have HO3 : Hid (w3.ownsRow (w.heap.size + 1) 5 1 v3 (k + 1) (cellsOf ((blockD key turn).take (k + 1))) ∧ w3.heap[w.heap.size]? = some (.cells K 23 (0, 0)) ∧ Below w.heap.size w w3) := by
          refine ⟨?_, ?_, ?_⟩
          · rw [List.take_add_one, List.getElem?_eq_getElem (by rw [hbl]; omega)]
            simp only [Option.toList_some]
            rw [cellsOf_append, show (blockD key turn)[k]'(by rw [hbl]; omega) = y by rw [HY.out]]
            exact hown3
          · rw [hgrow3.block w.heap.size (by simp; omega) (fun e => by have := (HO.out.1.lt _ e.symm).1; omega)]
            exact heap_keep HO.out.2.1
          · exact (HO.out.2.2.alloc HO.out.2.2.size _).grown hgrow3 (by simp; omega) (fun q e => by have := (HO.out.1.lt _ e).1; omega)
        clear hgrow3 hown3 HO hc
        go_wp2
        go_roundw
        case rel => exact ⟨k + 1, by omega, by go_num, HO3⟩
        case measure => simp [intOf]; omega
    · obtain rfl : k = 64 := by omega
      have HB := hidk HO.out.2.2
      have hoo := HO.out.1
      rw [List.take_of_length_le (by omega)] at hoo
      obtain ⟨g, cap, rfl, hcv⟩ := own_string hoo (by omega)
      rw [← Hs.out] at hcv
      clear hoo HO
      go_wp2
      go_ret
      exact ⟨rfl, HB.out⟩

theorem refOwner_any (r n : Int) (w : World) : Calls Tryd.prog 13 #[.int .i64 r, .int .i64 n] w fun e w' => e = .returned (.bool (owner r n)) ∧ w' = w := by
  unfold owner
  by_cases h1 : 1 ≤ r
  · have d1 : decide (1 ≤ r) = true := by rw [decide_eq_true_eq]; exact h1
    by_cases h2 : r ≤ 5
    · have d2 : decide (r ≤ 5) = true := by rw [decide_eq_true_eq]; exact h2
      by_cases h3 : 1 ≤ n
      · have d3 : decide (1 ≤ n) = true := by rw [decide_eq_true_eq]; exact h3
        obtain ⟨b, hb⟩ : ∃ b, decide (n ≤ 3) = b := ⟨_, rfl⟩
        rw [d1, d2, d3, hb]
        clear h1 h2 h3
        go_enter Tryd.func13, Tryd.ntmps13
        go_wp2
        go_ret
        exact ⟨rfl, rfl⟩
      · have d3 : decide (1 ≤ n) = false := by rw [decide_eq_false_iff_not]; exact h3
        rw [d1, d2, d3]
        clear h1 h2 h3
        go_enter Tryd.func13, Tryd.ntmps13
        go_wp2
        go_ret
        exact ⟨rfl, rfl⟩
    · have d2 : decide (r ≤ 5) = false := by rw [decide_eq_false_iff_not]; exact h2
      rw [d1, d2]
      clear h1 h2
      go_enter Tryd.func13, Tryd.ntmps13
      go_wp2
      go_ret
      exact ⟨rfl, rfl⟩
  · have d1 : decide (1 ≤ r) = false := by rw [decide_eq_false_iff_not]; exact h1
    rw [d1]
    clear h1
    go_enter Tryd.func13, Tryd.ntmps13
    go_wp2
    go_ret
    exact ⟨rfl, rfl⟩

set_option maxHeartbeats 4000000 in
theorem refMac_any (key : List UInt8) (s : ByteArray) (w : World) (K D : Array Value) (HK : Hid (K = (cellsOf key).toArray)) (hk : key.length = 32) (hs : s.size ≤ 100000) (hT : Table 1 w) (HD : Hid (D = (cellsOf (macD key s.data.toList)).toArray)) :
    Calls Tryd.prog 10 #[.agg K, .string s] w fun e w' => e = .returned (.agg D) ∧ Below w.heap.size w w' := by
  obtain ⟨Z, HZ, HA, HS, H1, H32⟩ := noughts27
  have HSK : Hid ((Tryd.prog.info? 23).map (·.size) = some K.size) := by show _ = _; rw [sizeY, HK.out]; simp [cellsOf_length, hk]
  have HSD : Hid ((Tryd.prog.info? 24).map (·.size) = some D.size) := by show _ = _; rw [size23, HD.out]; simp [cellsOf_length, macD, sumD_length]
  have H1D : Hid (D.all (·.oneCell') = true) := by show _ = _; rw [HD.out]; exact cellsOf_all _
  have HZD : Hid (Z.size = D.size) := by show _ = _; rw [H32.out, HD.out]; simp [cellsOf_length, macD, sumD_length]
  obtain ⟨b1, HB1⟩ : ∃ b : ByteArray, Hid (b = ⟨(blockD key 54).toArray⟩) := ⟨_, (rfl : _ = _)⟩
  obtain ⟨b2, HB2⟩ : ∃ b : ByteArray, Hid (b = ⟨(blockD key 92).toArray⟩) := ⟨_, (rfl : _ = _)⟩
  have hz1 : b1.size = 64 := by rw [HB1.out]; show (blockD key 54).toArray.size = 64; simpa using blockD_length key 54 hk
  have hz2 : b2.size = 64 := by rw [HB2.out]; show (blockD key 92).toArray.size = 64; simpa using blockD_length key 92 hk
  obtain ⟨M, HM, HSM, H1M, H32M⟩ := dig_row' (sumD (blockD key 54 ++ s.data.toList)) (sumD_length _)
  have HZM : Hid (Z.size = M.size) := by show _ = _; rw [H32.out, H32M.out]
  obtain ⟨x, HX⟩ : ∃ x : ByteArray, Hid (x = ⟨(sumD (blockD key 54 ++ s.data.toList)).toArray⟩) := ⟨_, (rfl : _ = _)⟩
  have hzx : x.size = 32 := by rw [HX.out]; show (sumD _).toArray.size = 32; simpa using sumD_length _
  have C1 : Hid (∀ W, Calls Tryd.prog 21 #[.agg K, .int .u8 54] W fun e w' => e = .returned (.string b1) ∧ Below W.heap.size W w') := fun W => refBlk_any key 54 W K HK hk b1 HB1
  have C2 : Hid (∀ W, Calls Tryd.prog 21 #[.agg K, .int .u8 92] W fun e w' => e = .returned (.string b2) ∧ Below W.heap.size W w') := fun W => refBlk_any key 92 W K HK hk b2 HB2
  have S1 : Hid (∀ W, Below w.heap.size w W → Calls Tryd.prog 20 #[.string (b1 ++ s)] W fun e w' => e = .returned (.agg M) ∧ Below W.heap.size W w') := fun W hb => refSum_any (b1 ++ s) W (by rw [ByteArray.size_append]; omega) (hT.keep hb) M (by show _ = _; rw [HM.out, HB1.out]; simp)
  have S2 : Hid (∀ W, Below w.heap.size w W → Calls Tryd.prog 20 #[.string (b2 ++ x)] W fun e w' => e = .returned (.agg D) ∧ Below W.heap.size W w') := fun W hb => refSum_any (b2 ++ x) W (by rw [ByteArray.size_append]; omega) (hT.keep hb) D (by show _ = _; rw [HD.out, HB2.out, HX.out]; simp [macD])
  have X1 : Hid (∀ W, Calls Tryd.prog 22 #[.agg M] W fun e w' => e = .returned (.string x) ∧ Below W.heap.size W w') := fun W => by
    have := refText_any _ (sumD_length _) W x HX M.toList (by show _ = _; rw [HM.out])
    simpa using this
  clear hT HD HX HM HB1 HB2 HK
  go_enter Tryd.func10, Tryd.ntmps10
  go_wp2_with (first
    | (show wpList _ _ _ ({ dst := some 4, op := _, type := _, pos := _, after := _, guard := _ } :: _) _ _; refine wpList_new_var rfl 24 rfl Z HA.out ?_; intro g4 w1 HM4; have HBW1 : Hid (Below w.heap.size w w1) := ((Below.refl _ _).alloc (Nat.le_refl _) _).trans (HM4.out.below.mono (by simp)); have HK1 := hidk ((HM4.out.below.block _ (by simp)).trans (heap_alloc_new w (.cells K 23))); try simp only [Act.put, List.setIfInBounds_toArray, List.set_cons_zero, List.set_cons_succ])
    | (show wpList _ _ _ ({ dst := some 6, op := _, type := _, pos := _, after := _, guard := _ } :: _) _ _; refine wpList_load_row rfl 23 (.tmp 2) rfl w.heap.size rfl 23 K (0, 0) _ HK1.out Tryd.underlying23 rfl HSK.out ?_; try simp only [Act.put, List.setIfInBounds_toArray, List.set_cons_zero, List.set_cons_succ])
    | fail)
  have h4 : w.heap.size < g4 := by have e := HM4.out.new; simp at e; omega
  have HR4 := hidk HM4.out.row
  clear HM4
  refine (C1.out _).mono ?_
  rintro e w2 ⟨rfl, hb2⟩
  have HB2w := hidk (HBW1.out.trans (hb2.mono HBW1.out.size))
  have HK2 := hidk ((hb2.block _ (heap_lt HK1.out)).trans HK1.out)
  have HR42 := hidk ((hb2.block _ (heap_lt HR4.out)).trans HR4.out)
  clear hb2 HBW1 HK1 HR4 C1
  go_wp2_with fail
  refine (S1.out _ HB2w.out).mono ?_
  rintro e w3 ⟨rfl, hb3⟩
  have HB3w := hidk (HB2w.out.trans (hb3.mono HB2w.out.size))
  have HK3 := hidk ((hb3.block _ (heap_lt HK2.out)).trans HK2.out)
  have HR43 := hidk ((hb3.block _ (heap_lt HR42.out)).trans HR42.out)
  clear hb3 HB2w HK2 HR42 S1
  go_wp2_with (first
    | (show wpList _ _ _ ({ dst := some 5, op := _, type := _, pos := _, after := _, guard := _ } :: _) _ _; refine wpList_new_var rfl 24 rfl Z HA.out ?_; intro g5 w4 HM5; try simp only [Act.put, List.setIfInBounds_toArray, List.set_cons_zero, List.set_cons_succ])
    | (refine wpList_set_var rfl 24 (.tmp 5) (.tmp 10) rfl g5 M rfl rfl 24 Z HM5.out.row HSM.out HZM.out H1M.out ?_; intro w5 HW5; try simp only [Act.put, List.setIfInBounds_toArray, List.set_cons_zero, List.set_cons_succ])
    | fail)
  have h5 : g4 < g5 := by rw [HM5.out.new]; exact heap_lt HR43.out
  have HB5 := hidk (HW5.out.below w3.heap.size w3 HM5.out.below (Nat.le_of_eq HM5.out.new.symm))
  have HB5w := hidk (HB3w.out.trans (HB5.out.mono HB3w.out.size))
  have HK5 := hidk ((HB5.out.block _ (heap_lt HK3.out)).trans HK3.out)
  have HR45 := hidk ((HB5.out.block _ (heap_lt HR43.out)).trans HR43.out)
  have HR5 := hidk HW5.out.row
  clear HM5 HW5 HB5 HB3w HK3 HR43
  refine wp_region_held_drew (S := (fun W => W.heap[w.heap.size]? = some (.cells K 23 (0, 0)) ∧ W.heap[g5]? = some (.cells M 24 (0, 0)))) (by kernel_rfl) ⟨HK5.out, HR5.out⟩ (fun hHeld => ?_)
  refine wpAnyH_take (i := 0) (oi := { dst := some 11, op := Op.load 23 (Operand.tmp 2), type := 23, pos := "ref.go:25", after := #[], guard := none }) (v := .agg K) rfl (by kernel_rfl) (by kernel_rfl) (by kernel_rfl) (fun _ _ _ h => h) (yieldsIf_row (by rfl) 23 (.tmp 2) rfl w.heap.size rfl 23 K (0, 0) _ (fun _ h => h.1) Tryd.underlying23 rfl HSK.out) hHeld ?_
  try simp only [Act.put, List.setIfInBounds_toArray, List.set_cons_zero, List.set_cons_succ]
  refine wpAnyH_take (i := 2) (oi := { dst := some 13, op := Op.load 24 (Operand.tmp 5), type := 24, pos := "ref.go:25", after := #[], guard := none }) (v := .agg M) rfl (by kernel_rfl) (by kernel_rfl) (by kernel_rfl) (fun _ _ _ h => h) (yieldsIf_row (by rfl) 24 (.tmp 5) rfl g5 rfl 24 M (0, 0) _ (fun _ h => h.2) Tryd.underlying24 rfl HSM.out) hHeld ?_
  try simp only [Act.put, List.setIfInBounds_toArray, List.set_cons_zero, List.set_cons_succ]
  refine wpAnyH_ready (rs := [1]) (by kernel_rfl) (by simp) ?_
  refine (AllReadyH.cons (o := { dst := some 12, op := Op.call { callee := Callee.value (Operand.func 21), args := #[Operand.tmp 11, Operand.const (Value.int IntKind.u8 92)], argTypes := #[23, 5] }, type := 9, pos := "ref.go:25", after := #[{ on := 0, ground := Ground.data }], guard := none }) rfl (fun K hK => ?_) AllReadyH.nil)
  go_simp
  refine (C2.out _).mono ?_
  rintro e w1 ⟨rfl, hbx⟩
  have HBX := hidk (HB5w.out.drew.trans (hbx.mono HB5w.out.size))
  have HR4x := hidk ((hbx.block _ (heap_lt HR45.out)).trans HR45.out)
  go_wp2_with fail
  refine hK.out _ _ ⟨(hbx.block _ (heap_lt hHeld.1)).trans hHeld.1, (hbx.block _ (heap_lt hHeld.2)).trans hHeld.2⟩ (fun hHeld => ?_)
  clear hK K
  try simp only [Act.put, List.setIfInBounds_toArray, List.set_cons_zero, List.set_cons_succ]
  refine wpAnyH_ready (rs := [3]) (by kernel_rfl) (by simp) ?_
  refine (AllReadyH.cons (o := { dst := some 14, op := Op.call { callee := Callee.value (Operand.func 22), args := #[Operand.tmp 13], argTypes := #[24] }, type := 9, pos := "ref.go:25", after := #[{ on := 2, ground := Ground.data }, { on := 1, ground := Ground.chain }], guard := none }) rfl (fun K hK => ?_) AllReadyH.nil)
  go_simp
  refine (X1.out _).mono ?_
  rintro e w3 ⟨rfl, hby⟩
  have HBY := hidk (HBX.out.trans (hby.mono HBX.out.size))
  have HR4y := hidk ((hby.block _ (heap_lt HR4x.out)).trans HR4x.out)
  go_wp2_with fail
  refine hK.out _ _ ⟨(hby.block _ (heap_lt hHeld.1)).trans hHeld.1, (hby.block _ (heap_lt hHeld.2)).trans hHeld.2⟩ (fun hHeld => ?_)
  clear hK K
  try simp only [Act.put, List.setIfInBounds_toArray, List.set_cons_zero, List.set_cons_succ]
  refine wpAnyH_take (i := 4) (oi := { dst := some 15, op := Op.binOp BinOp.add 9 (Operand.tmp 12) (Operand.tmp 14) 9, type := 9, pos := "ref.go:25", after := #[{ on := 1, ground := Ground.data }, { on := 3, ground := Ground.data }], guard := none }) (v := .string (b2 ++ x)) rfl (by kernel_rfl) (by kernel_rfl) (by kernel_rfl) (fun _ _ _ h => h) (Or.inl ⟨by rfl, by intro W hSw; go_simp⟩) hHeld ?_
  try simp only [Act.put, List.setIfInBounds_toArray, List.set_cons_zero, List.set_cons_succ]
  refine wpAnyH_ready (rs := [5]) (by kernel_rfl) (by simp) ?_
  refine (AllReadyH.cons (o := { dst := some 16, op := Op.call { callee := Callee.value (Operand.func 20), args := #[Operand.tmp 15], argTypes := #[9] }, type := 24, pos := "ref.go:25", after := #[{ on := 4, ground := Ground.data }, { on := 3, ground := Ground.chain }], guard := none }) rfl (fun K hK => ?_) AllReadyH.nil)
  go_simp
  refine (S2.out _ HBY.out).mono ?_
  rintro e w5 ⟨rfl, hbz⟩
  have HBS := hidk (HBY.out.trans (hbz.mono HBY.out.size))
  have HR4z := hidk ((hbz.block _ (heap_lt HR4y.out)).trans HR4y.out)
  go_wp2_with fail
  refine hK.out _ _ ⟨(hbz.block _ (heap_lt hHeld.1)).trans hHeld.1, (hbz.block _ (heap_lt hHeld.2)).trans hHeld.2⟩ (fun hHeld => ?_)
  clear hK K
  try simp only [Act.put, List.setIfInBounds_toArray, List.set_cons_zero, List.set_cons_succ]
  refine wpAnyH_ready (rs := [6]) (by kernel_rfl) (by simp) ?_
  refine (AllReadyH.cons (o := { dst := none, op := Op.store 24 (Operand.tmp 4) (Operand.tmp 16), type := 0, pos := "ref.go:25", after := #[{ on := 5, ground := Ground.data }, { on := 5, ground := Ground.chain }, { on := 0, ground := Ground.phase }, { on := 1, ground := Ground.phase }, { on := 2, ground := Ground.phase }, { on := 3, ground := Ground.phase }, { on := 4, ground := Ground.phase }, { on := 5, ground := Ground.phase }], guard := none }) rfl (fun K hK => ?_) AllReadyH.nil)
  refine step_set_var (by rfl) 24 (.tmp 4) (.tmp 16) rfl g4 D rfl rfl 24 Z HR4z.out HSD.out HZD.out H1D.out ?_
  intro wz HW4
  refine hK.out _ _ ⟨(HW4.out.other w.heap.size (by omega)).trans hHeld.1, (HW4.out.other g5 (by omega)).trans hHeld.2⟩ (fun hHeld => ?_)
  clear hK K
  try simp only [Act.put, List.setIfInBounds_toArray, List.set_cons_zero, List.set_cons_succ]
  refine wpAnyH_done (by kernel_rfl) ?_ _
  go_wp2
  refine bodyPost_ret (v := .agg D) ?_ rfl ⟨rfl, HW4.out.below w.heap.size w HBS.out (by omega)⟩
  exact results_cell_row (p := 4) (ty := 24) rfl _ _ g4 24 D (0, 0) _ rfl HW4.out.row Tryd.underlying24 rfl HSD.out

theorem conv_three (W : World) (r n : Int) (hr : 0 ≤ r ∧ r ≤ 255) (hn : 0 ≤ n ∧ n ≤ 255) : (convert 38 9 (.slice (some ⟨W.heap.size, 0, none⟩) 3 3)).run Tryd.prog (W.alloc (.cells #[.int .u8 75, .int .u8 r, .int .u8 n] 5)) = .ok (.string ⟨#[75, UInt8.ofNat r.toNat, UInt8.ofNat n.toNat]⟩) (W.alloc (.cells #[.int .u8 75, .int .u8 r, .int .u8 n] 5)) := by
  have e1 : ((UInt8.ofNat r.toNat).toNat : Int) = r := by rw [UInt8.toNat_ofNat']; omega
  have e2 : ((UInt8.ofNat n.toNat).toNat : Int) = n := by rw [UInt8.toNat_ofNat']; omega
  have := run_convert_bytes_back (P := Tryd.prog) (W.alloc (.cells #[.int .u8 75, .int .u8 r, .int .u8 n] 5)) 38 9 5 ⟨W.heap.size, 0, none⟩ 3 [75, UInt8.ofNat r.toNat, UInt8.ofNat n.toNat] Tryd.underlying38 Tryd.underlying5 Tryd.underlying9 (fun j hj => by
    rw [add_plain, Nat.zero_add, cell_of_row _ _ j _ 5 (0, 0) (heap_alloc_new W _)]
    match j, hj with
    | 0, _ => rfl
    | 1, _ => show some (Value.int .u8 r) = some (.int .u8 ((UInt8.ofNat r.toNat).toNat : Int)); rw [e1]
    | 2, _ => show some (Value.int .u8 n) = some (.int .u8 ((UInt8.ofNat n.toNat).toNat : Int)); rw [e2])
  exact this
set_option maxHeartbeats 4000000 in
theorem refKey_any (master : List UInt8) (r n : Int) (w : World) (M K : Array Value) (HM : Hid (M = (cellsOf master).toArray)) (hm : master.length = 32) (ho : owner r n = true) (hT : Table 1 w) (HK : Hid (K = (cellsOf (keyD master r n)).toArray)) :
    Calls Tryd.prog 14 #[.agg M, .int .i64 r, .int .i64 n] w fun e w' => e = .returned (.agg K) ∧ Below w.heap.size w w' := by
  obtain ⟨Z, HZ, HA, H32⟩ := noughtsY
  have hb := (owner_iff r n).1 ho
  have HSM : Hid ((Tryd.prog.info? 23).map (·.size) = some M.size) := by show _ = _; rw [sizeY, HM.out]; simp [cellsOf_length, hm]
  have HSK : Hid ((Tryd.prog.info? 23).map (·.size) = some K.size) := by show _ = _; rw [sizeY, HK.out]; simp [cellsOf_length, keyD, macD, sumD_length]
  have H1K : Hid (K.all (·.oneCell') = true) := by show _ = _; rw [HK.out]; exact cellsOf_all _
  have HZK : Hid (Z.size = K.size) := by show _ = _; rw [H32.out, HK.out]; simp [cellsOf_length, keyD, macD, sumD_length]
  have hw1 : IntKind.u8.wrap r = r := by have := IntKind.wrap_u8' r; omega
  have hw2 : IntKind.u8.wrap n = n := by have := IntKind.wrap_u8' n; omega
  obtain ⟨s3, HS3⟩ : ∃ s : ByteArray, Hid (s = ⟨#[75, UInt8.ofNat r.toNat, UInt8.ofNat n.toNat]⟩) := ⟨_, (rfl : _ = _)⟩
  have CV : ∀ W : World, (convert 38 9 (.slice (some ⟨W.heap.size, 0, none⟩) 3 3)).run Tryd.prog (W.alloc (.cells #[.int .u8 75, .int .u8 r, .int .u8 n] 5)) = .ok (.string s3) (W.alloc (.cells #[.int .u8 75, .int .u8 r, .int .u8 n] 5)) := fun W => by rw [HS3.out]; exact conv_three W r n (by omega) (by omega)
  have C1 : Hid (∀ W, Below w.heap.size w W → Calls Tryd.prog 10 #[.agg M, .string s3] W fun e w' => e = .returned (.agg K) ∧ Below W.heap.size W w') := fun W hbw => refMac_any master s3 W M K HM hm (by rw [HS3.out]; show 3 ≤ 100000; decide) (hT.keep hbw) (by show _ = _; rw [HK.out, HS3.out]; rfl)
  clear hT HK HM HS3 ho hb
  go_enter Tryd.func14, Tryd.ntmps14
  go_wp2_with (first
    | (show wpList _ _ _ ({ dst := some 6, op := _, type := _, pos := _, after := _, guard := _ } :: _) _ _; refine wpList_new_var rfl 23 rfl Z HA.out ?_; intro g6 w1 HM6; have HBW1 : Hid (Below w.heap.size w w1) := ((Below.refl _ _).alloc (Nat.le_refl _) _).trans (HM6.out.below.mono (by simp)); have HK1 := hidk ((HM6.out.below.block _ (by simp)).trans (heap_alloc_new w (.cells M 23))); have hcv := CV w1; try simp only [Act.put, List.setIfInBounds_toArray, List.set_cons_zero, List.set_cons_succ])
    | (show wpList _ _ _ ({ dst := some 7, op := _, type := _, pos := _, after := _, guard := _ } :: _) _ _; refine wpList_load_row rfl 23 (.tmp 3) rfl w.heap.size rfl 23 M (0, 0) _ HK1.out Tryd.underlying23 rfl HSM.out ?_; try simp only [Act.put, List.setIfInBounds_toArray, List.set_cons_zero, List.set_cons_succ])
    | fail)
  have h6 : w.heap.size < g6 := by have e := HM6.out.new; simp at e; omega
  have HBW2 : Hid (Below w.heap.size w (w1.alloc (.cells #[.int .u8 75, .int .u8 r, .int .u8 n] 5))) := HBW1.out.alloc HBW1.out.size _
  have HR6 : Hid ((w1.alloc (.cells #[.int .u8 75, .int .u8 r, .int .u8 n] 5)).heap[g6]? = some (.cells Z 23 (0, 0))) := heap_keep HM6.out.row
  refine (C1.out _ HBW2.out).mono ?_
  rintro e w2 ⟨rfl, hb2⟩
  have HB2w := hidk (HBW2.out.trans (hb2.mono HBW2.out.size))
  have HR62 := hidk ((hb2.block _ (heap_lt HR6.out)).trans HR6.out)
  clear hb2 HBW1 HBW2 HK1 HM6 C1 hcv CV HR6
  go_wp2_with (first
    | (refine wpList_set_var rfl 23 (.tmp 6) (.tmp 14) rfl g6 K rfl rfl 23 Z HR62.out HSK.out HZK.out H1K.out ?_; intro w3 HW6; try simp only [Act.put, List.setIfInBounds_toArray, List.set_cons_zero, List.set_cons_succ])
    | fail)
  refine bodyPost_ret (v := .agg K) ?_ rfl ⟨rfl, HW6.out.below w.heap.size w HB2w.out (by omega)⟩
  exact results_cell_row (p := 6) (ty := 23) rfl _ _ g6 23 K (0, 0) _ rfl HW6.out.row Tryd.underlying23 rfl HSK.out

set_option maxHeartbeats 4000000 in
theorem refHolds_any (master : List UInt8) (r n : Int) (s : ByteArray) (t : List UInt8) (w : World) (M U : Array Value) (HM : Hid (M = (cellsOf master).toArray)) (HU : Hid (U = (cellsOf t).toArray)) (hm : master.length = 32) (ht : t.length = 32) (hs : s.size ≤ 100000) (hT : Table 1 w) :
    Calls Tryd.prog 16 #[.agg M, .int .i64 r, .int .i64 n, .string s, .agg U] w fun e w' => e = .returned (.int .i64 (holdE master r n s.data.toList t)) ∧ Below w.heap.size w w' := by
  have hnot : ∀ (x : Bool) (w : World), (Op.unary .not (.bool x)).run Tryd.prog w = .ok (.bool (!x)) w := fun _ _ => rfl
  have HSM : Hid ((Tryd.prog.info? 23).map (·.size) = some M.size) := by show _ = _; rw [sizeY, HM.out]; simp [cellsOf_length, hm]
  have HSU : Hid ((Tryd.prog.info? 24).map (·.size) = some U.size) := by show _ = _; rw [size23, HU.out]; simp [cellsOf_length, ht]
  have HW : Hid (((w.alloc (.cells M 23)).alloc (.cells U 24)).heap[w.heap.size]? = some (.cells M 23 (0, 0)) ∧ ((w.alloc (.cells M 23)).alloc (.cells U 24)).heap[w.heap.size + 1]? = some (.cells U 24 (0, 0)) ∧ Below w.heap.size w ((w.alloc (.cells M 23)).alloc (.cells U 24))) := ⟨heap_alloc2_old w _ _, heap_alloc2_new w _ _, ((Below.refl _ _).alloc (Nat.le_refl _) _).alloc (by simp) _⟩
  have OW : Hid (∀ W, Calls Tryd.prog 13 #[.int .i64 r, .int .i64 n] W fun e w' => e = .returned (.bool (owner r n)) ∧ w' = W) := fun W => refOwner_any r n W
  by_cases ho : owner r n = true
  · rw [ho] at OW
    rw [holdE_in _ _ _ _ _ ho]
    obtain ⟨K, HK, HSK, H1K, H32K⟩ := key_row (keyD master r n) (keyD_length sumD_length _ _ _)
    obtain ⟨D, HD, HSD, H1D, H32D⟩ := dig_row' (macD (keyD master r n) s.data.toList) (sumD_length _)
    obtain ⟨b, hb⟩ : ∃ b, (!decide (macD (keyD master r n) s.data.toList = t)) = b := ⟨_, rfl⟩
    have nq : ∀ W, (binOp .neq 24 (.agg D) (.agg U)).run Tryd.prog W = .ok (.bool b) W := fun W => neqDigV _ _ (sumD_length _) ht D U HD HU b hb W
    have C1 : Hid (∀ W, Below w.heap.size w W → Calls Tryd.prog 14 #[.agg M, .int .i64 r, .int .i64 n] W fun e w' => e = .returned (.agg K) ∧ Below W.heap.size W w') := fun W hbw => refKey_any master r n W M K HM hm ho (hT.keep hbw) HK
    have C2 : Hid (∀ W, Below w.heap.size w W → Calls Tryd.prog 10 #[.agg K, .string s] W fun e w' => e = .returned (.agg D) ∧ Below W.heap.size W w') := fun W hbw => refMac_any (keyD master r n) s W K D HK (keyD_length sumD_length _ _ _) hs (hT.keep hbw) HD
    obtain ⟨V, hV⟩ : ∃ V : Int, (if macD (keyD master r n) s.data.toList = t then (0 : Int) else 72) = V := ⟨_, rfl⟩
    have HVF : Hid (b = false → V = 0) := fun e => by rw [← hV, if_pos]; rw [e] at hb; simpa using hb
    have HVT : Hid (b = true → V = 72) := fun e => by rw [← hV, if_neg]; rw [e] at hb; simpa using hb
    rw [hV]
    clear hT HM HU HK HD hb hV ho
    go_enter Tryd.func16, Tryd.ntmps16
    go_wp2_with fail
    refine (OW.out _).mono ?_
    rintro e w1 ⟨rfl, rfl⟩
    go_wp2
    refine wp_region_held_drew (S := (fun W => W.heap[w.heap.size]? = some (.cells M 23 (0, 0)) ∧ W.heap[w.heap.size + 1]? = some (.cells U 24 (0, 0)))) (by kernel_rfl) ⟨HW.out.1, HW.out.2.1⟩ (fun hHeld => ?_)
    refine wpAnyH_take (i := 0) (oi := { dst := some 15, op := Op.load 23 (Operand.tmp 5), type := 23, pos := "ref.go:43", after := #[], guard := none }) (v := .agg M) rfl (by kernel_rfl) (by kernel_rfl) (by kernel_rfl) (fun _ _ _ h => h) (yieldsIf_row (by rfl) 23 (.tmp 5) rfl w.heap.size rfl 23 M (0, 0) _ (fun _ h => h.1) Tryd.underlying23 rfl HSM.out) hHeld ?_
    try simp only [Act.put, List.setIfInBounds_toArray, List.set_cons_zero, List.set_cons_succ]
    refine wpAnyH_take (i := 1) (oi := { dst := some 16, op := Op.move (Operand.tmp 1), type := 3, pos := "ref.go:43", after := #[], guard := none }) (v := .int .i64 r) rfl (by kernel_rfl) (by kernel_rfl) (by kernel_rfl) (fun _ _ _ h => h) (Or.inl ⟨by rfl, by intro W hSw; go_simp⟩) hHeld ?_
    try simp only [Act.put, List.setIfInBounds_toArray, List.set_cons_zero, List.set_cons_succ]
    refine wpAnyH_take (i := 2) (oi := { dst := some 17, op := Op.move (Operand.tmp 2), type := 3, pos := "ref.go:43", after := #[], guard := none }) (v := .int .i64 n) rfl (by kernel_rfl) (by kernel_rfl) (by kernel_rfl) (fun _ _ _ h => h) (Or.inl ⟨by rfl, by intro W hSw; go_simp⟩) hHeld ?_
    try simp only [Act.put, List.setIfInBounds_toArray, List.set_cons_zero, List.set_cons_succ]
    refine wpAnyH_take (i := 4) (oi := { dst := some 19, op := Op.move (Operand.tmp 3), type := 9, pos := "ref.go:43", after := #[], guard := none }) (v := .string s) rfl (by kernel_rfl) (by kernel_rfl) (by kernel_rfl) (fun _ _ _ h => h) (Or.inl ⟨by rfl, by intro W hSw; go_simp⟩) hHeld ?_
    try simp only [Act.put, List.setIfInBounds_toArray, List.set_cons_zero, List.set_cons_succ]
    refine wpAnyH_take (i := 6) (oi := { dst := some 21, op := Op.load 24 (Operand.tmp 9), type := 24, pos := "ref.go:43", after := #[], guard := none }) (v := .agg U) rfl (by kernel_rfl) (by kernel_rfl) (by kernel_rfl) (fun _ _ _ h => h) (yieldsIf_row (by rfl) 24 (.tmp 9) rfl (w.heap.size + 1) rfl 24 U (0, 0) _ (fun _ h => h.2) Tryd.underlying24 rfl HSU.out) hHeld ?_
    try simp only [Act.put, List.setIfInBounds_toArray, List.set_cons_zero, List.set_cons_succ]
    refine wpAnyH_ready (rs := [3]) (by kernel_rfl) (by simp) ?_
    refine (AllReadyH.cons (o := { dst := some 18, op := Op.call { callee := Callee.value (Operand.func 14), args := #[Operand.tmp 15, Operand.tmp 16, Operand.tmp 17], argTypes := #[23, 3, 3] }, type := 23, pos := "ref.go:43", after := #[{ on := 0, ground := Ground.data }, { on := 1, ground := Ground.data }, { on := 2, ground := Ground.data }], guard := none }) rfl (fun K hK => ?_) AllReadyH.nil)
    go_simp
    refine (C1.out _ HW.out.2.2.drew).mono ?_
    rintro e w3 ⟨rfl, hbx⟩
    have HBX := hidk (HW.out.2.2.drew.trans (hbx.mono HW.out.2.2.size))
    go_wp2_with fail
    refine hK.out _ _ ⟨(hbx.block _ (heap_lt hHeld.1)).trans hHeld.1, (hbx.block _ (heap_lt hHeld.2)).trans hHeld.2⟩ (fun hHeld => ?_)
    clear hK K
    try simp only [Act.put, List.setIfInBounds_toArray, List.set_cons_zero, List.set_cons_succ]
    refine wpAnyH_ready (rs := [5]) (by kernel_rfl) (by simp) ?_
    refine (AllReadyH.cons (o := { dst := some 20, op := Op.call { callee := Callee.value (Operand.func 10), args := #[Operand.tmp 18, Operand.tmp 19], argTypes := #[23, 9] }, type := 24, pos := "ref.go:43", after := #[{ on := 3, ground := Ground.data }, { on := 4, ground := Ground.data }, { on := 3, ground := Ground.chain }], guard := none }) rfl (fun K hK => ?_) AllReadyH.nil)
    go_simp
    refine (C2.out _ HBX.out).mono ?_
    rintro e w5 ⟨rfl, hby⟩
    have HBY := hidk (HBX.out.trans (hby.mono HBX.out.size))
    go_wp2_with fail
    refine hK.out _ _ ⟨(hby.block _ (heap_lt hHeld.1)).trans hHeld.1, (hby.block _ (heap_lt hHeld.2)).trans hHeld.2⟩ (fun hHeld => ?_)
    clear hK K
    try simp only [Act.put, List.setIfInBounds_toArray, List.set_cons_zero, List.set_cons_succ]
    refine wpAnyH_take (i := 7) (oi := { dst := some 22, op := Op.binOp BinOp.neq 24 (Operand.tmp 20) (Operand.tmp 21) 24, type := 4, pos := "ref.go:43", after := #[{ on := 5, ground := Ground.data }, { on := 6, ground := Ground.data }], guard := none }) (v := .bool b) rfl (by kernel_rfl) (by kernel_rfl) (by kernel_rfl) (fun _ _ _ h => h) (Or.inl ⟨by rfl, by intro W hSw; have := nq W; go_simp⟩) hHeld ?_
    try simp only [Act.put, List.setIfInBounds_toArray, List.set_cons_zero, List.set_cons_succ]
    refine wpAnyH_done (by kernel_rfl) ?_ _
    cases b
    · go_wp2
      go_ret
      exact ⟨by rw [HVF.out (by trivial)]; rfl, HBY.out⟩
    · go_wp2
      go_ret
      exact ⟨by rw [HVT.out (by trivial)]; rfl, HBY.out⟩
  · have hof : owner r n = false := by simpa using ho
    rw [hof] at OW
    rw [holdE_out _ _ _ _ _ ho]
    clear hT HM HU ho hof
    go_enter Tryd.func16, Tryd.ntmps16
    go_wp2_with fail
    refine (OW.out _).mono ?_
    rintro e w1 ⟨rfl, rfl⟩
    go_wp2
    go_ret
    exact ⟨rfl, HW.out.2.2⟩
end Go.Proofs.YtkmndchbmbhlhaaDoor
