/- What the document's Many, Right, Root, Of and Add (of fronts) answer. -/
import Derived.Test.YtmpmhfagbcknnaaDoorFronts
import Derived.Test.YtmpmhfagbcknnaaDoorSame
import Derived.Test.YtmpmhfagbcknnaaDoorBuilds
import Derived.Test.YtmpmhfagbcknnaaDoorAppends
import Derived.Test.YtmpmhfagbcknnaaDoorRefRoot
namespace Go.Proofs.YtmpmhfagbcknnaaDoor
open Go.RowKit Sums
set_option linter.unusedVariables false
set_option linter.unusedSimpArgs false

theorem many_le (n : Nat) : many n ≤ n := by
  induction n using Nat.strongRecOn with
  | _ n ih =>
    by_cases h0 : n = 0
    · subst h0; exact Nat.le_refl _
    · have := ih (n / 2) (by omega)
      rw [many_step n]
      omega

set_option maxHeartbeats 1000000 in
theorem refMany_any (n : Nat) (w : World) (hn : n ≤ 100000) :
    Calls Tryd.prog 23 #[.int .i64 n] w fun e w' => e = .returned (.int .i64 (many n)) ∧ w = w' := by
  obtain ⟨M, HM⟩ : ∃ M, Hid (M = many n) := ⟨_, (rfl : many n = _)⟩
  have hM : M ≤ 100000 := by rw [HM.out]; have := many_le n; omega
  rw [← HM.out]
  go_enter Tryd.func23, Tryd.ntmps23
  go_wp2
  go_loopw [0, 3] (fun u v wr => ∃ s c : Nat, u = .int .i64 s ∧ v = .int .i64 c ∧ Hid (c + many s = M) ∧ s ≤ 100000 ∧ c ≤ M ∧ w = wr) (fun u _ _ => (intOf u).toNat)
  case atStart => exact ⟨n, 0, rfl, rfl, by show _ = _; rw [HM.out]; omega, hn, by omega, rfl⟩
  case round =>
    obtain ⟨s, c, rfl, rfl, HS, hs, hc, rfl⟩ := hrel
    by_cases h0 : 0 < s
    · have hd : decide ((0 : Int) < (s : Int)) = true := by rw [decide_eq_true_eq]; omega
      have hms := many_step s
      have hcm : c + s % 2 ≤ M := by have := HS.out; omega
      go_wp2
      go_roundw
      case rel => exact ⟨s / 2, c + s % 2, by go_num, by go_num, (by show _ = _; have := HS.out; omega), by omega, hcm, by trivial⟩
      case measure => simp [intOf]; omega
    · obtain rfl : s = 0 := by omega
      obtain rfl : c = M := by have := HS.out; rw [many_zero] at this; omega
      go_wp2
      go_ret
      exact ⟨rfl, rfl⟩

/-- Is a front of n and so many peaks right? -/
def isRight (n : Int) (len : Nat) : Prop := 0 ≤ n ∧ n ≤ 100000 ∧ len = many n.toNat

set_option maxHeartbeats 1000000 in
theorem refRight_yes (n : Int) (a : Option Addr) (len cap : Nat) (w : World) (h : isRight n len) :
    Calls Tryd.prog 11 #[.int .i64 n, .slice a len cap] w fun e w' => e = .returned (.bool true) ∧ w = w' := by
  obtain ⟨h0, h1, h2⟩ := h
  obtain ⟨N, hN⟩ : ∃ N : Nat, n = N := ⟨n.toNat, by omega⟩
  subst hN
  rw [Int.toNat_natCast] at h2
  have MC : Hid (∀ W, Calls Tryd.prog 23 #[.int .i64 N] W fun e w' => e = .returned (.int .i64 len) ∧ W = w') := fun W => by
    rw [h2]
    exact refMany_any N W (by omega)
  have hml : len ≤ 100000 := by rw [h2]; have := many_le N; omega
  clear h2
  have d0 : decide ((0 : Int) ≤ (N : Int)) = true := by rw [decide_eq_true_eq]; omega
  have d1 : decide ((N : Int) ≤ 100000) = true := by rw [decide_eq_true_eq]; omega
  have d2 : decide (N ≤ 100000) = true := by rw [decide_eq_true_eq]; omega
  go_enter Tryd.func11, Tryd.ntmps11
  go_wp2_with fail
  refine (MC.out _).mono ?_
  rintro e w1 ⟨rfl, rfl⟩
  go_wp2
  go_ret
  exact ⟨rfl, rfl⟩

set_option maxHeartbeats 1000000 in
theorem refRight_no (n : Int) (a : Option Addr) (len cap : Nat) (w : World) (hl : len ≤ maxLen) (hn : -9223372036854775808 ≤ n ∧ n ≤ 9223372036854775807) (h : ¬ isRight n len) :
    Calls Tryd.prog 11 #[.int .i64 n, .slice a len cap] w fun e w' => e = .returned (.bool false) ∧ w = w' := by
  have hlx : len ≤ 9223372036854775807 := by unfold maxLen at hl; omega
  by_cases h0 : n < 0
  · have d0 : decide ((0 : Int) ≤ n) = false := by rw [decide_eq_false_iff_not]; omega
    clear h hl
    go_enter Tryd.func11, Tryd.ntmps11
    go_wp2
    go_ret
    exact ⟨rfl, rfl⟩
  by_cases h1 : 100000 < n
  · have d0 : decide ((0 : Int) ≤ n) = true := by rw [decide_eq_true_eq]; omega
    have d1 : decide (n ≤ 100000) = false := by rw [decide_eq_false_iff_not]; omega
    clear h hl
    go_enter Tryd.func11, Tryd.ntmps11
    go_wp2
    go_ret
    exact ⟨rfl, rfl⟩
  · obtain ⟨N, hN⟩ : ∃ N : Nat, n = N := ⟨n.toNat, by omega⟩
    subst hN
    have h2 : len ≠ many N := fun e => h ⟨by omega, by omega, by rw [Int.toNat_natCast]; exact e⟩
    obtain ⟨M, HM⟩ : ∃ M, Hid (M = many N) := ⟨_, (rfl : many N = _)⟩
    have MC : Hid (∀ W, Calls Tryd.prog 23 #[.int .i64 N] W fun e w' => e = .returned (.int .i64 M) ∧ W = w') := fun W => by
      rw [HM.out]
      exact refMany_any N W (by omega)
    rw [← HM.out] at h2
    have d0 : decide ((0 : Int) ≤ (N : Int)) = true := by rw [decide_eq_true_eq]; omega
    have d1 : decide ((N : Int) ≤ 100000) = true := by rw [decide_eq_true_eq]; omega
    have d2 : decide (N ≤ 100000) = true := by rw [decide_eq_true_eq]; omega
    have e1 : ((len : Int) == (M : Int)) = false := by rw [beq_eq_false_iff_ne]; omega
    have e2 : decide ((len : Int) = (M : Int)) = false := by rw [decide_eq_false_iff_not]; omega
    clear h hl
    go_enter Tryd.func11, Tryd.ntmps11
    go_wp2_with fail
    refine (MC.out _).mono ?_
    rintro e w1 ⟨rfl, rfl⟩
    go_wp2
    go_ret
    exact ⟨rfl, rfl⟩

theorem rootP_digs (hs : ∀ l, (sumD l).length = 32) (ps : List (List UInt8)) (h : Digs32 ps) : (rootP ps).length = 32 := by
  match ps, h with
  | [], _ => exact hs _
  | [d], h => exact h d (by simp)
  | d :: e :: r, _ => exact hs _
theorem rootP_drop (ps : List (List UInt8)) (t : Nat) (ht : t + 1 < ps.length) : rootP (ps.drop t) = knotD ps[t] (rootP (ps.drop (t + 1))) := by
  rw [List.drop_eq_getElem_cons (show t < ps.length by omega)]
  refine rootP_cons _ _ ?_
  intro e
  have := congrArg List.length e
  simp only [List.length_drop, List.length_nil] at this
  omega
theorem rootP_last (ps : List (List UInt8)) (t : Nat) (ht : t + 1 = ps.length) : rootP (ps.drop t) = ps[t] := by
  rw [List.drop_eq_getElem_cons (show t < ps.length by omega), List.drop_eq_nil_of_le (by omega)]
  rfl

set_option maxHeartbeats 2000000 in
theorem refFrontRoot_any (a : Option Addr) (len cap : Nat) (ps : List (List UInt8)) (w : World) (hR : LReads w a len cap ps) (hK : Table 0 w) (D : Array Value) (HD : Hid (D = (cellsOf (rootP ps)).toArray)) :
    Calls Tryd.prog 12 #[.slice a len cap] w fun e w' => e = .returned (.agg D) ∧ Below w.heap.size w w' := by
  obtain ⟨Z, HZ, HA, HS, H1, H32⟩ := noughts27
  have h32 : (rootP ps).length = 32 := rootP_digs sumD_length ps hR.2.1
  have HSD : Hid ((Tryd.prog.info? 29).map (·.size) = some D.size) := by show _ = _; rw [size23, HD.out]; simp [cellsOf_length, h32]
  have H1D : Hid (D.all (·.oneCell') = true) := by show _ = _; rw [HD.out]; exact cellsOf_all _
  have HZD : Hid (Z.size = D.size) := by show _ = _; rw [H32.out, HD.out]; simp [cellsOf_length, h32]
  have hlen := hR.1
  have hmx : len ≤ 9223372036854775807 := by have := hR.2.2.2.1; unfold maxLen at this; omega
  by_cases h0 : len = 0
  · have KE : Hid (∀ W, Below w.heap.size w W → Calls Tryd.prog 24 #[.string ⟨#[]⟩] W fun e w' => e = .returned (.agg D) ∧ Below W.heap.size W w') := fun W hb => refSum_any ⟨#[]⟩ W (by decide) (hK.keep hb) D (by
      show _ = _
      rw [HD.out, show ps = [] from List.eq_nil_of_length_eq_zero (by omega)]
      rfl)
    subst h0
    clear hK hR HD
    go_enter Tryd.func12, Tryd.ntmps12
    go_wp2_with (first
      | (refine wpList_alloc_row rfl 29 rfl Z HA.out ?_)
      | fail)
    refine (KE.out _ ((Below.refl _ _).alloc (Nat.le_refl _) _)).mono ?_
    rintro e w1 ⟨rfl, hb1⟩
    have HG : Hid (w1.heap[w.heap.size]? = some (.cells Z 29 (0, 0))) := (hb1.block _ (by simp)).trans (heap_alloc_new w _)
    have hB : Below w.heap.size w w1 := ((Below.refl _ _).alloc (Nat.le_refl _) _).trans (hb1.mono (by simp))
    clear hb1
    go_wp2_with (first
      | (refine wpList_store_row rfl 29 (.tmp 2) (.tmp 8) rfl w.heap.size D rfl rfl 29 Z HG.out HSD.out HZD.out H1D.out ?_)
      | fail)
    refine bodyPost_ret (v := .agg D) ?_ rfl ⟨rfl, below_setRow hB (Nat.le_refl _) _⟩
    exact results_cell_row (p := 2) (ty := 29) rfl _ _ w.heap.size 29 D (0, 0) _ rfl (setRow_heap _ _ _ _ 29 _ HG.out) Tryd.underlying29 rfl HSD.out
  · obtain ⟨g, o, rfl, hg⟩ := hR.at (by omega)
    obtain ⟨m, rfl⟩ : ∃ m, len = m + 1 := ⟨len - 1, by omega⟩
    have HR : Hid (LReads w (some ⟨g, o, none⟩) (m + 1) cap ps) := hR
    have HT : Hid (∀ W, Below w.heap.size w W → Table 0 W) := fun W hb => hK.keep hb
    -- the row that d holds at t
    have row : ∀ t, t ≤ m → ∃ B : Array Value, Hid (B = (cellsOf (rootP (ps.drop t))).toArray) ∧ Hid ((Tryd.prog.info? 29).map (·.size) = some B.size) ∧ Hid (B.all (·.oneCell') = true) ∧ Hid (B.size = 32) := fun t _ => dig_row' _ (rootP_digs sumD_length _ (hR.2.1.drop t))
    obtain ⟨B0, HB0, HSB0, H1B0, H32B0⟩ := row m (Nat.le_refl _)
    obtain ⟨L0, hL0⟩ : ∃ L0 : List Value, B0 = L0.toArray := ⟨B0.toList, by simp⟩
    have EL0 : Hid (L0 = cellsOf (ps[m]'(by omega))) := by
      have := HB0.out
      rw [rootP_last ps m (by omega), hL0] at this
      exact List.toArray_inj this
    have hm32 : (ps[m]'(by omega)).length = 32 := hR.2.1 _ (List.getElem_mem _)
    have z0 : Hid ((Tryd.prog.info? 29).map (·.size) = some L0.length) := by show _ = _; rw [size23, EL0.out, cellsOf_length, hm32]
    have HRG : Hid ((w.alloc (.cells Z 29)).rangeAt g (o + 32 * m) L0) := by
      rw [EL0.out]
      exact range_keep ((Below.refl _ _).alloc (Nat.le_refl _) _) (hR.range m (by omega))
    have HZB0 : Hid (Z.size = L0.toArray.size) := by show _ = _; rw [← hL0, H32.out, H32B0.out]
    rw [hL0] at HSB0 H1B0 HB0
    have ix := fun W => index_list W g o (m + 1) cap m .i64 (by omega)
    have e1 := wrap_int ((m : Int) + 1 - 1) (by omega) (by omega)
    have e2 := wrap_int ((m : Int) + 1 - 2) (by omega) (by omega)
    have c7 : ((m : Int) + 1 == 0) = false := by rw [beq_eq_false_iff_ne]; omega
    clear hK hR hL0 H32B0 hm32 EL0
    go_enter Tryd.func12, Tryd.ntmps12
    go_wp2_with (first
      | (refine wpList_load_mid rfl 29 (.tmp 13) rfl g (o + 32 * m) rfl L0 _ HRG.out Tryd.underlying29 rfl z0.out ?_; try simp only [Act.put, List.setIfInBounds_toArray, List.set_cons_zero, List.set_cons_succ])
      | (refine wpList_new_row rfl rfl 29 rfl (.tmp 3) (.tmp 14) rfl Z L0.toArray HA.out (fun _ => rfl) (fun _ => rfl) HSB0.out HZB0.out H1B0.out ?_; intro gd w1 F1; try simp only [Act.put, List.setIfInBounds_toArray, List.set_cons_zero, List.set_cons_succ])
      | (refine wpList_alloc_row rfl 29 rfl Z HA.out ?_; try simp only [Act.put, List.setIfInBounds_toArray, List.set_cons_zero, List.set_cons_succ])
      | fail)
    have HG1 : Hid (w1.heap[gd]? = some (.cells (cellsOf (rootP (ps.drop m))).toArray 29 (0, 0)) ∧ w1.heap[w.heap.size]? = some (.cells Z 29 (0, 0)) ∧ Below w.heap.size w w1) :=
      ⟨by rw [← HB0.out]; exact F1.out.2.1, (F1.out.2.2.block _ (by simp)).trans (heap_alloc_new w _), ((Below.refl _ _).alloc (Nat.le_refl _) _).trans (F1.out.2.2.mono (by simp))⟩
    have HGD : Hid (gd = w.heap.size + 1) := by show _ = _; rw [F1.out.1]; simp
    clear F1 HRG z0 HB0
    go_loopw [4] (fun v wr => ∃ t : Nat, t ≤ m ∧ v = .int .i64 ((t : Int) - 1) ∧ Hid (wr.heap[gd]? = some (.cells (cellsOf (rootP (ps.drop t))).toArray 29 (0, 0)) ∧ wr.heap[w.heap.size]? = some (.cells Z 29 (0, 0)) ∧ Below w.heap.size w wr)) (fun v _ => (intOf v + 1).toNat)
    case atStart => exact ⟨m, Nat.le_refl _, by go_num, HG1⟩
    case round =>
      clear HG1
      obtain ⟨t, ht, rfl, HW⟩ := hrel
      cases t with
      | zero =>
        have HDs : Hid (wr.heap[gd]? = some (.cells D 29 (0, 0))) := by show _ = _; rw [HD.out]; exact HW.out.1
        go_wp2_with (first
          | (refine wpList_load_row rfl 29 (.tmp 3) rfl gd rfl 29 D (0, 0) _ HDs.out Tryd.underlying29 rfl HSD.out ?_; try simp only [Act.put, List.setIfInBounds_toArray, List.set_cons_zero, List.set_cons_succ])
          | (refine wpList_store_row rfl 29 (.tmp 2) (.tmp 28) rfl w.heap.size D rfl rfl 29 Z HW.out.2.1 HSD.out HZD.out H1D.out ?_; try simp only [Act.put, List.setIfInBounds_toArray, List.set_cons_zero, List.set_cons_succ])
          | fail)
        refine bodyPost_ret (v := .agg D) ?_ rfl ⟨rfl, below_setRow HW.out.2.2 (Nat.le_refl _) _⟩
        exact results_cell_row (p := 2) (ty := 29) rfl _ _ w.heap.size 29 D (0, 0) _ rfl (setRow_heap _ _ _ _ 29 _ HW.out.2.1) Tryd.underlying29 rfl HSD.out
      | succ t =>
        have htl : t < ps.length := by omega
        obtain ⟨P, HP⟩ : ∃ P, Hid (P = cellsOf ps[t]) := ⟨_, (rfl : cellsOf ps[t] = _)⟩
        have hp32 : ps[t].length = 32 := HR.out.2.1 _ (List.getElem_mem htl)
        have zP : (Tryd.prog.info? 29).map (·.size) = some P.length := by rw [size23, HP.out, cellsOf_length, hp32]
        obtain ⟨B, HB, HSB, H1B, H32B⟩ := row (t + 1) ht
        obtain ⟨C, HC, HSC, H1C, H32C⟩ := row t (by omega)
        have HBC : Hid (B.size = C.size) := by show _ = _; rw [H32B.out, H32C.out]
        have HGB : Hid (wr.heap[gd]? = some (.cells B 29 (0, 0))) := by show _ = _; rw [HB.out]; exact HW.out.1
        have hS : wr.rangeAt g (o + 32 * t) P := by rw [HP.out]; exact (HR.out.keep HW.out.2.2).range t htl
        have KN : Hid (∀ W, Below w.heap.size w W → Calls Tryd.prog 25 #[.agg P.toArray, .agg B] W fun e w' => e = .returned (.agg C) ∧ Below W.heap.size W w') := fun W hb => by
          rw [HP.out, HB.out]
          exact refKnot_any _ _ hp32 (rootP_digs sumD_length _ (HR.out.2.1.drop (t + 1))) W (HT.out W hb) C (by show _ = _; rw [HC.out, rootP_drop ps t (by omega)]; rfl)
        have hgl : g ≠ gd := by rw [HGD.out]; omega
        have hdi : decide ((0 : Int) ≤ (t : Int) + 1 - 1) = true := by rw [decide_eq_true_eq]; omega
        have e3 : (t : Int) + 1 - 1 = (t : Int) := by omega
        have ix2 := fun W => index_list W g o (m + 1) cap t .i64 (by omega)
        have e4 := wrap_int ((t : Int) - 1) (by omega) (by omega)
        rw [show (((t + 1 : Nat) : Int) - 1) = (t : Int) by omega]
        clear e3 hdi HP HB
        go_wp2
        refine wp_region_held_drew (S := (fun W => W.rangeAt g (o + 32 * t) P)) (by kernel_rfl) hS (fun hHeld => ?_)
        refine wpAnyH_take (i := 0) (oi := { dst := some 22, op := Op.move (Operand.tmp 0), type := 22, pos := "ref.go:62", after := #[], guard := none }) (v := .slice (some ⟨g, o, none⟩) (m + 1) cap) rfl (by kernel_rfl) (by kernel_rfl) (by kernel_rfl) (fun _ _ _ h => h) (Or.inl ⟨by rfl, by intro w hSw; go_simp⟩) hHeld ?_
        try simp only [Act.put, List.setIfInBounds_toArray, List.set_cons_zero, List.set_cons_succ]
        refine wpAnyH_take (i := 1) (oi := { dst := some 23, op := Op.move (Operand.tmp 4), type := 3, pos := "ref.go:62", after := #[], guard := none }) (v := .int .i64 t) rfl (by kernel_rfl) (by kernel_rfl) (by kernel_rfl) (fun _ _ _ h => h) (Or.inl ⟨by rfl, by intro w hSw; go_simp⟩) hHeld ?_
        try simp only [Act.put, List.setIfInBounds_toArray, List.set_cons_zero, List.set_cons_succ]
        refine wpAnyH_take (i := 2) (oi := { dst := some 24, op := Op.indexAddr 22 (Operand.tmp 22) (Operand.tmp 23), type := 0, pos := "ref.go:62", after := #[{ on := 0, ground := Ground.data }, { on := 1, ground := Ground.data }], guard := none }) (v := .pointer (some ⟨g, o + 32 * t, none⟩)) rfl (by kernel_rfl) (by kernel_rfl) (by kernel_rfl) (fun _ _ _ h => h) (Or.inl ⟨by rfl, by intro W hSw; have := ix2 W; go_simp⟩) hHeld ?_
        try simp only [Act.put, List.setIfInBounds_toArray, List.set_cons_zero, List.set_cons_succ]
        refine wpAnyH_take (i := 3) (oi := { dst := some 25, op := Op.load 29 (Operand.tmp 24), type := 29, pos := "ref.go:62", after := #[{ on := 2, ground := Ground.data }], guard := none }) (v := .agg P.toArray) rfl (by kernel_rfl) (by kernel_rfl) (by kernel_rfl) (fun _ _ _ h => h) (yieldsIf_load_mid (by rfl) 29 (.tmp 24) rfl _ _ rfl P _ (fun _ h => h) Tryd.underlying29 rfl zP) hHeld ?_
        try simp only [Act.put, List.setIfInBounds_toArray, List.set_cons_zero, List.set_cons_succ]
        refine wpAnyH_ready (rs := [4]) (by kernel_rfl) (by simp) ?_
        refine AllReadyH.cons (o := { dst := some 26, op := Op.load 29 (Operand.tmp 3), type := 29, pos := "ref.go:62", after := #[], guard := none }) rfl (fun K hK => ?_) AllReadyH.nil
        refine step_load_row (by rfl) 29 (.tmp 3) rfl gd rfl 29 B (0, 0) _ HGB.out Tryd.underlying29 rfl HSB.out ?_
        refine hK.out _ _ hHeld (fun hHeld => ?_)
        clear hK K
        try simp only [Act.put, List.setIfInBounds_toArray, List.set_cons_zero, List.set_cons_succ]
        refine wpAnyH_ready (rs := [5]) (by kernel_rfl) (by simp) ?_
        refine AllReadyH.cons (o := { dst := some 27, op := Op.call { callee := Callee.value (Operand.func 25), args := #[Operand.tmp 25, Operand.tmp 26], argTypes := #[29, 29] }, type := 29, pos := "ref.go:62", after := #[{ on := 3, ground := Ground.data }, { on := 4, ground := Ground.data }], guard := none }) rfl (fun K hK => ?_) AllReadyH.nil
        go_simp
        refine (KN.out _ HW.out.2.2.drew).mono ?_
        rintro e w5 ⟨rfl, hb5⟩
        have HG5 : Hid (w5.heap[gd]? = some (.cells B 29 (0, 0))) := (hb5.block _ (heap_lt HGB.out)).trans HGB.out
        go_wp2_with fail
        refine hK.out _ _ (range_keep hb5 hHeld) (fun hHeld => ?_)
        clear hK K
        try simp only [Act.put, List.setIfInBounds_toArray, List.set_cons_zero, List.set_cons_succ]
        refine wpAnyH_ready (rs := [6]) (by kernel_rfl) (by simp) ?_
        refine AllReadyH.cons (o := { dst := none, op := Op.store 29 (Operand.tmp 3) (Operand.tmp 27), type := 0, pos := "ref.go:62", after := #[{ on := 5, ground := Ground.data }, { on := 5, ground := Ground.chain }, { on := 0, ground := Ground.phase }, { on := 1, ground := Ground.phase }, { on := 2, ground := Ground.phase }, { on := 3, ground := Ground.phase }, { on := 4, ground := Ground.phase }, { on := 5, ground := Ground.phase }], guard := none }) rfl (fun K hK => ?_) AllReadyH.nil
        refine step_store_row (by rfl) 29 (.tmp 3) (.tmp 27) rfl gd C rfl rfl 29 B HG5.out HSC.out HBC.out H1C.out ?_
        refine hK.out _ _ (range_other hHeld hgl) (fun hHeld => ?_)
        clear hK K
        try simp only [Act.put, List.setIfInBounds_toArray, List.set_cons_zero, List.set_cons_succ]
        refine wpAnyH_done (by kernel_rfl) ?_ _
        go_wp2
        go_roundw
        case rel =>
          refine ⟨t, by omega, by go_num, ?_, ?_, ?_⟩
          · rw [← HC.out]; exact setRow_heap _ _ _ _ 29 _ HG5.out
          · rw [setRow_other _ _ _ _ (by rw [HGD.out]; omega), hb5.block _ (heap_lt HW.out.2.1)]; exact HW.out.2.1
          · exact below_setRow (HW.out.2.2.drew.trans (hb5.mono HW.out.2.2.size)) (by rw [HGD.out]; omega) _
        case measure => simp [intOf]
end Go.Proofs.YtmpmhfagbcknnaaDoor
