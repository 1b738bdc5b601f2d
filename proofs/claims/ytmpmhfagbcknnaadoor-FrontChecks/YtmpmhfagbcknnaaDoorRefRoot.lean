/- What the document's Split and Root answer. -/
import Derived.Test.YtmpmhfagbcknnaaDoorLists
import Derived.Test.YtmpmhfagbcknnaaDoorRefLeafs
namespace Go.Proofs.YtmpmhfagbcknnaaDoor
open Go.RowKit Sums
set_option linter.unusedVariables false
set_option linter.unusedSimpArgs false

set_option maxHeartbeats 1000000 in
theorem refSplit_any (n : Int) (w : World) (h1 : n ≤ 9223372036854775807) :
    Calls Tryd.prog 38 #[.int .i64 n] w fun e w' => e = .returned (.int .i64 (split n.toNat)) ∧ w = w' := by
  by_cases h2 : n < 2
  · have e : split n.toNat = 0 := split_small _ (by omega)
    rw [e]
    go_enter Tryd.func38, Tryd.ntmps38
    go_wp2
    go_ret
    exact ⟨rfl, rfl⟩
  · obtain ⟨N, hN⟩ : ∃ N : Nat, n = N := ⟨n.toNat, by omega⟩
    subst hN
    rw [Int.toNat_natCast]
    have hd2 : decide ((N : Int) < 2) = false := by rw [decide_eq_false_iff_not]; exact h2
    obtain ⟨s, HSs⟩ : ∃ s, Hid (s = split N) := ⟨_, (rfl : split N = _)⟩
    rw [← HSs.out]
    go_enter Tryd.func38, Tryd.ntmps38
    go_wp2
    go_loopw [3] (fun v wr => ∃ k : Nat, v = .int .i64 k ∧ Hid (∃ j, k = 2 ^ j) ∧ k < N ∧ 1 ≤ k ∧ w = wr) (fun v _ => N - (intOf v).toNat)
    case atStart => exact ⟨1, rfl, ⟨0, rfl⟩, by omega, by omega, rfl⟩
    case round =>
      obtain ⟨k, rfl, HJ, hkN, hk1, rfl⟩ := hrel
      have e1 := wrap_int ((N : Int) - (k : Int)) (by omega) (by omega)
      by_cases hlt : k < N - k
      · have hdi : decide ((k : Int) < (N : Int) - (k : Int)) = true := by rw [decide_eq_true_eq]; omega
        have e2 := wrap_int (2 * (k : Int)) (by omega) (by omega)
        go_wp2
        go_roundw
        case rel =>
          refine ⟨2 * k, by go_num, ?_, by omega, by omega, by trivial⟩
          obtain ⟨j, hj⟩ := HJ.out
          exact ⟨j + 1, by rw [hj, Nat.pow_succ, Nat.mul_comm]⟩
        case measure => simp [intOf]; omega
      · have hdi : decide ((k : Int) < (N : Int) - (k : Int)) = false := by rw [decide_eq_false_iff_not]; omega
        have hs : split N = k := by
          obtain ⟨j, hj⟩ := HJ.out
          rw [hj] at hlt hkN ⊢
          exact split_uniq N j (by omega) hkN (by omega)
        obtain rfl : s = k := HSs.out.trans hs
        go_wp2
        go_ret
        exact ⟨rfl, rfl⟩

set_option maxHeartbeats 1000000 in
theorem refRoot_any (n : Nat) (a : Option Addr) (len cap : Nat) (l : List (List UInt8)) (w : World) (hn : len = n) (hR : LReads w a len cap l) (hK : Table 0 w) (D : Array Value) (HD : Hid (D = (cellsOf (root l)).toArray)) :
    Calls Tryd.prog 28 #[.slice a len cap] w fun e w' => e = .returned (.agg D) ∧ Below w.heap.size w w' := by
  induction n using Nat.strongRecOn generalizing a len cap l w D with
  | _ n ih =>
    subst hn
    obtain ⟨Z, HZ, HA, HS, H1, H32⟩ := noughts27
    have h32 : (root l).length = 32 := root_length sumD_length l hR.2.1
    have HSD : Hid ((Tryd.prog.info? 29).map (·.size) = some D.size) := by show _ = _; rw [size23, HD.out]; simp [cellsOf_length, h32]
    have H1D : Hid (D.all (·.oneCell') = true) := by show _ = _; rw [HD.out]; exact cellsOf_all _
    have HZD : Hid (Z.size = D.size) := by show _ = _; rw [H32.out, HD.out]; simp [cellsOf_length, h32]
    have hlen := hR.1
    by_cases h0 : len = 0
    · have KE : Hid (∀ W, Below w.heap.size w W → Calls Tryd.prog 24 #[.string ⟨#[]⟩] W fun e w' => e = .returned (.agg D) ∧ Below W.heap.size W w') := fun W hb => refSum_any ⟨#[]⟩ W (by decide) (hK.keep hb) D (by show _ = _; rw [HD.out, root_none l (by omega)])
      subst h0
      clear hK hR HD ih
      go_enter Tryd.func28, Tryd.ntmps28
      go_wp2_with (first
        | (refine wpList_alloc_row rfl 29 rfl Z HA.out ?_)
        | fail)
      refine (KE.out _ ((Below.refl _ _).alloc (Nat.le_refl _) _)).mono ?_
      rintro e w1 ⟨rfl, hb1⟩
      have HG : Hid (w1.heap[w.heap.size]? = some (.cells Z 29 (0, 0))) := (hb1.block _ (by simp)).trans (heap_alloc_new w _)
      have hB : Below w.heap.size w w1 := ((Below.refl _ _).alloc (Nat.le_refl _) _).trans (hb1.mono (by simp))
      clear hb1
      go_wp2_with (first
        | (refine wpList_store_row rfl 29 (.tmp 2) (.tmp 7) rfl w.heap.size D rfl rfl 29 Z HG.out HSD.out HZD.out H1D.out ?_)
        | fail)
      refine bodyPost_ret (v := .agg D) ?_ rfl ⟨rfl, below_setRow hB (Nat.le_refl _) _⟩
      exact results_cell_row (p := 2) (ty := 29) rfl _ _ w.heap.size 29 D (0, 0) _ rfl (setRow_heap _ _ _ _ 29 _ HG.out) Tryd.underlying29 rfl HSD.out
    · obtain ⟨g, o, rfl, hg⟩ := hR.at (by omega)
      by_cases h1 : len = 1
      · subst h1
        have hrange := hR.range 0 (by omega)
        have e0 : root l = l[0]'(by omega) := by
          rw [root_one l hlen]
          match l, hlen with
          | [d], _ => rfl
        rw [← e0, Nat.mul_zero, Nat.add_zero] at hrange
        obtain ⟨R, HR⟩ : ∃ R, Hid (R = cellsOf (root l)) := ⟨_, (rfl : cellsOf (root l) = _)⟩
        rw [← HR.out] at hrange
        have HDR : D = R.toArray := by rw [HD.out, HR.out]
        have HRG : Hid ((w.alloc (.cells Z 29)).rangeAt g o R) := range_keep ((Below.refl _ _).alloc (Nat.le_refl _) _) hrange
        have z0 : Hid ((Tryd.prog.info? 29).map (·.size) = some R.length) := by show _ = _; rw [size23, HR.out, cellsOf_length, h32]
        subst HDR
        clear hK hR HD ih hrange e0
        have ix := fun W => index_list W g o 1 cap 0 .i64 (by omega)
        simp only [Nat.mul_zero, Nat.add_zero, Int.cast_ofNat_Int] at ix
        go_enter Tryd.func28, Tryd.ntmps28
        go_wp2_with (first
          | (refine wpList_alloc_row rfl 29 rfl Z HA.out ?_)
          | (refine wpList_load_mid rfl 29 (.tmp 12) rfl g o rfl R _ HRG.out Tryd.underlying29 rfl z0.out ?_)
          | (refine wpList_store_row rfl 29 (.tmp 2) (.tmp 13) rfl w.heap.size R.toArray rfl rfl 29 Z (heap_alloc_new w _) HSD.out HZD.out H1D.out ?_)
          | fail)
        refine bodyPost_ret (v := .agg R.toArray) ?_ rfl ⟨rfl, below_setRow ((Below.refl _ _).alloc (Nat.le_refl _) _) (Nat.le_refl _) _⟩
        exact results_cell_row (p := 2) (ty := 29) rfl _ _ w.heap.size 29 R.toArray (0, 0) _ rfl (setRow_heap _ _ _ _ 29 _ (heap_alloc_new w _)) Tryd.underlying29 rfl HSD.out
      · have h2 : 2 ≤ len := by omega
        obtain ⟨k, hk⟩ : ∃ k, k = split len := ⟨_, rfl⟩
        have hkl := split_lt len h2
        have hkp := split_pos len h2
        rw [← hk] at hkl hkp
        have eR : root l = knotD (root (l.take k)) (root (l.drop k)) := by rw [root_more l (by omega), hlen, ← hk]
        have hcl := hR.2.2.1
        have hml := hR.2.2.2.1
        have hmx : len ≤ 9223372036854775807 := by unfold maxLen at hml; omega
        obtain ⟨D1, HD1⟩ : ∃ D1, Hid (D1 = (cellsOf (root (l.take k))).toArray) := ⟨_, (rfl : (cellsOf (root (l.take k))).toArray = _)⟩
        obtain ⟨D2, HD2⟩ : ∃ D2, Hid (D2 = (cellsOf (root (l.drop k))).toArray) := ⟨_, (rfl : (cellsOf (root (l.drop k))).toArray = _)⟩
        have S : Hid (∀ W, Calls Tryd.prog 38 #[.int .i64 len] W fun e w' => e = .returned (.int .i64 k) ∧ W = w') := fun W => by
          have := refSplit_any (len : Int) W (by omega)
          rw [Int.toNat_natCast, ← hk] at this
          exact this
        have sl := fun W => slice_left W g o len cap k (by omega)
        have sr := fun W => slice_right W g o len cap k (by omega) hcl (by omega)
        have R1 : Hid (∀ W, Below w.heap.size w W → Calls Tryd.prog 28 #[.slice (some ⟨g, o, none⟩) k cap] W fun e w' => e = .returned (.agg D1) ∧ Below W.heap.size W w') := fun W hb =>
          ih k hkl _ k cap (l.take k) W rfl ((hR.keep hb).take k (by omega)) (hK.keep hb) D1 HD1
        have R2 : Hid (∀ W, Below w.heap.size w W → Calls Tryd.prog 28 #[.slice (some ⟨g, o + 32 * k, none⟩) (len - k) (cap - k)] W fun e w' => e = .returned (.agg D2) ∧ Below W.heap.size W w') := fun W hb =>
          ih (len - k) (by omega) _ (len - k) (cap - k) (l.drop k) W rfl ((hR.keep hb).drop k (by omega)) (hK.keep hb) D2 HD2
        have KK : Hid (∀ W, Below w.heap.size w W → Calls Tryd.prog 25 #[.agg D1, .agg D2] W fun e w' => e = .returned (.agg D) ∧ Below W.heap.size W w') := fun W hb => by
          rw [HD1.out, HD2.out]
          exact refKnot_any _ _ (root_length sumD_length _ (hR.2.1.take k)) (root_length sumD_length _ (hR.2.1.drop k)) W (hK.keep hb) D (by show _ = _; rw [HD.out, eR]; rfl)
        clear hK hR HD ih eR hk hlen HD1 HD2
        go_enter Tryd.func28, Tryd.ntmps28
        go_wp2_with (first
          | (refine wpList_alloc_row rfl 29 rfl Z HA.out ?_)
          | fail)
        refine (S.out _).mono ?_
        rintro e w1 ⟨rfl, hw1⟩
        have HG : Hid (w1.heap[w.heap.size]? = some (.cells Z 29 (0, 0)) ∧ Below w.heap.size w w1) := by
          rw [← hw1]
          exact ⟨heap_alloc_new w _, (Below.refl _ _).alloc (Nat.le_refl _) _⟩
        clear hw1 S
        go_wp2
        refine wp_region_held_drew (S := (fun W => Below w.heap.size w W ∧ W.heap[w.heap.size]?.isSome = true)) (by kernel_rfl) ⟨HG.out.2.drew, by show (w1.heap[w.heap.size]?).isSome = true; rw [HG.out.1]; rfl⟩ (fun hHeld => ?_)
        refine wpAnyH_take (i := 0) (oi := { dst := some 17, op := Op.move (Operand.tmp 0), type := 22, pos := "ref.go:30", after := #[], guard := none }) (v := .slice (some ⟨g, o, none⟩) len cap) rfl (by kernel_rfl) (by kernel_rfl) (by kernel_rfl) (fun _ _ _ h => h) (Or.inl ⟨by rfl, by intro w hSw; go_simp⟩) hHeld ?_
        try simp only [Act.put, List.setIfInBounds_toArray, List.set_cons_zero, List.set_cons_succ]
        refine wpAnyH_take (i := 1) (oi := { dst := some 18, op := Op.move (Operand.tmp 3), type := 3, pos := "ref.go:30", after := #[], guard := none }) (v := .int .i64 k) rfl (by kernel_rfl) (by kernel_rfl) (by kernel_rfl) (fun _ _ _ h => h) (Or.inl ⟨by rfl, by intro w hSw; go_simp⟩) hHeld ?_
        try simp only [Act.put, List.setIfInBounds_toArray, List.set_cons_zero, List.set_cons_succ]
        refine wpAnyH_take (i := 2) (oi := { dst := some 19, op := Op.slice 22 (Operand.tmp 17) none (some (Operand.tmp 18)) none, type := 22, pos := "ref.go:30", after := #[{ on := 0, ground := Ground.data }, { on := 1, ground := Ground.data }], guard := none }) (v := .slice (some ⟨g, o, none⟩) k cap) rfl (by kernel_rfl) (by kernel_rfl) (by kernel_rfl) (fun _ _ _ h => h) (Or.inl ⟨by rfl, by intro W hSw; have := sl W; go_simp⟩) hHeld ?_
        try simp only [Act.put, List.setIfInBounds_toArray, List.set_cons_zero, List.set_cons_succ]
        refine wpAnyH_take (i := 4) (oi := { dst := some 21, op := Op.move (Operand.tmp 0), type := 22, pos := "ref.go:30", after := #[], guard := none }) (v := .slice (some ⟨g, o, none⟩) len cap) rfl (by kernel_rfl) (by kernel_rfl) (by kernel_rfl) (fun _ _ _ h => h) (Or.inl ⟨by rfl, by intro w hSw; go_simp⟩) hHeld ?_
        try simp only [Act.put, List.setIfInBounds_toArray, List.set_cons_zero, List.set_cons_succ]
        refine wpAnyH_take (i := 5) (oi := { dst := some 22, op := Op.move (Operand.tmp 3), type := 3, pos := "ref.go:30", after := #[], guard := none }) (v := .int .i64 k) rfl (by kernel_rfl) (by kernel_rfl) (by kernel_rfl) (fun _ _ _ h => h) (Or.inl ⟨by rfl, by intro w hSw; go_simp⟩) hHeld ?_
        try simp only [Act.put, List.setIfInBounds_toArray, List.set_cons_zero, List.set_cons_succ]
        refine wpAnyH_take (i := 6) (oi := { dst := some 23, op := Op.slice 22 (Operand.tmp 21) (some (Operand.tmp 22)) none none, type := 22, pos := "ref.go:30", after := #[{ on := 4, ground := Ground.data }, { on := 5, ground := Ground.data }], guard := none }) (v := .slice (some ⟨g, o + 32 * k, none⟩) (len - k) (cap - k)) rfl (by kernel_rfl) (by kernel_rfl) (by kernel_rfl) (fun _ _ _ h => h) (Or.inl ⟨by rfl, by intro W hSw; have := sr W; go_simp⟩) hHeld ?_
        try simp only [Act.put, List.setIfInBounds_toArray, List.set_cons_zero, List.set_cons_succ]
        refine wpAnyH_ready (rs := [3]) (by kernel_rfl) (by simp) ?_
        refine AllReadyH.cons (o := { dst := some 20, op := Op.call { callee := Callee.value (Operand.func 28), args := #[Operand.tmp 19], argTypes := #[22] }, type := 29, pos := "ref.go:30", after := #[{ on := 2, ground := Ground.data }], guard := none }) rfl (fun K hK => ?_) AllReadyH.nil
        go_simp
        refine (R1.out _ HG.out.2.drew).mono ?_
        rintro e w3 ⟨rfl, hb3⟩
        replace HG := hidk (And.intro ((hb3.block _ (heap_lt HG.out.1)).trans HG.out.1) (HG.out.2.drew.trans (hb3.mono HG.out.2.size)))
        go_wp2_with fail
        refine hK.out _ _ ⟨HG.out.2, by rw [HG.out.1]; rfl⟩ (fun hHeld => ?_)
        clear hK K
        try simp only [Act.put, List.setIfInBounds_toArray, List.set_cons_zero, List.set_cons_succ]
        refine wpAnyH_ready (rs := [7]) (by kernel_rfl) (by simp) ?_
        refine AllReadyH.cons (o := { dst := some 24, op := Op.call { callee := Callee.value (Operand.func 28), args := #[Operand.tmp 23], argTypes := #[22] }, type := 29, pos := "ref.go:30", after := #[{ on := 6, ground := Ground.data }, { on := 3, ground := Ground.chain }], guard := none }) rfl (fun K hK => ?_) AllReadyH.nil
        go_simp
        refine (R2.out _ HG.out.2).mono ?_
        rintro e w7 ⟨rfl, hb7⟩
        replace HG := hidk (And.intro ((hb7.block _ (heap_lt HG.out.1)).trans HG.out.1) (HG.out.2.trans (hb7.mono HG.out.2.size)))
        go_wp2_with fail
        refine hK.out _ _ ⟨HG.out.2, by rw [HG.out.1]; rfl⟩ (fun hHeld => ?_)
        clear hK K
        try simp only [Act.put, List.setIfInBounds_toArray, List.set_cons_zero, List.set_cons_succ]
        refine wpAnyH_ready (rs := [8]) (by kernel_rfl) (by simp) ?_
        refine AllReadyH.cons (o := { dst := some 25, op := Op.call { callee := Callee.value (Operand.func 25), args := #[Operand.tmp 20, Operand.tmp 24], argTypes := #[29, 29] }, type := 29, pos := "ref.go:30", after := #[{ on := 3, ground := Ground.data }, { on := 7, ground := Ground.data }, { on := 7, ground := Ground.chain }], guard := none }) rfl (fun K hK => ?_) AllReadyH.nil
        go_simp
        refine (KK.out _ HG.out.2).mono ?_
        rintro e w8 ⟨rfl, hb8⟩
        replace HG := hidk (And.intro ((hb8.block _ (heap_lt HG.out.1)).trans HG.out.1) (HG.out.2.trans (hb8.mono HG.out.2.size)))
        go_wp2_with fail
        refine hK.out _ _ ⟨HG.out.2, by rw [HG.out.1]; rfl⟩ (fun hHeld => ?_)
        clear hK K
        try simp only [Act.put, List.setIfInBounds_toArray, List.set_cons_zero, List.set_cons_succ]
        refine wpAnyH_ready (rs := [9]) (by kernel_rfl) (by simp) ?_
        refine AllReadyH.cons (o := { dst := none, op := Op.store 29 (Operand.tmp 2) (Operand.tmp 25), type := 0, pos := "ref.go:30", after := #[{ on := 8, ground := Ground.data }, { on := 8, ground := Ground.chain }, { on := 0, ground := Ground.phase }, { on := 1, ground := Ground.phase }, { on := 2, ground := Ground.phase }, { on := 3, ground := Ground.phase }, { on := 4, ground := Ground.phase }, { on := 5, ground := Ground.phase }, { on := 6, ground := Ground.phase }, { on := 7, ground := Ground.phase }, { on := 8, ground := Ground.phase }], guard := none }) rfl (fun K hK => ?_) AllReadyH.nil
        refine step_store_row (by rfl) 29 (.tmp 2) (.tmp 25) rfl w.heap.size D rfl rfl 29 Z HG.out.1 HSD.out HZD.out H1D.out ?_
        refine hK.out _ _ ⟨below_setRow HG.out.2 (Nat.le_refl _) _, by rw [setRow_heap _ _ _ _ 29 _ HG.out.1]; rfl⟩ (fun hHeld => ?_)
        clear hK K
        try simp only [Act.put, List.setIfInBounds_toArray, List.set_cons_zero, List.set_cons_succ]
        refine wpAnyH_done (by kernel_rfl) ?_ _
        go_wp2
        refine bodyPost_ret (v := .agg D) ?_ rfl ⟨rfl, below_setRow HG.out.2 (Nat.le_refl _) _⟩
        exact results_cell_row (p := 2) (ty := 29) rfl _ _ w.heap.size 29 D (0, 0) _ rfl (setRow_heap _ _ _ _ 29 _ HG.out.1) Tryd.underlying29 rfl HSD.out
end Go.Proofs.YtmpmhfagbcknnaaDoor
