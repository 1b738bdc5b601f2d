/- TreeHalves answers true at every list and place. -/
import Derived.Test.YtpjchiihiclhiabDoorThree
namespace Go.Proofs.YtpjchiihiclhiabDoor
open Go.RowKit Sums
set_option linter.unusedVariables false
set_option linter.unusedSimpArgs false

theorem LReads.row {w : World} {a : Option Addr} {len cap gl : Nat} {l : List (List UInt8)} {D : Array Value} (h : LReads w a len cap l) (hne : ∀ g o, a = some ⟨g, o, none⟩ → 0 < len → g ≠ gl) : LReads (w.setRow gl D) a len cap l := by
  obtain ⟨h1, h2, h3, h4, h5⟩ := h
  refine ⟨h1, h2, h3, h4, ?_⟩
  by_cases h0 : len = 0
  · exact .inl h0
  · rcases h5 with h5 | ⟨g, o, ha, hl⟩
    · exact .inl h5
    · refine .inr ⟨g, o, ha, fun i hi => ?_⟩
      rw [cell_setRow_other w gl D _ (hne g o ha (by omega))]
      exact hl i hi
theorem keep4 {w W W' : World} {a x : Option Addr} {n cy m cx gl : Nat} {pf qf : List (List UInt8)} {LD : List Value} (h : LReads W a n cy pf ∧ Below w.heap.size w W ∧ LReads W x m cx qf ∧ W.rangeAt gl 0 LD) (hb : Below W.heap.size W W') :
    LReads W' a n cy pf ∧ Below w.heap.size w W' ∧ LReads W' x m cx qf ∧ W'.rangeAt gl 0 LD :=
  ⟨h.1.keep hb, h.2.1.trans (hb.mono h.2.1.size), h.2.2.1.keep hb, range_keep hb h.2.2.2⟩

set_option maxHeartbeats 1000000 in
theorem half_a (a0 : Option Addr) (len0 cap0 : Nat) (i : Int) (w : World) (k : Nat) (hk : k = split len0) (hx : len0 ≤ maxLen) (hA : 200 < len0)
    (T : Hid (Calls Tryd.prog 5 #[] w fun e w' => e = .returned (.bool true) ∧ Below w.heap.size w w')) :
    Calls Tryd.prog 3 #[.slice a0 len0 cap0, .int .i64 i] w fun e w' => e = .returned (.bool true) ∧ Below w.heap.size w w' := by
  have hy : len0 ≤ 9223372036854775807 := by unfold maxLen at hx; omega
  have S : Hid (∀ W, Calls Tryd.prog 4 #[.int .i64 len0] W fun e w' => e = .returned (.int .i64 k) ∧ W = w') := fun W => by
    have := split_any (len0 : Int) W (by omega)
    rw [Int.toNat_natCast, ← hk] at this
    exact this
  have dA : decide ((200 : Int) < (len0 : Int)) = true := by rw [decide_eq_true_eq]; omega
  clear hk hx
  go_enter Tryd.func3, Tryd.ntmps3
  go_wp2_with fail
  refine (S.out _).mono ?_
  rintro e w1 ⟨rfl, rfl⟩
  go_wp2_with fail
  refine T.out.mono ?_
  rintro e w2 ⟨rfl, hb2⟩
  go_wp2
  go_ret
  exact ⟨rfl, hb2⟩

set_option maxHeartbeats 1000000 in
theorem half_k (a0 : Option Addr) (len0 cap0 : Nat) (i : Int) (w : World) (k : Nat) (hk : k = split len0) (hx : len0 ≤ maxLen) (hA : len0 ≤ 200) (h2 : len0 < 2)
    (T : Hid (Calls Tryd.prog 5 #[] w fun e w' => e = .returned (.bool true) ∧ Below w.heap.size w w')) :
    Calls Tryd.prog 3 #[.slice a0 len0 cap0, .int .i64 i] w fun e w' => e = .returned (.bool true) ∧ Below w.heap.size w w' := by
  have hy : len0 ≤ 9223372036854775807 := by unfold maxLen at hx; omega
  have S : Hid (∀ W, Calls Tryd.prog 4 #[.int .i64 len0] W fun e w' => e = .returned (.int .i64 k) ∧ W = w') := fun W => by
    have := split_any (len0 : Int) W (by omega)
    rw [Int.toNat_natCast, ← hk] at this
    exact this
  obtain rfl : k = 0 := hk.trans (split_small len0 h2)
  have dA : decide ((200 : Int) < (len0 : Int)) = false := by rw [decide_eq_false_iff_not]; omega
  clear hk hx
  go_enter Tryd.func3, Tryd.ntmps3
  go_wp2_with fail
  refine (S.out _).mono ?_
  rintro e w1 ⟨rfl, rfl⟩
  go_wp2_with fail
  refine T.out.mono ?_
  rintro e w2 ⟨rfl, hb2⟩
  go_wp2
  go_ret
  exact ⟨rfl, hb2⟩

set_option maxHeartbeats 1000000 in
theorem half_n (a0 : Option Addr) (len0 cap0 : Nat) (i : Int) (w : World) (k : Nat) (hk : k = split len0) (hx : len0 ≤ maxLen) (hA : len0 ≤ 200) (h2 : 2 ≤ len0) (hi : i < 0)
    (T : Hid (Calls Tryd.prog 5 #[] w fun e w' => e = .returned (.bool true) ∧ Below w.heap.size w w')) :
    Calls Tryd.prog 3 #[.slice a0 len0 cap0, .int .i64 i] w fun e w' => e = .returned (.bool true) ∧ Below w.heap.size w w' := by
  have hy : len0 ≤ 9223372036854775807 := by unfold maxLen at hx; omega
  have S : Hid (∀ W, Calls Tryd.prog 4 #[.int .i64 len0] W fun e w' => e = .returned (.int .i64 k) ∧ W = w') := fun W => by
    have := split_any (len0 : Int) W (by omega)
    rw [Int.toNat_natCast, ← hk] at this
    exact this
  have hkp := split_pos len0 h2
  rw [← hk] at hkp
  have dA : decide ((200 : Int) < (len0 : Int)) = false := by rw [decide_eq_false_iff_not]; omega
  have c4 : ((k : Int) == 0) = false := by rw [beq_eq_false_iff_ne]; omega
  have c5 : decide ((k : Int) = 0) = false := by rw [decide_eq_false_iff_not]; omega
  have c6 : ¬ k = 0 := by omega
  have dE : decide (i < 0) = true := by rw [decide_eq_true_eq]; omega
  clear hk hx
  go_enter Tryd.func3, Tryd.ntmps3
  go_wp2_with fail
  refine (S.out _).mono ?_
  rintro e w1 ⟨rfl, rfl⟩
  go_wp2_with fail
  refine T.out.mono ?_
  rintro e w2 ⟨rfl, hb2⟩
  go_wp2
  go_ret
  exact ⟨rfl, hb2⟩

set_option maxHeartbeats 1000000 in
theorem half_p (a0 : Option Addr) (len0 cap0 : Nat) (i : Int) (w : World) (k : Nat) (hk : k = split len0) (hx : len0 ≤ maxLen) (hA : len0 ≤ 200) (h2 : 2 ≤ len0) (hi : (len0 : Int) ≤ i)
    (T : Hid (Calls Tryd.prog 5 #[] w fun e w' => e = .returned (.bool true) ∧ Below w.heap.size w w')) :
    Calls Tryd.prog 3 #[.slice a0 len0 cap0, .int .i64 i] w fun e w' => e = .returned (.bool true) ∧ Below w.heap.size w w' := by
  have hy : len0 ≤ 9223372036854775807 := by unfold maxLen at hx; omega
  have S : Hid (∀ W, Calls Tryd.prog 4 #[.int .i64 len0] W fun e w' => e = .returned (.int .i64 k) ∧ W = w') := fun W => by
    have := split_any (len0 : Int) W (by omega)
    rw [Int.toNat_natCast, ← hk] at this
    exact this
  have hkp := split_pos len0 h2
  rw [← hk] at hkp
  have dA : decide ((200 : Int) < (len0 : Int)) = false := by rw [decide_eq_false_iff_not]; omega
  have c4 : ((k : Int) == 0) = false := by rw [beq_eq_false_iff_ne]; omega
  have c5 : decide ((k : Int) = 0) = false := by rw [decide_eq_false_iff_not]; omega
  have c6 : ¬ k = 0 := by omega
  have dE : decide (i < 0) = false := by rw [decide_eq_false_iff_not]; omega
  have dF : decide ((len0 : Int) ≤ i) = true := by rw [decide_eq_true_eq]; omega
  clear hk hx
  go_enter Tryd.func3, Tryd.ntmps3
  go_wp2_with fail
  refine (S.out _).mono ?_
  rintro e w1 ⟨rfl, rfl⟩
  go_wp2_with fail
  refine T.out.mono ?_
  rintro e w2 ⟨rfl, hb2⟩
  go_wp2
  go_ret
  exact ⟨rfl, hb2⟩

set_option maxHeartbeats 4000000 in
theorem half_l (a0 : Option Addr) (len0 cap0 : Nat) (z0 : List (List UInt8)) (i : Nat) (w : World) (k : Nat) (hk : k = split len0) (hA : len0 ≤ 200) (h2 : 2 ≤ len0) (hi : i < len0) (hik : i < k) (w0 : LReads w a0 len0 cap0 z0) (hK : Table 0 w) :
    Calls Tryd.prog 3 #[.slice a0 len0 cap0, .int .i64 i] w fun e w' => e = .returned (.bool true) ∧ Below w.heap.size w w' := by
  obtain ⟨Z, HZ, HAZ, HSZ, H1Z, H32Z⟩ := noughts27
  have hlen := w0.1
  have hcl := w0.2.2.1
  have hkp := split_pos len0 h2
  have hkl := split_lt len0 h2
  rw [← hk] at hkp hkl
  have S : Hid (∀ W, Calls Tryd.prog 4 #[.int .i64 len0] W fun e w' => e = .returned (.int .i64 k) ∧ W = w') := fun W => by
    have := split_any (len0 : Int) W (by omega)
    rw [Int.toNat_natCast, ← hk] at this
    exact this
  have dA : decide ((200 : Int) < (len0 : Int)) = false := by rw [decide_eq_false_iff_not]; omega
  have c4 : ((k : Int) == 0) = false := by rw [beq_eq_false_iff_ne]; omega
  have c5 : decide ((k : Int) = 0) = false := by rw [decide_eq_false_iff_not]; omega
  have c6 : ¬ k = 0 := by omega
  have dE : decide ((i : Int) < 0) = false := by rw [decide_eq_false_iff_not]; omega
  have dF : decide ((len0 : Int) ≤ (i : Int)) = false := by rw [decide_eq_false_iff_not]; omega
  have dF2 : decide (len0 ≤ i) = false := by rw [decide_eq_false_iff_not]; omega
  have dG : decide ((k : Int) ≤ (i : Int)) = false := by rw [decide_eq_false_iff_not]; omega
  have dG2 : decide (k ≤ i) = false := by rw [decide_eq_false_iff_not]; omega
  obtain ⟨g, o, rfl, hg⟩ := w0.at (by omega)
  have sl := fun W => slice_left W g o len0 cap0 k (by omega)
  have sr := fun W => slice_right W g o len0 cap0 k (by omega) hcl (by omega)
  have hw := wrap_int ((i : Int) - (k : Int)) (by omega) (by omega)
  have T : Hid (∀ W, Below w.heap.size w W → Calls Tryd.prog 5 #[] W fun e w' => e = .returned (.bool true) ∧ Below W.heap.size W w') := fun W hb => three_true W (hK.keep hb)
  have hr32 : (root (z0.drop k)).length = 32 := root_length sumD_length _ (w0.2.1.drop k)
  have hr32b : (root (z0.take k)).length = 32 := root_length sumD_length _ (w0.2.1.take k)
  obtain ⟨DL, HDL, HSL, H1L, H32L⟩ := dig_row' (root (z0.take k)) (root_length sumD_length _ (w0.2.1.take k))
  obtain ⟨DR, HDR, HSR, H1R, H32R⟩ := dig_row' (root (z0.drop k)) (root_length sumD_length _ (w0.2.1.drop k))
  have HZR : Hid (Z.size = DR.size) := by show _ = _; rw [H32Z.out, H32R.out]
  have HRL : Hid (DR.size = DL.size) := by show _ = _; rw [H32R.out, H32L.out]
  have R1 : Hid (∀ W, Below w.heap.size w W → Calls Tryd.prog 7 #[.slice (some ⟨g, o, none⟩) k cap0] W fun e w' => e = .returned (.agg DL) ∧ Below W.heap.size W w') := fun W hb =>
    root_any _ _ k cap0 (z0.take k) W rfl ((w0.keep hb).take k (by omega)) (hK.keep hb) DL HDL
  have R2 : Hid (∀ W, Below w.heap.size w W → Calls Tryd.prog 7 #[.slice (some ⟨g, o + 32 * k, none⟩) (len0 - k) (cap0 - k)] W fun e w' => e = .returned (.agg DR) ∧ Below W.heap.size W w') := fun W hb =>
    root_any _ _ (len0 - k) (cap0 - k) (z0.drop k) W rfl ((w0.keep hb).drop k (by omega)) (hK.keep hb) DR HDR
  have HE : Hid (incl z0 i = incl (z0.take k) i ++ [root (z0.drop k)]) := by
    show _ = _
    rw [incl_left z0 i (by omega) (by rw [hlen, ← hk]; exact hik), hlen, ← hk]
  obtain ⟨n, HN⟩ : ∃ n, Hid (n = (incl (z0.take k) i).length) := ⟨_, (rfl : (incl (z0.take k) i).length = _)⟩
  have hn2 : n ≤ 200 := by
    have := incl_len (z0.take k) i (by simp only [List.length_take, List.length_drop]; omega)
    simp only [List.length_take, List.length_drop] at this
    rw [HN.out]
    omega
  have hdq : Digs32 (incl (z0.take k) i) := incl_digs sumD_length _ _ _ rfl (w0.2.1.take k)
  have I1 : Hid (∀ W, Below w.heap.size w W → Calls Tryd.prog 6 #[.slice (some ⟨g, o, none⟩) len0 cap0, .int .i64 i] W fun e w' => ∃ gp op cy, e = .returned (.tuple #[.slice (some ⟨gp, op, none⟩) (n + 1) cy, .int .i64 0]) ∧ LReads w' (some ⟨gp, op, none⟩) (n + 1) cy (incl (z0.take k) i ++ [root (z0.drop k)]) ∧ Below W.heap.size W w') := fun W hb => by
    refine (inclusion_in _ len0 cap0 z0 i W (w0.keep hb) hi (by omega) (hK.keep hb)).mono ?_
    rintro e w' ⟨v, rfl, ho, hbl⟩
    rw [HE.out] at ho
    obtain ⟨y, cy, rfl, hy, _⟩ := LReads.own ho (hdq.append (.one hr32))
    have hln : (incl (z0.take k) i ++ [root (z0.drop k)]).length = n + 1 := by rw [List.length_append, ← HN.out]; rfl
    rw [hln] at hy ⊢
    obtain ⟨gp, op, rfl, _⟩ := hy.at (by omega)
    exact ⟨gp, op, cy, rfl, hy, hbl⟩
  have I2 : Hid (∀ W, Below w.heap.size w W → Calls Tryd.prog 6 #[.slice (some ⟨g, o, none⟩) k cap0, .int .i64 i] W fun e w' => ∃ x cx, e = .returned (.tuple #[.slice x n cx, .int .i64 0]) ∧ LReads w' x n cx (incl (z0.take k) i) ∧ Below W.heap.size W w') := fun W hb => by
    refine (inclusion_in _ k cap0 (z0.take k) i W ((w0.keep hb).take k (by omega)) (by omega) (by omega) (hK.keep hb)).mono ?_
    rintro e w' ⟨v, rfl, ho, hbl⟩
    obtain ⟨x, cx, rfl, hx, _⟩ := LReads.own ho hdq
    rw [← HN.out] at hx ⊢
    exact ⟨x, cx, rfl, hx, hbl⟩
  obtain ⟨LD, hLD⟩ : ∃ LD : List Value, DR = LD.toArray := ⟨DR.toList, by simp⟩
  have ELD : Hid (LD = cellsOf (root (z0.drop k))) := List.toArray_inj (by rw [← hLD]; exact HDR.out)
  have zD : (Tryd.prog.info? 29).map (·.size) = some LD.length := by rw [size23, ELD.out, cellsOf_length, hr32]
  have eD := eqSelf LD.toArray (root (z0.drop k)) hr32 (by show _ = _; rw [ELD.out])
  have DG : Hid (∀ W gp op cy x cx, LReads W (some ⟨gp, op, none⟩) (n + 1) cy (incl (z0.take k) i ++ [root (z0.drop k)]) → LReads W x n cx (incl (z0.take k) i) → Calls Tryd.prog 8 #[.slice (some ⟨gp, op, none⟩) n cy, .slice x n cx] W fun e w' => e = .returned (.bool true) ∧ Below W.heap.size W w') := fun W gp op cy x cx h1 h2 => by
    have h3 := h1.take n (by omega)
    rw [List.take_left' HN.out.symm] at h3
    exact same_digs _ x n cy cx _ W h3 h2
  have RG : Hid (∀ (W : World) gp op cy, LReads W (some ⟨gp, op, none⟩) (n + 1) cy (incl (z0.take k) i ++ [root (z0.drop k)]) → W.rangeAt gp (op + 32 * n) LD) := fun W gp op cy h => by
    have hq := h.range n (by rw [List.length_append, ← HN.out]; simp)
    rw [ELD.out]
    have : (incl (z0.take k) i ++ [root (z0.drop k)])[n]'(by rw [List.length_append, ← HN.out]; simp) = root (z0.drop k) := by
      simp [HN.out]
    rw [this] at hq
    exact hq
  generalize incl (z0.take k) i ++ [root (z0.drop k)] = pf at I1 DG RG
  generalize incl (z0.take k) i = qf at I2 DG
  have HLD := hidk hLD
  clear hK w0 hk hlen HE HN hdq hr32 hr32b HDL HDR ELD hLD
  have hw1 := wrap_int ((n : Int) + 1 - 1) (by omega) (by omega)
  have c7 : ((n : Int) + 1 == 0) = false := by rw [beq_eq_false_iff_ne]; omega
  have c8 : decide ((n : Int) + 1 = 0) = false := by rw [decide_eq_false_iff_not]; omega
  have c9 : ¬ ((n : Int) + 1 = 0) := by omega
  go_enter Tryd.func3, Tryd.ntmps3
  go_wp2_with fail
  refine (S.out _).mono ?_
  rintro e w1 ⟨rfl, rfl⟩
  clear S
  go_wp2_with fail
  refine (I1.out _ (Below.refl _ _)).mono ?_
  rintro e w1 ⟨gp, op, cy, rfl, hy, hb1⟩
  have H1 : Hid (LReads w1 (some ⟨gp, op, none⟩) (n + 1) cy pf ∧ Below w.heap.size w w1) := ⟨hy, hb1⟩
  clear hy hb1 I1
  go_wp2_with fail
  refine (I2.out _ H1.out.2).mono ?_
  rintro e w2 ⟨x, cx, rfl, hx, hb2⟩
  have H2 : Hid (LReads w2 (some ⟨gp, op, none⟩) (n + 1) cy pf ∧ Below w.heap.size w w2 ∧ LReads w2 x n cx qf) := ⟨H1.out.1.keep hb2, H1.out.2.trans (hb2.mono H1.out.2.size), hx⟩
  clear hx hb2 H1 I2
  go_wp2_with fail
  refine (R2.out _ H2.out.2.1).mono ?_
  rintro e w3 ⟨rfl, hb3⟩
  have H3 : Hid (LReads w3 (some ⟨gp, op, none⟩) (n + 1) cy pf ∧ Below w.heap.size w w3 ∧ LReads w3 x n cx qf) := ⟨H2.out.1.keep hb3, H2.out.2.1.trans (hb3.mono H2.out.2.1.size), H2.out.2.2.keep hb3⟩
  clear hb3 H2 R1 R2
  go_wp2_with (first
    | (refine wpList_new_row rfl rfl 29 rfl (.tmp 10) (.tmp 59) rfl Z DR HAZ.out (fun _ => rfl) (fun _ => rfl) HSR.out HZR.out H1R.out ?_; intro gl w4 FL; try simp only [Act.put, List.setIfInBounds_toArray, List.set_cons_zero, List.set_cons_succ])
    | fail)
  have H4 : Hid (LReads w4 (some ⟨gp, op, none⟩) (n + 1) cy pf ∧ Below w.heap.size w w4 ∧ LReads w4 x n cx qf ∧ w4.rangeAt gl 0 LD) :=
    ⟨H3.out.1.keep FL.out.2.2, H3.out.2.1.trans (FL.out.2.2.mono H3.out.2.1.size), H3.out.2.2.keep FL.out.2.2, range_row (by rw [← HLD.out]; exact FL.out.2.1)⟩
  clear FL H3
  have ix := fun W => index_list W gp op (n + 1) cy n .i64 (by omega)
  have sp := fun W => slice_left W gp op (n + 1) cy n (by have := H4.out.1.2.2.1; omega)
  go_wp2
  refine wp_region_held_drew (S := (fun W => LReads W (some ⟨gp, op, none⟩) (n + 1) cy pf ∧ Below w.heap.size w W ∧ LReads W x n cx qf ∧ W.rangeAt gl 0 LD)) (by kernel_rfl) (keep4 H4.out (Below.refl _ _).drew) (fun hHeld => ?_)
  refine wpAnyH_ready (rs := [0]) (by kernel_rfl) (by simp) ?_
  refine AllReadyH.cons (o := { dst := some 82, op := Op.call { callee := Callee.value (Operand.func 5), args := #[], argTypes := #[] }, type := 4, pos := "law.go:135", after := #[], guard := none }) rfl (fun K hK => ?_) AllReadyH.nil
  go_simp
  refine (T.out _ hHeld.2.1).mono ?_
  rintro e w8 ⟨rfl, hb8⟩
  go_wp2_with fail
  refine hK.out _ _ (keep4 hHeld hb8) (fun hHeld => ?_)
  clear hK K
  try simp only [Act.put, List.setIfInBounds_toArray, List.set_cons_zero, List.set_cons_succ]
  refine wpAnyH_take (i := 1) (oi := { dst := some 83, op := Op.move (Operand.tmp 82), type := 4, pos := "law.go:135", after := #[{ on := 0, ground := Ground.data }, { on := 0, ground := Ground.chain }], guard := none }) (v := .bool true) rfl (by kernel_rfl) (by kernel_rfl) (by kernel_rfl) (fun _ _ _ h => h) (Or.inl ⟨by rfl, by intro w hSw; go_simp⟩) hHeld ?_
  try simp only [Act.put, List.setIfInBounds_toArray, List.set_cons_zero, List.set_cons_succ]
  refine wpAnyH_take (i := 2) (oi := { dst := some 84, op := Op.move (Operand.tmp 9), type := 25, pos := "law.go:135", after := #[{ on := 1, ground := Ground.guard }], guard := some (1, true) }) (v := .int .i64 0) rfl (by kernel_rfl) (by kernel_rfl) (by kernel_rfl) (fun _ _ _ h => h) (Or.inl ⟨by rfl, by intro w hSw; go_simp⟩) hHeld ?_
  try simp only [Act.put, List.setIfInBounds_toArray, List.set_cons_zero, List.set_cons_succ]
  refine wpAnyH_take (i := 3) (oi := { dst := some 85, op := Op.binOp BinOp.eql 25 (Operand.tmp 84) (Operand.const (Value.int IntKind.i64 0)) 25, type := 4, pos := "law.go:135", after := #[{ on := 2, ground := Ground.data }, { on := 1, ground := Ground.guard }], guard := some (1, true) }) (v := .bool true) rfl (by kernel_rfl) (by kernel_rfl) (by kernel_rfl) (fun _ _ _ h => h) (Or.inl ⟨by rfl, by intro w hSw; go_simp⟩) hHeld ?_
  try simp only [Act.put, List.setIfInBounds_toArray, List.set_cons_zero, List.set_cons_succ]
  refine wpAnyH_take (i := 4) (oi := { dst := some 86, op := Op.pick (Operand.tmp 83) (Operand.tmp 85) (Operand.const (Value.bool false)), type := 4, pos := "law.go:135", after := #[{ on := 1, ground := Ground.data }, { on := 3, ground := Ground.data }], guard := none }) (v := .bool true) rfl (by kernel_rfl) (by kernel_rfl) (by kernel_rfl) (fun _ _ _ h => h) (Or.inl ⟨by rfl, by intro w hSw; go_simp⟩) hHeld ?_
  try simp only [Act.put, List.setIfInBounds_toArray, List.set_cons_zero, List.set_cons_succ]
  refine wpAnyH_take (i := 5) (oi := { dst := some 87, op := Op.move (Operand.tmp 86), type := 4, pos := "law.go:135", after := #[{ on := 4, ground := Ground.data }, { on := 1, ground := Ground.chain }], guard := none }) (v := .bool true) rfl (by kernel_rfl) (by kernel_rfl) (by kernel_rfl) (fun _ _ _ h => h) (Or.inl ⟨by rfl, by intro w hSw; go_simp⟩) hHeld ?_
  try simp only [Act.put, List.setIfInBounds_toArray, List.set_cons_zero, List.set_cons_succ]
  refine wpAnyH_take (i := 6) (oi := { dst := some 88, op := Op.move (Operand.tmp 6), type := 22, pos := "law.go:135", after := #[{ on := 5, ground := Ground.guard }], guard := some (5, true) }) (v := .slice (some ⟨gp, op, none⟩) (n + 1) cy) rfl (by kernel_rfl) (by kernel_rfl) (by kernel_rfl) (fun _ _ _ h => h) (Or.inl ⟨by rfl, by intro w hSw; go_simp⟩) hHeld ?_
  try simp only [Act.put, List.setIfInBounds_toArray, List.set_cons_zero, List.set_cons_succ]
  refine wpAnyH_take (i := 7) (oi := { dst := some 89, op := Op.move (Operand.tmp 13), type := 3, pos := "law.go:135", after := #[{ on := 5, ground := Ground.guard }], guard := some (5, true) }) (v := .int .i64 n) rfl (by kernel_rfl) (by kernel_rfl) (by kernel_rfl) (fun _ _ _ h => h) (Or.inl ⟨by rfl, by intro w hSw; go_simp⟩) hHeld ?_
  try simp only [Act.put, List.setIfInBounds_toArray, List.set_cons_zero, List.set_cons_succ]
  refine wpAnyH_take (i := 8) (oi := { dst := some 90, op := Op.slice 22 (Operand.tmp 88) none (some (Operand.tmp 89)) none, type := 22, pos := "law.go:135", after := #[{ on := 6, ground := Ground.data }, { on := 7, ground := Ground.data }, { on := 5, ground := Ground.guard }], guard := some (5, true) }) (v := .slice (some ⟨gp, op, none⟩) n cy) rfl (by kernel_rfl) (by kernel_rfl) (by kernel_rfl) (fun _ _ _ h => h) (Or.inl ⟨by rfl, by intro W hSw; have := sp W; go_simp⟩) hHeld ?_
  try simp only [Act.put, List.setIfInBounds_toArray, List.set_cons_zero, List.set_cons_succ]
  refine wpAnyH_take (i := 9) (oi := { dst := some 91, op := Op.move (Operand.tmp 8), type := 22, pos := "law.go:135", after := #[{ on := 5, ground := Ground.guard }], guard := some (5, true) }) (v := .slice x n cx) rfl (by kernel_rfl) (by kernel_rfl) (by kernel_rfl) (fun _ _ _ h => h) (Or.inl ⟨by rfl, by intro w hSw; go_simp⟩) hHeld ?_
  try simp only [Act.put, List.setIfInBounds_toArray, List.set_cons_zero, List.set_cons_succ]
  refine wpAnyH_ready (rs := [10]) (by kernel_rfl) (by simp) ?_
  refine AllReadyH.cons (o := { dst := some 92, op := Op.call { callee := Callee.value (Operand.func 8), args := #[Operand.tmp 90, Operand.tmp 91], argTypes := #[22, 22] }, type := 4, pos := "law.go:135", after := #[{ on := 8, ground := Ground.data }, { on := 9, ground := Ground.data }, { on := 5, ground := Ground.chain }, { on := 5, ground := Ground.guard }], guard := some (5, true) }) rfl (fun K hK => ?_) AllReadyH.nil
  go_simp
  refine (DG.out _ _ _ _ _ _ hHeld.1 hHeld.2.2.1).mono ?_
  rintro e w9 ⟨rfl, hb9⟩
  go_wp2_with fail
  refine hK.out _ _ (keep4 hHeld hb9) (fun hHeld => ?_)
  clear hK K
  try simp only [Act.put, List.setIfInBounds_toArray, List.set_cons_zero, List.set_cons_succ]
  refine wpAnyH_take (i := 11) (oi := { dst := some 93, op := Op.pick (Operand.tmp 87) (Operand.tmp 92) (Operand.const (Value.bool false)), type := 4, pos := "law.go:135", after := #[{ on := 5, ground := Ground.data }, { on := 10, ground := Ground.data }], guard := none }) (v := .bool true) rfl (by kernel_rfl) (by kernel_rfl) (by kernel_rfl) (fun _ _ _ h => h) (Or.inl ⟨by rfl, by intro w hSw; go_simp⟩) hHeld ?_
  try simp only [Act.put, List.setIfInBounds_toArray, List.set_cons_zero, List.set_cons_succ]
  refine wpAnyH_take (i := 12) (oi := { dst := some 94, op := Op.move (Operand.tmp 93), type := 4, pos := "law.go:135", after := #[{ on := 11, ground := Ground.data }, { on := 10, ground := Ground.chain }], guard := none }) (v := .bool true) rfl (by kernel_rfl) (by kernel_rfl) (by kernel_rfl) (fun _ _ _ h => h) (Or.inl ⟨by rfl, by intro w hSw; go_simp⟩) hHeld ?_
  try simp only [Act.put, List.setIfInBounds_toArray, List.set_cons_zero, List.set_cons_succ]
  refine wpAnyH_take (i := 13) (oi := { dst := some 95, op := Op.move (Operand.tmp 6), type := 22, pos := "law.go:135", after := #[{ on := 12, ground := Ground.guard }], guard := some (12, true) }) (v := .slice (some ⟨gp, op, none⟩) (n + 1) cy) rfl (by kernel_rfl) (by kernel_rfl) (by kernel_rfl) (fun _ _ _ h => h) (Or.inl ⟨by rfl, by intro w hSw; go_simp⟩) hHeld ?_
  try simp only [Act.put, List.setIfInBounds_toArray, List.set_cons_zero, List.set_cons_succ]
  refine wpAnyH_take (i := 14) (oi := { dst := some 96, op := Op.move (Operand.tmp 13), type := 3, pos := "law.go:135", after := #[{ on := 12, ground := Ground.guard }], guard := some (12, true) }) (v := .int .i64 n) rfl (by kernel_rfl) (by kernel_rfl) (by kernel_rfl) (fun _ _ _ h => h) (Or.inl ⟨by rfl, by intro w hSw; go_simp⟩) hHeld ?_
  try simp only [Act.put, List.setIfInBounds_toArray, List.set_cons_zero, List.set_cons_succ]
  refine wpAnyH_take (i := 15) (oi := { dst := some 97, op := Op.indexAddr 22 (Operand.tmp 95) (Operand.tmp 96), type := 0, pos := "law.go:135", after := #[{ on := 13, ground := Ground.data }, { on := 14, ground := Ground.data }, { on := 12, ground := Ground.guard }], guard := some (12, true) }) (v := .pointer (some ⟨gp, op + 32 * n, none⟩)) rfl (by kernel_rfl) (by kernel_rfl) (by kernel_rfl) (fun _ _ _ h => h) (Or.inl ⟨by rfl, by intro W hSw; have := ix W; go_simp⟩) hHeld ?_
  try simp only [Act.put, List.setIfInBounds_toArray, List.set_cons_zero, List.set_cons_succ]
  refine wpAnyH_take (i := 16) (oi := { dst := some 98, op := Op.load 29 (Operand.tmp 97), type := 29, pos := "law.go:135", after := #[{ on := 15, ground := Ground.data }, { on := 12, ground := Ground.guard }], guard := some (12, true) }) (v := .agg LD.toArray) rfl (by kernel_rfl) (by kernel_rfl) (by kernel_rfl) (fun _ _ _ h => h) (yieldsIf_load_mid (by rfl) 29 (.tmp 97) rfl _ _ rfl LD _ (fun W h => RG.out W _ _ _ h.1) Tryd.underlying29 rfl zD) hHeld ?_
  try simp only [Act.put, List.setIfInBounds_toArray, List.set_cons_zero, List.set_cons_succ]
  refine wpAnyH_take (i := 17) (oi := { dst := some 99, op := Op.load 29 (Operand.tmp 10), type := 29, pos := "law.go:135", after := #[{ on := 12, ground := Ground.guard }], guard := some (12, true) }) (v := .agg LD.toArray) rfl (by kernel_rfl) (by kernel_rfl) (by kernel_rfl) (fun _ _ _ h => h) (yieldsIf_load_mid (by rfl) 29 (.tmp 10) rfl _ _ rfl LD _ (fun W h => h.2.2.2) Tryd.underlying29 rfl zD) hHeld ?_
  try simp only [Act.put, List.setIfInBounds_toArray, List.set_cons_zero, List.set_cons_succ]
  refine wpAnyH_take (i := 18) (oi := { dst := some 100, op := Op.binOp BinOp.eql 29 (Operand.tmp 98) (Operand.tmp 99) 29, type := 4, pos := "law.go:135", after := #[{ on := 16, ground := Ground.data }, { on := 17, ground := Ground.data }, { on := 12, ground := Ground.guard }], guard := some (12, true) }) (v := .bool true) rfl (by kernel_rfl) (by kernel_rfl) (by kernel_rfl) (fun _ _ _ h => h) (Or.inl ⟨by rfl, by intro W hSw; have := eD W; go_simp⟩) hHeld ?_
  try simp only [Act.put, List.setIfInBounds_toArray, List.set_cons_zero, List.set_cons_succ]
  refine wpAnyH_take (i := 19) (oi := { dst := some 101, op := Op.pick (Operand.tmp 94) (Operand.tmp 100) (Operand.const (Value.bool false)), type := 4, pos := "law.go:135", after := #[{ on := 12, ground := Ground.data }, { on := 18, ground := Ground.data }], guard := none }) (v := .bool true) rfl (by kernel_rfl) (by kernel_rfl) (by kernel_rfl) (fun _ _ _ h => h) (Or.inl ⟨by rfl, by intro w hSw; go_simp⟩) hHeld ?_
  try simp only [Act.put, List.setIfInBounds_toArray, List.set_cons_zero, List.set_cons_succ]
  refine wpAnyH_take (i := 20) (oi := { dst := some 4, op := Op.assign (Operand.tmp 101), type := 4, pos := "law.go:135", after := #[{ on := 19, ground := Ground.data }, { on := 12, ground := Ground.chain }, { on := 0, ground := Ground.phase }, { on := 1, ground := Ground.phase }, { on := 2, ground := Ground.phase }, { on := 3, ground := Ground.phase }, { on := 4, ground := Ground.phase }, { on := 5, ground := Ground.phase }, { on := 6, ground := Ground.phase }, { on := 7, ground := Ground.phase }, { on := 8, ground := Ground.phase }, { on := 9, ground := Ground.phase }, { on := 10, ground := Ground.phase }, { on := 11, ground := Ground.phase }, { on := 12, ground := Ground.phase }, { on := 13, ground := Ground.phase }, { on := 14, ground := Ground.phase }, { on := 15, ground := Ground.phase }, { on := 16, ground := Ground.phase }, { on := 17, ground := Ground.phase }, { on := 18, ground := Ground.phase }, { on := 19, ground := Ground.phase }], guard := none }) (v := .bool true) rfl (by kernel_rfl) (by kernel_rfl) (by kernel_rfl) (fun _ _ _ h => h) (Or.inl ⟨by rfl, by intro w hSw; go_simp⟩) hHeld ?_
  try simp only [Act.put, List.setIfInBounds_toArray, List.set_cons_zero, List.set_cons_succ]
  refine wpAnyH_done (by kernel_rfl) ?_ _
  go_wp2
  go_ret
  exact ⟨rfl, hHeld.2.1⟩

set_option maxHeartbeats 4000000 in
theorem half_r (a0 : Option Addr) (len0 cap0 : Nat) (z0 : List (List UInt8)) (i : Nat) (w : World) (k : Nat) (hk : k = split len0) (hA : len0 ≤ 200) (h2 : 2 ≤ len0) (hi : i < len0) (hik : k ≤ i) (w0 : LReads w a0 len0 cap0 z0) (hK : Table 0 w) :
    Calls Tryd.prog 3 #[.slice a0 len0 cap0, .int .i64 i] w fun e w' => e = .returned (.bool true) ∧ Below w.heap.size w w' := by
  obtain ⟨Z, HZ, HAZ, HSZ, H1Z, H32Z⟩ := noughts27
  have hlen := w0.1
  have hcl := w0.2.2.1
  have hkp := split_pos len0 h2
  have hkl := split_lt len0 h2
  rw [← hk] at hkp hkl
  have S : Hid (∀ W, Calls Tryd.prog 4 #[.int .i64 len0] W fun e w' => e = .returned (.int .i64 k) ∧ W = w') := fun W => by
    have := split_any (len0 : Int) W (by omega)
    rw [Int.toNat_natCast, ← hk] at this
    exact this
  have dA : decide ((200 : Int) < (len0 : Int)) = false := by rw [decide_eq_false_iff_not]; omega
  have c4 : ((k : Int) == 0) = false := by rw [beq_eq_false_iff_ne]; omega
  have c5 : decide ((k : Int) = 0) = false := by rw [decide_eq_false_iff_not]; omega
  have c6 : ¬ k = 0 := by omega
  have dE : decide ((i : Int) < 0) = false := by rw [decide_eq_false_iff_not]; omega
  have dF : decide ((len0 : Int) ≤ (i : Int)) = false := by rw [decide_eq_false_iff_not]; omega
  have dF2 : decide (len0 ≤ i) = false := by rw [decide_eq_false_iff_not]; omega
  have dG : decide ((k : Int) ≤ (i : Int)) = true := by rw [decide_eq_true_eq]; omega
  have dG2 : decide (k ≤ i) = true := by rw [decide_eq_true_eq]; omega
  obtain ⟨g, o, rfl, hg⟩ := w0.at (by omega)
  have sl := fun W => slice_left W g o len0 cap0 k (by omega)
  have sr := fun W => slice_right W g o len0 cap0 k (by omega) hcl (by omega)
  have hw := wrap_int ((i : Int) - (k : Int)) (by omega) (by omega)
  have T : Hid (∀ W, Below w.heap.size w W → Calls Tryd.prog 5 #[] W fun e w' => e = .returned (.bool true) ∧ Below W.heap.size W w') := fun W hb => three_true W (hK.keep hb)
  have hr32 : (root (z0.take k)).length = 32 := root_length sumD_length _ (w0.2.1.take k)
  have hr32b : (root (z0.drop k)).length = 32 := root_length sumD_length _ (w0.2.1.drop k)
  obtain ⟨DL, HDL, HSL, H1L, H32L⟩ := dig_row' (root (z0.take k)) (root_length sumD_length _ (w0.2.1.take k))
  obtain ⟨DR, HDR, HSR, H1R, H32R⟩ := dig_row' (root (z0.drop k)) (root_length sumD_length _ (w0.2.1.drop k))
  have HZR : Hid (Z.size = DR.size) := by show _ = _; rw [H32Z.out, H32R.out]
  have HRL : Hid (DR.size = DL.size) := by show _ = _; rw [H32R.out, H32L.out]
  have R1 : Hid (∀ W, Below w.heap.size w W → Calls Tryd.prog 7 #[.slice (some ⟨g, o, none⟩) k cap0] W fun e w' => e = .returned (.agg DL) ∧ Below W.heap.size W w') := fun W hb =>
    root_any _ _ k cap0 (z0.take k) W rfl ((w0.keep hb).take k (by omega)) (hK.keep hb) DL HDL
  have R2 : Hid (∀ W, Below w.heap.size w W → Calls Tryd.prog 7 #[.slice (some ⟨g, o + 32 * k, none⟩) (len0 - k) (cap0 - k)] W fun e w' => e = .returned (.agg DR) ∧ Below W.heap.size W w') := fun W hb =>
    root_any _ _ (len0 - k) (cap0 - k) (z0.drop k) W rfl ((w0.keep hb).drop k (by omega)) (hK.keep hb) DR HDR
  have HE : Hid (incl z0 i = incl (z0.drop k) (i - k) ++ [root (z0.take k)]) := by
    show _ = _
    rw [incl_right z0 i (by omega) (by rw [hlen, ← hk]; exact hik), hlen, ← hk]
  obtain ⟨n, HN⟩ : ∃ n, Hid (n = (incl (z0.drop k) (i - k)).length) := ⟨_, (rfl : (incl (z0.drop k) (i - k)).length = _)⟩
  have hn2 : n ≤ 200 := by
    have := incl_len (z0.drop k) (i - k) (by simp only [List.length_take, List.length_drop]; omega)
    simp only [List.length_take, List.length_drop] at this
    rw [HN.out]
    omega
  have hdq : Digs32 (incl (z0.drop k) (i - k)) := incl_digs sumD_length _ _ _ rfl (w0.2.1.drop k)
  have I1 : Hid (∀ W, Below w.heap.size w W → Calls Tryd.prog 6 #[.slice (some ⟨g, o, none⟩) len0 cap0, .int .i64 i] W fun e w' => ∃ gp op cy, e = .returned (.tuple #[.slice (some ⟨gp, op, none⟩) (n + 1) cy, .int .i64 0]) ∧ LReads w' (some ⟨gp, op, none⟩) (n + 1) cy (incl (z0.drop k) (i - k) ++ [root (z0.take k)]) ∧ Below W.heap.size W w') := fun W hb => by
    refine (inclusion_in _ len0 cap0 z0 i W (w0.keep hb) hi (by omega) (hK.keep hb)).mono ?_
    rintro e w' ⟨v, rfl, ho, hbl⟩
    rw [HE.out] at ho
    obtain ⟨y, cy, rfl, hy, _⟩ := LReads.own ho (hdq.append (.one hr32))
    have hln : (incl (z0.drop k) (i - k) ++ [root (z0.take k)]).length = n + 1 := by rw [List.length_append, ← HN.out]; rfl
    rw [hln] at hy ⊢
    obtain ⟨gp, op, rfl, _⟩ := hy.at (by omega)
    exact ⟨gp, op, cy, rfl, hy, hbl⟩
  have I2 : Hid (∀ W, Below w.heap.size w W → Calls Tryd.prog 6 #[.slice (some ⟨g, o + 32 * k, none⟩) (len0 - k) (cap0 - k), .int .i64 ((i : Int) - (k : Int))] W fun e w' => ∃ x cx, e = .returned (.tuple #[.slice x n cx, .int .i64 0]) ∧ (LReads w' x n cx (incl (z0.drop k) (i - k)) ∧ ∀ gl, gl < W.heap.size → ∀ g' o', x = some ⟨g', o', none⟩ → 0 < n → g' ≠ gl) ∧ Below W.heap.size W w') := fun W hb => by
    rw [show ((i : Int) - (k : Int)) = ((i - k : Nat) : Int) by omega]
    refine (inclusion_in _ (len0 - k) (cap0 - k) (z0.drop k) (i - k) W ((w0.keep hb).drop k (by omega)) (by omega) (by omega) (hK.keep hb)).mono ?_
    rintro e w' ⟨v, rfl, ho, hbl⟩
    obtain ⟨x, cx, rfl, hx, hge⟩ := LReads.own ho hdq
    rw [← HN.out] at hx ⊢
    exact ⟨x, cx, rfl, ⟨hx, fun gl hgl g' o' e _ => by have := hge g' o' e; omega⟩, hbl⟩
  have I0 : Hid (∀ W, Calls Tryd.prog 6 #[.slice (some ⟨g, o, none⟩) k cap0, .int .i64 i] W fun e w' => e = .returned (.tuple #[.slice none 0 0, .int .i64 20]) ∧ Below W.heap.size W w') := fun W =>
    inclusion_out _ k cap0 i W (by unfold maxLen; omega) (.inr (by omega))
  obtain ⟨LD, hLD⟩ : ∃ LD : List Value, DL = LD.toArray := ⟨DL.toList, by simp⟩
  have ELD : Hid (LD = cellsOf (root (z0.take k))) := List.toArray_inj (by rw [← hLD]; exact HDL.out)
  have zD : (Tryd.prog.info? 29).map (·.size) = some LD.length := by rw [size23, ELD.out, cellsOf_length, hr32]
  have eD := eqSelf LD.toArray (root (z0.take k)) hr32 (by show _ = _; rw [ELD.out])
  have DG : Hid (∀ W gp op cy x cx, LReads W (some ⟨gp, op, none⟩) (n + 1) cy (incl (z0.drop k) (i - k) ++ [root (z0.take k)]) → LReads W x n cx (incl (z0.drop k) (i - k)) → Calls Tryd.prog 8 #[.slice (some ⟨gp, op, none⟩) n cy, .slice x n cx] W fun e w' => e = .returned (.bool true) ∧ Below W.heap.size W w') := fun W gp op cy x cx h1 h2 => by
    have h3 := h1.take n (by omega)
    rw [List.take_left' HN.out.symm] at h3
    exact same_digs _ x n cy cx _ W h3 h2
  have RG : Hid (∀ (W : World) gp op cy, LReads W (some ⟨gp, op, none⟩) (n + 1) cy (incl (z0.drop k) (i - k) ++ [root (z0.take k)]) → W.rangeAt gp (op + 32 * n) LD) := fun W gp op cy h => by
    have hq := h.range n (by rw [List.length_append, ← HN.out]; simp)
    rw [ELD.out]
    have : (incl (z0.drop k) (i - k) ++ [root (z0.take k)])[n]'(by rw [List.length_append, ← HN.out]; simp) = root (z0.take k) := by
      simp [HN.out]
    rw [this] at hq
    exact hq
  generalize incl (z0.drop k) (i - k) ++ [root (z0.take k)] = pf at I1 DG RG
  generalize incl (z0.drop k) (i - k) = qf at I2 DG
  have HLD := hidk hLD
  clear hK w0 hk hlen HE HN hdq hr32 hr32b HDL HDR ELD hLD
  have hw1 := wrap_int ((n : Int) + 1 - 1) (by omega) (by omega)
  have c7 : ((n : Int) + 1 == 0) = false := by rw [beq_eq_false_iff_ne]; omega
  have c8 : decide ((n : Int) + 1 = 0) = false := by rw [decide_eq_false_iff_not]; omega
  have c9 : ¬ ((n : Int) + 1 = 0) := by omega
  go_enter Tryd.func3, Tryd.ntmps3
  go_wp2_with fail
  refine (S.out _).mono ?_
  rintro e w1 ⟨rfl, rfl⟩
  clear S
  go_wp2_with fail
  refine (I1.out _ (Below.refl _ _)).mono ?_
  rintro e w1 ⟨gp, op, cy, rfl, hy, hb1⟩
  have H1 : Hid (LReads w1 (some ⟨gp, op, none⟩) (n + 1) cy pf ∧ Below w.heap.size w w1) := ⟨hy, hb1⟩
  clear hy hb1 I1
  go_wp2_with fail
  refine (I0.out _).mono ?_
  rintro e w2 ⟨rfl, hb2⟩
  have H2 : Hid (LReads w2 (some ⟨gp, op, none⟩) (n + 1) cy pf ∧ Below w.heap.size w w2) := ⟨H1.out.1.keep hb2, H1.out.2.trans (hb2.mono H1.out.2.size)⟩
  clear hb2 H1 I0
  go_wp2_with fail
  refine (R2.out _ H2.out.2).mono ?_
  rintro e w3 ⟨rfl, hb3⟩
  have H3 : Hid (LReads w3 (some ⟨gp, op, none⟩) (n + 1) cy pf ∧ Below w.heap.size w w3) := ⟨H2.out.1.keep hb3, H2.out.2.trans (hb3.mono H2.out.2.size)⟩
  clear hb3 H2 R2
  go_wp2_with (first
    | (refine wpList_new_row rfl rfl 29 rfl (.tmp 10) (.tmp 59) rfl Z DR HAZ.out (fun _ => rfl) (fun _ => rfl) HSR.out HZR.out H1R.out ?_; intro gl w4 FL; try simp only [Act.put, List.setIfInBounds_toArray, List.set_cons_zero, List.set_cons_succ])
    | fail)
  have H4 : Hid (LReads w4 (some ⟨gp, op, none⟩) (n + 1) cy pf ∧ Below w.heap.size w w4 ∧ w4.heap[gl]? = some (.cells DR 29 (0, 0)) ∧ w.heap.size ≤ gl ∧ gp < gl) :=
    ⟨H3.out.1.keep FL.out.2.2, H3.out.2.trans (FL.out.2.2.mono H3.out.2.size), FL.out.2.1, by rw [FL.out.1]; exact H3.out.2.size, by
      rw [FL.out.1]
      obtain ⟨g', o', e', hg'⟩ := H3.out.1.at (by omega)
      cases e'
      exact hg'⟩
  clear FL H3
  refine (I2.out _ H4.out.2.1).mono ?_
  rintro e w5 ⟨x, cx, rfl, hx, hb5⟩
  have H5 : Hid (LReads w5 (some ⟨gp, op, none⟩) (n + 1) cy pf ∧ Below w.heap.size w w5 ∧ w5.heap[gl]? = some (.cells DR 29 (0, 0)) ∧ w.heap.size ≤ gl ∧ gp < gl ∧ LReads w5 x n cx qf ∧ (∀ g' o', x = some ⟨g', o', none⟩ → 0 < n → g' ≠ gl)) :=
    ⟨H4.out.1.keep hb5, H4.out.2.1.trans (hb5.mono H4.out.2.1.size), (hb5.block _ (heap_lt H4.out.2.2.1)).trans H4.out.2.2.1, H4.out.2.2.2.1, H4.out.2.2.2.2, hx.1, hx.2 _ (heap_lt H4.out.2.2.1)⟩
  clear hx hb5 H4 I2
  go_wp2_with fail
  refine (R1.out _ H5.out.2.1).mono ?_
  rintro e w6 ⟨rfl, hb6⟩
  have H6 : Hid (LReads w6 (some ⟨gp, op, none⟩) (n + 1) cy pf ∧ Below w.heap.size w w6 ∧ w6.heap[gl]? = some (.cells DR 29 (0, 0)) ∧ w.heap.size ≤ gl ∧ gp < gl ∧ LReads w6 x n cx qf ∧ (∀ g' o', x = some ⟨g', o', none⟩ → 0 < n → g' ≠ gl)) :=
    ⟨H5.out.1.keep hb6, H5.out.2.1.trans (hb6.mono H5.out.2.1.size), (hb6.block _ (heap_lt H5.out.2.2.1)).trans H5.out.2.2.1, H5.out.2.2.2.1, H5.out.2.2.2.2.1, H5.out.2.2.2.2.2.1.keep hb6, H5.out.2.2.2.2.2.2⟩
  clear hb6 H5 R1
  have H4 : Hid (LReads (w6.setRow gl DL) (some ⟨gp, op, none⟩) (n + 1) cy pf ∧ Below w.heap.size w (w6.setRow gl DL) ∧ LReads (w6.setRow gl DL) x n cx qf ∧ (w6.setRow gl DL).rangeAt gl 0 LD) :=
    ⟨H6.out.1.row (fun g' o' e _ => by cases e; exact Nat.ne_of_lt H6.out.2.2.2.2.1), below_setRow H6.out.2.1 H6.out.2.2.2.1 _, H6.out.2.2.2.2.2.1.row H6.out.2.2.2.2.2.2, range_row (by rw [← HLD.out]; exact setRow_heap _ _ _ _ 29 _ H6.out.2.2.1)⟩
  go_wp2_with (first
    | (refine wpList_store_row rfl 29 (.tmp 10) (.tmp 78) rfl gl DL rfl rfl 29 DR H6.out.2.2.1 HSL.out HRL.out H1L.out ?_; try simp only [Act.put, List.setIfInBounds_toArray, List.set_cons_zero, List.set_cons_succ])
    | fail)
  generalize w6.setRow gl DL = w4 at H4 ⊢
  clear H6
  have ix := fun W => index_list W gp op (n + 1) cy n .i64 (by omega)
  have sp := fun W => slice_left W gp op (n + 1) cy n (by have := H4.out.1.2.2.1; omega)
  go_wp2
  refine wp_region_held_drew (S := (fun W => LReads W (some ⟨gp, op, none⟩) (n + 1) cy pf ∧ Below w.heap.size w W ∧ LReads W x n cx qf ∧ W.rangeAt gl 0 LD)) (by kernel_rfl) (keep4 H4.out (Below.refl _ _).drew) (fun hHeld => ?_)
  refine wpAnyH_ready (rs := [0]) (by kernel_rfl) (by simp) ?_
  refine AllReadyH.cons (o := { dst := some 82, op := Op.call { callee := Callee.value (Operand.func 5), args := #[], argTypes := #[] }, type := 4, pos := "law.go:135", after := #[], guard := none }) rfl (fun K hK => ?_) AllReadyH.nil
  go_simp
  refine (T.out _ hHeld.2.1).mono ?_
  rintro e w8 ⟨rfl, hb8⟩
  go_wp2_with fail
  refine hK.out _ _ (keep4 hHeld hb8) (fun hHeld => ?_)
  clear hK K
  try simp only [Act.put, List.setIfInBounds_toArray, List.set_cons_zero, List.set_cons_succ]
  refine wpAnyH_take (i := 1) (oi := { dst := some 83, op := Op.move (Operand.tmp 82), type := 4, pos := "law.go:135", after := #[{ on := 0, ground := Ground.data }, { on := 0, ground := Ground.chain }], guard := none }) (v := .bool true) rfl (by kernel_rfl) (by kernel_rfl) (by kernel_rfl) (fun _ _ _ h => h) (Or.inl ⟨by rfl, by intro w hSw; go_simp⟩) hHeld ?_
  try simp only [Act.put, List.setIfInBounds_toArray, List.set_cons_zero, List.set_cons_succ]
  refine wpAnyH_take (i := 2) (oi := { dst := some 84, op := Op.move (Operand.tmp 9), type := 25, pos := "law.go:135", after := #[{ on := 1, ground := Ground.guard }], guard := some (1, true) }) (v := .int .i64 0) rfl (by kernel_rfl) (by kernel_rfl) (by kernel_rfl) (fun _ _ _ h => h) (Or.inl ⟨by rfl, by intro w hSw; go_simp⟩) hHeld ?_
  try simp only [Act.put, List.setIfInBounds_toArray, List.set_cons_zero, List.set_cons_succ]
  refine wpAnyH_take (i := 3) (oi := { dst := some 85, op := Op.binOp BinOp.eql 25 (Operand.tmp 84) (Operand.const (Value.int IntKind.i64 0)) 25, type := 4, pos := "law.go:135", after := #[{ on := 2, ground := Ground.data }, { on := 1, ground := Ground.guard }], guard := some (1, true) }) (v := .bool true) rfl (by kernel_rfl) (by kernel_rfl) (by kernel_rfl) (fun _ _ _ h => h) (Or.inl ⟨by rfl, by intro w hSw; go_simp⟩) hHeld ?_
  try simp only [Act.put, List.setIfInBounds_toArray, List.set_cons_zero, List.set_cons_succ]
  refine wpAnyH_take (i := 4) (oi := { dst := some 86, op := Op.pick (Operand.tmp 83) (Operand.tmp 85) (Operand.const (Value.bool false)), type := 4, pos := "law.go:135", after := #[{ on := 1, ground := Ground.data }, { on := 3, ground := Ground.data }], guard := none }) (v := .bool true) rfl (by kernel_rfl) (by kernel_rfl) (by kernel_rfl) (fun _ _ _ h => h) (Or.inl ⟨by rfl, by intro w hSw; go_simp⟩) hHeld ?_
  try simp only [Act.put, List.setIfInBounds_toArray, List.set_cons_zero, List.set_cons_succ]
  refine wpAnyH_take (i := 5) (oi := { dst := some 87, op := Op.move (Operand.tmp 86), type := 4, pos := "law.go:135", after := #[{ on := 4, ground := Ground.data }, { on := 1, ground := Ground.chain }], guard := none }) (v := .bool true) rfl (by kernel_rfl) (by kernel_rfl) (by kernel_rfl) (fun _ _ _ h => h) (Or.inl ⟨by rfl, by intro w hSw; go_simp⟩) hHeld ?_
  try simp only [Act.put, List.setIfInBounds_toArray, List.set_cons_zero, List.set_cons_succ]
  refine wpAnyH_take (i := 6) (oi := { dst := some 88, op := Op.move (Operand.tmp 6), type := 22, pos := "law.go:135", after := #[{ on := 5, ground := Ground.guard }], guard := some (5, true) }) (v := .slice (some ⟨gp, op, none⟩) (n + 1) cy) rfl (by kernel_rfl) (by kernel_rfl) (by kernel_rfl) (fun _ _ _ h => h) (Or.inl ⟨by rfl, by intro w hSw; go_simp⟩) hHeld ?_
  try simp only [Act.put, List.setIfInBounds_toArray, List.set_cons_zero, List.set_cons_succ]
  refine wpAnyH_take (i := 7) (oi := { dst := some 89, op := Op.move (Operand.tmp 13), type := 3, pos := "law.go:135", after := #[{ on := 5, ground := Ground.guard }], guard := some (5, true) }) (v := .int .i64 n) rfl (by kernel_rfl) (by kernel_rfl) (by kernel_rfl) (fun _ _ _ h => h) (Or.inl ⟨by rfl, by intro w hSw; go_simp⟩) hHeld ?_
  try simp only [Act.put, List.setIfInBounds_toArray, List.set_cons_zero, List.set_cons_succ]
  refine wpAnyH_take (i := 8) (oi := { dst := some 90, op := Op.slice 22 (Operand.tmp 88) none (some (Operand.tmp 89)) none, type := 22, pos := "law.go:135", after := #[{ on := 6, ground := Ground.data }, { on := 7, ground := Ground.data }, { on := 5, ground := Ground.guard }], guard := some (5, true) }) (v := .slice (some ⟨gp, op, none⟩) n cy) rfl (by kernel_rfl) (by kernel_rfl) (by kernel_rfl) (fun _ _ _ h => h) (Or.inl ⟨by rfl, by intro W hSw; have := sp W; go_simp⟩) hHeld ?_
  try simp only [Act.put, List.setIfInBounds_toArray, List.set_cons_zero, List.set_cons_succ]
  refine wpAnyH_take (i := 9) (oi := { dst := some 91, op := Op.move (Operand.tmp 8), type := 22, pos := "law.go:135", after := #[{ on := 5, ground := Ground.guard }], guard := some (5, true) }) (v := .slice x n cx) rfl (by kernel_rfl) (by kernel_rfl) (by kernel_rfl) (fun _ _ _ h => h) (Or.inl ⟨by rfl, by intro w hSw; go_simp⟩) hHeld ?_
  try simp only [Act.put, List.setIfInBounds_toArray, List.set_cons_zero, List.set_cons_succ]
  refine wpAnyH_ready (rs := [10]) (by kernel_rfl) (by simp) ?_
  refine AllReadyH.cons (o := { dst := some 92, op := Op.call { callee := Callee.value (Operand.func 8), args := #[Operand.tmp 90, Operand.tmp 91], argTypes := #[22, 22] }, type := 4, pos := "law.go:135", after := #[{ on := 8, ground := Ground.data }, { on := 9, ground := Ground.data }, { on := 5, ground := Ground.chain }, { on := 5, ground := Ground.guard }], guard := some (5, true) }) rfl (fun K hK => ?_) AllReadyH.nil
  go_simp
  refine (DG.out _ _ _ _ _ _ hHeld.1 hHeld.2.2.1).mono ?_
  rintro e w9 ⟨rfl, hb9⟩
  go_wp2_with fail
  refine hK.out _ _ (keep4 hHeld hb9) (fun hHeld => ?_)
  clear hK K
  try simp only [Act.put, List.setIfInBounds_toArray, List.set_cons_zero, List.set_cons_succ]
  refine wpAnyH_take (i := 11) (oi := { dst := some 93, op := Op.pick (Operand.tmp 87) (Operand.tmp 92) (Operand.const (Value.bool false)), type := 4, pos := "law.go:135", after := #[{ on := 5, ground := Ground.data }, { on := 10, ground := Ground.data }], guard := none }) (v := .bool true) rfl (by kernel_rfl) (by kernel_rfl) (by kernel_rfl) (fun _ _ _ h => h) (Or.inl ⟨by rfl, by intro w hSw; go_simp⟩) hHeld ?_
  try simp only [Act.put, List.setIfInBounds_toArray, List.set_cons_zero, List.set_cons_succ]
  refine wpAnyH_take (i := 12) (oi := { dst := some 94, op := Op.move (Operand.tmp 93), type := 4, pos := "law.go:135", after := #[{ on := 11, ground := Ground.data }, { on := 10, ground := Ground.chain }], guard := none }) (v := .bool true) rfl (by kernel_rfl) (by kernel_rfl) (by kernel_rfl) (fun _ _ _ h => h) (Or.inl ⟨by rfl, by intro w hSw; go_simp⟩) hHeld ?_
  try simp only [Act.put, List.setIfInBounds_toArray, List.set_cons_zero, List.set_cons_succ]
  refine wpAnyH_take (i := 13) (oi := { dst := some 95, op := Op.move (Operand.tmp 6), type := 22, pos := "law.go:135", after := #[{ on := 12, ground := Ground.guard }], guard := some (12, true) }) (v := .slice (some ⟨gp, op, none⟩) (n + 1) cy) rfl (by kernel_rfl) (by kernel_rfl) (by kernel_rfl) (fun _ _ _ h => h) (Or.inl ⟨by rfl, by intro w hSw; go_simp⟩) hHeld ?_
  try simp only [Act.put, List.setIfInBounds_toArray, List.set_cons_zero, List.set_cons_succ]
  refine wpAnyH_take (i := 14) (oi := { dst := some 96, op := Op.move (Operand.tmp 13), type := 3, pos := "law.go:135", after := #[{ on := 12, ground := Ground.guard }], guard := some (12, true) }) (v := .int .i64 n) rfl (by kernel_rfl) (by kernel_rfl) (by kernel_rfl) (fun _ _ _ h => h) (Or.inl ⟨by rfl, by intro w hSw; go_simp⟩) hHeld ?_
  try simp only [Act.put, List.setIfInBounds_toArray, List.set_cons_zero, List.set_cons_succ]
  refine wpAnyH_take (i := 15) (oi := { dst := some 97, op := Op.indexAddr 22 (Operand.tmp 95) (Operand.tmp 96), type := 0, pos := "law.go:135", after := #[{ on := 13, ground := Ground.data }, { on := 14, ground := Ground.data }, { on := 12, ground := Ground.guard }], guard := some (12, true) }) (v := .pointer (some ⟨gp, op + 32 * n, none⟩)) rfl (by kernel_rfl) (by kernel_rfl) (by kernel_rfl) (fun _ _ _ h => h) (Or.inl ⟨by rfl, by intro W hSw; have := ix W; go_simp⟩) hHeld ?_
  try simp only [Act.put, List.setIfInBounds_toArray, List.set_cons_zero, List.set_cons_succ]
  refine wpAnyH_take (i := 16) (oi := { dst := some 98, op := Op.load 29 (Operand.tmp 97), type := 29, pos := "law.go:135", after := #[{ on := 15, ground := Ground.data }, { on := 12, ground := Ground.guard }], guard := some (12, true) }) (v := .agg LD.toArray) rfl (by kernel_rfl) (by kernel_rfl) (by kernel_rfl) (fun _ _ _ h => h) (yieldsIf_load_mid (by rfl) 29 (.tmp 97) rfl _ _ rfl LD _ (fun W h => RG.out W _ _ _ h.1) Tryd.underlying29 rfl zD) hHeld ?_
  try simp only [Act.put, List.setIfInBounds_toArray, List.set_cons_zero, List.set_cons_succ]
  refine wpAnyH_take (i := 17) (oi := { dst := some 99, op := Op.load 29 (Operand.tmp 10), type := 29, pos := "law.go:135", after := #[{ on := 12, ground := Ground.guard }], guard := some (12, true) }) (v := .agg LD.toArray) rfl (by kernel_rfl) (by kernel_rfl) (by kernel_rfl) (fun _ _ _ h => h) (yieldsIf_load_mid (by rfl) 29 (.tmp 10) rfl _ _ rfl LD _ (fun W h => h.2.2.2) Tryd.underlying29 rfl zD) hHeld ?_
  try simp only [Act.put, List.setIfInBounds_toArray, List.set_cons_zero, List.set_cons_succ]
  refine wpAnyH_take (i := 18) (oi := { dst := some 100, op := Op.binOp BinOp.eql 29 (Operand.tmp 98) (Operand.tmp 99) 29, type := 4, pos := "law.go:135", after := #[{ on := 16, ground := Ground.data }, { on := 17, ground := Ground.data }, { on := 12, ground := Ground.guard }], guard := some (12, true) }) (v := .bool true) rfl (by kernel_rfl) (by kernel_rfl) (by kernel_rfl) (fun _ _ _ h => h) (Or.inl ⟨by rfl, by intro W hSw; have := eD W; go_simp⟩) hHeld ?_
  try simp only [Act.put, List.setIfInBounds_toArray, List.set_cons_zero, List.set_cons_succ]
  refine wpAnyH_take (i := 19) (oi := { dst := some 101, op := Op.pick (Operand.tmp 94) (Operand.tmp 100) (Operand.const (Value.bool false)), type := 4, pos := "law.go:135", after := #[{ on := 12, ground := Ground.data }, { on := 18, ground := Ground.data }], guard := none }) (v := .bool true) rfl (by kernel_rfl) (by kernel_rfl) (by kernel_rfl) (fun _ _ _ h => h) (Or.inl ⟨by rfl, by intro w hSw; go_simp⟩) hHeld ?_
  try simp only [Act.put, List.setIfInBounds_toArray, List.set_cons_zero, List.set_cons_succ]
  refine wpAnyH_take (i := 20) (oi := { dst := some 4, op := Op.assign (Operand.tmp 101), type := 4, pos := "law.go:135", after := #[{ on := 19, ground := Ground.data }, { on := 12, ground := Ground.chain }, { on := 0, ground := Ground.phase }, { on := 1, ground := Ground.phase }, { on := 2, ground := Ground.phase }, { on := 3, ground := Ground.phase }, { on := 4, ground := Ground.phase }, { on := 5, ground := Ground.phase }, { on := 6, ground := Ground.phase }, { on := 7, ground := Ground.phase }, { on := 8, ground := Ground.phase }, { on := 9, ground := Ground.phase }, { on := 10, ground := Ground.phase }, { on := 11, ground := Ground.phase }, { on := 12, ground := Ground.phase }, { on := 13, ground := Ground.phase }, { on := 14, ground := Ground.phase }, { on := 15, ground := Ground.phase }, { on := 16, ground := Ground.phase }, { on := 17, ground := Ground.phase }, { on := 18, ground := Ground.phase }, { on := 19, ground := Ground.phase }], guard := none }) (v := .bool true) rfl (by kernel_rfl) (by kernel_rfl) (by kernel_rfl) (fun _ _ _ h => h) (Or.inl ⟨by rfl, by intro w hSw; go_simp⟩) hHeld ?_
  try simp only [Act.put, List.setIfInBounds_toArray, List.set_cons_zero, List.set_cons_succ]
  refine wpAnyH_done (by kernel_rfl) ?_ _
  go_wp2
  go_ret
  exact ⟨rfl, hHeld.2.1⟩

theorem treeHalves_walk (a0 : Option Addr) (len0 cap0 : Nat) (z0 : List (List UInt8)) (a1 : Int) (w : World) (w0 : LReads w a0 len0 cap0 z0) (w1 : (Lit.int .i64 a1).wf = true) (hK : Table 0 w) :
    Calls Tryd.prog 3 #[.slice a0 len0 cap0, .int .i64 a1] w fun e w' => e = .returned (.bool true) ∧ Below w.heap.size w w' := by
  have T := hidk (three_true w hK)
  have hx := w0.2.2.2.1
  obtain ⟨k, hk⟩ : ∃ k, k = split len0 := ⟨_, rfl⟩
  by_cases hA : 200 < len0
  · exact half_a a0 len0 cap0 a1 w k hk hx hA T
  by_cases h2 : len0 < 2
  · exact half_k a0 len0 cap0 a1 w k hk hx (by omega) h2 T
  by_cases hn : a1 < 0
  · exact half_n a0 len0 cap0 a1 w k hk hx (by omega) (by omega) hn T
  by_cases hp : (len0 : Int) ≤ a1
  · exact half_p a0 len0 cap0 a1 w k hk hx (by omega) (by omega) hp T
  obtain ⟨i, hi⟩ : ∃ i : Nat, a1 = i := ⟨a1.toNat, by omega⟩
  subst hi
  by_cases hik : i < k
  · exact half_l a0 len0 cap0 z0 i w k hk (by omega) (by omega) (by omega) hik w0 hK
  · exact half_r a0 len0 cap0 z0 i w k hk (by omega) (by omega) (by omega) (by omega) w0 hK
end Go.Proofs.YtpjchiihiclhiabDoor
