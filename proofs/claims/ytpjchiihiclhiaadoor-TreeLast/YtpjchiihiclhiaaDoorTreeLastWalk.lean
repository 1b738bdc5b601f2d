/- TreeLast answers true at every two lists and place. -/
import Derived.Test.YtpjchiihiclhiaaDoorThree
import Derived.Test.YtpjchiihiclhiaaDoorAppends
namespace Go.Proofs.YtpjchiihiclhiaaDoor
open Go.RowKit Sums
set_option linter.unusedVariables false
set_option linter.unusedSimpArgs false

theorem own_shape {w : World} {B : Nat} {y : Option Addr} {n m cy : Nat} {xs : List Value} (h : w.ownsRow B 26 32 (.slice y m cy) n xs) : y = none ∨ ∃ g o, y = some ⟨g, o, none⟩ := by
  rcases h.2 with ⟨hv, _⟩ | ⟨g, cap, cur, hv, _⟩
  · cases hv; exact .inl rfl
  · cases hv; exact .inr ⟨g, 0, rfl⟩
theorem slice_first (W : World) (a : Option Addr) (n cap k : Nat) (h : a = none ∨ ∃ g o, a = some ⟨g, o, none⟩) (hk : k ≤ cap) : (Instr.sliceAt 22 (.slice a n cap) none (some (.int .i64 k)) none).run Tryd.prog W = .ok (.slice a k cap) W := by
  rcases h with rfl | ⟨g, o, rfl⟩
  · simp [Instr.sliceAt, Instr.slice, Instr.sliceBounds, Instr.sliceBound, asIntOf, run_underlying Tryd.underlying22, sizeOfD, hk]
  · exact slice_left W g o n cap k hk
theorem LReads.first {w : World} {a : Option Addr} {len cap : Nat} {l : List (List UInt8)} (h : LReads w a len cap l) (k : Nat) (hk : k ≤ len) : LReads w a k cap (l.take k) := by
  by_cases h0 : k = 0
  · subst h0
    exact ⟨by simp, fun d hd => by simp at hd, by omega, by omega, .inl rfl⟩
  · obtain ⟨g, o, rfl, _⟩ := h.at (by omega)
    exact h.take k hk

set_option maxHeartbeats 1000000 in
theorem last_a (a0 : Option Addr) (len0 cap0 : Nat) (a1 : Option Addr) (len1 cap1 : Nat) (i : Int) (w : World) (hA : 200 < len0) (hx : len0 ≤ maxLen)
    (T : Hid (Calls Tryd.prog 10 #[] w fun e w' => e = .returned (.bool true) ∧ Below w.heap.size w w')) :
    Calls Tryd.prog 7 #[.slice a0 len0 cap0, .slice a1 len1 cap1, .int .i64 i] w fun e w' => e = .returned (.bool true) ∧ Below w.heap.size w w' := by
  have hy : len0 ≤ 9223372036854775807 := by unfold maxLen at hx; omega
  clear hx
  have dA : decide ((200 : Int) < (len0 : Int)) = true := by rw [decide_eq_true_eq]; omega

  go_enter Tryd.func7, Tryd.ntmps7
  go_wp2_with fail
  refine T.out.mono ?_
  rintro e w2 ⟨rfl, hb2⟩
  go_wp2
  go_ret
  exact ⟨rfl, hb2⟩

set_option maxHeartbeats 1000000 in
theorem last_b (a0 : Option Addr) (len0 cap0 : Nat) (a1 : Option Addr) (len1 cap1 : Nat) (i : Int) (w : World) (hA : len0 ≤ 200) (hB : 200 < len1) (hx : len1 ≤ maxLen)
    (T : Hid (Calls Tryd.prog 10 #[] w fun e w' => e = .returned (.bool true) ∧ Below w.heap.size w w')) :
    Calls Tryd.prog 7 #[.slice a0 len0 cap0, .slice a1 len1 cap1, .int .i64 i] w fun e w' => e = .returned (.bool true) ∧ Below w.heap.size w w' := by
  have hy : len1 ≤ 9223372036854775807 := by unfold maxLen at hx; omega
  clear hx
  have dA : decide ((200 : Int) < (len0 : Int)) = false := by rw [decide_eq_false_iff_not]; omega
  have dB : decide ((200 : Int) < (len1 : Int)) = true := by rw [decide_eq_true_eq]; omega

  go_enter Tryd.func7, Tryd.ntmps7
  go_wp2_with fail
  refine T.out.mono ?_
  rintro e w2 ⟨rfl, hb2⟩
  go_wp2
  go_ret
  exact ⟨rfl, hb2⟩

set_option maxHeartbeats 1000000 in
theorem last_c (a0 : Option Addr) (len0 cap0 : Nat) (a1 : Option Addr) (len1 cap1 : Nat) (i : Int) (w : World) (hC : len0 = 0) (hB : len1 ≤ 200)
    (T : Hid (Calls Tryd.prog 10 #[] w fun e w' => e = .returned (.bool true) ∧ Below w.heap.size w w')) :
    Calls Tryd.prog 7 #[.slice a0 len0 cap0, .slice a1 len1 cap1, .int .i64 i] w fun e w' => e = .returned (.bool true) ∧ Below w.heap.size w w' := by
  subst hC
  have dB : decide ((200 : Int) < (len1 : Int)) = false := by rw [decide_eq_false_iff_not]; omega

  go_enter Tryd.func7, Tryd.ntmps7
  go_wp2_with fail
  refine T.out.mono ?_
  rintro e w2 ⟨rfl, hb2⟩
  go_wp2
  go_ret
  exact ⟨rfl, hb2⟩

set_option maxHeartbeats 1000000 in
theorem last_1n (a0 : Option Addr) (len0 cap0 : Nat) (a1 : Option Addr) (len1 cap1 : Nat) (i : Int) (w : World) (hC : len0 = 1) (hB : len1 ≤ 200) (hi : i < 0)
    (T : Hid (Calls Tryd.prog 10 #[] w fun e w' => e = .returned (.bool true) ∧ Below w.heap.size w w')) :
    Calls Tryd.prog 7 #[.slice a0 len0 cap0, .slice a1 len1 cap1, .int .i64 i] w fun e w' => e = .returned (.bool true) ∧ Below w.heap.size w w' := by
  subst hC
  have dB : decide ((200 : Int) < (len1 : Int)) = false := by rw [decide_eq_false_iff_not]; omega
  have dE : decide (i < 0) = true := by rw [decide_eq_true_eq]; omega

  go_enter Tryd.func7, Tryd.ntmps7
  go_wp2_with fail
  refine T.out.mono ?_
  rintro e w2 ⟨rfl, hb2⟩
  go_wp2
  go_ret
  exact ⟨rfl, hb2⟩

set_option maxHeartbeats 1000000 in
theorem last_1p (a0 : Option Addr) (len0 cap0 : Nat) (a1 : Option Addr) (len1 cap1 : Nat) (i : Int) (w : World) (hC : len0 = 1) (hB : len1 ≤ 200) (hi : 1 ≤ i)
    (T : Hid (Calls Tryd.prog 10 #[] w fun e w' => e = .returned (.bool true) ∧ Below w.heap.size w w')) :
    Calls Tryd.prog 7 #[.slice a0 len0 cap0, .slice a1 len1 cap1, .int .i64 i] w fun e w' => e = .returned (.bool true) ∧ Below w.heap.size w w' := by
  subst hC
  have dB : decide ((200 : Int) < (len1 : Int)) = false := by rw [decide_eq_false_iff_not]; omega
  have dE : decide (i < 0) = false := by rw [decide_eq_false_iff_not]; omega
  have dF : decide (1 ≤ i) = true := by rw [decide_eq_true_eq]; omega

  go_enter Tryd.func7, Tryd.ntmps7
  go_wp2_with fail
  refine T.out.mono ?_
  rintro e w2 ⟨rfl, hb2⟩
  go_wp2
  go_ret
  exact ⟨rfl, hb2⟩

set_option maxHeartbeats 1000000 in
theorem last_2s (a0 : Option Addr) (len0 cap0 : Nat) (a1 : Option Addr) (len1 cap1 : Nat) (i : Int) (w : World) (hA : 1 < len0) (hA2 : len0 ≤ 200) (hB : len1 ≤ 200) (k : Nat) (hk : k = split len0) (hd : 2 * k ≠ len0)
    (T : Hid (Calls Tryd.prog 10 #[] w fun e w' => e = .returned (.bool true) ∧ Below w.heap.size w w')) :
    Calls Tryd.prog 7 #[.slice a0 len0 cap0, .slice a1 len1 cap1, .int .i64 i] w fun e w' => e = .returned (.bool true) ∧ Below w.heap.size w w' := by
  have dA : decide ((200 : Int) < (len0 : Int)) = false := by rw [decide_eq_false_iff_not]; omega
  have dB : decide ((200 : Int) < (len1 : Int)) = false := by rw [decide_eq_false_iff_not]; omega
  have dC : decide ((len0 : Int) < 1) = false := by rw [decide_eq_false_iff_not]; omega
  have dG : decide ((1 : Int) < (len0 : Int)) = true := by rw [decide_eq_true_eq]; omega
  have S : Hid (∀ W, Calls Tryd.prog 13 #[.int .i64 len0] W fun e w' => e = .returned (.int .i64 k) ∧ W = w') := fun W => by
    have := split_any (len0 : Int) W (by omega)
    rw [Int.toNat_natCast, ← hk] at this
    exact this
  have hkl := split_lt len0 (by omega)
  rw [← hk] at hkl
  have cW := wrap_int (2 * (k : Int)) (by omega) (by omega)
  clear hk
  have q1 : (2 * (k : Int) != (len0 : Int)) = true := by rw [bne_iff_ne]; omega
  have q2 : decide (2 * (k : Int) = (len0 : Int)) = false := by rw [decide_eq_false_iff_not]; omega
  have q3 : (2 * (k : Int) == (len0 : Int)) = false := by rw [beq_eq_false_iff_ne]; omega

  go_enter Tryd.func7, Tryd.ntmps7
  go_wp2_with fail
  refine (S.out _).mono ?_
  rintro e w1 ⟨rfl, rfl⟩
  go_wp2_with fail
  refine T.out.mono ?_
  rintro e w2 ⟨rfl, hb2⟩
  go_wp2
  go_ret
  exact ⟨rfl, hb2⟩

set_option maxHeartbeats 1000000 in
theorem last_2n (a0 : Option Addr) (len0 cap0 : Nat) (a1 : Option Addr) (len1 cap1 : Nat) (i : Int) (w : World) (hA : 1 < len0) (hA2 : len0 ≤ 200) (hB : len1 ≤ 200) (k : Nat) (hk : k = split len0) (hd : 2 * k = len0) (hi : i < 0)
    (T : Hid (Calls Tryd.prog 10 #[] w fun e w' => e = .returned (.bool true) ∧ Below w.heap.size w w')) :
    Calls Tryd.prog 7 #[.slice a0 len0 cap0, .slice a1 len1 cap1, .int .i64 i] w fun e w' => e = .returned (.bool true) ∧ Below w.heap.size w w' := by
  have dA : decide ((200 : Int) < (len0 : Int)) = false := by rw [decide_eq_false_iff_not]; omega
  have dB : decide ((200 : Int) < (len1 : Int)) = false := by rw [decide_eq_false_iff_not]; omega
  have dC : decide ((len0 : Int) < 1) = false := by rw [decide_eq_false_iff_not]; omega
  have dG : decide ((1 : Int) < (len0 : Int)) = true := by rw [decide_eq_true_eq]; omega
  have S : Hid (∀ W, Calls Tryd.prog 13 #[.int .i64 len0] W fun e w' => e = .returned (.int .i64 k) ∧ W = w') := fun W => by
    have := split_any (len0 : Int) W (by omega)
    rw [Int.toNat_natCast, ← hk] at this
    exact this
  have hkl := split_lt len0 (by omega)
  rw [← hk] at hkl
  have cW := wrap_int (2 * (k : Int)) (by omega) (by omega)
  clear hk
  have q1 : (2 * (k : Int) != (len0 : Int)) = false := by rw [bne_eq_false_iff_eq]; omega
  have q2 : decide (2 * (k : Int) = (len0 : Int)) = true := by rw [decide_eq_true_eq]; omega
  have q3 : (2 * (k : Int) == (len0 : Int)) = true := by rw [beq_iff_eq]; omega
  clear hd
  have dE : decide (i < 0) = true := by rw [decide_eq_true_eq]; omega

  go_enter Tryd.func7, Tryd.ntmps7
  go_wp2_with fail
  refine (S.out _).mono ?_
  rintro e w1 ⟨rfl, rfl⟩
  go_wp2_with fail
  refine T.out.mono ?_
  rintro e w2 ⟨rfl, hb2⟩
  go_wp2
  go_ret
  exact ⟨rfl, hb2⟩

set_option maxHeartbeats 1000000 in
theorem last_2p (a0 : Option Addr) (len0 cap0 : Nat) (a1 : Option Addr) (len1 cap1 : Nat) (i : Int) (w : World) (hA : 1 < len0) (hA2 : len0 ≤ 200) (hB : len1 ≤ 200) (k : Nat) (hk : k = split len0) (hd : 2 * k = len0) (hi : (len0 : Int) ≤ i)
    (T : Hid (Calls Tryd.prog 10 #[] w fun e w' => e = .returned (.bool true) ∧ Below w.heap.size w w')) :
    Calls Tryd.prog 7 #[.slice a0 len0 cap0, .slice a1 len1 cap1, .int .i64 i] w fun e w' => e = .returned (.bool true) ∧ Below w.heap.size w w' := by
  have dA : decide ((200 : Int) < (len0 : Int)) = false := by rw [decide_eq_false_iff_not]; omega
  have dB : decide ((200 : Int) < (len1 : Int)) = false := by rw [decide_eq_false_iff_not]; omega
  have dC : decide ((len0 : Int) < 1) = false := by rw [decide_eq_false_iff_not]; omega
  have dG : decide ((1 : Int) < (len0 : Int)) = true := by rw [decide_eq_true_eq]; omega
  have S : Hid (∀ W, Calls Tryd.prog 13 #[.int .i64 len0] W fun e w' => e = .returned (.int .i64 k) ∧ W = w') := fun W => by
    have := split_any (len0 : Int) W (by omega)
    rw [Int.toNat_natCast, ← hk] at this
    exact this
  have hkl := split_lt len0 (by omega)
  rw [← hk] at hkl
  have cW := wrap_int (2 * (k : Int)) (by omega) (by omega)
  clear hk
  have q1 : (2 * (k : Int) != (len0 : Int)) = false := by rw [bne_eq_false_iff_eq]; omega
  have q2 : decide (2 * (k : Int) = (len0 : Int)) = true := by rw [decide_eq_true_eq]; omega
  have q3 : (2 * (k : Int) == (len0 : Int)) = true := by rw [beq_iff_eq]; omega
  clear hd
  have dE : decide (i < 0) = false := by rw [decide_eq_false_iff_not]; omega
  have dF : decide ((len0 : Int) ≤ i) = true := by rw [decide_eq_true_eq]; omega

  go_enter Tryd.func7, Tryd.ntmps7
  go_wp2_with fail
  refine (S.out _).mono ?_
  rintro e w1 ⟨rfl, rfl⟩
  go_wp2_with fail
  refine T.out.mono ?_
  rintro e w2 ⟨rfl, hb2⟩
  go_wp2
  go_ret
  exact ⟨rfl, hb2⟩

set_option maxHeartbeats 4000000 in
theorem last_one (a0 : Option Addr) (len0 cap0 : Nat) (z0 : List (List UInt8)) (a1 : Option Addr) (len1 cap1 : Nat) (z1 : List (List UInt8)) (i : Nat) (w : World) (hC : len0 = 1) (hB : len1 ≤ 200) (hi : i < len0)
    (w0 : LReads w a0 len0 cap0 z0) (w1 : LReads w a1 len1 cap1 z1) (hK : Table 1 w) :
    Calls Tryd.prog 7 #[.slice a0 len0 cap0, .slice a1 len1 cap1, .int .i64 i] w fun e w' => e = .returned (.bool true) ∧ Below w.heap.size w w' := by
  have hl0 := w0.1
  have hl1 := w1.1
  have hpow : ∃ j, len0 = 2 ^ j := ⟨0, hC⟩
  obtain ⟨v1, u1, hr1, ho1, hb1⟩ := append_any w w.heap.size (.slice none 0 0) [] z0 (World.ownsRow_nil _ _ _ _) a0 len0 cap0 w0 (Nat.le_refl _) (by simp; omega)
  rw [List.nil_append] at ho1
  obtain ⟨v2, u2, hr2, ho2, hb2⟩ := append_any u1 w.heap.size v1 z0 z1 ho1 a1 len1 cap1 (w1.keep hb1) hb1.size (by omega)
  obtain ⟨x, cx, rfl, hx, _⟩ := LReads.own ho2 (w0.2.1.append w1.2.1)
  have hlx : (z0 ++ z1).length = len0 + len1 := by rw [List.length_append, hl0, hl1]
  have hu2 : Below w.heap.size w u2 := hb1.trans hb2
  have HR1 := hidk hr1
  have HR2 := hidk hr2
  have HU : Hid (LReads u2 x (z0 ++ z1).length cx (z0 ++ z1) ∧ Below w.heap.size w u2) := ⟨hx, hu2⟩
  have hpre := Exists.elim hpow fun j hj => incl_last z1.length j z0 z1 i rfl (by omega) (by omega)
  obtain ⟨m, HM⟩ : ∃ m, Hid (m = (incl z0 i).length) := ⟨_, (rfl : (incl z0 i).length = _)⟩
  obtain ⟨n, HN⟩ : ∃ n, Hid (n = (incl (z0 ++ z1) i).length) := ⟨_, (rfl : (incl (z0 ++ z1) i).length = _)⟩
  have hmn : m ≤ n := by rw [HM.out, HN.out]; exact hpre.length_le
  have hn4 : n ≤ 400 := by
    have := incl_len (z0 ++ z1) i (by omega)
    rw [HN.out]
    omega
  have htk : (incl (z0 ++ z1) i).take m = incl z0 i := by rw [HM.out]; exact (List.prefix_iff_eq_take.1 hpre).symm
  have T : Hid (∀ W, Below w.heap.size w W → Calls Tryd.prog 10 #[] W fun e w' => e = .returned (.bool true) ∧ Below W.heap.size W w') := fun W hb => three_true W (hK.keep hb)
  have I1 : Hid (∀ W, Below w.heap.size w W → Calls Tryd.prog 16 #[.slice a0 len0 cap0, .int .i64 i] W fun e w' => ∃ y cy, e = .returned (.tuple #[.slice y m cy, .int .i64 0]) ∧ LReads w' y m cy (incl z0 i) ∧ Below W.heap.size W w') := fun W hb => by
    refine (inclusion_in a0 len0 cap0 z0 i W (w0.keep hb) (by omega) (by omega) (hK.keep hb)).mono ?_
    rintro e w' ⟨v, rfl, ho, hbl⟩
    obtain ⟨y, cy, rfl, hy, _⟩ := LReads.own ho (incl_digs sumD_length _ z0 i rfl w0.2.1)
    rw [← HM.out] at hy ⊢
    exact ⟨y, cy, rfl, hy, hbl⟩
  have I2 : Hid (∀ W, Below w.heap.size w W → LReads W x (z0 ++ z1).length cx (z0 ++ z1) → Calls Tryd.prog 16 #[.slice x (z0 ++ z1).length cx, .int .i64 i] W fun e w' => ∃ y cy, e = .returned (.tuple #[.slice y n cy, .int .i64 0]) ∧ LReads w' y n cy (incl (z0 ++ z1) i) ∧ (∀ W', (Instr.sliceAt 22 (.slice y n cy) none (some (.int .i64 m)) none).run Tryd.prog W' = .ok (.slice y m cy) W') ∧ Below W.heap.size W w') := fun W hb hxx => by
    refine (inclusion_in x (z0 ++ z1).length cx (z0 ++ z1) i W hxx (by omega) (by omega) (hK.keep hb)).mono ?_
    rintro e w' ⟨v, rfl, ho, hbl⟩
    obtain ⟨y, cy, rfl, hy, _⟩ := LReads.own ho (incl_digs sumD_length _ (z0 ++ z1) i rfl (w0.2.1.append w1.2.1))
    have hsh := own_shape ho
    rw [← HN.out] at hy ⊢
    exact ⟨y, cy, rfl, hy, fun W' => slice_first W' y n cy m hsh (Nat.le_trans hmn hy.2.2.1), hbl⟩
  have DG : Hid (∀ W x cx y cy, LReads W x n cx (incl (z0 ++ z1) i) → LReads W y m cy (incl z0 i) → Calls Tryd.prog 15 #[.slice x m cx, .slice y m cy] W fun e w' => e = .returned (.bool true) ∧ Below W.heap.size W w') := fun W x cx y cy h1 h2 => by
    have h3 := h1.first m hmn
    rw [htk] at h3
    exact same_digs x y m cx cy _ W h3 h2
  generalize incl z0 i = pf at I1 DG
  generalize incl (z0 ++ z1) i = qf at I2 DG
  rw [hlx] at HU I2 hr2
  have HR2' := hidk (by rw [hlx] at HR2; exact HR2.out)
  generalize z0 ++ z1 = zz at HU I2
  have dM : decide ((m : Int) ≤ (n : Int)) = true := by rw [decide_eq_true_eq]; omega
  have dM2 : decide (m ≤ n) = true := by rw [decide_eq_true_eq]; omega
  clear hK w0 w1 hl0 hl1 hpow hr1 ho1 hb1 hr2 ho2 hb2 hx hlx hu2 hpre htk HM HN HR2
  have dB : decide ((200 : Int) < (len1 : Int)) = false := by rw [decide_eq_false_iff_not]; omega
  subst hC
  have dE : decide ((i : Int) < 0) = false := by rw [decide_eq_false_iff_not]; omega
  have dF : decide (1 ≤ (i : Int)) = false := by rw [decide_eq_false_iff_not]; omega
  have dF2 : decide (1 ≤ i) = false := by rw [decide_eq_false_iff_not]; omega

  go_enter Tryd.func7, Tryd.ntmps7
  go_wp2_with (first
    | (refine wpList_append_run rfl (.tmp 50) (.tmp 51) 22 22 rfl _ _ _ u1 rfl rfl HR1.out ?_; try simp only [Act.put, List.setIfInBounds_toArray, List.set_cons_zero, List.set_cons_succ])
    | (refine wpList_append_run rfl (.tmp 53) (.tmp 54) 22 22 rfl _ _ _ u2 rfl rfl HR2'.out ?_; try simp only [Act.put, List.setIfInBounds_toArray, List.set_cons_zero, List.set_cons_succ])
    | fail)
  refine (I1.out _ HU.out.2).mono ?_
  rintro e w2 ⟨y, cy, rfl, hy, hb2⟩
  have H2 : Hid (LReads w2 y m cy pf ∧ Below w.heap.size w w2 ∧ LReads w2 x (1 + len1) cx zz) := ⟨hy, HU.out.2.trans (hb2.mono HU.out.2.size), HU.out.1.keep hb2⟩
  clear hy hb2 HU I1 HR1 HR2'
  go_wp2_with fail
  refine (I2.out _ H2.out.2.1 H2.out.2.2).mono ?_
  rintro e w3 ⟨z, cz, rfl, hz, hsl, hb3⟩
  have H3 : Hid (LReads w3 y m cy pf ∧ Below w.heap.size w w3 ∧ LReads w3 z n cz qf) := ⟨H2.out.1.keep hb3, H2.out.2.1.trans (hb3.mono H2.out.2.1.size), hz⟩
  clear hz hb3 H2 I2
  go_wp2_with fail
  refine (T.out _ H3.out.2.1).mono ?_
  rintro e w4 ⟨rfl, hb4⟩
  have H4 : Hid (LReads w4 y m cy pf ∧ Below w.heap.size w w4 ∧ LReads w4 z n cz qf) := ⟨H3.out.1.keep hb4, H3.out.2.1.trans (hb4.mono H3.out.2.1.size), H3.out.2.2.keep hb4⟩
  clear hb4 H3 T
  go_wp2_with fail
  refine (DG.out _ _ _ _ _ H4.out.2.2 H4.out.1).mono ?_
  rintro e w5 ⟨rfl, hb5⟩
  have H5 : Hid (Below w.heap.size w w5) := H4.out.2.1.trans (hb5.mono H4.out.2.1.size)
  clear hb5 H4
  go_wp2
  go_ret
  exact ⟨rfl, H5.out⟩

set_option maxHeartbeats 4000000 in
theorem last_two (a0 : Option Addr) (len0 cap0 : Nat) (z0 : List (List UInt8)) (a1 : Option Addr) (len1 cap1 : Nat) (z1 : List (List UInt8)) (i : Nat) (w : World) (hA : 1 < len0) (hA2 : len0 ≤ 200) (k : Nat) (hk : k = split len0) (hd : 2 * k = len0) (hB : len1 ≤ 200) (hi : i < len0)
    (w0 : LReads w a0 len0 cap0 z0) (w1 : LReads w a1 len1 cap1 z1) (hK : Table 1 w) :
    Calls Tryd.prog 7 #[.slice a0 len0 cap0, .slice a1 len1 cap1, .int .i64 i] w fun e w' => e = .returned (.bool true) ∧ Below w.heap.size w w' := by
  have hl0 := w0.1
  have hl1 := w1.1
  have hpow : ∃ j, len0 = 2 ^ j := by
    obtain ⟨j, hj⟩ := split_pow len0 (by omega)
    exact ⟨j + 1, by rw [Nat.pow_succ, ← hj, ← hk]; omega⟩
  obtain ⟨v1, u1, hr1, ho1, hb1⟩ := append_any w w.heap.size (.slice none 0 0) [] z0 (World.ownsRow_nil _ _ _ _) a0 len0 cap0 w0 (Nat.le_refl _) (by simp; omega)
  rw [List.nil_append] at ho1
  obtain ⟨v2, u2, hr2, ho2, hb2⟩ := append_any u1 w.heap.size v1 z0 z1 ho1 a1 len1 cap1 (w1.keep hb1) hb1.size (by omega)
  obtain ⟨x, cx, rfl, hx, _⟩ := LReads.own ho2 (w0.2.1.append w1.2.1)
  have hlx : (z0 ++ z1).length = len0 + len1 := by rw [List.length_append, hl0, hl1]
  have hu2 : Below w.heap.size w u2 := hb1.trans hb2
  have HR1 := hidk hr1
  have HR2 := hidk hr2
  have HU : Hid (LReads u2 x (z0 ++ z1).length cx (z0 ++ z1) ∧ Below w.heap.size w u2) := ⟨hx, hu2⟩
  have hpre := Exists.elim hpow fun j hj => incl_last z1.length j z0 z1 i rfl (by omega) (by omega)
  obtain ⟨m, HM⟩ : ∃ m, Hid (m = (incl z0 i).length) := ⟨_, (rfl : (incl z0 i).length = _)⟩
  obtain ⟨n, HN⟩ : ∃ n, Hid (n = (incl (z0 ++ z1) i).length) := ⟨_, (rfl : (incl (z0 ++ z1) i).length = _)⟩
  have hmn : m ≤ n := by rw [HM.out, HN.out]; exact hpre.length_le
  have hn4 : n ≤ 400 := by
    have := incl_len (z0 ++ z1) i (by omega)
    rw [HN.out]
    omega
  have htk : (incl (z0 ++ z1) i).take m = incl z0 i := by rw [HM.out]; exact (List.prefix_iff_eq_take.1 hpre).symm
  have T : Hid (∀ W, Below w.heap.size w W → Calls Tryd.prog 10 #[] W fun e w' => e = .returned (.bool true) ∧ Below W.heap.size W w') := fun W hb => three_true W (hK.keep hb)
  have I1 : Hid (∀ W, Below w.heap.size w W → Calls Tryd.prog 16 #[.slice a0 len0 cap0, .int .i64 i] W fun e w' => ∃ y cy, e = .returned (.tuple #[.slice y m cy, .int .i64 0]) ∧ LReads w' y m cy (incl z0 i) ∧ Below W.heap.size W w') := fun W hb => by
    refine (inclusion_in a0 len0 cap0 z0 i W (w0.keep hb) (by omega) (by omega) (hK.keep hb)).mono ?_
    rintro e w' ⟨v, rfl, ho, hbl⟩
    obtain ⟨y, cy, rfl, hy, _⟩ := LReads.own ho (incl_digs sumD_length _ z0 i rfl w0.2.1)
    rw [← HM.out] at hy ⊢
    exact ⟨y, cy, rfl, hy, hbl⟩
  have I2 : Hid (∀ W, Below w.heap.size w W → LReads W x (z0 ++ z1).length cx (z0 ++ z1) → Calls Tryd.prog 16 #[.slice x (z0 ++ z1).length cx, .int .i64 i] W fun e w' => ∃ y cy, e = .returned (.tuple #[.slice y n cy, .int .i64 0]) ∧ LReads w' y n cy (incl (z0 ++ z1) i) ∧ (∀ W', (Instr.sliceAt 22 (.slice y n cy) none (some (.int .i64 m)) none).run Tryd.prog W' = .ok (.slice y m cy) W') ∧ Below W.heap.size W w') := fun W hb hxx => by
    refine (inclusion_in x (z0 ++ z1).length cx (z0 ++ z1) i W hxx (by omega) (by omega) (hK.keep hb)).mono ?_
    rintro e w' ⟨v, rfl, ho, hbl⟩
    obtain ⟨y, cy, rfl, hy, _⟩ := LReads.own ho (incl_digs sumD_length _ (z0 ++ z1) i rfl (w0.2.1.append w1.2.1))
    have hsh := own_shape ho
    rw [← HN.out] at hy ⊢
    exact ⟨y, cy, rfl, hy, fun W' => slice_first W' y n cy m hsh (Nat.le_trans hmn hy.2.2.1), hbl⟩
  have DG : Hid (∀ W x cx y cy, LReads W x n cx (incl (z0 ++ z1) i) → LReads W y m cy (incl z0 i) → Calls Tryd.prog 15 #[.slice x m cx, .slice y m cy] W fun e w' => e = .returned (.bool true) ∧ Below W.heap.size W w') := fun W x cx y cy h1 h2 => by
    have h3 := h1.first m hmn
    rw [htk] at h3
    exact same_digs x y m cx cy _ W h3 h2
  generalize incl z0 i = pf at I1 DG
  generalize incl (z0 ++ z1) i = qf at I2 DG
  rw [hlx] at HU I2 hr2
  have HR2' := hidk (by rw [hlx] at HR2; exact HR2.out)
  generalize z0 ++ z1 = zz at HU I2
  have dM : decide ((m : Int) ≤ (n : Int)) = true := by rw [decide_eq_true_eq]; omega
  have dM2 : decide (m ≤ n) = true := by rw [decide_eq_true_eq]; omega
  clear hK w0 w1 hl0 hl1 hpow hr1 ho1 hb1 hr2 ho2 hb2 hx hlx hu2 hpre htk HM HN HR2
  have dB : decide ((200 : Int) < (len1 : Int)) = false := by rw [decide_eq_false_iff_not]; omega
  have dA : decide ((200 : Int) < (len0 : Int)) = false := by rw [decide_eq_false_iff_not]; omega
  have dB : decide ((200 : Int) < (len1 : Int)) = false := by rw [decide_eq_false_iff_not]; omega
  have dC : decide ((len0 : Int) < 1) = false := by rw [decide_eq_false_iff_not]; omega
  have dG : decide ((1 : Int) < (len0 : Int)) = true := by rw [decide_eq_true_eq]; omega
  have S : Hid (∀ W, Calls Tryd.prog 13 #[.int .i64 len0] W fun e w' => e = .returned (.int .i64 k) ∧ W = w') := fun W => by
    have := split_any (len0 : Int) W (by omega)
    rw [Int.toNat_natCast, ← hk] at this
    exact this
  have hkl := split_lt len0 (by omega)
  rw [← hk] at hkl
  have cW := wrap_int (2 * (k : Int)) (by omega) (by omega)
  clear hk
  have q1 : (2 * (k : Int) != (len0 : Int)) = false := by rw [bne_eq_false_iff_eq]; omega
  have q2 : decide (2 * (k : Int) = (len0 : Int)) = true := by rw [decide_eq_true_eq]; omega
  have q3 : (2 * (k : Int) == (len0 : Int)) = true := by rw [beq_iff_eq]; omega
  clear hd
  have dE : decide ((i : Int) < 0) = false := by rw [decide_eq_false_iff_not]; omega
  have dF : decide ((len0 : Int) ≤ (i : Int)) = false := by rw [decide_eq_false_iff_not]; omega
  have dF2 : decide (len0 ≤ i) = false := by rw [decide_eq_false_iff_not]; omega

  go_enter Tryd.func7, Tryd.ntmps7
  go_wp2_with fail
  refine (S.out _).mono ?_
  rintro e w1 ⟨rfl, rfl⟩
  clear S
  go_wp2_with (first
    | (refine wpList_append_run rfl (.tmp 50) (.tmp 51) 22 22 rfl _ _ _ u1 rfl rfl HR1.out ?_; try simp only [Act.put, List.setIfInBounds_toArray, List.set_cons_zero, List.set_cons_succ])
    | (refine wpList_append_run rfl (.tmp 53) (.tmp 54) 22 22 rfl _ _ _ u2 rfl rfl HR2'.out ?_; try simp only [Act.put, List.setIfInBounds_toArray, List.set_cons_zero, List.set_cons_succ])
    | fail)
  refine (I1.out _ HU.out.2).mono ?_
  rintro e w2 ⟨y, cy, rfl, hy, hb2⟩
  have H2 : Hid (LReads w2 y m cy pf ∧ Below w.heap.size w w2 ∧ LReads w2 x (len0 + len1) cx zz) := ⟨hy, HU.out.2.trans (hb2.mono HU.out.2.size), HU.out.1.keep hb2⟩
  clear hy hb2 HU I1 HR1 HR2'
  go_wp2_with fail
  refine (I2.out _ H2.out.2.1 H2.out.2.2).mono ?_
  rintro e w3 ⟨z, cz, rfl, hz, hsl, hb3⟩
  have H3 : Hid (LReads w3 y m cy pf ∧ Below w.heap.size w w3 ∧ LReads w3 z n cz qf) := ⟨H2.out.1.keep hb3, H2.out.2.1.trans (hb3.mono H2.out.2.1.size), hz⟩
  clear hz hb3 H2 I2
  go_wp2_with fail
  refine (T.out _ H3.out.2.1).mono ?_
  rintro e w4 ⟨rfl, hb4⟩
  have H4 : Hid (LReads w4 y m cy pf ∧ Below w.heap.size w w4 ∧ LReads w4 z n cz qf) := ⟨H3.out.1.keep hb4, H3.out.2.1.trans (hb4.mono H3.out.2.1.size), H3.out.2.2.keep hb4⟩
  clear hb4 H3 T
  go_wp2_with fail
  refine (DG.out _ _ _ _ _ H4.out.2.2 H4.out.1).mono ?_
  rintro e w5 ⟨rfl, hb5⟩
  have H5 : Hid (Below w.heap.size w w5) := H4.out.2.1.trans (hb5.mono H4.out.2.1.size)
  clear hb5 H4
  go_wp2
  go_ret
  exact ⟨rfl, H5.out⟩

theorem treeLast_walk (a0 : Option Addr) (len0 cap0 : Nat) (z0 : List (List UInt8)) (a1 : Option Addr) (len1 cap1 : Nat) (z1 : List (List UInt8)) (a2 : Int) (w : World) (w0 : LReads w a0 len0 cap0 z0) (w1 : LReads w a1 len1 cap1 z1) (w2 : (Lit.int .i64 a2).wf = true) (hK : Table 1 w) :
    Calls Tryd.prog 7 #[.slice a0 len0 cap0, .slice a1 len1 cap1, .int .i64 a2] w fun e w' => e = .returned (.bool true) ∧ Below w.heap.size w w' := by
  have T := hidk (three_true w hK)
  by_cases hA : 200 < len0
  · exact last_a a0 len0 cap0 a1 len1 cap1 a2 w hA w0.2.2.2.1 T
  by_cases hB : 200 < len1
  · exact last_b a0 len0 cap0 a1 len1 cap1 a2 w (by omega) hB w1.2.2.2.1 T
  by_cases h0 : len0 = 0
  · exact last_c a0 len0 cap0 a1 len1 cap1 a2 w h0 (by omega) T
  by_cases h1 : len0 = 1
  · by_cases hn : a2 < 0
    · exact last_1n a0 len0 cap0 a1 len1 cap1 a2 w h1 (by omega) hn T
    by_cases hp : 1 ≤ a2
    · exact last_1p a0 len0 cap0 a1 len1 cap1 a2 w h1 (by omega) hp T
    · obtain ⟨i, hi⟩ : ∃ i : Nat, a2 = i := ⟨a2.toNat, by omega⟩
      subst hi
      exact last_one a0 len0 cap0 z0 a1 len1 cap1 z1 i w h1 (by omega) (by omega) w0 w1 hK
  · obtain ⟨k, hk⟩ : ∃ k, k = split len0 := ⟨_, rfl⟩
    by_cases hd : 2 * k = len0
    · by_cases hn : a2 < 0
      · exact last_2n a0 len0 cap0 a1 len1 cap1 a2 w (by omega) (by omega) (by omega) k hk hd hn T
      by_cases hp : (len0 : Int) ≤ a2
      · exact last_2p a0 len0 cap0 a1 len1 cap1 a2 w (by omega) (by omega) (by omega) k hk hd hp T
      · obtain ⟨i, hi⟩ : ∃ i : Nat, a2 = i := ⟨a2.toNat, by omega⟩
        subst hi
        exact last_two a0 len0 cap0 z0 a1 len1 cap1 z1 i w (by omega) (by omega) k hk hd (by omega) (by omega) w0 w1 hK
    · exact last_2s a0 len0 cap0 a1 len1 cap1 a2 w (by omega) (by omega) (by omega) k hk hd T
end Go.Proofs.YtpjchiihiclhiaaDoor
