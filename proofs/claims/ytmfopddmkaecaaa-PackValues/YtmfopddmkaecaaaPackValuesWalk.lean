/- PackValues returns true for any integer and any text. -/
import Derived.Test.YtmfopddmkaecaaaNumbers
namespace Go.Proofs.Ytmfopddmkaecaaa
open Go.RowKit Nums

theorem num_isNum (N : Nat) (h : N < 4611686018427387904) : isNum (num N) = true := by
  have hN : N < 2 ^ 64 := by omega
  unfold isNum
  rw [decide_eq_true_eq, num_length, val_num N hN]
  refine ⟨nb_le N hN, ?_, h⟩
  have hf := fits_nb N hN
  unfold num
  generalize nb N = k at hf
  match k with
  | 0 => simp [be]
  | k + 1 =>
    obtain ⟨h1, h2⟩ := hf
    simp at h2
    have hd : 0 < N / 256 ^ k := Nat.div_pos h2 (Nat.pow_pos (by decide))
    have hl : N / 256 ^ k < 256 := by
      rw [Nat.div_lt_iff_lt_mul (Nat.pow_pos (by decide)), Nat.mul_comm, ← Nat.pow_succ]; exact h1
    simp only [be, List.getElem?_cons_zero, ne_eq, Option.some.injEq]
    intro e
    have := congrArg UInt8.toNat e
    rw [UInt8.toNat_ofNat'] at this
    simp at this
    omega

theorem num_val (l : List UInt8) (h : isNum l = true) : num (val l) = l := by
  unfold isNum at h
  rw [decide_eq_true_eq] at h
  obtain ⟨h1, h2, h3⟩ := h
  have hf : Fits l.length (val l) := by
    refine ⟨val_lt l, ?_⟩
    match l with
    | [] => exact .inl rfl
    | x :: r =>
      right
      rw [val_cons]
      simp at h2 ⊢
      have hx : 0 < x.toNat := by
        rcases Nat.eq_zero_or_pos x.toNat with h | h
        · exact absurd (UInt8.toNat_inj.mp (by simpa using h)) h2
        · exact h
      have := Nat.le_mul_of_pos_left (256 ^ r.length) hx
      omega
  rw [← num_of_fits (by omega) hf, be_val]

theorem packValues_rest (n : Int) (s t : ByteArray) (v e1 f1 w1 g1 : Int) (w : World) (hs : s.size ≤ 262144)
    (H1 : Hid (nOf n = t ∧ neOf n = e1)) (H2 : Hid (∀ w, Calls Try.prog 11 #[.string t] w fun e w' => e = .returned (.tuple #[.int .i64 v, .int .i64 f1]) ∧ w = w'))
    (H3 : Hid (∀ w, Calls Try.prog 11 #[.string s] w fun e w' => e = .returned (.tuple #[.int .i64 w1, .int .i64 g1]) ∧ w = w'))
    (hc : (e1 == 0) = false ∨ ((e1 == 0) = true ∧ (f1 != 0) = false ∧ (v != n) = false))
    (hd : (g1 != 0) = true ∨ ((g1 != 0) = false ∧ Hid (nOf w1 = s ∧ neOf w1 = 0))) :
    Calls Try.prog 4 #[.int .i64 n, .string s] w fun e w' => e = .returned (.bool true) ∧ Below w.heap.size w w' := by
  rcases hc with hc | ⟨hc, hc2, hc3⟩
  all_goals
    rcases hd with hd | ⟨hd, H4⟩
    · go_enter Try.func4, Try.ntmps4
      go_wp2_with fail
      refine (number_lit H1.out _).mono ?_
      rintro e x1 ⟨rfl, hb1⟩
      go_wp2_with fail
      refine (H2.out _).mono ?_
      rintro e _ ⟨rfl, rfl⟩
      go_wp2_with fail
      refine (H3.out _).mono ?_
      rintro e _ ⟨rfl, rfl⟩
      go_wp2_with fail
      refine (numbers_any _).mono ?_
      rintro e x3 ⟨rfl, hb3⟩
      go_wp2
      go_ret
      exact ⟨rfl, hb1.trans (hb3.mono hb1.size)⟩
    · go_enter Try.func4, Try.ntmps4
      go_wp2_with fail
      refine (number_lit H1.out _).mono ?_
      rintro e x1 ⟨rfl, hb1⟩
      go_wp2_with fail
      refine (H2.out _).mono ?_
      rintro e _ ⟨rfl, rfl⟩
      go_wp2_with fail
      refine (H3.out _).mono ?_
      rintro e _ ⟨rfl, rfl⟩
      go_wp2_with fail
      refine (number_lit H4.out _).mono ?_
      rintro e x2 ⟨rfl, hb2⟩
      go_wp2_with fail
      refine (numbers_any _).mono ?_
      rintro e x3 ⟨rfl, hb3⟩
      go_wp2
      go_ret
      exact ⟨rfl, (hb1.trans (hb2.mono hb1.size)).trans (hb3.mono (Nat.le_trans hb1.size hb2.size))⟩

theorem nOf_in (N : Nat) (h : N < 4611686018427387904) : nOf N = ⟨(num N).toArray⟩ ∧ neOf N = 0 := by
  rw [nOf, neOf, if_pos ⟨by omega, by omega⟩, if_pos ⟨by omega, by omega⟩]; simp

theorem nOf_out (n : Int) (h : ¬ (0 ≤ n ∧ n ≤ 4611686018427387903)) : nOf n = ⟨([] : List UInt8).toArray⟩ ∧ neOf n = 1 := by
  rw [nOf, neOf, if_neg h, if_neg h]; exact ⟨rfl, rfl⟩

theorem packValues_walk (a0 : Int) (a1 : ByteArray) (w : World) (_w0 : (Lit.int .i64 a0).wf = true) (w1 : a1.size ≤ maxLen) :
    Calls Try.prog 4 #[.int .i64 a0, .string a1] w fun e w' => e = .returned (.bool true) ∧ Below w.heap.size w w' := by
  by_cases hlong : (262144 : Int) < (a1.size : Int)
  · unfold maxLen at w1
    go_enter Try.func4, Try.ntmps4
    go_wp2
    go_ret
    exact ⟨rfl, Below.refl _ _⟩
  · have hs : a1.size ≤ 262144 := by omega
    have hd : (eOf a1.data.toList != 0) = true ∨ ((eOf a1.data.toList != 0) = false ∧ Hid (nOf (vOf a1.data.toList) = a1 ∧ neOf (vOf a1.data.toList) = 0)) := by
      cases hi : isNum a1.data.toList
      · left; rw [(v_no hi).2]; decide
      · right
        rw [(v_yes hi).1, (v_yes hi).2]
        refine ⟨by decide, ?_⟩
        have hv : val a1.data.toList < 4611686018427387904 := by
          have h := hi; unfold isNum at h; rw [decide_eq_true_eq] at h; exact h.2.2
        have := nOf_in _ hv
        rw [num_val _ hi] at this
        exact this
    by_cases h0 : 0 ≤ a0 ∧ a0 ≤ 4611686018427387903
    · obtain ⟨N, rfl⟩ : ∃ N : Nat, a0 = N := ⟨a0.toNat, by omega⟩
      have hN : N < 4611686018427387904 := by omega
      have hi := num_isNum N hN
      have e1 := (v_yes hi).1
      rw [val_num N (by omega)] at e1
      refine packValues_rest N a1 ⟨(num N).toArray⟩ N 0 0 _ _ w hs (nOf_in N hN) (fun w => value_lit ⟨e1, (v_yes hi).2⟩ (by rw [num_length]; exact nb_le N (by omega)) w) (fun w => value_any a1 w w1) (.inr ⟨by decide, by decide, by simp⟩) hd
    · refine packValues_rest a0 a1 ⟨([] : List UInt8).toArray⟩ 0 1 0 _ _ w hs (nOf_out a0 h0) (fun w => value_lit (by decide +kernel) (by decide) w) (fun w => value_any a1 w w1) (.inl (by decide)) hd
end Go.Proofs.Ytmfopddmkaecaaa
