/- PackRises returns true for any two integers. -/
import Derived.Test.YtmfopddmkaecaaaNumbers
namespace Go.Proofs.Ytmfopddmkaecaaa
open Go.RowKit Nums

theorem below3 {w a b c : World} (h1 : Below w.heap.size w a) (h2 : Below a.heap.size a b) (h3 : Below b.heap.size b c) : Below w.heap.size w c :=
  (h1.trans (h2.mono h1.size)).trans (h3.mono (Nat.le_trans h1.size h2.size))

theorem rises_no (n m : Int) (w : World) (s : ByteArray) (H1 : Hid (nOf n = s ∧ neOf n = 1)) :
    Calls Try.prog 5 #[.int .i64 n, .int .i64 m] w fun e w' => e = .returned (.bool true) ∧ Below w.heap.size w w' := by
  go_enter Try.func5, Try.ntmps5
  go_wp2_with fail
  refine (number_lit H1.out _).mono ?_
  rintro e w1 ⟨rfl, hb1⟩
  go_wp2_with fail
  refine (number_any m _).mono ?_
  rintro e w2 ⟨rfl, hb2⟩
  go_wp2_with fail
  refine (numbers_any _).mono ?_
  rintro e w3 ⟨rfl, hb3⟩
  go_wp2
  go_ret
  exact ⟨rfl, below3 hb1 hb2 hb3⟩

theorem rises_no2 (n m : Int) (w : World) (s t : ByteArray) (H1 : Hid (nOf n = s ∧ neOf n = 0)) (H2 : Hid (nOf m = t ∧ neOf m = 1)) :
    Calls Try.prog 5 #[.int .i64 n, .int .i64 m] w fun e w' => e = .returned (.bool true) ∧ Below w.heap.size w w' := by
  go_enter Try.func5, Try.ntmps5
  go_wp2_with fail
  refine (number_lit H1.out _).mono ?_
  rintro e w1 ⟨rfl, hb1⟩
  go_wp2_with fail
  refine (number_lit H2.out _).mono ?_
  rintro e w2 ⟨rfl, hb2⟩
  go_wp2_with fail
  refine (numbers_any _).mono ?_
  rintro e w3 ⟨rfl, hb3⟩
  go_wp2
  go_ret
  exact ⟨rfl, below3 hb1 hb2 hb3⟩

theorem rises_yes (n m : Int) (w : World) (s t : ByteArray) (H1 : Hid (nOf n = s ∧ neOf n = 0)) (H2 : Hid (nOf m = t ∧ neOf m = 0))
    (hc : ((s.size : Int) < (t.size : Int) ∧ n < m ∧ (n == m) = false ∧ (s.toList == t.toList) = false) ∨
      (¬ (s.size : Int) < (t.size : Int) ∧ ((s.size : Int) == (t.size : Int)) = true ∧ Op.bytesLess s.toList t.toList = true ∧ n < m ∧ (n == m) = false ∧ (s.toList == t.toList) = false) ∨
      (¬ (s.size : Int) < (t.size : Int) ∧ ((s.size : Int) == (t.size : Int)) = true ∧ Op.bytesLess s.toList t.toList = false ∧ ¬ n < m ∧ (n == m) = false ∧ (s.toList == t.toList) = false) ∨
      (¬ (s.size : Int) < (t.size : Int) ∧ ((s.size : Int) == (t.size : Int)) = true ∧ Op.bytesLess s.toList t.toList = false ∧ ¬ n < m ∧ (n == m) = true ∧ (s.toList == t.toList) = true) ∨
      (¬ (s.size : Int) < (t.size : Int) ∧ ((s.size : Int) == (t.size : Int)) = false ∧ ¬ n < m ∧ (n == m) = false ∧ (s.toList == t.toList) = false)) :
    Calls Try.prog 5 #[.int .i64 n, .int .i64 m] w fun e w' => e = .returned (.bool true) ∧ Below w.heap.size w w' := by
  rcases hc with ⟨c1, c2, c3, c4⟩ | ⟨c1, c2, c3, c4, c5, c6⟩ | ⟨c1, c2, c3, c4, c5, c6⟩ | ⟨c1, c2, c3, c4, c5, c6⟩ | ⟨c1, c2, c3, c4, c5⟩
  all_goals
    go_enter Try.func5, Try.ntmps5
    go_wp2_with fail
    refine (number_lit H1.out _).mono ?_
    rintro e w1 ⟨rfl, hb1⟩
    go_wp2_with fail
    refine (number_lit H2.out _).mono ?_
    rintro e w2 ⟨rfl, hb2⟩
    go_wp2_with fail
    refine (numbers_any _).mono ?_
    rintro e w3 ⟨rfl, hb3⟩
    go_wp2
    go_ret
    exact ⟨rfl, below3 hb1 hb2 hb3⟩

theorem nOf_yes (N : Nat) (h : (N : Int) ≤ 4611686018427387903) : nOf N = ⟨(num N).toArray⟩ ∧ neOf N = 0 := by
  rw [nOf, neOf, if_pos ⟨by omega, h⟩, if_pos ⟨by omega, h⟩]; simp

theorem nOf_no (n : Int) (h : ¬ (0 ≤ n ∧ n ≤ 4611686018427387903)) : nOf n = ByteArray.empty ∧ neOf n = 1 := by
  rw [nOf, neOf, if_neg h, if_neg h]; exact ⟨rfl, rfl⟩

theorem packRises_walk (a0 a1 : Int) (w : World) (_w0 : (Lit.int .i64 a0).wf = true) (_w1 : (Lit.int .i64 a1).wf = true) :
    Calls Try.prog 5 #[.int .i64 a0, .int .i64 a1] w fun e w' => e = .returned (.bool true) ∧ Below w.heap.size w w' := by
  by_cases h0 : 0 ≤ a0 ∧ a0 ≤ 4611686018427387903
  · obtain ⟨N, rfl⟩ : ∃ N : Nat, a0 = N := ⟨a0.toNat, by omega⟩
    by_cases h1 : 0 ≤ a1 ∧ a1 ≤ 4611686018427387903
    · obtain ⟨M, rfl⟩ : ∃ M : Nat, a1 = M := ⟨a1.toNat, by omega⟩
      have hN : N < 2 ^ 64 := by omega
      have hM : M < 2 ^ 64 := by omega
      refine rises_yes N M w ⟨(num N).toArray⟩ ⟨(num M).toArray⟩ (nOf_yes N h0.2) (nOf_yes M h1.2) ?_
      have e1 : (⟨(num N).toArray⟩ : ByteArray).size = nb N := by show (num N).toArray.size = _; simp [num_length]
      have e2 : (⟨(num M).toArray⟩ : ByteArray).size = nb M := by show (num M).toArray.size = _; simp [num_length]
      have l1 : (⟨(num N).toArray⟩ : ByteArray).toList = num N := by rw [ByteArray.toList_eq]
      have l2 : (⟨(num M).toArray⟩ : ByteArray).toList = num M := by rw [ByteArray.toList_eq]
      rw [e1, e2, l1, l2]
      have vN := val_num N hN
      have vM := val_num M hM
      have hne : N ≠ M → (num N == num M) = false := fun h => by
        simp only [beq_eq_false_iff_ne, ne_eq]
        intro e; apply h; rw [← vN, e, vM]
      rcases Nat.lt_trichotomy (nb N) (nb M) with hl | hl | hl
      · have := nb_lt hN hM hl
        exact .inl ⟨by omega, by omega, by simp; omega, hne (by omega)⟩
      · have hb := less_val (num N) (num M) (by rw [num_length, num_length, hl])
        rw [vN, vM] at hb
        rcases Nat.lt_trichotomy N M with h | h | h
        · exact .inr (.inl ⟨by omega, by simp [hl], by rw [hb]; simp [h], by omega, by simp; omega, hne (by omega)⟩)
        · subst h
          exact .inr (.inr (.inr (.inl ⟨by omega, by simp, by rw [hb]; simp, by omega, by simp, by simp⟩)))
        · exact .inr (.inr (.inl ⟨by omega, by simp [hl], by rw [hb]; simp; omega, by omega, by simp; omega, hne (by omega)⟩))
      · have := nb_lt hM hN hl
        exact .inr (.inr (.inr (.inr ⟨by omega, by simp; omega, by omega, by simp; omega, hne (by omega)⟩)))
    · exact rises_no2 _ a1 w _ _ (nOf_yes N h0.2) (nOf_no a1 h1)
  · exact rises_no a0 a1 w _ (nOf_no a0 h0)

end Go.Proofs.Ytmfopddmkaecaaa
