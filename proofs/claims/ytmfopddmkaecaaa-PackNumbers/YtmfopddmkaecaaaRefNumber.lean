/- What the document's own Number answers: the same as nOf, neOf tell. -/
import Derived.Test.YtmfopddmkaecaaaNumbers
namespace Go.Proofs.Ytmfopddmkaecaaa
open Go.RowKit Nums

theorem refNumber_no (n : Int) (w : World) (h : n < 0 ∨ 4611686018427387903 < n) :
    Calls Try.prog 10 #[.int .i64 n] w fun e w' => e = .returned (.tuple #[.string ByteArray.empty, .int .i64 1]) ∧ w = w' := by
  rcases h with h | h
  · go_enter Try.func10, Try.ntmps10
    go_wp2
    go_ret2
    exact ⟨rfl, rfl⟩
  · have h' : ¬ n < 0 := by omega
    go_enter Try.func10, Try.ntmps10
    go_wp2
    go_ret2
    exact ⟨rfl, rfl⟩

theorem one_byte (W : World) (q : Nat) :
    Sem.run Try.prog (convert 30 9 (.slice (some ⟨W.heap.size, 0, none⟩) 1 1)) (W.alloc (.cells #[.int .u8 ((q : Int) % 256)] 5)) =
      .ok (.string ⟨#[UInt8.ofNat (q % 256)]⟩) (W.alloc (.cells #[.int .u8 ((q : Int) % 256)] 5)) := by
  refine run_convert_bytes_back (P := Try.prog) _ 30 9 5 ⟨W.heap.size, 0, none⟩ 1 [UInt8.ofNat (q % 256)] Try.underlying30 Try.underlying5 Try.underlying9 ?_
  intro j hj
  match j, hj with
  | 0, _ => rw [add_plain]; simp

theorem bytes_front (x : UInt8) (b : ByteArray) : ((⟨#[x]⟩ : ByteArray) ++ b).data.toList = x :: b.data.toList := by
  simp [ByteArray.data_append]

theorem fits_step {m N : Nat} (h : 0 < N / 256 ^ m) : 256 ^ (m + 1 - 1) ≤ N := by
  rw [Nat.add_sub_cancel]
  exact (Nat.div_pos_iff.mp h).2

theorem fits_end {m N : Nat} (h : N / 256 ^ m = 0) (h2 : m = 0 ∨ 256 ^ (m - 1) ≤ N) : Fits m N := by
  refine ⟨?_, h2⟩
  have hp : 0 < 256 ^ m := Nat.pow_pos (by decide)
  exact (Nat.div_eq_zero_iff_lt hp).mp h

theorem few {m N : Nat} (hN : N < 2 ^ 62) (h2 : m = 0 ∨ 256 ^ (m - 1) ≤ N) : m ≤ 8 := by
  rcases h2 with h | h
  · omega
  · by_cases hm : m ≤ 8
    · exact hm
    · have := Nat.pow_le_pow_right (show 0 < 256 by decide) (show 8 ≤ m - 1 by omega)
      omega

set_option maxHeartbeats 1000000 in
theorem refNumber_yes (N : Nat) (w : World) (h1 : (N : Int) ≤ 4611686018427387903) :
    Calls Try.prog 10 #[.int .i64 N] w fun e w' => e = .returned (.tuple #[.string ⟨(num N).toArray⟩, .int .i64 0]) ∧ Below w.heap.size w w' := by
  have h0' : ¬ (N : Int) < 0 := by omega
  go_enter Try.func10, Try.ntmps10
  go_wp2
  go_loopw [0, 4] (fun v s wr => ∃ m q : Nat, ∃ b : ByteArray, q ≤ N ∧ Hid (q = N / 256 ^ m) ∧ Hid (m = 0 ∨ 256 ^ (m - 1) ≤ N) ∧ v = .int .i64 (q : Int) ∧ s = .string b ∧ Hid (b.data.toList = be m N) ∧ b.size ≤ 8 ∧ Below w.heap.size w wr)
    (fun v _ _ => (intOf v).toNat)
  case atStart => exact ⟨0, N, ⟨#[]⟩, Nat.le_refl _, (by simp : N = N / 256 ^ 0), Or.inl rfl, rfl, rfl, (rfl : _ = be 0 N), (by decide), Below.refl _ _⟩
  case round =>
    obtain ⟨m, q, b, hqN, HQ, HM, rfl, rfl, HB, hb8, hB⟩ := hrel
    by_cases hq : (0 : Int) < (q : Int)
    · have hconv := one_byte wr q
      have HM1 : Hid (m + 1 = 0 ∨ 256 ^ (m + 1 - 1) ≤ N) := by
        have := HQ.out
        exact Or.inr (fits_step (by omega))
      have HB1 : Hid (((⟨#[UInt8.ofNat (q % 256)]⟩ : ByteArray) ++ b).data.toList = be (m + 1) N) := by
        show _ = _
        rw [bytes_front, HB.out, be, HQ.out]
      have HS : Hid (((⟨#[UInt8.ofNat (q % 256)]⟩ : ByteArray) ++ b).size ≤ 8) := by
        show _ ≤ _
        have := few (N := N) (by omega) HM1.out
        have e := congrArg List.length HB1.out
        rw [be_length] at e
        simp only [Array.length_toList] at e
        exact Nat.le_trans (Nat.le_of_eq e) this
      go_wp2
      go_roundw
      case rel =>
        refine ⟨m + 1, q / 256, _, by omega, ?_, HM1, by go_num, rfl, HB1, HS.out, ?_⟩
        · show q / 256 = _
          rw [HQ.out, Nat.div_div_eq_div_mul, Nat.pow_succ]
        · exact hB.alloc hB.size _
      case measure => simp [intOf]; omega
    · have HF : Hid (b = ⟨(num N).toArray⟩) := by
        show b = _
        have hq0 : N / 256 ^ m = 0 := by have := HQ.out; omega
        have := num_of_fits (N := N) (by omega) (fits_end hq0 HM.out)
        rw [← this, ← HB.out]
      go_wp2
      go_ret2
      rw [← HF.out]
      exact ⟨rfl, hB⟩

theorem refNumber_any (n : Int) (w : World) :
    Calls Try.prog 10 #[.int .i64 n] w fun e w' => e = .returned (.tuple #[.string (nOf n), .int .i64 (neOf n)]) ∧ Below w.heap.size w w' := by
  by_cases h : 0 ≤ n ∧ n ≤ 4611686018427387903
  · obtain ⟨N, rfl⟩ : ∃ N : Nat, n = N := ⟨n.toNat, by omega⟩
    refine (refNumber_yes N w h.2).mono fun e w' ⟨he, hb⟩ => ⟨?_, hb⟩
    rw [he, nOf, neOf, if_pos h, if_pos h, Int.toNat_natCast]
  · refine (refNumber_no n w (by omega)).mono fun e w' ⟨he, hw⟩ => ⟨?_, ?_⟩
    · rw [he, nOf, neOf, if_neg h, if_neg h]
    · subst hw; exact Below.refl _ _
end Go.Proofs.Ytmfopddmkaecaaa
