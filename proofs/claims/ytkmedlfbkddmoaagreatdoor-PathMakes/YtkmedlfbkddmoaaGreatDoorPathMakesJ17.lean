/- Texts of our own that the row of PathMakes leans on, part 17. -/
import Derived.Test.YtkmedlfbkddmoaaGreatDoorPathMakesJ14
import Derived.Test.YtkmedlfbkddmoaaGreatDoorPathMakesJ15
import Derived.Test.YtkmedlfbkddmoaaGreatDoorPathMakesJ16
/- What pack.Number answers: the fewest bytes of a number, the highest first, or ErrArg. -/
namespace Go.Proofs.YtkmedlfbkddmoaaGreatDoor
open Go.RowKit Nums
set_option maxRecDepth 100000
theorem number_no (n : Int) (w : World) (h : n < 0 ∨ 4611686018427387903 < n) :
    Calls Tryz.prog 86 #[.int .i64 n] w fun e w' => e = .returned (.tuple #[.string ByteArray.empty, .int .i64 1]) ∧ w = w' := by
  rcases h with h | h
  · go_enter Tryz.func86, Tryz.ntmps86
    go_wp2
    go_ret2
    exact ⟨rfl, rfl⟩
  · have h' : ¬ n < 0 := by omega
    go_enter Tryz.func86, Tryz.ntmps86
    go_wp2
    go_ret2
    exact ⟨rfl, rfl⟩
theorem bitLen_le (N : Nat) (h : N < 2 ^ 64) : Lib.bitLen N ≤ 64 := (bitLenAux_bounds 64 N h).2.2
set_option maxRecDepth 100000 in
set_option maxHeartbeats 1000000 in
theorem number_yes (N : Nat) (w : World) (h1 : (N : Int) ≤ 4611686018427387903) :
    Calls Tryz.prog 86 #[.int .i64 N] w fun e w' => e = .returned (.tuple #[.string ⟨(num N).toArray⟩, .int .i64 0]) ∧ Below w.heap.size w w' := by
  obtain ⟨i0, hi, hz0, hz1, hz2⟩ := info_parts info5
  have h0' : ¬ (N : Int) < 0 := by omega
  have hbl := bitLen_le N (by omega)
  have hnb : nb N ≤ 8 := nb_le N (by omega)
  have len := fun w => len_any (N : Int) w (by omega) (by omega)
  have LEN : Hid (∀ w, Calls Tryz.prog 113 #[.int .u64 N] w fun e w' => e = .returned (.int .i64 (Lib.bitLen N)) ∧ w = w') := len
  clear len
  go_enter Tryz.func86, Tryz.ntmps86
  go_wp2_with (first
    | (go_at_call 113; refine (LEN.out _).mono ?_; rintro e w' ⟨rfl, rfl⟩)
    | (at_make; refine wpList_make_full _ rfl (.tmp 16) (.tmp 16) 69 rfl w.heap.size 5 i0 (.int .u8 0) 1 Tryz.underlying69 hi hz0 hz1 .i64 .i64 _ _ (nb N) rfl rfl ?c1 ?c2 ?c3 ?c4 ?c5 ?_)
    | fail)
  case c1 => unfold nb; omega
  case c2 => unfold nb; omega
  case c3 => rw [hz2]; omega
  case c4 => unfold maxLen; omega
  case c5 => exact Nat.le_refl _
  intro w1 hown hgrow
  rw [cells_made0 _ N] at hown
  have hB : Below w.heap.size w w1 := (Below.refl _ _).grown hgrow (Nat.le_refl _) (by intro k hk; cases hk)
  clear hgrow LEN hi hz0 hz1 hz2
  go_wp2
  go_loopw [0, 5] (fun v i wr => ∃ j m q : Nat, j + m = nb N ∧ Hid (q = N / 256 ^ m) ∧ v = .int .i64 (q : Int) ∧ i = .int .i64 ((j : Int) - 1) ∧
      wr.ownsRow w.heap.size 5 1 (.slice (some ⟨w.heap.size, 0, none⟩) (nb N) (nb N)) (nb N) (cellsOf (List.replicate j 0 ++ be m N)) ∧ Below w.heap.size w wr)
    (fun _ i _ => (intOf i + 1).toNat)
  case atStart => exact ⟨nb N, 0, N, rfl, (by simp : N = N / 256 ^ 0), rfl, rfl, hown, hB⟩
  case round =>
    clear hown hB
    obtain ⟨j, m, q, hjm, HQ, rfl, hi, hown, hB⟩ := hrel
    cases j with
    | zero =>
      obtain rfl := hi
      have hm : m = nb N := by omega
      have hc := run_convert_bytes_back (P := Tryz.prog) wr 69 9 5 ⟨w.heap.size, 0, none⟩ (nb N) (be m N) Tryz.underlying69 Tryz.underlying5 Tryz.underlying9 (cells_at (by simpa using hown) (by rw [be_length, hm]))
      rw [be_length] at hc
      subst hm
      clear hown hjm
      go_wp2
      go_ret2
      exact ⟨rfl, hB⟩
    | succ j =>
      obtain rfl := hi
      have hq : (q : Int) ≤ 4611686018427387903 := by
        have := Nat.div_le_self N (256 ^ m)
        rw [← HQ.out] at this; omega
      have hfz := hown.frozenAt j
      have hcell := cell_at hown (by simp [be_length]; omega) j (by omega)
      have hst := hown.stored j (.int .u8 ((UInt8.ofNat (N / 256 ^ m % 256)).toNat))
      rw [cellsOf_set, be_row] at hst
      have HST : Hid _ := hst.1
      have HB : Hid (Below w.heap.size w (wr.setCell ⟨w.heap.size, j, none⟩ (.int .u8 ((UInt8.ofNat (N / 256 ^ m % 256)).toNat)))) := hB.setCell (Nat.le_refl _) _
      have e : ((UInt8.ofNat (N / 256 ^ m % 256)).toNat : Int) = (q : Int) % 256 := by
        rw [UInt8.toNat_ofNat', HQ.out]; omega
      rw [e] at HST HB
      clear hst hown hB e
      go_wp2
      go_roundw
      case rel =>
        refine ⟨j, m + 1, q / 256, by omega, ?_, by go_num, by go_num, HST.out, HB.out⟩
        show q / 256 = _
        rw [HQ.out, Nat.div_div_eq_div_mul, Nat.pow_succ]
      case measure => simp [intOf]
theorem number_any (n : Int) (w : World) :
    Calls Tryz.prog 86 #[.int .i64 n] w fun e w' => e = .returned (.tuple #[.string (nOf n), .int .i64 (neOf n)]) ∧ Below w.heap.size w w' := by
  by_cases h : 0 ≤ n ∧ n ≤ 4611686018427387903
  · obtain ⟨N, rfl⟩ : ∃ N : Nat, n = N := ⟨n.toNat, by omega⟩
    refine (number_yes N w h.2).mono fun e w' ⟨he, hb⟩ => ⟨?_, hb⟩
    rw [he, nOf, neOf, if_pos h, if_pos h, Int.toNat_natCast]
  · refine (number_no n w (by omega)).mono fun e w' ⟨he, hw⟩ => ⟨?_, ?_⟩
    · rw [he, nOf, neOf, if_neg h, if_neg h]
    · subst hw; exact Below.refl _ _
theorem refNumber_no (n : Int) (w : World) (h : n < 0 ∨ 4611686018427387903 < n) :
    Calls Tryz.prog 123 #[.int .i64 n] w fun e w' => e = .returned (.tuple #[.string ByteArray.empty, .int .i64 1]) ∧ w = w' := by
  rcases h with h | h
  · go_enter Tryz.func123, Tryz.ntmps123
    go_wp2
    go_ret2
    exact ⟨rfl, rfl⟩
  · have h' : ¬ n < 0 := by omega
    go_enter Tryz.func123, Tryz.ntmps123
    go_wp2
    go_ret2
    exact ⟨rfl, rfl⟩
theorem one_byte (W : World) (q : Nat) :
    Sem.run Tryz.prog (convert 69 9 (.slice (some ⟨W.heap.size, 0, none⟩) 1 1)) (W.alloc (.cells #[.int .u8 ((q : Int) % 256)] 5)) =
      .ok (.string ⟨#[UInt8.ofNat (q % 256)]⟩) (W.alloc (.cells #[.int .u8 ((q : Int) % 256)] 5)) := by
  refine run_convert_bytes_back (P := Tryz.prog) _ 69 9 5 ⟨W.heap.size, 0, none⟩ 1 [UInt8.ofNat (q % 256)] Tryz.underlying69 Tryz.underlying5 Tryz.underlying9 ?_
  intro j hj
  match j, hj with
  | 0, _ => rw [add_plain]; simp
theorem bytes_front (x : UInt8) (b : ByteArray) : ((⟨#[x]⟩ : ByteArray) ++ b).data.toList = x :: b.data.toList := by
  simp [ByteArray.data_append]
theorem fits_step {m N : Nat} (h : 0 < N / 256 ^ m) : 256 ^ (m + 1 - 1) ≤ N := by
  rw [Nat.add_sub_cancel]
  exact (Nat.div_pos_iff.mp h).2
theorem fits_end {m N : Nat} (h : N / 256 ^ m = 0) (h2 : m = 0 ∨ 256 ^ (m - 1) ≤ N) : Fits m N := by
  refine ⟨?_, h2⟩
  have hp : 0 < 256 ^ m := Nat.pow_pos (by decide)
  exact (Nat.div_eq_zero_iff_lt hp).mp h
theorem few {m N : Nat} (hN : N < 2 ^ 62) (h2 : m = 0 ∨ 256 ^ (m - 1) ≤ N) : m ≤ 8 := by
  rcases h2 with h | h
  · omega
  · by_cases hm : m ≤ 8
    · exact hm
    · have := Nat.pow_le_pow_right (show 0 < 256 by decide) (show 8 ≤ m - 1 by omega)
      omega
set_option maxHeartbeats 1000000 in
theorem refNumber_yes (N : Nat) (w : World) (h1 : (N : Int) ≤ 4611686018427387903) :
    Calls Tryz.prog 123 #[.int .i64 N] w fun e w' => e = .returned (.tuple #[.string ⟨(num N).toArray⟩, .int .i64 0]) ∧ Below w.heap.size w w' := by
  have h0' : ¬ (N : Int) < 0 := by omega
  go_enter Tryz.func123, Tryz.ntmps123
  go_wp2
  go_loopw [0, 4] (fun v s wr => ∃ m q : Nat, ∃ b : ByteArray, q ≤ N ∧ Hid (q = N / 256 ^ m) ∧ Hid (m = 0 ∨ 256 ^ (m - 1) ≤ N) ∧ v = .int .i64 (q : Int) ∧ s = .string b ∧ Hid (b.data.toList = be m N) ∧ b.size ≤ 8 ∧ Below w.heap.size w wr)
    (fun v _ _ => (intOf v).toNat)
  case atStart => exact ⟨0, N, ⟨#[]⟩, Nat.le_refl _, (by simp : N = N / 256 ^ 0), Or.inl rfl, rfl, rfl, (rfl : _ = be 0 N), (by decide), Below.refl _ _⟩
  case round =>
    obtain ⟨m, q, b, hqN, HQ, HM, rfl, rfl, HB, hb8, hB⟩ := hrel
    by_cases hq : (0 : Int) < (q : Int)
    · have hconv := one_byte wr q
      have HM1 : Hid (m + 1 = 0 ∨ 256 ^ (m + 1 - 1) ≤ N) := by
        have := HQ.out
        exact Or.inr (fits_step (by omega))
      have HB1 : Hid (((⟨#[UInt8.ofNat (q % 256)]⟩ : ByteArray) ++ b).data.toList = be (m + 1) N) := by
        show _ = _
        rw [bytes_front, HB.out, be, HQ.out]
      have HS : Hid (((⟨#[UInt8.ofNat (q % 256)]⟩ : ByteArray) ++ b).size ≤ 8) := by
        show _ ≤ _
        have := few (N := N) (by omega) HM1.out
        have e := congrArg List.length HB1.out
        rw [be_length] at e
        simp only [Array.length_toList] at e
        exact Nat.le_trans (Nat.le_of_eq e) this
      go_wp2
      go_roundw
      case rel =>
        refine ⟨m + 1, q / 256, _, by omega, ?_, HM1, by go_num, rfl, HB1, HS.out, ?_⟩
        · show q / 256 = _
          rw [HQ.out, Nat.div_div_eq_div_mul, Nat.pow_succ]
        · exact hB.alloc hB.size _
      case measure => simp [intOf]; omega
    · have HF : Hid (b = ⟨(num N).toArray⟩) := by
        show b = _
        have hq0 : N / 256 ^ m = 0 := by have := HQ.out; omega
        have := num_of_fits (N := N) (by omega) (fits_end hq0 HM.out)
        rw [← this, ← HB.out]
      go_wp2
      go_ret2
      rw [← HF.out]
      exact ⟨rfl, hB⟩
theorem refNumber_any (n : Int) (w : World) :
    Calls Tryz.prog 123 #[.int .i64 n] w fun e w' => e = .returned (.tuple #[.string (nOf n), .int .i64 (neOf n)]) ∧ Below w.heap.size w w' := by
  by_cases h : 0 ≤ n ∧ n ≤ 4611686018427387903
  · obtain ⟨N, rfl⟩ : ∃ N : Nat, n = N := ⟨n.toNat, by omega⟩
    refine (refNumber_yes N w h.2).mono fun e w' ⟨he, hb⟩ => ⟨?_, hb⟩
    rw [he, nOf, neOf, if_pos h, if_pos h, Int.toNat_natCast]
  · refine (refNumber_no n w (by omega)).mono fun e w' ⟨he, hw⟩ => ⟨?_, ?_⟩
    · rw [he, nOf, neOf, if_neg h, if_neg h]
    · subst hw; exact Below.refl _ _
end Go.Proofs.YtkmedlfbkddmoaaGreatDoor
