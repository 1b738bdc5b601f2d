/- Texts of our own that the row of PathCrosses leans on, part 10. -/
import Derived.Test.YtkmedlfbkddmoaaDoorPathCrossesJ2
import Derived.Test.YtkmedlfbkddmoaaDoorPathCrossesJ5
import Derived.Test.YtkmedlfbkddmoaaDoorPathCrossesJ9
/- What pack.Number answers: the fewest bytes of a number, the highest first, or ErrArg. -/
namespace Go.Proofs.YtkmedlfbkddmoaaDoor
open Go.RowKit Nums
set_option maxRecDepth 100000
theorem number_no (n : Int) (w : World) (h : n < 0 ∨ 4611686018427387903 < n) :
    Calls Tryd.prog 77 #[.int .i64 n] w fun e w' => e = .returned (.tuple #[.string ByteArray.empty, .int .i64 1]) ∧ w = w' := by
  rcases h with h | h
  · go_enter Tryd.func77, Tryd.ntmps77
    go_wp2
    go_ret2
    exact ⟨rfl, rfl⟩
  · have h' : ¬ n < 0 := by omega
    go_enter Tryd.func77, Tryd.ntmps77
    go_wp2
    go_ret2
    exact ⟨rfl, rfl⟩
theorem bitLen_le (N : Nat) (h : N < 2 ^ 64) : Lib.bitLen N ≤ 64 := (bitLenAux_bounds 64 N h).2.2
set_option maxRecDepth 100000 in
set_option maxHeartbeats 1000000 in
theorem number_yes (N : Nat) (w : World) (h1 : (N : Int) ≤ 4611686018427387903) :
    Calls Tryd.prog 77 #[.int .i64 N] w fun e w' => e = .returned (.tuple #[.string ⟨(num N).toArray⟩, .int .i64 0]) ∧ Below w.heap.size w w' := by
  obtain ⟨i0, hi, hz0, hz1, hz2⟩ := info_parts info5
  have h0' : ¬ (N : Int) < 0 := by omega
  have hbl := bitLen_le N (by omega)
  have hnb : nb N ≤ 8 := nb_le N (by omega)
  have len := fun w => len_any (N : Int) w (by omega) (by omega)
  have LEN : Hid (∀ w, Calls Tryd.prog 79 #[.int .u64 N] w fun e w' => e = .returned (.int .i64 (Lib.bitLen N)) ∧ w = w') := len
  clear len
  go_enter Tryd.func77, Tryd.ntmps77
  go_wp2_with (first
    | (go_at_call 79; refine (LEN.out _).mono ?_; rintro e w' ⟨rfl, rfl⟩)
    | (at_make; refine wpList_make_full _ rfl (.tmp 16) (.tmp 16) 81 rfl w.heap.size 5 i0 (.int .u8 0) 1 Tryd.underlying81 hi hz0 hz1 .i64 .i64 _ _ (nb N) rfl rfl ?c1 ?c2 ?c3 ?c4 ?c5 ?_)
    | fail)
  case c1 => unfold nb; omega
  case c2 => unfold nb; omega
  case c3 => rw [hz2]; omega
  case c4 => unfold maxLen; omega
  case c5 => exact Nat.le_refl _
  intro w1 hown hgrow
  rw [cells_made0 _ N] at hown
  have hB : Below w.heap.size w w1 := (Below.refl _ _).grown hgrow (Nat.le_refl _) (by intro k hk; cases hk)
  clear hgrow LEN hi hz0 hz1 hz2
  go_wp2
  go_loopw [0, 5] (fun v i wr => ∃ j m q : Nat, j + m = nb N ∧ Hid (q = N / 256 ^ m) ∧ v = .int .i64 (q : Int) ∧ i = .int .i64 ((j : Int) - 1) ∧
      wr.ownsRow w.heap.size 5 1 (.slice (some ⟨w.heap.size, 0, none⟩) (nb N) (nb N)) (nb N) (cellsOf (List.replicate j 0 ++ be m N)) ∧ Below w.heap.size w wr)
    (fun _ i _ => (intOf i + 1).toNat)
  case atStart => exact ⟨nb N, 0, N, rfl, (by simp : N = N / 256 ^ 0), rfl, rfl, hown, hB⟩
  case round =>
    clear hown hB
    obtain ⟨j, m, q, hjm, HQ, rfl, hi, hown, hB⟩ := hrel
    cases j with
    | zero =>
      obtain rfl := hi
      have hm : m = nb N := by omega
      have hc := run_convert_bytes_back (P := Tryd.prog) wr 81 9 5 ⟨w.heap.size, 0, none⟩ (nb N) (be m N) Tryd.underlying81 Tryd.underlying5 Tryd.underlying9 (cells_at (by simpa using hown) (by rw [be_length, hm]))
      rw [be_length] at hc
      subst hm
      clear hown hjm
      go_wp2
      go_ret2
      exact ⟨rfl, hB⟩
    | succ j =>
      obtain rfl := hi
      have hq : (q : Int) ≤ 4611686018427387903 := by
        have := Nat.div_le_self N (256 ^ m)
        rw [← HQ.out] at this; omega
      have hfz := hown.frozenAt j
      have hcell := cell_at hown (by simp [be_length]; omega) j (by omega)
      have hst := hown.stored j (.int .u8 ((UInt8.ofNat (N / 256 ^ m % 256)).toNat))
      rw [cellsOf_set, be_row] at hst
      have HST : Hid _ := hst.1
      have HB : Hid (Below w.heap.size w (wr.setCell ⟨w.heap.size, j, none⟩ (.int .u8 ((UInt8.ofNat (N / 256 ^ m % 256)).toNat)))) := hB.setCell (Nat.le_refl _) _
      have e : ((UInt8.ofNat (N / 256 ^ m % 256)).toNat : Int) = (q : Int) % 256 := by
        rw [UInt8.toNat_ofNat', HQ.out]; omega
      rw [e] at HST HB
      clear hst hown hB e
      go_wp2
      go_roundw
      case rel =>
        refine ⟨j, m + 1, q / 256, by omega, ?_, by go_num, by go_num, HST.out, HB.out⟩
        show q / 256 = _
        rw [HQ.out, Nat.div_div_eq_div_mul, Nat.pow_succ]
      case measure => simp [intOf]
theorem number_any (n : Int) (w : World) :
    Calls Tryd.prog 77 #[.int .i64 n] w fun e w' => e = .returned (.tuple #[.string (nOf n), .int .i64 (neOf n)]) ∧ Below w.heap.size w w' := by
  by_cases h : 0 ≤ n ∧ n ≤ 4611686018427387903
  · obtain ⟨N, rfl⟩ : ∃ N : Nat, n = N := ⟨n.toNat, by omega⟩
    refine (number_yes N w h.2).mono fun e w' ⟨he, hb⟩ => ⟨?_, hb⟩
    rw [he, nOf, neOf, if_pos h, if_pos h, Int.toNat_natCast]
  · refine (number_no n w (by omega)).mono fun e w' ⟨he, hw⟩ => ⟨?_, ?_⟩
    · rw [he, nOf, neOf, if_neg h, if_neg h]
    · subst hw; exact Below.refl _ _
end Go.Proofs.YtkmedlfbkddmoaaDoor
