/- Texts of our own that the row of KeepReads leans on, part 10. -/
import Derived.Test.YtjpmmbmhkpgjcaaKeepReadsJ3
import Derived.Test.YtjpmmbmhkpgjcaaKeepReadsJ6
import Derived.Test.YtjpmmbmhkpgjcaaKeepReadsJ9

/- What pack.Number answers: the fewest bytes of a number, the highest first, or ErrArg. -/
namespace Go.Proofs.Ytjpmmbmhkpgjcaa
open Go.RowKit Nums
set_option maxRecDepth 100000
theorem number_no (n : Int) (w : World) (h : n < 0 ∨ 4611686018427387903 < n) :
    Calls Try.prog 74 #[.int .i64 n] w fun e w' => e = .returned (.tuple #[.string ByteArray.empty, .int .i64 1]) ∧ w = w' := by
  rcases h with h | h
  · go_enter Try.func74, Try.ntmps74
    go_wp2
    go_ret2
    exact ⟨rfl, rfl⟩
  · have h' : ¬ n < 0 := by omega
    go_enter Try.func74, Try.ntmps74
    go_wp2
    go_ret2
    exact ⟨rfl, rfl⟩
theorem bitLen_le (N : Nat) (h : N < 2 ^ 64) : Lib.bitLen N ≤ 64 := (bitLenAux_bounds 64 N h).2.2
set_option maxRecDepth 100000 in
set_option maxHeartbeats 1000000 in
theorem number_yes (N : Nat) (w : World) (h1 : (N : Int) ≤ 4611686018427387903) :
    Calls Try.prog 74 #[.int .i64 N] w fun e w' => e = .returned (.tuple #[.string ⟨(num N).toArray⟩, .int .i64 0]) ∧ Below w.heap.size w w' := by
  obtain ⟨i0, hi, hz0, hz1, hz2⟩ := info_parts info5
  have h0' : ¬ (N : Int) < 0 := by omega
  have hbl := bitLen_le N (by omega)
  have hnb : nb N ≤ 8 := nb_le N (by omega)
  have len := fun w => len_any (N : Int) w (by omega) (by omega)
  have LEN : Hid (∀ w, Calls Try.prog 90 #[.int .u64 N] w fun e w' => e = .returned (.int .i64 (Lib.bitLen N)) ∧ w = w') := len
  clear len
  go_enter Try.func74, Try.ntmps74
  go_wp2_with (first
    | (go_at_call 90; refine (LEN.out _).mono ?_; rintro e w' ⟨rfl, rfl⟩)
    | (at_make; refine wpList_make_full _ rfl (.tmp 16) (.tmp 16) 61 rfl w.heap.size 5 i0 (.int .u8 0) 1 Try.underlying61 hi hz0 hz1 .i64 .i64 _ _ (nb N) rfl rfl ?c1 ?c2 ?c3 ?c4 ?c5 ?_)
    | fail)
  case c1 => unfold nb; omega
  case c2 => unfold nb; omega
  case c3 => rw [hz2]; omega
  case c4 => unfold maxLen; omega
  case c5 => exact Nat.le_refl _
  intro w1 hown hgrow
  rw [cells_made0 _ N] at hown
  have hB : Below w.heap.size w w1 := (Below.refl _ _).grown hgrow (Nat.le_refl _) (by intro k hk; cases hk)
  clear hgrow LEN hi hz0 hz1 hz2
  go_wp2
  go_loopw [0, 5] (fun v i wr => ∃ j m q : Nat, j + m = nb N ∧ Hid (q = N / 256 ^ m) ∧ v = .int .i64 (q : Int) ∧ i = .int .i64 ((j : Int) - 1) ∧
      wr.ownsRow w.heap.size 5 1 (.slice (some ⟨w.heap.size, 0, none⟩) (nb N) (nb N)) (nb N) (cellsOf (List.replicate j 0 ++ be m N)) ∧ Below w.heap.size w wr)
    (fun _ i _ => (intOf i + 1).toNat)
  case atStart => exact ⟨nb N, 0, N, rfl, (by simp : N = N / 256 ^ 0), rfl, rfl, hown, hB⟩
  case round =>
    clear hown hB
    obtain ⟨j, m, q, hjm, HQ, rfl, hi, hown, hB⟩ := hrel
    cases j with
    | zero =>
      obtain rfl := hi
      have hm : m = nb N := by omega
      have hc := run_convert_bytes_back (P := Try.prog) wr 61 9 5 ⟨w.heap.size, 0, none⟩ (nb N) (be m N) Try.underlying61 Try.underlying5 Try.underlying9 (cells_at (by simpa using hown) (by rw [be_length, hm]))
      rw [be_length] at hc
      subst hm
      clear hown hjm
      go_wp2
      go_ret2
      exact ⟨rfl, hB⟩
    | succ j =>
      obtain rfl := hi
      have hq : (q : Int) ≤ 4611686018427387903 := by
        have := Nat.div_le_self N (256 ^ m)
        rw [← HQ.out] at this; omega
      have hfz := hown.frozenAt j
      have hcell := cell_at hown (by simp [be_length]; omega) j (by omega)
      have hst := hown.stored j (.int .u8 ((UInt8.ofNat (N / 256 ^ m % 256)).toNat))
      rw [cellsOf_set, be_row] at hst
      have HST : Hid _ := hst.1
      have HB : Hid (Below w.heap.size w (wr.setCell ⟨w.heap.size, j, none⟩ (.int .u8 ((UInt8.ofNat (N / 256 ^ m % 256)).toNat)))) := hB.setCell (Nat.le_refl _) _
      have e : ((UInt8.ofNat (N / 256 ^ m % 256)).toNat : Int) = (q : Int) % 256 := by
        rw [UInt8.toNat_ofNat', HQ.out]; omega
      rw [e] at HST HB
      clear hst hown hB e
      go_wp2
      go_roundw
      case rel =>
        refine ⟨j, m + 1, q / 256, by omega, ?_, by go_num, by go_num, HST.out, HB.out⟩
        show q / 256 = _
        rw [HQ.out, Nat.div_div_eq_div_mul, Nat.pow_succ]
      case measure => simp [intOf]
end Go.Proofs.Ytjpmmbmhkpgjcaa

/- What pack.Value answers: the number that bytes tell, or ErrPackForm. -/
namespace Go.Proofs.Ytjpmmbmhkpgjcaa
open Go.RowKit Nums
set_option maxRecDepth 100000
theorem number_any (n : Int) (w : World) :
    Calls Try.prog 74 #[.int .i64 n] w fun e w' => e = .returned (.tuple #[.string (nOf n), .int .i64 (neOf n)]) ∧ Below w.heap.size w w' := by
  by_cases h : 0 ≤ n ∧ n ≤ 4611686018427387903
  · obtain ⟨N, rfl⟩ : ∃ N : Nat, n = N := ⟨n.toNat, by omega⟩
    refine (number_yes N w h.2).mono fun e w' ⟨he, hb⟩ => ⟨?_, hb⟩
    rw [he, nOf, neOf, if_pos h, if_pos h, Int.toNat_natCast]
  · refine (number_no n w (by omega)).mono fun e w' ⟨he, hw⟩ => ⟨?_, ?_⟩
    · rw [he, nOf, neOf, if_neg h, if_neg h]
    · subst hw; exact Below.refl _ _
theorem take_snoc (s : ByteArray) (k : Nat) (h : k < s.size) : s.data.toList.take (k + 1) = s.data.toList.take k ++ [s[k]] := by
  rw [List.take_succ_eq_append_getElem (by simpa using h)]; rfl
theorem head_of (s : ByteArray) (h0 : 0 < s.size) : s.data.toList[0]? = some (s[0]'h0) := by
  rw [List.getElem?_eq_getElem (by simpa using h0)]; rfl
theorem or_byte (V b : Nat) (hV : V < 72057594037927936) (hb : b < 256) :
    bits .or .u64 (IntKind.u64.wrap ((V : Int) * 256)) (IntKind.u64.wrap (b : Int)) = ((256 * V + b : Nat) : Int) := by
  have e1 : IntKind.u64.wrap ((V : Int) * 256) = ((256 * V : Nat) : Int) := by rw [IntKind.wrap_u64]; omega
  have e2 : IntKind.u64.wrap (b : Int) = (b : Int) := by rw [IntKind.wrap_u64]; omega
  rw [e1, e2, bits_or_u64_nat _ _ (by omega) (by omega)]
  have : 256 * V ||| b = 256 * V + b := by
    have := Nat.shiftLeft_add_eq_or_of_lt (show b < 2 ^ 8 from hb) V
    rw [Nat.shiftLeft_eq] at this
    rw [Nat.mul_comm 256 V, ← this]
  rw [this]
theorem value_long (s : ByteArray) (w : World) (h : 8 < s.size) (hs : s.size ≤ maxLen) :
    Calls Try.prog 93 #[.string s] w fun e w' => e = .returned (.tuple #[.int .i64 0, .int .i64 11]) ∧ w = w' := by
  unfold maxLen at hs
  go_enter Try.func93, Try.ntmps93
  go_wp2
  go_ret2
  exact ⟨rfl, rfl⟩
theorem value_zero (s : ByteArray) (w : World) (h : s.size ≤ 8) (h0 : 0 < s.size) (hz : (((s[0]'h0).toNat : Int) == 0) = true) :
    Calls Try.prog 93 #[.string s] w fun e w' => e = .returned (.tuple #[.int .i64 0, .int .i64 11]) ∧ w = w' := by
  have hg : decide ((8 : Int) < (s.size : Int)) = false := by simp; omega
  go_enter Try.func93, Try.ntmps93
  go_wp2
  go_ret2
  exact ⟨rfl, rfl⟩
def capV (V : Nat) : Int := if V < 4611686018427387904 then V else 0
def capE (V : Nat) : Int := if V < 4611686018427387904 then 0 else 11
set_option maxHeartbeats 400000 in
theorem value_empty (s : ByteArray) (w : World) (h : s.size = 0) :
    Calls Try.prog 93 #[.string s] w fun e w' => e = .returned (.tuple #[.int .i64 0, .int .i64 0]) ∧ w = w' := by
  go_enter Try.func93, Try.ntmps93
  go_wp2
  go_loop [4, 5, 21] (fun n _ i => i = .int .i64 0 ∧ n = .int .u64 0) (fun _ _ _ => 0)
  case atStart => exact ⟨rfl, rfl⟩
  case round =>
    obtain ⟨rfl, rfl⟩ := hrel
    go_wp2
    go_ret2
    exact ⟨rfl, rfl⟩
set_option maxHeartbeats 1000000 in
theorem value_loop (s : ByteArray) (w : World) (h : s.size ≤ 8) (h0 : 0 < s.size) (hz0 : (((s[0]'h0).toNat : Int) == 0) = false) :
    Calls Try.prog 93 #[.string s] w fun e w' => e = .returned (.tuple #[.int .i64 (capV (val s.data.toList)), .int .i64 (capE (val s.data.toList))]) ∧ w = w' := by
  have hg : decide ((8 : Int) < (s.size : Int)) = false := by simp; omega
  go_enter Try.func93, Try.ntmps93
  go_wp2
  go_loop [4, 5, 21] (fun n _ i => ∃ k V : Nat, k ≤ s.size ∧ V < 256 ^ k ∧ Hid (V = val (s.data.toList.take k)) ∧ i = .int .i64 k ∧ n = .int .u64 (V : Int)) (fun _ _ i => s.size - (intOf i).toNat)
  case atStart => exact ⟨0, 0, Nat.zero_le _, by decide, (rfl : 0 = val _), rfl, rfl⟩
  case round =>
    obtain ⟨k, V, hk, hV, HV, rfl, rfl⟩ := hrel
    by_cases hlt : k < s.size
    · have HO : Hid (bits .or .u64 (IntKind.u64.wrap ((V : Int) * 256)) (IntKind.u64.wrap (((s[k]).toNat : Nat) : Int)) = ((256 * V + (s[k]).toNat : Nat) : Int)) := by
        refine or_byte V _ ?_ s[k].toNat_lt
        have := Nat.pow_le_pow_right (show 0 < 256 by decide) (show k ≤ 7 by omega)
        omega
      have HN : Hid (256 * V + (s[k]).toNat = val (s.data.toList.take (k + 1))) := by
        show 256 * V + (s[k]).toNat = _
        rw [take_snoc s k hlt, val_snoc, ← HV.out]
      have HL : Hid (256 * V + (s[k]).toNat < 256 ^ (k + 1)) := by
        show 256 * V + (s[k]).toNat < _
        have := s[k].toNat_lt
        rw [Nat.pow_succ]; omega
      clear hV
      go_wp2
      go_round
      case rel => exact ⟨k + 1, 256 * V + (s[k]).toNat, by omega, HL.out, HN, by go_num, by rw [HO.out]⟩
      case measure => simp [intOf]; omega
    · have hks : s.data.toList.take k = s.data.toList := List.take_of_length_le (by simp; omega)
      have HV2 : Hid (V = val s.data.toList) := by have := HV.out; rw [hks] at this; exact this
      clear HV hks hV
      by_cases hm : V < 4611686018427387904
      · have hm' : ¬ (4611686018427387903 : Int) < (V : Int) := by omega
        have HE : Hid (capV V = V ∧ capE V = 0) := ⟨if_pos hm, if_pos hm⟩
        go_wp2
        go_ret2
        rw [← HV2.out, HE.out.1, HE.out.2]
        exact ⟨rfl, rfl⟩
      · have hm' : (4611686018427387903 : Int) < (V : Int) := by omega
        have HE : Hid (capV V = 0 ∧ capE V = 11) := ⟨if_neg hm, if_neg hm⟩
        go_wp2
        go_ret2
        rw [← HV2.out, HE.out.1, HE.out.2]
        exact ⟨rfl, rfl⟩
theorem size_list (s : ByteArray) : s.data.toList.length = s.size := by simp
theorem value_any (s : ByteArray) (w : World) (hs : s.size ≤ maxLen) :
    Calls Try.prog 93 #[.string s] w fun e w' => e = .returned (.tuple #[.int .i64 (vOf s.data.toList), .int .i64 (eOf s.data.toList)]) ∧ w = w' := by
  have hlen := size_list s
  by_cases h8 : 8 < s.size
  · have : isNum s.data.toList = false := by unfold isNum; rw [decide_eq_false_iff_not]; intro h; omega
    rw [(v_no this).1, (v_no this).2]
    exact value_long s w h8 hs
  · by_cases h0 : 0 < s.size
    · cases hz : (((s[0]'h0).toNat : Int) == 0)
      · have hh : s.data.toList[0]? ≠ some 0 := by
          rw [head_of s h0]; intro e; simp at e; rw [e] at hz; simp at hz
        refine (value_loop s w (by omega) h0 hz).mono fun e w' ⟨he, hw⟩ => ⟨?_, hw⟩
        rw [he, vOf, eOf, capV, capE]
        by_cases hv : val s.data.toList < 4611686018427387904
        · have : isNum s.data.toList = true := by unfold isNum; rw [decide_eq_true_eq]; exact ⟨by omega, hh, hv⟩
          simp only [this, if_pos hv, if_true]
        · have : isNum s.data.toList = false := by unfold isNum; rw [decide_eq_false_iff_not]; exact fun h => hv h.2.2
          simp only [this, if_neg hv]; rfl
      · have : isNum s.data.toList = false := by
          unfold isNum; rw [decide_eq_false_iff_not]; intro h
          apply h.2.1
          rw [head_of s h0]
          simp at hz
          exact congrArg some (UInt8.toNat_inj.mp (by simpa using hz))
        rw [(v_no this).1, (v_no this).2]
        exact value_zero s w (by omega) h0 hz
    · have hnil : s.data.toList = [] := List.length_eq_zero_iff.mp (by omega)
      have : isNum s.data.toList = true := by rw [hnil]; decide
      rw [(v_yes this).1, (v_yes this).2, hnil]
      exact value_empty s w (by omega)
end Go.Proofs.Ytjpmmbmhkpgjcaa

/- What the document's own Number answers: the same as nOf, neOf tell. -/
namespace Go.Proofs.Ytjpmmbmhkpgjcaa
open Go.RowKit Nums
set_option maxRecDepth 100000

end Go.Proofs.Ytjpmmbmhkpgjcaa

/- What the document's own Value answers: the same as vOf, eOf tell. -/
namespace Go.Proofs.Ytjpmmbmhkpgjcaa
open Go.RowKit Nums
set_option maxRecDepth 100000

end Go.Proofs.Ytjpmmbmhkpgjcaa
