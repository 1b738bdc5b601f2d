/- What the document's own Value answers: the same as vOf, eOf tell. -/
import Derived.Test.YtmfopddmkaecaaaNumbers
namespace Go.Proofs.Ytmfopddmkaecaaa
open Go.RowKit Nums

theorem val_append (a b : List UInt8) : val (a ++ b) = val a * 256 ^ b.length + val b := by
  have := foldl_val b (val a)
  unfold val at this ⊢
  rw [List.foldl_append, this]

theorem val_take_le (l : List UInt8) (k : Nat) : val (l.take k) ≤ val l := by
  have h := val_append (l.take k) (l.drop k)
  rw [List.take_append_drop] at h
  have hp : 0 < 256 ^ (l.drop k).length := Nat.pow_pos (by decide)
  have := Nat.le_mul_of_pos_right (val (l.take k)) hp
  omega

theorem refValue_long (s : ByteArray) (w : World) (h : 8 < s.size) (hs : s.size ≤ maxLen) :
    Calls Try.prog 12 #[.string s] w fun e w' => e = .returned (.tuple #[.int .i64 0, .int .i64 11]) ∧ w = w' := by
  unfold maxLen at hs
  go_enter Try.func12, Try.ntmps12
  go_wp2
  go_ret2
  exact ⟨rfl, rfl⟩

theorem refValue_zero (s : ByteArray) (w : World) (h : s.size ≤ 8) (h0 : 0 < s.size) (hz : (((s[0]'h0).toNat : Int) == 0) = true) :
    Calls Try.prog 12 #[.string s] w fun e w' => e = .returned (.tuple #[.int .i64 0, .int .i64 11]) ∧ w = w' := by
  have hg : decide ((8 : Int) < (s.size : Int)) = false := by simp; omega
  go_enter Try.func12, Try.ntmps12
  go_wp2
  go_ret2
  exact ⟨rfl, rfl⟩

theorem refValue_high (s : ByteArray) (w : World) (h : s.size = 8) (h0 : 0 < s.size) (hz : (((s[0]'h0).toNat : Int) == 0) = false) (h64 : (64 : Int) ≤ ((s[0]'h0).toNat : Int)) :
    Calls Try.prog 12 #[.string s] w fun e w' => e = .returned (.tuple #[.int .i64 0, .int .i64 11]) ∧ w = w' := by
  go_enter Try.func12, Try.ntmps12
  go_wp2
  go_ret2
  exact ⟨rfl, rfl⟩

set_option maxHeartbeats 400000 in
theorem refValue_empty (s : ByteArray) (w : World) (h : s.size = 0) :
    Calls Try.prog 12 #[.string s] w fun e w' => e = .returned (.tuple #[.int .i64 0, .int .i64 0]) ∧ w = w' := by
  go_enter Try.func12, Try.ntmps12
  go_wp2
  go_loop [4, 5] (fun n i => i = .int .i64 0 ∧ n = .int .i64 0) (fun _ _ => 0)
  case atStart => exact ⟨rfl, rfl⟩
  case round =>
    obtain ⟨rfl, rfl⟩ := hrel
    go_wp2
    go_ret2
    exact ⟨rfl, rfl⟩

set_option maxHeartbeats 1000000 in
theorem refValue_loop (s : ByteArray) (w : World) (h : s.size ≤ 8) (h0 : 0 < s.size) (hz0 : (((s[0]'h0).toNat : Int) == 0) = false)
    (hc : ((s.size : Int) == 8) = false ∨ (((s.size : Int) == 8) = true ∧ decide ((64 : Int) ≤ ((s[0]'h0).toNat : Int)) = false)) (hv : val s.data.toList < 4611686018427387904) :
    Calls Try.prog 12 #[.string s] w fun e w' => e = .returned (.tuple #[.int .i64 (val s.data.toList), .int .i64 0]) ∧ w = w' := by
  have hg : decide ((8 : Int) < (s.size : Int)) = false := by simp; omega
  have HVAL : Hid (val s.data.toList < 4611686018427387904) := hv
  clear hv
  rcases hc with hc | ⟨hc, hc'⟩
  all_goals
    go_enter Try.func12, Try.ntmps12
    go_wp2
    go_loop [4, 5] (fun n i => ∃ k V : Nat, k ≤ s.size ∧ Hid (V = val (s.data.toList.take k)) ∧ i = .int .i64 k ∧ n = .int .i64 (V : Int)) (fun _ i => s.size - (intOf i).toNat)
    case atStart => exact ⟨0, 0, Nat.zero_le _, (rfl : 0 = val _), rfl, rfl⟩
    case round =>
      obtain ⟨k, V, hk, HV, rfl, rfl⟩ := hrel
      by_cases hlt : k < s.size
      · have HN : Hid (256 * V + (s[k]).toNat = val (s.data.toList.take (k + 1))) := by
          show 256 * V + (s[k]).toNat = _
          rw [take_snoc s k hlt, val_snoc, ← HV.out]
        have hl : 256 * (V : Int) + ((s[k]).toNat : Int) ≤ 4611686018427387903 := by
          have h1 := HN.out
          have h2 := val_take_le s.data.toList (k + 1)
          have h3 := HVAL.out
          omega
        go_wp2
        go_round
        case rel => exact ⟨k + 1, 256 * V + (s[k]).toNat, by omega, HN, by go_num, by go_num⟩
        case measure => simp [intOf]; omega
      · have hks : s.data.toList.take k = s.data.toList := List.take_of_length_le (by simp; omega)
        have HV2 : Hid (V = val s.data.toList) := by have := HV.out; rw [hks] at this; exact this
        clear HV hks
        go_wp2
        go_ret2
        rw [← HV2.out]
        exact ⟨rfl, rfl⟩

theorem val_first (s : ByteArray) (h : s.size = 8) (h0 : 0 < s.size) : (64 ≤ (s[0]'h0).toNat → ¬ val s.data.toList < 4611686018427387904) ∧ (¬ 64 ≤ (s[0]'h0).toNat → val s.data.toList < 4611686018427387904) := by
  have hl := size_list s
  have hh := head_of s h0
  generalize s.data.toList = l at hl hh
  generalize s[0]'h0 = x at hh
  match l, hh with
  | a :: r, hh =>
    simp at hh; subst hh
    have hr : r.length = 7 := by simp at hl; omega
    have h1 := val_lt r
    rw [val_cons]
    rw [hr] at h1 ⊢
    omega

theorem refValue_any (s : ByteArray) (w : World) (hs : s.size ≤ maxLen) :
    Calls Try.prog 12 #[.string s] w fun e w' => e = .returned (.tuple #[.int .i64 (vOf s.data.toList), .int .i64 (eOf s.data.toList)]) ∧ w = w' := by
  have hlen := size_list s
  by_cases h8 : 8 < s.size
  · have : isNum s.data.toList = false := by unfold isNum; rw [decide_eq_false_iff_not]; intro h; omega
    rw [(v_no this).1, (v_no this).2]
    exact refValue_long s w h8 hs
  · by_cases h0 : 0 < s.size
    · cases hz : (((s[0]'h0).toNat : Int) == 0)
      · have hh : s.data.toList[0]? ≠ some 0 := by
          rw [head_of s h0]; intro e; simp at e; rw [e] at hz; simp at hz
        have yes : val s.data.toList < 4611686018427387904 → isNum s.data.toList = true := fun hv => by
          unfold isNum; rw [decide_eq_true_eq]; exact ⟨by omega, hh, hv⟩
        by_cases he : s.size = 8
        · have hf := val_first s he h0
          by_cases h64 : 64 ≤ (s[0]'h0).toNat
          · have : isNum s.data.toList = false := by unfold isNum; rw [decide_eq_false_iff_not]; exact fun h => hf.1 h64 h.2.2
            rw [(v_no this).1, (v_no this).2]
            exact refValue_high s w he h0 hz (by omega)
          · have hv := hf.2 h64
            rw [(v_yes (yes hv)).1, (v_yes (yes hv)).2]
            exact refValue_loop s w (by omega) h0 hz (.inr ⟨by simp [he], by rw [decide_eq_false_iff_not]; omega⟩) hv
        · have hv : val s.data.toList < 4611686018427387904 := by
            have h1 := val_lt s.data.toList
            rw [hlen] at h1
            have := Nat.pow_le_pow_right (show 0 < 256 by decide) (show s.size ≤ 7 by omega)
            omega
          rw [(v_yes (yes hv)).1, (v_yes (yes hv)).2]
          exact refValue_loop s w (by omega) h0 hz (.inl (by simp; omega)) hv
      · have : isNum s.data.toList = false := by
          unfold isNum; rw [decide_eq_false_iff_not]; intro h
          apply h.2.1
          rw [head_of s h0]
          simp at hz
          exact congrArg some (UInt8.toNat_inj.mp (by simpa using hz))
        rw [(v_no this).1, (v_no this).2]
        exact refValue_zero s w (by omega) h0 hz
    · have hnil : s.data.toList = [] := List.length_eq_zero_iff.mp (by omega)
      have : isNum s.data.toList = true := by rw [hnil]; decide
      rw [(v_yes this).1, (v_yes this).2, hnil]
      exact refValue_empty s w (by omega)
end Go.Proofs.Ytmfopddmkaecaaa
