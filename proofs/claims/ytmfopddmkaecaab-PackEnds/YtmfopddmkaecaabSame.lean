/- The document's Same tells whether two rows are the same; the statements' large tells whether fields are more than are looked at. -/
import Derived.Test.YtmfopddmkaecaabSpec
namespace Go.Proofs.Ytmfopddmkaecaab
open Go.RowKit Nums

def sameB (x y : List (Int × ByteArray)) : Bool := decide (x = y)

theorem field_ext {x y : Int × ByteArray} (h1 : x.1 = y.1) (h2 : x.2.toList = y.2.toList) : x = y := by
  obtain ⟨a, b⟩ := x
  obtain ⟨c, d⟩ := y
  simp only at h1 h2
  subst h1
  have : b = d := by
    rw [ByteArray.toList_eq, ByteArray.toList_eq] at h2
    cases b; cases d
    simp only at h2
    congr
    exact Array.ext' h2
  rw [this]

set_option maxHeartbeats 1000000 in
theorem same_len (a0 a1 : Option Addr) (len0 cap0 len1 cap1 : Nat) (w : World) (h : ((len0 : Int) != (len1 : Int)) = true) :
    Calls Try.prog 12 #[.slice a0 len0 cap0, .slice a1 len1 cap1] w fun e w' => e = .returned (.bool false) ∧ w = w' := by
  go_enter Try.func12, Try.ntmps12
  go_wp2
  go_ret
  exact ⟨rfl, rfl⟩

set_option maxHeartbeats 1000000 in
theorem same_nil (a0 a1 : Option Addr) (cap0 cap1 : Nat) (w : World) :
    Calls Try.prog 12 #[.slice a0 0 cap0, .slice a1 0 cap1] w fun e w' => e = .returned (.bool true) ∧ w = w' := by
  go_enter Try.func12, Try.ntmps12
  go_wp2
  go_loop [5] (fun i => i = .int .i64 0) (fun _ => 0)
  case atStart => rfl
  case round =>
    obtain rfl := hrel
    go_wp2
    go_ret
    exact ⟨rfl, rfl⟩

set_option maxHeartbeats 2000000 in
theorem same_rows (b0 o0 b1 o1 len cap0 cap1 : Nat) (x y : List (Int × ByteArray)) (w : World) (hx : x.length = len) (hy : y.length = len) (hm : len ≤ 1048576)
    (hcx : ∀ (i : Nat) (h : i < x.length), w.cell? ⟨b0, o0 + i * 2, none⟩ = some (.int .i64 x[i].1) ∧ w.cell? ⟨b0, o0 + i * 2 + 1, none⟩ = some (.string x[i].2))
    (hcy : ∀ (i : Nat) (h : i < y.length), w.cell? ⟨b1, o1 + i * 2, none⟩ = some (.int .i64 y[i].1) ∧ w.cell? ⟨b1, o1 + i * 2 + 1, none⟩ = some (.string y[i].2)) :
    Calls Try.prog 12 #[.slice (some ⟨b0, o0, none⟩) len cap0, .slice (some ⟨b1, o1, none⟩) len cap1] w fun e w' => e = .returned (.bool (sameB x y)) ∧ ∃ m, w' = w.drewN m := by
  go_enter Try.func12, Try.ntmps12
  go_wp2
  go_loopw [5] (fun i wr => ∃ (k m : Nat), k ≤ len ∧ i = .int .i64 k ∧ Hid (x.take k = y.take k) ∧ wr = w.drewN m) (fun i _ => len - (intOf i).toNat)
  case atStart => exact ⟨0, 0, Nat.zero_le _, rfl, by simp [Hid], rfl⟩
  case round =>
    obtain ⟨k, m, hk, rfl, HT, rfl⟩ := hrel
    by_cases hlt : k < len
    · obtain ⟨p0, p1⟩ := hcx k (by omega)
      obtain ⟨q0, q1⟩ := hcy k (by omega)
      obtain ⟨f, hf⟩ : ∃ f, f = x[k]'(by omega) := ⟨_, rfl⟩
      obtain ⟨g, hg⟩ : ∃ g, g = y[k]'(by omega) := ⟨_, rfl⟩
      rw [← hf] at p0 p1
      rw [← hg] at q0 q1
      have HX : Hid (x.take (k + 1) = x.take k ++ [f]) := by show _ = _; rw [hf]; exact List.take_succ_eq_append_getElem (by omega)
      have HY : Hid (y.take (k + 1) = y.take k ++ [g]) := by show _ = _; rw [hg]; exact List.take_succ_eq_append_getElem (by omega)
      have HNO : Hid (f ≠ g → sameB x y = false) := by
        intro hne
        unfold sameB
        rw [decide_eq_false_iff_not]
        intro e
        apply hne
        rw [hf, hg]
        simp only [e]
      have hlen' : (k : Int) < (len : Int) := by omega
      clear hcx hcy hf hg
      have hcase : (f.1 == g.1) = false ∨ ((f.1 == g.1) = true ∧ (f.2.toList == g.2.toList) = false) ∨ ((f.1 == g.1) = true ∧ (f.2.toList == g.2.toList) = true) := by
        cases (f.1 == g.1) <;> cases (f.2.toList == g.2.toList) <;> simp
      rcases hcase with h1 | ⟨h1, h2⟩ | ⟨h1, h2⟩
      · have HS : Hid (sameB x y = false) := HNO.out (fun e => by rw [e] at h1; simp at h1)
        go_wp2
        go_quiet (fail)
        go_wp2
        go_ret
        rw [HS.out]
        exact ⟨rfl, _, World.drewN_drewN _ _ _⟩
      · have HS : Hid (sameB x y = false) := HNO.out (fun e => by rw [e] at h2; simp at h2)
        go_wp2
        go_quiet (fail)
        go_wp2
        go_ret
        rw [HS.out]
        exact ⟨rfl, _, World.drewN_drewN _ _ _⟩
      · have HTT : Hid (x.take (k + 1) = y.take (k + 1)) := by
          show _ = _
          rw [HX.out, HY.out, HT.out, field_ext (eq_of_beq h1) (eq_of_beq h2)]
        go_wp2
        go_quiet (fail)
        go_wp2
        go_roundw
        case rel => exact ⟨k + 1, _, by omega, by go_num, HTT, rfl⟩
        case measure => simp [intOf]; omega
    · have HE : Hid (sameB x y = true) := by
        show sameB x y = true
        unfold sameB
        rw [decide_eq_true_eq]
        have := HT.out
        rwa [List.take_of_length_le (by omega), List.take_of_length_le (by omega)] at this
      go_wp2
      go_ret
      rw [HE.out]
      exact ⟨rfl, m, rfl⟩

theorem same_any (n₀ n₁ : Nat) (a0 a1 : Option Addr) (len0 cap0 len1 cap1 : Nat) (x y : List (Int × ByteArray)) (w : World) (hx : FReads n₀ w a0 len0 cap0 x) (hy : FReads n₁ w a1 len1 cap1 y) (hm : len0 ≤ 1048576) :
    Calls Try.prog 12 #[.slice a0 len0 cap0, .slice a1 len1 cap1] w fun e w' => e = .returned (.bool (sameB x y)) ∧ ∃ m, w' = w.drewN m := by
  by_cases hl : len0 = len1
  · subst hl
    obtain ⟨h1, h2, h3, h4, h5⟩ := hx
    obtain ⟨k1, k2, k3, k4, k5⟩ := hy
    have hz : len0 = 0 → Calls Try.prog 12 #[.slice a0 len0 cap0, .slice a1 len0 cap1] w fun e w' => e = .returned (.bool (sameB x y)) ∧ ∃ m, w' = w.drewN m := by
      intro h
      subst h
      have e1 : x = [] := List.eq_nil_of_length_eq_zero h1
      have e2 : y = [] := List.eq_nil_of_length_eq_zero k1
      subst e1 e2
      refine (same_nil a0 a1 cap0 cap1 w).mono ?_
      rintro e _ ⟨rfl, rfl⟩
      exact ⟨rfl, 0, rfl⟩
    rcases h5 with ⟨_, h⟩ | ⟨_, _, h⟩ | ⟨b, off, rfl, hb, hcs⟩
    · exact hz (by omega)
    · exact hz h
    · rcases k5 with ⟨_, h⟩ | ⟨_, _, h⟩ | ⟨b', off', rfl, hb', hcs'⟩
      · exact hz (by omega)
      · exact hz h
      · exact same_rows b off b' off' len0 cap0 cap1 x y w h1 k1 hm hcs hcs'
  · have hs : sameB x y = false := by
      unfold sameB
      rw [decide_eq_false_iff_not]
      intro e
      apply hl
      rw [← hx.1, ← hy.1, e]
    refine (same_len a0 a1 len0 cap0 len1 cap1 w (by simp; omega)).mono ?_
    rintro e _ ⟨rfl, rfl⟩
    rw [hs]
    exact ⟨rfl, 0, rfl⟩

/-- Are fields more than are looked at? -/
def overB : Nat → List (Int × ByteArray) → Bool
  | _, [] => false
  | n, f :: r => if 262144 < n + f.2.size then true else overB (n + f.2.size) r
def lgB (fs : List (Int × ByteArray)) : Bool := if 400 < fs.length then true else overB 0 fs

theorem lgB_false {fs : List (Int × ByteArray)} (h : lgB fs = false) : fs.length ≤ 400 := by
  unfold lgB at h
  by_cases h1 : 400 < fs.length
  · rw [if_pos h1] at h; cases h
  · omega

theorem large_many (a : Option Addr) (len cap : Nat) (w : World) (h : (400 : Int) < (len : Int)) (_hm : len ≤ 9223372036854775807) : Calls Try.prog 7 #[.slice a len cap] w fun e w' => e = .returned (.bool true) ∧ w = w' := by
  go_enter Try.func7, Try.ntmps7
  go_wp2
  go_ret
  exact ⟨rfl, rfl⟩

theorem large_none (a : Option Addr) (cap : Nat) (w : World) : Calls Try.prog 7 #[.slice a 0 cap] w fun e w' => e = .returned (.bool false) ∧ w = w' := by
  go_enter Try.func7, Try.ntmps7
  go_wp2
  go_loop [3, 4] (fun n i => n = .int .i64 0 ∧ i = .int .i64 0) (fun _ _ => 0)
  case atStart => exact ⟨rfl, rfl⟩
  case round =>
    obtain ⟨rfl, rfl⟩ := hrel
    go_wp2
    go_ret
    exact ⟨rfl, rfl⟩

set_option maxHeartbeats 2000000 in
theorem large_some (b off len cap : Nat) (fs : List (Int × ByteArray)) (w : World) (hlen : fs.length = len) (hl : len ≤ 400) (hfs : ∀ f ∈ fs, f.2.size ≤ maxLen)
    (hc : ∀ (i : Nat) (h : i < fs.length), w.cell? ⟨b, off + i * 2, none⟩ = some (.int .i64 fs[i].1) ∧ w.cell? ⟨b, off + i * 2 + 1, none⟩ = some (.string fs[i].2)) :
    Calls Try.prog 7 #[.slice (some ⟨b, off, none⟩) len cap] w fun e w' => e = .returned (.bool (overB 0 fs)) ∧ w = w' := by
  have hl' : ¬ (400 : Int) < (len : Int) := by omega
  go_enter Try.func7, Try.ntmps7
  go_wp2
  go_loop [3, 4] (fun n i => ∃ k s : Nat, k ≤ len ∧ s ≤ 262144 ∧ i = .int .i64 k ∧ n = .int .i64 s ∧ Hid (overB 0 fs = overB s (fs.drop k))) (fun _ i => len - (intOf i).toNat)
  case atStart => exact ⟨0, 0, Nat.zero_le _, by decide, rfl, rfl, (rfl : overB 0 fs = overB 0 fs)⟩
  case round =>
    obtain ⟨k, s, hk, hs, rfl, rfl, HO⟩ := hrel
    by_cases hlt : k < len
    · obtain ⟨_, p1⟩ := hc k (by omega)
      obtain ⟨f, hf⟩ : ∃ f, f = fs[k]'(by omega) := ⟨_, rfl⟩
      rw [← hf] at p1
      have HF : Hid (fs.drop k = f :: fs.drop (k + 1)) := by show _ = _; rw [hf]; exact List.drop_eq_getElem_cons (by omega)
      have hfm : f.2.size ≤ 9223372036854775807 := by have := hfs f (by rw [hf]; exact List.getElem_mem _); unfold maxLen at this; omega
      have hlen' : (k : Int) < (len : Int) := by omega
      clear hc hf
      by_cases hov : 262144 < s + f.2.size
      · have HE : Hid (overB 0 fs = true) := by show _ = _; rw [HO.out, HF.out, overB, if_pos hov]
        have hov' : 262144 - (s : Int) < (f.2.size : Int) := by omega
        go_wp2
        go_ret
        rw [HE.out]
        exact ⟨rfl, rfl⟩
      · have HE : Hid (overB 0 fs = overB (s + f.2.size) (fs.drop (k + 1))) := by show _ = _; rw [HO.out, HF.out, overB, if_neg hov]
        have hov' : ¬ 262144 - (s : Int) < (f.2.size : Int) := by omega
        go_wp2
        go_round
        case rel => exact ⟨k + 1, s + f.2.size, by omega, by omega, by go_num, by go_num, HE⟩
        case measure => simp [intOf]; omega
    · have HE : Hid (overB 0 fs = false) := by show _ = _; rw [HO.out, List.drop_of_length_le (by omega), overB]
      go_wp2
      go_ret
      rw [HE.out]
      exact ⟨rfl, rfl⟩

theorem large_any (n₀ : Nat) (a : Option Addr) (len cap : Nat) (fs : List (Int × ByteArray)) (w : World) (hR : FReads n₀ w a len cap fs) :
    Calls Try.prog 7 #[.slice a len cap] w fun e w' => e = .returned (.bool (lgB fs)) ∧ w = w' := by
  obtain ⟨h1, h2, h3, h4, h5⟩ := hR
  unfold lgB
  by_cases hl : 400 < fs.length
  · rw [if_pos hl]
    exact large_many a len cap w (by omega) (by omega)
  · rw [if_neg hl]
    have hz : len = 0 → Calls Try.prog 7 #[.slice a len cap] w fun e w' => e = .returned (.bool (overB 0 fs)) ∧ w = w' := by
      intro h
      subst h
      have e1 : fs = [] := List.eq_nil_of_length_eq_zero h1
      subst e1
      exact large_none a cap w
    rcases h5 with ⟨_, h⟩ | ⟨_, _, h⟩ | ⟨b, off, rfl, hb, hcs⟩
    · exact hz (by omega)
    · exact hz h
    · exact large_some b off len cap fs w h1 (by omega) h4 hcs
end Go.Proofs.Ytmfopddmkaecaab
