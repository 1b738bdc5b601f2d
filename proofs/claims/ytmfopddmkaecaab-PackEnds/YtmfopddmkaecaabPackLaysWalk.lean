/- PackLays returns true for any fields. -/
import Derived.Test.YtmfopddmkaecaabOpen2
namespace Go.Proofs.Ytmfopddmkaecaab
open Go.RowKit Nums

theorem refLay_reads (a : Option Addr) (len cap : Nat) (fs : List (Int × ByteArray)) (w : World) (hR : FReads w.heap.size w a len cap fs) (hl : len ≤ 400) {k : Int} {l : List UInt8} (hk : layE 0 fs = k) (hr : rowOf fs = l) :
    Calls Try.prog 9 #[.slice a len cap] w fun e W' => ∃ a' c', e = .returned (.tuple #[.slice a' l.length c', .int .i64 k]) ∧ Reads W' a' l.length c' l ∧ Below w.heap.size w W' := by
  refine (refLay_any a len cap fs w hR hl).mono ?_
  rintro e W' ⟨v, rfl, hown, hb⟩
  rw [hr] at hown
  obtain ⟨a', c', rfl, hrd⟩ := reads_own hown
  exact ⟨a', c', by rw [hk], hrd, hb⟩

set_option maxHeartbeats 1000000 in
theorem packLays_no (a0 : Option Addr) (len0 cap0 : Nat) (fs : List (Int × ByteArray)) (w : World) (k : Int) (l : List UInt8) (HW : Hid (FReads w.heap.size w a0 len0 cap0 fs)) (hl : len0 ≤ 400)
    (HL : Hid (lgB fs = false)) (HK : Hid (layE 0 fs = k)) (HR : Hid (rowOf fs = l)) (hk : (k != 0) = true) :
    Calls Try.prog 3 #[.slice a0 len0 cap0] w fun e w' => e = .returned (.bool true) ∧ Below w.heap.size w w' := by
  have HG : Hid (∀ w', FReads w.heap.size w' a0 len0 cap0 fs → Calls Try.prog 7 #[.slice a0 len0 cap0] w' fun e w'' => e = .returned (.bool false) ∧ w' = w'') := fun w' h => by
    have := large_any _ a0 len0 cap0 fs w' h
    rwa [HL.out] at this
  go_enter Try.func3, Try.ntmps3
  go_wp2_with fail
  refine (HG.out _ HW.out).mono ?_
  rintro e _ ⟨rfl, rfl⟩
  go_wp2_with fail
  refine (lay_reads _ _ _ fs _ HW.out hl HK.out HR.out).mono ?_
  rintro e w1 ⟨a1, c1, rfl, hr1, hb1⟩
  have HR1 : Hid (Reads w1 a1 l.length c1 l) := hr1
  clear hr1
  have HW1 : Hid (FReads w1.heap.size w1 a0 len0 cap0 fs) := by
    obtain ⟨h1, h2, h3, h4, h5⟩ := HW.out.below hb1
    refine ⟨h1, h2, h3, h4, ?_⟩
    rcases h5 with h5 | h5 | ⟨b, off, e, hb, hc⟩
    · exact .inl h5
    · exact .inr (.inl h5)
    · exact .inr (.inr ⟨b, off, e, Nat.lt_of_lt_of_le hb hb1.size, hc⟩)
  go_wp2_with fail
  refine (refLay_reads _ _ _ fs _ HW1.out hl HK.out HR.out).mono ?_
  rintro e w2 ⟨a2, c2, rfl, hr2, hb2⟩
  have k1 := conv_reads (HR1.out.below hb2)
  have k2 := conv_reads hr2
  clear hr2
  go_wp2_with fail
  refine (rows_any _).mono ?_
  rintro e w3 ⟨rfl, hb3⟩
  have HE : Hid (Below w.heap.size w w3) := hb1.trans ((hb2.trans (hb3.mono hb2.size)).mono hb1.size)
  clear hb1 hb2 hb3
  go_wp2
  go_ret
  exact ⟨rfl, HE.out⟩

theorem FReads.up {w w' : World} {a : Option Addr} {len cap : Nat} {fs : List (Int × ByteArray)} (h : FReads w.heap.size w a len cap fs) (hb : Below w.heap.size w w') : FReads w'.heap.size w' a len cap fs := by
  obtain ⟨h1, h2, h3, h4, h5⟩ := h.below hb
  refine ⟨h1, h2, h3, h4, ?_⟩
  rcases h5 with h5 | h5 | ⟨b, off, e, hlt, hc⟩
  · exact .inl h5
  · exact .inr (.inl h5)
  · exact .inr (.inr ⟨b, off, e, Nat.lt_of_lt_of_le hlt hb.size, hc⟩)

set_option maxHeartbeats 1000000 in
theorem packLays_yes (a0 : Option Addr) (len0 cap0 : Nat) (fs : List (Int × ByteArray)) (w : World) (l : List UInt8) (HW : Hid (FReads w.heap.size w a0 len0 cap0 fs)) (hl : len0 ≤ 400)
    (HL : Hid (lgB fs = false)) (HK : Hid (layE 0 fs = 0)) (HR : Hid (rowOf fs = l)) (HB : Hid (l.length ≤ 1000000)) (HRE : Hid (readE l = 0 ∧ readF l = fs)) :
    Calls Try.prog 3 #[.slice a0 len0 cap0] w fun e w' => e = .returned (.bool true) ∧ Below w.heap.size w w' := by
  have HG : Hid (∀ w', FReads w.heap.size w' a0 len0 cap0 fs → Calls Try.prog 7 #[.slice a0 len0 cap0] w' fun e w'' => e = .returned (.bool false) ∧ w' = w'') := fun w' h => by
    have := large_any _ a0 len0 cap0 fs w' h
    rwa [HL.out] at this
  have HLEN : Hid (fs.length = len0) := HW.out.1
  have HS : Hid (sameB fs fs = true) := by show _ = _; unfold sameB; simp
  go_enter Try.func3, Try.ntmps3
  go_wp2_with fail
  refine (HG.out _ HW.out).mono ?_
  rintro e _ ⟨rfl, rfl⟩
  go_wp2_with fail
  refine (lay_reads _ _ _ fs _ HW.out hl HK.out HR.out).mono ?_
  rintro e w1 ⟨a1, c1, rfl, hr1, hb1⟩
  have HR1 : Hid (Reads w1 a1 l.length c1 l) := hr1
  clear hr1
  have HW1 : Hid (FReads w1.heap.size w1 a0 len0 cap0 fs) := HW.out.up hb1
  go_wp2_with fail
  refine (refLay_reads _ _ _ fs _ HW1.out hl HK.out HR.out).mono ?_
  rintro e w2 ⟨a2, c2, rfl, hr2, hb2⟩
  have HR2 : Hid (Reads w2 a1 l.length c1 l) := HR1.out.below hb2
  have HW2 : Hid (FReads w2.heap.size w2 a0 len0 cap0 fs) := HW1.out.up hb2
  have k1 := conv_reads HR2.out
  have k2 := conv_reads hr2
  have hbw2 : Below w.heap.size w w2 := hb1.trans (hb2.mono hb1.size)
  clear hr2 hb1 hb2 HW1 HR1
  go_wp2_with fail
  refine (read_reads _ _ _ l _ HR2.out HB.out HRE.out.1 HRE.out.2).mono ?_
  rintro e w3 ⟨a3, c3, rfl, hr3, hb3⟩
  have HR3 : Hid (FReads w3.heap.size w3 a3 fs.length c3 fs) := hr3
  have HW3 : Hid (FReads w3.heap.size w3 a0 len0 cap0 fs) := HW2.out.up hb3
  have hbw3 : Below w.heap.size w w3 := hbw2.trans (hb3.mono hbw2.size)
  clear hr3 hb3 k1 k2 hbw2
  go_wp2_with fail
  refine (rows_any _).mono ?_
  rintro e w4 ⟨rfl, hb4⟩
  have HR4 : Hid (FReads w4.heap.size w4 a3 fs.length c3 fs) := HR3.out.up hb4
  have HW4 : Hid (FReads w4.heap.size w4 a0 len0 cap0 fs) := HW3.out.up hb4
  have HE : Hid (Below w.heap.size w w4) := hbw3.trans (hb4.mono hbw3.size)
  clear hb4 hbw3
  go_wp2_with fail
  refine (same_any _ _ _ _ _ _ _ _ fs fs _ HR4.out HW4.out (by have := HLEN.out; omega)).mono ?_
  rw [HS.out]
  rintro e w5 ⟨rfl, m5, rfl⟩
  go_wp2
  go_ret
  exact ⟨rfl, below_drewN HE.out _⟩

theorem over_sum : ∀ (fs : List (Int × ByteArray)) (s : Nat), s ≤ 262144 → overB s fs = false → s + (fs.map fun f => f.2.size).sum ≤ 262144
  | [], s, hs, _ => by simpa using hs
  | f :: r, s, hs, h => by
    rw [overB] at h
    by_cases h1 : 262144 < s + f.2.size
    · rw [if_pos h1] at h; cases h
    · rw [if_neg h1] at h
      have := over_sum r (s + f.2.size) (by omega) h
      rw [List.map_cons, List.sum_cons]
      omega

theorem row_length : ∀ (fs : List (Int × ByteArray)), (rowB fs).length = 4 * fs.length + (fs.map fun f => f.2.size).sum
  | [] => by simp [rowB]
  | f :: r => by
    rw [rowB, List.length_append, fieldBytesI_length, row_length r, List.map_cons, List.sum_cons, List.length_cons]
    have : f.2.data.toList.length = f.2.size := by simp
    omega

theorem row_small {fs : List (Int × ByteArray)} (h : lgB fs = false) : (rowB fs).length ≤ 263744 := by
  have hl := lgB_false h
  unfold lgB at h
  rw [if_neg (by omega)] at h
  have := over_sum fs 0 (by omega) h
  rw [row_length]
  omega

theorem packLays_walk (a0 : Option Addr) (len0 cap0 : Nat) (z0 : List (Int × ByteArray)) (w : World) (w0 : FReads w.heap.size w a0 len0 cap0 z0) :
    Calls Try.prog 3 #[.slice a0 len0 cap0] w fun e w' => e = .returned (.bool true) ∧ Below w.heap.size w w' := by
  cases hlg : lgB z0
  · have hl : len0 ≤ 400 := by rw [← w0.1]; exact lgB_false hlg
    by_cases hk : layE 0 z0 = 0
    · have hr : rowOf z0 = rowB z0 := by rw [rowOf, if_pos hk]
      have hs := row_small hlg
      exact packLays_yes a0 len0 cap0 z0 w (rowB z0) w0 hl hlg hk hr (show (rowB z0).length ≤ 1000000 by omega) (read_row hk)
    · exact packLays_no a0 len0 cap0 z0 w _ _ w0 hl hlg rfl rfl (by simpa using hk)
  · have HG : Hid (∀ w', FReads w.heap.size w' a0 len0 cap0 z0 → Calls Try.prog 7 #[.slice a0 len0 cap0] w' fun e w'' => e = .returned (.bool true) ∧ w' = w'') := fun w' h => by
      have := large_any _ a0 len0 cap0 z0 w' h
      rwa [hlg] at this
    have HW : Hid (FReads w.heap.size w a0 len0 cap0 z0) := w0
    clear w0 hlg
    go_enter Try.func3, Try.ntmps3
    go_wp2_with fail
    refine (HG.out _ HW.out).mono ?_
    rintro e _ ⟨rfl, rfl⟩
    go_wp2
    go_ret
    exact ⟨rfl, Below.refl _ _⟩
end Go.Proofs.Ytmfopddmkaecaab
