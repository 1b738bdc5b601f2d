/- PackReads returns true for any bytes. -/
import Derived.Test.YtmfopddmkaecaabPackLaysWalk
namespace Go.Proofs.Ytmfopddmkaecaab
open Go.RowKit Nums

theorem reads_lent {w : World} {B g len c : Nat} {l : List UInt8} (h : w.ownsRow B 5 1 (.slice (some ⟨g, 0, none⟩) (len + 7) c) (len + 7) (cellsOf (l ++ marks 7))) (hl : l.length = len) :
    Reads w (some ⟨g, 0, none⟩) (len + 7) c (l ++ marks 7) := by
  have hlen : (l ++ marks 7).length = len + 7 := by simp [marks]; omega
  obtain ⟨a, cap, e, hr⟩ := reads_own (l := l ++ marks 7) (by rw [hlen]; exact h)
  rw [hlen] at e hr
  cases e
  exact hr

theorem refRead_reads (a : Option Addr) (len cap : Nat) (bs : List UInt8) (w : World) (hR : Reads w a len cap bs) (hl : len ≤ 1000000) {k : Nat} {fs : List (Int × ByteArray)} (hk : readE bs = k) (hf : readF bs = fs) :
    Calls Try.prog 14 #[.slice a len cap] w fun e W' => ∃ a' c', e = .returned (.tuple #[.slice a' fs.length c', .int .i64 k]) ∧ FReads W'.heap.size W' a' fs.length c' fs ∧ Below w.heap.size w W' := by
  refine (refRead_any a len cap bs w hR hl).mono ?_
  rintro e W' ⟨v, rfl, hown, hb⟩
  have hs := readF_small bs
  rw [hf] at hown hs
  obtain ⟨a', c', rfl, hrd⟩ := freads_own hown hs
  exact ⟨a', c', by rw [hk], hrd, hb⟩

theorem parse_length : ∀ (k last : Nat) (l : List UInt8), (parse k last l).length ≤ k
  | 0, _, _ => by simp [parse]
  | k + 1, last, l => by
    rw [parse]
    by_cases hl : l = []
    · rw [if_pos hl]; simp
    · rw [if_neg hl]
      by_cases he : pE last l = 0
      · rw [if_pos he, List.length_cons]; have := parse_length k (gT l) (l.drop (gN l)); omega
      · rw [if_neg he]; simp

theorem readF_length (bs : List UInt8) : (readF bs).length ≤ bs.length + 1 := by
  unfold readF
  by_cases h : readE bs = 0
  · rw [if_pos h, toF_length]; exact parse_length _ _ _
  · rw [if_neg h]; simp

theorem same_below (n₀ n₁ : Nat) (a0 a1 : Option Addr) (len0 cap0 len1 cap1 : Nat) (x y : List (Int × ByteArray)) (w : World) (hx : FReads n₀ w a0 len0 cap0 x) (hy : FReads n₁ w a1 len1 cap1 y) (hm : len0 ≤ 1048576) :
    Calls Try.prog 12 #[.slice a0 len0 cap0, .slice a1 len1 cap1] w fun e w' => e = .returned (.bool (sameB x y)) ∧ Below w.heap.size w w' := by
  refine (same_any n₀ n₁ a0 a1 len0 cap0 len1 cap1 x y w hx hy hm).mono ?_
  rintro e w' ⟨rfl, m, rfl⟩
  exact ⟨rfl, below_drewN (Below.refl _ _) _⟩

set_option maxHeartbeats 2000000 in
theorem packReads_no (a0 : Option Addr) (len0 cap0 : Nat) (bs : List UInt8) (w : World) (k : Nat) (fs : List (Int × ByteArray)) (HW : Hid (Reads w a0 len0 cap0 bs)) (hl : len0 ≤ 262144) (HK : Hid (readE bs = k)) (HF : Hid (readF bs = fs))
    (hk : ((k : Int) != 0) = true) (HFL : Hid (fs.length ≤ 1048576)) :
    Calls Try.prog 4 #[.slice a0 len0 cap0] w fun e w' => e = .returned (.bool true) ∧ Below w.heap.size w w' := by
  have HS : Hid (sameB fs fs = true) := by show _ = _; unfold sameB; simp
  go_enter Try.func4, Try.ntmps4
  go_wp2_with fail
  refine (lent_any _ _ _ bs _ HW.out (by omega)).mono ?_
  rintro e w1 ⟨g, c, rfl, hg, hc7, hcm2, hown, hb1⟩
  have HO1 : Hid (Reads w1 (some ⟨g, 0, none⟩) (len0 + 7) c (bs ++ marks 7)) := reads_lent hown HW.out.1
  clear hown
  go_wp2_with fail
  refine (read_reads _ _ _ bs _ (reads_front HO1.out HW.out.1) (by omega) HK.out HF.out).mono ?_
  rintro e w2 ⟨a2, c2, rfl, hr2, hb2⟩
  have HR2 : Hid (FReads w2.heap.size w2 a2 fs.length c2 fs) := hr2
  have HA2 : Hid (Reads w2 a0 len0 cap0 bs) := (HW.out.below hb1).below hb2
  clear hr2
  go_wp2_with fail
  refine (refRead_reads _ _ _ bs _ HA2.out (by omega) HK.out HF.out).mono ?_
  rintro e w3 ⟨a3, c3, rfl, hr3, hb3⟩
  have HR3 : Hid (FReads w3.heap.size w3 a3 fs.length c3 fs) := hr3
  have HR23 : Hid (FReads w3.heap.size w3 a2 fs.length c2 fs) := HR2.out.up hb3
  have HO3 : Hid (Reads w3 (some ⟨g, 0, none⟩) (len0 + 7) c (bs ++ marks 7)) := (HO1.out.below hb2).below hb3
  have HA3 : Hid (Reads w3 a0 len0 cap0 bs) := HA2.out.below hb3
  have HB3 : Hid (Below w.heap.size w w3) := hb1.trans ((hb2.trans (hb3.mono hb2.size)).mono hb1.size)
  clear hr3 hb1 hb2 hb3
  go_wp2_with fail
  refine (same_below _ _ _ _ _ _ _ _ fs fs _ HR23.out HR3.out HFL.out).mono ?_
  rw [HS.out]
  rintro e w4 ⟨rfl, hb4⟩
  have HO4 : Hid (Reads w4 (some ⟨g, 0, none⟩) (len0 + 7) c (bs ++ marks 7)) := HO3.out.below hb4
  have HA4 : Hid (Reads w4 a0 len0 cap0 bs) := HA3.out.below hb4
  have HR4 : Hid (FReads w4.heap.size w4 a2 fs.length c2 fs) := HR23.out.up hb4
  have HB4 : Hid (Below w.heap.size w w4) := HB3.out.trans (hb4.mono HB3.out.size)
  clear hb4
  go_wp2_with fail
  refine (kept_any g c _ _ _ bs _ HO4.out HA4.out (by omega)).mono ?_
  rintro e _ ⟨rfl, rfl⟩
  go_wp2_with fail
  refine (rows_any _).mono ?_
  rintro e w5 ⟨rfl, hb5⟩
  have HE : Hid (Below w.heap.size w w5) := HB4.out.trans (hb5.mono HB4.out.size)
  clear hb5
  go_wp2
  go_ret
  exact ⟨rfl, HE.out⟩

set_option maxHeartbeats 2000000 in
theorem packReads_yes (a0 : Option Addr) (len0 cap0 : Nat) (bs : List UInt8) (w : World) (fs : List (Int × ByteArray)) (HW : Hid (Reads w a0 len0 cap0 bs)) (hl : len0 ≤ 262144) (HK : Hid (readE bs = 0)) (HF : Hid (readF bs = fs))
    (HFL : Hid (fs.length ≤ 1048576)) (HL4 : Hid (fs.length ≤ 400)) (HLE : Hid (layE 0 fs = 0)) (HRO : Hid (rowOf fs = bs)) :
    Calls Try.prog 4 #[.slice a0 len0 cap0] w fun e w' => e = .returned (.bool true) ∧ Below w.heap.size w w' := by
  have HS : Hid (sameB fs fs = true) := by show _ = _; unfold sameB; simp
  go_enter Try.func4, Try.ntmps4
  go_wp2_with fail
  refine (lent_any _ _ _ bs _ HW.out (by omega)).mono ?_
  rintro e w1 ⟨g, c, rfl, hg, hc7, hcm2, hown, hb1⟩
  have HO1 : Hid (Reads w1 (some ⟨g, 0, none⟩) (len0 + 7) c (bs ++ marks 7)) := reads_lent hown HW.out.1
  clear hown
  go_wp2_with fail
  refine (read_reads _ _ _ bs _ (reads_front HO1.out HW.out.1) (by omega) HK.out HF.out).mono ?_
  rintro e w2 ⟨a2, c2, rfl, hr2, hb2⟩
  have HR2 : Hid (FReads w2.heap.size w2 a2 fs.length c2 fs) := hr2
  have HA2 : Hid (Reads w2 a0 len0 cap0 bs) := (HW.out.below hb1).below hb2
  clear hr2
  go_wp2_with fail
  refine (refRead_reads _ _ _ bs _ HA2.out (by omega) HK.out HF.out).mono ?_
  rintro e w3 ⟨a3, c3, rfl, hr3, hb3⟩
  have HR3 : Hid (FReads w3.heap.size w3 a3 fs.length c3 fs) := hr3
  have HR23 : Hid (FReads w3.heap.size w3 a2 fs.length c2 fs) := HR2.out.up hb3
  have HO3 : Hid (Reads w3 (some ⟨g, 0, none⟩) (len0 + 7) c (bs ++ marks 7)) := (HO1.out.below hb2).below hb3
  have HA3 : Hid (Reads w3 a0 len0 cap0 bs) := HA2.out.below hb3
  have HB3 : Hid (Below w.heap.size w w3) := hb1.trans ((hb2.trans (hb3.mono hb2.size)).mono hb1.size)
  clear hr3 hb1 hb2 hb3
  go_wp2_with fail
  refine (same_below _ _ _ _ _ _ _ _ fs fs _ HR23.out HR3.out HFL.out).mono ?_
  rw [HS.out]
  rintro e w4 ⟨rfl, hb4⟩
  have HO4 : Hid (Reads w4 (some ⟨g, 0, none⟩) (len0 + 7) c (bs ++ marks 7)) := HO3.out.below hb4
  have HA4 : Hid (Reads w4 a0 len0 cap0 bs) := HA3.out.below hb4
  have HR4 : Hid (FReads w4.heap.size w4 a2 fs.length c2 fs) := HR23.out.up hb4
  have HB4 : Hid (Below w.heap.size w w4) := HB3.out.trans (hb4.mono HB3.out.size)
  clear hb4
  go_wp2_with fail
  refine (kept_any g c _ _ _ bs _ HO4.out HA4.out (by omega)).mono ?_
  rintro e _ ⟨rfl, rfl⟩
  go_wp2_with fail
  refine (lay_reads _ _ _ fs _ HR4.out HL4.out HLE.out HRO.out).mono ?_
  rintro e w5 ⟨a5, c5, rfl, hr5, hb5⟩
  have HR5 : Hid (Reads w5 a5 bs.length c5 bs) := hr5
  have HA5 : Hid (Reads w5 a0 len0 cap0 bs) := HA4.out.below hb5
  have HB5 : Hid (Below w.heap.size w w5) := HB4.out.trans (hb5.mono HB4.out.size)
  clear hr5 hb5
  go_wp2_with fail
  refine (rows_any _).mono ?_
  rintro e w6 ⟨rfl, hb6⟩
  have k1 := conv_reads (HR5.out.below hb6)
  have k2 := conv_reads (HA5.out.below hb6)
  have HE : Hid (Below w.heap.size w w6) := HB5.out.trans (hb6.mono HB5.out.size)
  clear hb6
  go_wp2
  go_ret
  exact ⟨rfl, HE.out⟩

theorem packReads_walk (a0 : Option Addr) (len0 cap0 : Nat) (z0 : List UInt8) (w : World) (w0 : Reads w a0 len0 cap0 z0) :
    Calls Try.prog 4 #[.slice a0 len0 cap0] w fun e w' => e = .returned (.bool true) ∧ Below w.heap.size w w' := by
  have hcm := Nat.le_trans w0.2.1 w0.2.2.1
  have hlen := w0.1
  by_cases hlong : (262144 : Int) < (len0 : Int)
  · clear w0 hlen
    go_enter Try.func4, Try.ntmps4
    go_wp2
    go_ret
    exact ⟨rfl, Below.refl _ _⟩
  · have hfl := readF_length z0
    by_cases hk : readE z0 = 0
    · obtain ⟨h1, h2, h3⟩ := lay_read hk
      exact packReads_yes a0 len0 cap0 z0 w _ w0 (by omega) hk rfl (show _ ≤ 1048576 by omega) (show _ ≤ 400 by omega) h1 h2
    · exact packReads_no a0 len0 cap0 z0 w _ _ w0 (by omega) rfl rfl (by simpa using hk) (show _ ≤ 1048576 by omega)
end Go.Proofs.Ytmfopddmkaecaab
