/- PackEnds returns true for any fields and any place. -/
import Derived.Test.YtmfopddmkaecaabEnds
import Derived.Deep.RegionHeld3
namespace Go.Proofs.Ytmfopddmkaecaab
open Go.RowKit Nums

set_option maxHeartbeats 2000000 in
theorem packEnds_no (a0 : Option Addr) (len0 cap0 : Nat) (fs : List (Int × ByteArray)) (cut : Int) (w : World) (k : Int) (l : List UInt8) (HW : Hid (FReads w.heap.size w a0 len0 cap0 fs)) (hl : len0 ≤ 400)
    (HL : Hid (lgB fs = false)) (HK : Hid (layE 0 fs = k)) (HR : Hid (rowOf fs = l)) (hk : (k != 0) = true) :
    Calls Try.prog 6 #[.slice a0 len0 cap0, .int .i64 cut] w fun e w' => e = .returned (.bool true) ∧ Below w.heap.size w w' := by
  have HG : Hid (∀ w', FReads w.heap.size w' a0 len0 cap0 fs → Calls Try.prog 7 #[.slice a0 len0 cap0] w' fun e w'' => e = .returned (.bool false) ∧ w' = w'') := fun w' h => by
    have := large_any _ a0 len0 cap0 fs w' h
    rwa [HL.out] at this
  go_enter Try.func6, Try.ntmps6
  go_wp2_with fail
  refine (HG.out _ HW.out).mono ?_
  rintro e _ ⟨rfl, rfl⟩
  go_wp2_with fail
  refine (lay_reads _ _ _ fs _ HW.out hl HK.out HR.out).mono ?_
  rintro e w1 ⟨a1, c1, rfl, hr1, hb1⟩
  have HB1 : Hid (Below w.heap.size w w1) := hb1
  clear hr1 hb1
  go_wp2_with fail
  refine (rows_any _).mono ?_
  rintro e w2 ⟨rfl, hb2⟩
  have HE : Hid (Below w.heap.size w w2) := HB1.out.trans (hb2.mono HB1.out.size)
  clear hb2
  go_wp2
  go_ret
  exact ⟨rfl, HE.out⟩

set_option maxHeartbeats 2000000 in
theorem packEnds_out (a0 : Option Addr) (len0 cap0 : Nat) (fs : List (Int × ByteArray)) (cut : Int) (w : World) (l : List UInt8) (HW : Hid (FReads w.heap.size w a0 len0 cap0 fs)) (hl : len0 ≤ 400)
    (HL : Hid (lgB fs = false)) (HK : Hid (layE 0 fs = 0)) (HR : Hid (rowOf fs = l)) (hcut : cut < 0 ∨ (0 ≤ cut ∧ (l.length : Int) < cut)) :
    Calls Try.prog 6 #[.slice a0 len0 cap0, .int .i64 cut] w fun e w' => e = .returned (.bool true) ∧ Below w.heap.size w w' := by
  have HG : Hid (∀ w', FReads w.heap.size w' a0 len0 cap0 fs → Calls Try.prog 7 #[.slice a0 len0 cap0] w' fun e w'' => e = .returned (.bool false) ∧ w' = w'') := fun w' h => by
    have := large_any _ a0 len0 cap0 fs w' h
    rwa [HL.out] at this
  rcases hcut with hcut | ⟨hc1, hc2⟩
  · go_enter Try.func6, Try.ntmps6
    go_wp2_with fail
    refine (HG.out _ HW.out).mono ?_
    rintro e _ ⟨rfl, rfl⟩
    go_wp2_with fail
    refine (lay_reads _ _ _ fs _ HW.out hl HK.out HR.out).mono ?_
    rintro e w1 ⟨a1, c1, rfl, hr1, hb1⟩
    have HB1 : Hid (Below w.heap.size w w1) := hb1
    clear hr1 hb1
    go_wp2_with fail
    refine (rows_any _).mono ?_
    rintro e w2 ⟨rfl, hb2⟩
    have HE : Hid (Below w.heap.size w w2) := HB1.out.trans (hb2.mono HB1.out.size)
    clear hb2
    go_wp2
    go_ret
    exact ⟨rfl, HE.out⟩
  · have hn : ¬ cut < 0 := by omega
    go_enter Try.func6, Try.ntmps6
    go_wp2_with fail
    refine (HG.out _ HW.out).mono ?_
    rintro e _ ⟨rfl, rfl⟩
    go_wp2_with fail
    refine (lay_reads _ _ _ fs _ HW.out hl HK.out HR.out).mono ?_
    rintro e w1 ⟨a1, c1, rfl, hr1, hb1⟩
    have HB1 : Hid (Below w.heap.size w w1) := hb1
    clear hr1 hb1
    go_wp2_with fail
    refine (rows_any _).mono ?_
    rintro e w2 ⟨rfl, hb2⟩
    have HE : Hid (Below w.heap.size w w2) := HB1.out.trans (hb2.mono HB1.out.size)
    clear hb2
    go_wp2
    go_ret
    exact ⟨rfl, HE.out⟩

set_option maxHeartbeats 2000000 in
theorem packEnds_end (a0 : Option Addr) (len0 cap0 : Nat) (fs : List (Int × ByteArray)) (c : Nat) (w : World) (l m : List UInt8) (HW : Hid (FReads w.heap.size w a0 len0 cap0 fs)) (hl : len0 ≤ 400)
    (HL : Hid (lgB fs = false)) (HK : Hid (layE 0 fs = 0)) (HR : Hid (rowOf fs = l)) (hcut : (c : Int) ≤ (l.length : Int)) (hll : l.length ≤ 1000000) (HM : Hid (l.take c = m)) (HRE : Hid (readE m = 10)) (HRF : Hid (readF m = [])) :
    Calls Try.prog 6 #[.slice a0 len0 cap0, .int .i64 c] w fun e w' => e = .returned (.bool true) ∧ Below w.heap.size w w' := by
  have HG : Hid (∀ w', FReads w.heap.size w' a0 len0 cap0 fs → Calls Try.prog 7 #[.slice a0 len0 cap0] w' fun e w'' => e = .returned (.bool false) ∧ w' = w'') := fun w' h => by
    have := large_any _ a0 len0 cap0 fs w' h
    rwa [HL.out] at this
  have hn : ¬ (c : Int) < 0 := by omega
  have hn2 : ¬ (l.length : Int) < (c : Int) := by omega
  go_enter Try.func6, Try.ntmps6
  go_wp2_with fail
  refine (HG.out _ HW.out).mono ?_
  rintro e _ ⟨rfl, rfl⟩
  go_wp2_with fail
  refine (lay_reads _ _ _ fs _ HW.out hl HK.out HR.out).mono ?_
  rintro e w1 ⟨a1, c1, rfl, hr1, hb1⟩
  have HB1 : Hid (Below w.heap.size w w1) := hb1
  have hc1 : l.length ≤ c1 := hr1.2.1
  have hc2 : c1 ≤ 9223372036854775807 := hr1.2.2.1
  have HX1 : Hid (Reads w1 a1 l.length c1 l) := hr1
  have HXT : Hid (Reads w1 a1 c c1 m) := by have := hr1.take (c := c) (by omega); rwa [HM.out] at this
  clear hr1 hb1
  go_wp2_with fail
  refine (read_reads _ _ _ m _ HXT.out (by omega) HRE.out HRF.out).mono ?_
  rintro e w2 ⟨a2, c2, rfl, hr2, hb2⟩
  have HB2 : Hid (Below w.heap.size w w2) := HB1.out.trans (hb2.mono HB1.out.size)
  clear hr2 hb2
  go_wp2_with fail
  refine (rows_any _).mono ?_
  rintro e w3 ⟨rfl, hb3⟩
  have HE : Hid (Below w.heap.size w w3) := HB2.out.trans (hb3.mono HB2.out.size)
  clear hb3
  go_wp2
  go_ret
  exact ⟨rfl, HE.out⟩

set_option maxHeartbeats 2000000 in
theorem packEnds_yes (a0 : Option Addr) (len0 cap0 : Nat) (fs : List (Int × ByteArray)) (c : Nat) (w : World) (l m : List UInt8) (HW : Hid (FReads w.heap.size w a0 len0 cap0 fs)) (hl : len0 ≤ 400)
    (HL : Hid (lgB fs = false)) (HK : Hid (layE 0 fs = 0)) (HR : Hid (rowOf fs = l)) (hcut : (c : Int) ≤ (l.length : Int)) (hll : l.length ≤ 1000000) (HM : Hid (l.take c = m)) (fl : Nat) (hfl : (fl : Int) ≤ (len0 : Int)) (HRE : Hid (readE m = 0)) (gs : List (Int × ByteArray)) (HRF : Hid (readF m = gs)) (HGL : Hid (gs.length = fl)) (HGT : Hid (fs.take fl = gs)) :
    Calls Try.prog 6 #[.slice a0 len0 cap0, .int .i64 c] w fun e w' => e = .returned (.bool true) ∧ Below w.heap.size w w' := by
  have HG : Hid (∀ w', FReads w.heap.size w' a0 len0 cap0 fs → Calls Try.prog 7 #[.slice a0 len0 cap0] w' fun e w'' => e = .returned (.bool false) ∧ w' = w'') := fun w' h => by
    have := large_any _ a0 len0 cap0 fs w' h
    rwa [HL.out] at this
  have hcap : len0 ≤ cap0 := HW.out.2.1
  have hcapm : cap0 ≤ 9223372036854775807 := HW.out.2.2.1
  have HS : Hid (sameB gs gs = true) := by show _ = _; unfold sameB; simp
  have hn : ¬ (c : Int) < 0 := by omega
  have hn2 : ¬ (l.length : Int) < (c : Int) := by omega
  go_enter Try.func6, Try.ntmps6
  go_wp2_with fail
  refine (HG.out _ HW.out).mono ?_
  rintro e _ ⟨rfl, rfl⟩
  go_wp2_with fail
  refine (lay_reads _ _ _ fs _ HW.out hl HK.out HR.out).mono ?_
  rintro e w1 ⟨a1, c1, rfl, hr1, hb1⟩
  have HB1 : Hid (Below w.heap.size w w1) := hb1
  have hc1 : l.length ≤ c1 := hr1.2.1
  have hc2 : c1 ≤ 9223372036854775807 := hr1.2.2.1
  have HX1 : Hid (Reads w1 a1 l.length c1 l) := hr1
  have HXT : Hid (Reads w1 a1 c c1 m) := by have := hr1.take (c := c) (by omega); rwa [HM.out] at this
  clear hr1 hb1
  have HW1 : Hid (FReads w1.heap.size w1 a0 len0 cap0 fs) := HW.out.up HB1.out
  go_wp2_with fail
  refine (read_reads _ _ _ m _ HXT.out (by omega) HRE.out HRF.out).mono ?_
  rw [HGL.out]
  rintro e w2 ⟨a2, c2, rfl, hr2, hb2⟩
  have hd1 : fl ≤ c2 := hr2.2.1
  have hd2 : c2 ≤ 9223372036854775807 := hr2.2.2.1
  have HR2 : Hid (FReads w2.heap.size w2 a2 fl c2 gs) := hr2
  have HW2 : Hid (FReads w2.heap.size w2 a0 len0 cap0 fs) := HW1.out.up hb2
  have HB2 : Hid (Below w.heap.size w w2) := HB1.out.trans (hb2.mono HB1.out.size)
  clear hr2 hb2
  go_wp2_with fail
  refine (rows_any _).mono ?_
  rintro e w3 ⟨rfl, hb3⟩
  have HR3 : Hid (FReads w3.heap.size w3 a2 fl c2 gs) := HR2.out.up hb3
  have HW3 : Hid (FReads w3.heap.size w3 a0 fl cap0 gs) := by
    have := (HW2.out.up hb3).take (c := fl) (by omega)
    rwa [HGT.out] at this
  have HE : Hid (Below w.heap.size w w3) := HB2.out.trans (hb3.mono HB2.out.size)
  clear hb3
  go_wp2_with fail
  refine (same_any _ _ _ _ _ _ _ _ gs gs _ HR3.out HW3.out (by omega)).mono ?_
  rw [HS.out]
  rintro e w5 ⟨rfl, m5, rfl⟩
  go_wp2
  go_ret
  exact ⟨rfl, below_drewN HE.out _⟩

theorem packEnds_walk (a0 : Option Addr) (len0 cap0 : Nat) (z0 : List (Int × ByteArray)) (a1 : Int) (w : World) (w0 : FReads w.heap.size w a0 len0 cap0 z0) (_w1 : (Lit.int .i64 a1).wf = true) :
    Calls Try.prog 6 #[.slice a0 len0 cap0, .int .i64 a1] w fun e w' => e = .returned (.bool true) ∧ Below w.heap.size w w' := by
  cases hlg : lgB z0
  · have hl : len0 ≤ 400 := by rw [← w0.1]; exact lgB_false hlg
    by_cases hk : layE 0 z0 = 0
    · have hr : rowOf z0 = rowB z0 := by rw [rowOf, if_pos hk]
      have hs := row_small hlg
      by_cases hin : 0 ≤ a1 ∧ a1 ≤ ((rowB z0).length : Int)
      · obtain ⟨c, rfl⟩ : ∃ c : Nat, a1 = c := ⟨a1.toNat, by omega⟩
        rcases read_cut (c := c) hk (by omega) with h | ⟨h, m, hm, hf⟩
        · have hF : readF ((rowB z0).take c) = [] := by rw [readF, if_neg (by rw [h]; decide)]
          exact packEnds_end a0 len0 cap0 z0 c w (rowB z0) _ w0 hl hlg hk hr hin.2 (by omega) rfl h hF
        · have hgl : (z0.take m).length = m := by rw [List.length_take]; omega
          have hlen := w0.1
          exact packEnds_yes a0 len0 cap0 z0 c w (rowB z0) _ w0 hl hlg hk hr hin.2 (by omega) rfl m (by omega) h (z0.take m) hf hgl rfl
      · exact packEnds_out a0 len0 cap0 z0 a1 w (rowB z0) w0 hl hlg hk hr (by omega)
    · exact packEnds_no a0 len0 cap0 z0 a1 w _ _ w0 hl hlg rfl rfl (by simpa using hk)
  · have HG : Hid (∀ w', FReads w.heap.size w' a0 len0 cap0 z0 → Calls Try.prog 7 #[.slice a0 len0 cap0] w' fun e w'' => e = .returned (.bool true) ∧ w' = w'') := fun w' h => by
      have := large_any _ a0 len0 cap0 z0 w' h
      rwa [hlg] at this
    have HW : Hid (FReads w.heap.size w a0 len0 cap0 z0) := w0
    clear w0 hlg
    go_enter Try.func6, Try.ntmps6
    go_wp2_with fail
    refine (HG.out _ HW.out).mono ?_
    rintro e _ ⟨rfl, rfl⟩
    go_wp2
    go_ret
    exact ⟨rfl, Below.refl _ _⟩
end Go.Proofs.Ytmfopddmkaecaab
