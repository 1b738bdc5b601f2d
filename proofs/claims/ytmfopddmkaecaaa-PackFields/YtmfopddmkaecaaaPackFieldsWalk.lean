/- PackFields returns true for any bytes, tag and text. -/
import Derived.Test.YtmfopddmkaecaaaOpen
namespace Go.Proofs.Ytmfopddmkaecaaa
open Go.RowKit Nums

theorem reads_lent {w : World} {B g len c : Nat} {l : List UInt8} (h : w.ownsRow B 5 1 (.slice (some ⟨g, 0, none⟩) (len + 7) c) (len + 7) (cellsOf (l ++ marks 7))) (hl : l.length = len) :
    Reads w (some ⟨g, 0, none⟩) (len + 7) c (l ++ marks 7) := by
  have hlen : (l ++ marks 7).length = len + 7 := by simp [marks]; omega
  obtain ⟨a, cap, e, hr⟩ := reads_own (l := l ++ marks 7) (by rw [hlen]; exact h)
  rw [hlen] at e hr
  cases e
  exact hr

set_option maxHeartbeats 1000000 in
theorem packFields_fault (a0 : Option Addr) (len0 cap0 : Nat) (z0 : List UInt8) (tag : Int) (d : ByteArray) (k : Int) (w : World) (HW : Hid (Reads w a0 len0 cap0 z0)) (hl : len0 ≤ 262144) (hd : d.size ≤ 262144)
    (hk : (k != 0) = true) (hk' : (k == 0) = false) (HF : Hid (faultOf 0 tag d.size = k)) :
    Calls Try.prog 6 #[.slice a0 len0 cap0, .int .i64 tag, .string d] w fun e w' => e = .returned (.bool true) ∧ Below w.heap.size w w' := by
  have hdm : d.size ≤ maxLen := by unfold maxLen; omega
  have HP : Hid (∀ v w, Calls Try.prog 15 #[v, .int .i64 tag, .string d] w fun e w' => e = .returned (.tuple #[.slice none 0 0, .int .i64 k]) ∧ Below w.heap.size w w') := fun v w => put_fault v tag d k w hdm hk HF
  have HR : Hid (∀ w, Calls Try.prog 16 #[.int .i64 tag, .string d] w fun e w' => e = .returned (.tuple #[.slice none 0 0, .int .i64 k]) ∧ w = w') := fun w => refPut_fault tag d k w hdm hk HF
  go_enter Try.func6, Try.ntmps6
  go_wp2_with fail
  refine (lent_any _ _ _ z0 _ HW.out (by omega)).mono ?_
  rintro e w1 ⟨g, c, rfl, hg, hc7, hcm2, hown, hb1⟩
  have HO1 : Hid (Reads w1 (some ⟨g, 0, none⟩) (len0 + 7) c (z0 ++ marks 7)) := reads_lent hown HW.out.1
  clear hown
  go_wp2_with fail
  refine (HP.out _ _).mono ?_
  rintro e w2 ⟨rfl, hb2⟩
  go_wp2_with fail
  refine (HR.out _).mono ?_
  rintro e _ ⟨rfl, rfl⟩
  go_wp2_with fail
  refine (fields_any _).mono ?_
  rintro e w3 ⟨rfl, hb3⟩
  have hcv := conv_reads (reads_none w3)
  have hb13 : Below w1.heap.size w1 w3 := hb2.trans (hb3.mono hb2.size)
  have hbw : Below w.heap.size w w3 := hb1.trans (hb13.mono hb1.size)
  have HK1 : Hid (Reads w3 (some ⟨g, 0, none⟩) (len0 + 7) c (z0 ++ marks 7)) := HO1.out.below hb13
  have HK2 : Hid (Reads w3 a0 len0 cap0 z0) := HW.out.below hbw
  have HE : Hid (Below w.heap.size w w3) := hbw
  clear hb1 hb2 hb3 hb13 hbw
  go_wp2_with fail
  refine (kept_any g c _ _ _ z0 _ HK1.out HK2.out (by omega)).mono ?_
  rintro e _ ⟨rfl, rfl⟩
  go_wp2
  go_ret
  exact ⟨rfl, HE.out⟩

set_option maxHeartbeats 1000000 in
theorem packFields_yes (a0 : Option Addr) (len0 cap0 : Nat) (z0 : List UInt8) (tag : Nat) (d : ByteArray) (w : World) (HW : Hid (Reads w a0 len0 cap0 z0)) (hl : len0 ≤ 262144) (hd : d.size ≤ 65536)
    (htag : 1 ≤ tag ∧ tag ≤ 255) :
    Calls Try.prog 6 #[.slice a0 len0 cap0, .int .i64 tag, .string d] w fun e w' => e = .returned (.bool true) ∧ Below w.heap.size w w' := by
  have HT : Hid (1 ≤ tag ∧ tag ≤ 255) := htag
  clear htag
  go_enter Try.func6, Try.ntmps6
  go_wp2_with fail
  refine (lent_any _ _ _ z0 _ HW.out (by omega)).mono ?_
  rintro e w1 ⟨g, c, rfl, hg, hc7, hcm2, hown, hb1⟩
  have HO1 : Hid (Reads w1 (some ⟨g, 0, none⟩) (len0 + 7) c (z0 ++ marks 7)) := reads_lent hown HW.out.1
  clear hown
  go_wp2_with fail
  refine (put_yes _ _ _ z0 tag d _ (reads_front HO1.out HW.out.1) (by omega) hd HT.out).mono ?_
  rintro e w2 ⟨v2, rfl, hown2, hb2⟩
  obtain ⟨a2, c2, hv2, hr2⟩ := reads_own hown2
  subst hv2
  have HR2 : Hid (Reads w2 a2 (z0 ++ fieldBytes tag d.data.toList).length c2 (z0 ++ fieldBytes tag d.data.toList)) := hr2
  have HL2 : Hid ((z0 ++ fieldBytes tag d.data.toList).length = len0 + (4 + d.size)) := by
    show _ = _
    rw [List.length_append, fieldBytes_length, HW.out.1]; simp
  clear hr2 hown2
  go_wp2_with fail
  refine (refPut_yes tag d _ hd HT.out).mono ?_
  rintro e w3 ⟨v3, rfl, hown3, hb3⟩
  obtain ⟨a3, c3, hv3, hr3⟩ := reads_own hown3
  subst hv3
  have HR3 : Hid (Reads w3 a3 (fieldBytes tag d.data.toList).length c3 (fieldBytes tag d.data.toList)) := hr3
  clear hr3 hown3
  have hb13 : Below w1.heap.size w1 w3 := hb2.trans (hb3.mono hb2.size)
  have hbw3 : Below w.heap.size w w3 := hb1.trans (hb13.mono hb1.size)
  have k1 := conv_reads (HW.out.below hbw3)
  have k2 := conv_reads HR3.out
  have hsum : z0.length + (fieldBytes tag d.data.toList).length ≤ 9223372036854775807 := by
    have := HL2.out; rw [List.length_append] at this; omega
  have happ : (⟨z0.toArray⟩ ++ ⟨(fieldBytes tag d.data.toList).toArray⟩ : ByteArray) = ⟨(z0 ++ fieldBytes tag d.data.toList).toArray⟩ := ByteArray.mk_append_mk _ _
  go_wp2_with fail
  refine (fields_any _).mono ?_
  rintro e w4 ⟨rfl, hb4⟩
  have k3 := conv_reads ((HR2.out.below hb3).below hb4)
  rw [List.length_append] at k3
  have HK1 : Hid (Reads w4 (some ⟨g, 0, none⟩) (len0 + 7) c (z0 ++ marks 7)) := (HO1.out.below hb13).below hb4
  have HK2 : Hid (Reads w4 a0 len0 cap0 z0) := (HW.out.below hbw3).below hb4
  have HE : Hid (Below w.heap.size w w4) := hbw3.trans (hb4.mono hbw3.size)
  clear hb1 hb2 hb3 hb13 hbw3 hb4 k1 k2
  go_wp2_with fail
  refine (kept_any g c _ _ _ z0 _ HK1.out HK2.out (by omega)).mono ?_
  rintro e _ ⟨rfl, rfl⟩
  go_wp2
  go_ret
  exact ⟨rfl, HE.out⟩

theorem packFields_walk (a0 : Option Addr) (len0 cap0 : Nat) (z0 : List UInt8) (a1 : Int) (a2 : ByteArray) (w : World) (w0 : Reads w a0 len0 cap0 z0) (_w1 : (Lit.int .i64 a1).wf = true) (w2 : a2.size ≤ maxLen) :
    Calls Try.prog 6 #[.slice a0 len0 cap0, .int .i64 a1, .string a2] w fun e w' => e = .returned (.bool true) ∧ Below w.heap.size w w' := by
  have hcm := Nat.le_trans w0.2.1 w0.2.2.1
  have HW : Hid (Reads w a0 len0 cap0 z0) := w0
  clear w0
  unfold maxLen at w2
  by_cases hlong : (262144 : Int) < (len0 : Int)
  · go_enter Try.func6, Try.ntmps6
    go_wp2
    go_ret
    exact ⟨rfl, Below.refl _ _⟩
  · by_cases hlong2 : (262144 : Int) < (a2.size : Int)
    · go_enter Try.func6, Try.ntmps6
      go_wp2
      go_ret
      exact ⟨rfl, Below.refl _ _⟩
    · by_cases h1 : a1 ≤ 0 ∨ 255 < a1
      · exact packFields_fault a0 len0 cap0 z0 a1 a2 1 w HW (by omega) (by omega) (by decide) (by decide) (by show _ = _; rw [faultOf, if_pos h1])
      · by_cases h2 : 65536 < a2.size
        · exact packFields_fault a0 len0 cap0 z0 a1 a2 2 w HW (by omega) (by omega) (by decide) (by decide) (by show _ = _; rw [faultOf, if_neg h1, if_pos h2])
        · obtain ⟨tag, rfl⟩ : ∃ tag : Nat, a1 = tag := ⟨a1.toNat, by omega⟩
          exact packFields_yes a0 len0 cap0 z0 tag a2 w HW (by omega) (by omega) (by omega)
end Go.Proofs.Ytmfopddmkaecaaa
