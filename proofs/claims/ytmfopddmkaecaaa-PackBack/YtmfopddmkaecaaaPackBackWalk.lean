/- PackBack returns true for any tag, text and bytes. -/
import Derived.Test.YtmfopddmkaecaaaOpen
namespace Go.Proofs.Ytmfopddmkaecaaa
open Go.RowKit Nums

/-- What is put is got, with anything behind it. -/
theorem got_field (tag : Nat) (d more : List UInt8) (ht : 1 ≤ tag ∧ tag ≤ 255) (hd : d.length ≤ 65536) :
    gE (fieldBytes tag d ++ more) = 0 ∧ gT (fieldBytes tag d ++ more) = tag ∧ gD (fieldBytes tag d ++ more) = d ∧ gN (fieldBytes tag d ++ more) = (fieldBytes tag d).length := by
  have e0 : ((fieldBytes tag d ++ more).getD 0 0).toNat = tag := by
    simp [fieldBytes]; omega
  have es : size3 (fieldBytes tag d ++ more) = d.length := by
    simp [fieldBytes, size3]; omega
  have el : (fieldBytes tag d ++ more).length = 4 + d.length + more.length := by rw [List.length_append, fieldBytes_length]
  have h0 : gE (fieldBytes tag d ++ more) = 0 := gE_ok (by omega) (by rw [e0, es]; omega) (by rw [es, el]; omega)
  refine ⟨h0, by rw [gT, if_pos h0, e0], ?_, by rw [gN, if_pos h0, es, fieldBytes_length]⟩
  rw [gD, if_pos h0, es]
  simp [fieldBytes]

theorem packBack_fault (tag : Int) (d : ByteArray) (a2 : Option Addr) (len2 cap2 : Nat) (k : Int) (w : World) (hd : d.size ≤ 262144) (hl : len2 ≤ 262144) (hk : (k != 0) = true) (HF : Hid (faultOf 0 tag d.size = k)) :
    Calls Try.prog 8 #[.int .i64 tag, .string d, .slice a2 len2 cap2] w fun e w' => e = .returned (.bool true) ∧ Below w.heap.size w w' := by
  have hdm : d.size ≤ maxLen := by unfold maxLen; omega
  have HP : Hid (∀ v w, Calls Try.prog 15 #[v, .int .i64 tag, .string d] w fun e w' => e = .returned (.tuple #[.slice none 0 0, .int .i64 k]) ∧ Below w.heap.size w w') := fun v w => put_fault v tag d k w hdm hk HF
  go_enter Try.func8, Try.ntmps8
  go_wp2_with fail
  refine (HP.out _ _).mono ?_
  rintro e w2 ⟨rfl, hb2⟩
  go_wp2_with fail
  refine (fields_any _).mono ?_
  rintro e w3 ⟨rfl, hb3⟩
  go_wp2
  go_ret
  exact ⟨rfl, hb2.trans (hb3.mono hb2.size)⟩

set_option maxHeartbeats 1000000 in
theorem packBack_yes (tag : Nat) (d : ByteArray) (a2 : Option Addr) (len2 cap2 : Nat) (z2 : List UInt8) (w : World) (HW : Hid (Reads w a2 len2 cap2 z2)) (hd : d.size ≤ 65536) (hl : len2 ≤ 262144) (htag : 1 ≤ tag ∧ tag ≤ 255) :
    Calls Try.prog 8 #[.int .i64 tag, .string d, .slice a2 len2 cap2] w fun e w' => e = .returned (.bool true) ∧ Below w.heap.size w w' := by
  have HT : Hid (1 ≤ tag ∧ tag ≤ 255) := htag
  have HG := got_field tag d.data.toList z2 htag (by simpa using hd)
  have HF : Hid ((fieldBytes tag d.data.toList).length = 4 + d.size) := by show _ = _; rw [fieldBytes_length]; simp
  obtain ⟨F, hF⟩ : ∃ F, F = fieldBytes tag d.data.toList := ⟨_, rfl⟩
  have HFF : Hid (fieldBytes tag d.data.toList = F) := hF.symm
  rw [← hF] at HG HF
  have HGG : Hid (gotten (F ++ z2) = .returned (.tuple #[.agg #[.int .i64 tag, .string d], .int .i64 F.length, .int .i64 0])) := by
    show _ = _
    rw [gotten, HG.1, HG.2.1, HG.2.2.1, HG.2.2.2]; rfl
  clear htag HG hF
  go_enter Try.func8, Try.ntmps8
  go_wp2_with fail
  refine (put_yes none 0 0 [] tag d _ (reads_none _) (by decide) hd HT.out).mono ?_
  rintro e w1 ⟨v1, rfl, hown1, hb1⟩
  rw [List.nil_append, HFF.out] at hown1
  obtain ⟨v2, w2, hrun, hown2, hgrow2⟩ := run_append_grows (HW.out.below hb1) w.heap.size F.length 30 v1 F hown1 hb1.size (by have := HF.out; omega)
  obtain ⟨a1, c1, hv1, hr1⟩ := reads_own hown1
  subst hv1
  have hb2 : Below w.heap.size w w2 := hb1.grown hgrow2 hb1.size (row_lt hown1)
  have HRUN : Hid _ := hrun
  have hlen : F.length + len2 = (F ++ z2).length := by rw [List.length_append, HW.out.1]
  rw [hlen] at hown2
  obtain ⟨a3, c3, hv2, hr2⟩ := reads_own hown2
  subst hv2
  have HR2 : Hid (Reads w2 a3 (F.length + z2.length) c3 (F ++ z2)) := by rw [List.length_append] at hr2; exact hr2
  clear hrun hown1 hown2 hgrow2 hr2 hlen hb1 hr1
  go_wp2_with (first
    | (at_builtin; refine wpList_append_run (by rfl) (.tmp 37) (.tmp 38) 30 30 (by rfl) _ _ _ _ (by rfl) (by rfl) HRUN.out ?_)
    | fail)
  refine (get_lit HGG.out HR2.out).mono ?_
  rintro e w3 ⟨rfl, hb3⟩
  go_wp2_with fail
  refine (fields_any _).mono ?_
  rintro e w4 ⟨rfl, hb4⟩
  have h34 : w3.heap.size < w4.heap.size := by have := hb4.size; simp at this; omega
  have u0 : w4.cell? ⟨w3.heap.size, 0, none⟩ = some (.int .i64 tag) := by rw [hb4.cell (p := ⟨w3.heap.size, 0, none⟩) (by simp)]; simp
  have u1 : w4.cell? ⟨w3.heap.size, 1, none⟩ = some (.string d) := by rw [hb4.cell (p := ⟨w3.heap.size, 1, none⟩) (by simp)]; simp
  have hb34 : Below w3.heap.size w3 w4 := ((Below.refl _ _).alloc (Nat.le_refl _) _).trans (hb4.mono (by simp))
  have HE : Hid (Below w.heap.size w w4) := hb2.trans ((hb3.mono hb2.size).trans (hb34.mono (Nat.le_trans hb2.size hb3.size)))
  clear hb2 hb3 hb4 hb34
  go_wp2
  go_ret
  exact ⟨rfl, HE.out⟩

theorem packBack_walk (a0 : Int) (a1 : ByteArray) (a2 : Option Addr) (len2 cap2 : Nat) (z2 : List UInt8) (w : World) (_w0 : (Lit.int .i64 a0).wf = true) (w1 : a1.size ≤ maxLen) (w2 : Reads w a2 len2 cap2 z2) :
    Calls Try.prog 8 #[.int .i64 a0, .string a1, .slice a2 len2 cap2] w fun e w' => e = .returned (.bool true) ∧ Below w.heap.size w w' := by
  have hcm := Nat.le_trans w2.2.1 w2.2.2.1
  have HW : Hid (Reads w a2 len2 cap2 z2) := w2
  clear w2
  unfold maxLen at w1
  by_cases hlong : (262144 : Int) < (a1.size : Int)
  · go_enter Try.func8, Try.ntmps8
    go_wp2
    go_ret
    exact ⟨rfl, Below.refl _ _⟩
  · by_cases hlong2 : (262144 : Int) < (len2 : Int)
    · go_enter Try.func8, Try.ntmps8
      go_wp2
      go_ret
      exact ⟨rfl, Below.refl _ _⟩
    · by_cases h1 : a0 ≤ 0 ∨ 255 < a0
      · exact packBack_fault a0 a1 a2 len2 cap2 1 w (by omega) (by omega) (by decide) (by show _ = _; rw [faultOf, if_pos h1])
      · by_cases h2 : 65536 < a1.size
        · exact packBack_fault a0 a1 a2 len2 cap2 2 w (by omega) (by omega) (by decide) (by show _ = _; rw [faultOf, if_neg h1, if_pos h2])
        · obtain ⟨tag, rfl⟩ : ∃ tag : Nat, a0 = tag := ⟨a0.toNat, by omega⟩
          exact packBack_yes tag a1 a2 len2 cap2 z2 w HW (by omega) (by omega) (by omega)
end Go.Proofs.Ytmfopddmkaecaaa
