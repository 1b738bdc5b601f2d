/- TreeGoes answers true at every list and number. -/
import Derived.Test.YtpjchiihiclhiaaDoorRoom
namespace Go.Proofs.YtpjchiihiclhiaaDoor
open Go.RowKit Sums
set_option linter.unusedVariables false
set_option linter.unusedSimpArgs false

set_option maxHeartbeats 2000000 in
theorem treeGoes_out (a0 : Option Addr) (len0 cap0 : Nat) (z0 : List (List UInt8)) (a1 : Int) (w : World) (w0 : LReads w a0 len0 cap0 z0) (hlong : len0 ≤ 200) (ho : a1 < 0 ∨ (len0 : Int) < a1) (hb : -9223372036854775808 ≤ a1 ∧ a1 ≤ 9223372036854775807) (hK : Table 1 w) :
    Calls Tryd.prog 5 #[.slice a0 len0 cap0, .int .i64 a1] w fun e w' => e = .returned (.bool true) ∧ Below w.heap.size w w' := by
  have hd : decide ((200 : Int) < (len0 : Int)) = false := by rw [decide_eq_false_iff_not]; omega
  have OW : Hid (Calls Tryd.prog 9 #[.slice a0 len0 cap0] w fun e w' => ∃ x cx, e = .returned (.slice x len0 cx) ∧ LReads w' x len0 cx z0 ∧ Below w.heap.size w w') := own_reads a0 len0 cap0 z0 w w0 (by omega)
  have T : Hid (∀ W, Below w.heap.size w W → Calls Tryd.prog 10 #[] W fun e w' => e = .returned (.bool true) ∧ Below W.heap.size W w') := fun W hb => three_true W (hK.keep hb)
  have IC : Hid (∀ W, Calls Tryd.prog 18 #[.slice a0 len0 cap0, .int .i64 a1] W fun e w' => e = .returned (.tuple #[.slice none 0 0, .int .i64 21]) ∧ Below W.heap.size W w') := fun W => consistency_out a0 len0 cap0 a1 W w0.2.2.2.1 ho
  clear hK w0
  by_cases h0 : a1 < 0
  · have hd0 : decide (a1 < 0) = true := by rw [decide_eq_true_eq]; exact h0
    go_enter Tryd.func5, Tryd.ntmps5
    go_wp2_with fail
    refine OW.out.mono ?_
    rintro e w1 ⟨x, cx, rfl, hx, hb1⟩
    clear hx
    go_wp2_with fail
    refine (IC.out _).mono ?_
    rintro e w2 ⟨rfl, hb2⟩
    have H2 : Hid (Below w.heap.size w w2) := hb1.trans (hb2.mono hb1.size)
    clear hb1 hb2
    go_wp2_with fail
    refine (T.out _ H2.out).mono ?_
    rintro e w3 ⟨rfl, hb3⟩
    have H3 : Hid (Below w.heap.size w w3) := H2.out.trans (hb3.mono H2.out.size)
    clear hb3 H2
    go_wp2
    go_ret
    exact ⟨rfl, H3.out⟩
  · have hd0 : decide (a1 < 0) = false := by rw [decide_eq_false_iff_not]; exact h0
    have hd1 : decide ((len0 : Int) < a1) = true := by rw [decide_eq_true_eq]; omega
    go_enter Tryd.func5, Tryd.ntmps5
    go_wp2_with fail
    refine OW.out.mono ?_
    rintro e w1 ⟨x, cx, rfl, hx, hb1⟩
    clear hx
    go_wp2_with fail
    refine (IC.out _).mono ?_
    rintro e w2 ⟨rfl, hb2⟩
    have H2 : Hid (Below w.heap.size w w2) := hb1.trans (hb2.mono hb1.size)
    clear hb1 hb2
    go_wp2_with fail
    refine (T.out _ H2.out).mono ?_
    rintro e w3 ⟨rfl, hb3⟩
    have H3 : Hid (Below w.heap.size w w3) := H2.out.trans (hb3.mono H2.out.size)
    clear hb3 H2
    go_wp2
    go_ret
    exact ⟨rfl, H3.out⟩

set_option maxHeartbeats 4000000 in
theorem treeGoes_in (a0 : Option Addr) (len0 cap0 : Nat) (z0 : List (List UInt8)) (i : Nat) (w : World) (w0 : LReads w a0 len0 cap0 z0) (hlong : len0 ≤ 200) (hi : i ≤ len0) (hK2 : Table 0 w) (hK : Table 1 w) :
    Calls Tryd.prog 5 #[.slice a0 len0 cap0, .int .i64 i] w fun e w' => e = .returned (.bool true) ∧ Below w.heap.size w w' := by
  have hd : decide ((200 : Int) < (len0 : Int)) = false := by rw [decide_eq_false_iff_not]; omega
  have hd0 : decide ((i : Int) < 0) = false := by rw [decide_eq_false_iff_not]; omega
  have hd1 : decide ((len0 : Int) < (i : Int)) = false := by rw [decide_eq_false_iff_not]; omega
  have hd2 : decide (len0 < i) = false := by rw [decide_eq_false_iff_not]; omega
  have hlen := w0.1
  have HK : Hid (Table 1 w) := hK
  have HW : Hid (LReads w a0 len0 cap0 z0) := w0
  obtain ⟨m, HM⟩ : ∃ m, Hid (m = (goesAt z0 i).length) := ⟨_, (rfl : (goesAt z0 i).length = _)⟩
  have hm : m ≤ 200 := by
    rw [HM.out]
    have := goesAt_len z0 i
    omega
  have OW : Hid (Calls Tryd.prog 9 #[.slice a0 len0 cap0] w fun e w' => ∃ x cx, e = .returned (.slice x len0 cx) ∧ LReads w' x len0 cx z0 ∧ Below w.heap.size w w') := own_reads a0 len0 cap0 z0 w w0 (by omega)
  have T : Hid (∀ W, Table 1 W → Calls Tryd.prog 10 #[] W fun e w' => e = .returned (.bool true) ∧ Below W.heap.size W w') := fun W h => three_true W h
  have hdg : Digs32 (goesAt z0 i) := goesAt_digs z0 i w0.2.1
  have IC : Hid (∀ W, Below w.heap.size w W → Calls Tryd.prog 18 #[.slice a0 len0 cap0, .int .i64 i] W fun e w' => ∃ y cy, e = .returned (.tuple #[.slice y m cy, .int .i64 0]) ∧ w'.ownsRow W.heap.size 26 32 (.slice y m cy) m (cellsOf (goesAt z0 i).flatten) ∧ LReads w' y m cy (goesAt z0 i) ∧ Below W.heap.size W w') := fun W hb => by
    refine (consistency_any a0 len0 cap0 z0 i W (w0.keep hb) hi (by omega) (hK.keep hb)).mono ?_
    rintro e w' ⟨v, rfl, hown, hbl⟩
    obtain ⟨y, cy, rfl, hy, _⟩ := LReads.own hown hdg
    rw [← HM.out] at hown hy ⊢
    exact ⟨y, cy, rfl, hown, hy, hbl⟩
  have RC : Hid (∀ W x cx, Below w.heap.size w W → LReads W x len0 cx z0 → Calls Tryd.prog 19 #[.slice x len0 cx, .int .i64 i] W fun e w' => ∃ y cy, e = .returned (.slice y m cy) ∧ LReads w' y m cy (goesAt z0 i) ∧ Below W.heap.size W w') := fun W x cx hb hx => by
    rw [HM.out]
    exact refGoes_any x len0 cx i z0 W hx hi (by omega) (hK2.keep hb)
  have DG : Hid (∀ W x cx y cy, LReads W x m cx (goesAt z0 i) → LReads W y m cy (goesAt z0 i) → Calls Tryd.prog 15 #[.slice x m cx, .slice y m cy] W fun e w' => e = .returned (.bool true) ∧ Below W.heap.size W w') := fun W x cx y cy h1 h2 => same_digs x y m cx cy _ W h1 h2
  have DL : Hid (∀ W x cx, LReads W a0 len0 cap0 z0 → LReads W x len0 cx z0 → Calls Tryd.prog 15 #[.slice a0 len0 cap0, .slice x len0 cx] W fun e w' => e = .returned (.bool true) ∧ Below W.heap.size W w') := fun W x cx h1 h2 => same_digs a0 x len0 cap0 cx z0 W h1 h2
  generalize goesAt z0 i = pf at HM hdg IC RC DG
  obtain ⟨D, HD, HSD, H1D, H32D⟩ := dig_row' (dig1 77) rfl
  have HBD : Hid (Tryd.prog.built 26 [(0, .int .u8 77)] = some D) := by show _ = _; rw [HD.out]; exact built77
  clear hK hK2 w0 HM hdg hlen
  go_enter Tryd.func5, Tryd.ntmps5
  go_wp2_with fail
  refine OW.out.mono ?_
  rintro e w1 ⟨x, cx, rfl, hx, hb1⟩
  have H1 : Hid (LReads w1 x len0 cx z0 ∧ Below w.heap.size w w1) := ⟨hx, hb1⟩
  clear hx hb1 OW
  go_wp2_with fail
  refine (IC.out _ H1.out.2).mono ?_
  rintro e w2 ⟨y, cy, rfl, hown, hy, hb2⟩
  have H2 : Hid (LReads w2 x len0 cx z0 ∧ Below w.heap.size w w2 ∧ w2.ownsRow w1.heap.size 26 32 (.slice y m cy) m (cellsOf pf.flatten) ∧ LReads w2 y m cy pf ∧ w1.heap.size ≤ w2.heap.size) := ⟨H1.out.1.keep hb2, H1.out.2.trans (hb2.mono H1.out.2.size), hown, hy, hb2.size⟩
  clear hown hy hb2 IC
  go_wp2_with fail
  refine (RC.out _ _ _ H2.out.2.1 H2.out.1).mono ?_
  rintro e w3 ⟨z, cz, rfl, hz, hb3⟩
  have H3 : Hid (LReads w3 x len0 cx z0 ∧ Below w.heap.size w w3 ∧ w3.ownsRow w1.heap.size 26 32 (.slice y m cy) m (cellsOf pf.flatten) ∧ LReads w3 y m cy pf ∧ LReads w3 z m cz pf ∧ w1.heap.size ≤ w3.heap.size) :=
    ⟨H2.out.1.keep hb3, H2.out.2.1.trans (hb3.mono H2.out.2.1.size), own_below H2.out.2.2.1 hb3, H2.out.2.2.2.1.keep hb3, hz, Nat.le_trans H2.out.2.2.2.2 hb3.size⟩
  clear hz hb3 RC H2
  go_wp2_with fail
  refine (DG.out _ _ _ _ _ H3.out.2.2.2.1 H3.out.2.2.2.2.1).mono ?_
  rintro e w4 ⟨rfl, hb4⟩
  have H4 : Hid (LReads w4 x len0 cx z0 ∧ Below w.heap.size w w4 ∧ Room w1.heap.size y m w4 ∧ w1.heap.size ≤ w4.heap.size) :=
    ⟨H3.out.1.keep hb4, H3.out.2.1.trans (hb4.mono H3.out.2.1.size), Room.own (own_below H3.out.2.2.1 hb4), Nat.le_trans H3.out.2.2.2.2.2 hb4.size⟩
  clear hb4 DG H3
  have low1 : ∀ g o, a0 = some ⟨g, o, none⟩ → 0 < len0 → g < w1.heap.size := fun g o e h0 => by
    obtain ⟨g', o', e', hg⟩ := HW.out.at h0
    rw [e] at e'
    cases e'
    exact Nat.lt_of_lt_of_le hg H1.out.2.size
  have low2 : ∀ g o, x = some ⟨g, o, none⟩ → 0 < len0 → g < w1.heap.size := fun g o e h0 => by
    obtain ⟨g', o', e', hg⟩ := H1.out.1.at h0
    rw [e] at e'
    cases e'
    exact hg
  have HL1 := hidk low1
  have HL2 := hidk low2
  have HT1 : Hid (1 < w1.heap.size) := Nat.lt_of_lt_of_le HK.out.1 H1.out.2.size
  have HS1 : Hid (w.heap.size ≤ w1.heap.size) := H1.out.2.size
  clear low1 low2 H1
  generalize w1.heap.size = B at HL1 HL2 HT1 HS1 H4
  go_wp2
  go_loopw [9] (fun v wr => ∃ k : Nat, k ≤ m ∧ v = .int .i64 k ∧ Hid (Room B y m wr ∧ Below B w4 wr)) (fun v _ => m - (intOf v).toNat)
  case atStart => exact ⟨0, by omega, rfl, H4.out.2.2.1, Below.refl _ _⟩
  case round =>
    obtain ⟨k, hk, rfl, HR⟩ := hrel
    by_cases hlt : k < m
    · have hdi : decide ((k : Int) < (m : Int)) = true := by rw [decide_eq_true_eq]; omega
      have hw := wrap_int ((k : Int) + 1) (by omega) (by omega)
      obtain ⟨gp, rfl, hgp, hth⟩ : ∃ gp, y = some ⟨gp, 0, none⟩ ∧ B ≤ gp ∧ wr.there gp 0 (32 * m) := by
        rcases HR.out.1 with h | h
        · omega
        · exact h
      have HTh : Hid (wr.there gp (32 * k) D.size) := fun j hj => by
        have := hth (32 * k + j) (by rw [H32D.out] at hj; omega)
        rw [Nat.zero_add] at this
        exact this
      have ix := fun W => index_list W gp 0 m cy k .i64 hlt
      simp only [Nat.zero_add] at ix
      have HR2 : Hid (Room B (some ⟨gp, 0, none⟩) m (wr.setCells gp (32 * k) D.toList) ∧ Below B w4 (wr.setCells gp (32 * k) D.toList)) := ⟨.inr ⟨gp, rfl, hgp, World.there_setCells hth _ _ _⟩, below_cells hgp _ _ _ HR.out.2⟩
      clear hth HR
      go_wp2_with (first
        | (refine wpList_build_one rfl 26 0 (.const (.int .u8 77)) rfl D _ rfl HBD.out ?_; try simp only [Act.put, List.setIfInBounds_toArray, List.set_cons_zero, List.set_cons_succ])
        | (refine wpList_store_mid rfl 26 (.tmp 53) (.tmp 52) rfl gp (32 * k) D rfl rfl HTh.out HSD.out H1D.out ?_; try simp only [Act.put, List.setIfInBounds_toArray, List.set_cons_zero, List.set_cons_succ])
        | fail)
      go_roundw
      case rel => exact ⟨k + 1, by omega, by go_num, HR2⟩
      case measure => simp [intOf]; omega
    · obtain rfl : m = k := by omega
      have H5 : Hid (LReads wr a0 len0 cap0 z0 ∧ LReads wr x len0 cx z0 ∧ Table 1 wr ∧ Below w.heap.size w wr) :=
        ⟨(HW.out.keep H4.out.2.1).below HR.out.2 HL1.out, H4.out.1.below HR.out.2 HL2.out, table_low (HK.out.keep H4.out.2.1) HR.out.2 HT1.out, H4.out.2.1.trans (HR.out.2.mono HS1.out)⟩
      clear HR H4 HL1 HL2 HT1 HS1 HK HW
      go_wp2_with fail
      refine (T.out _ H5.out.2.2.1).mono ?_
      rintro e w5 ⟨rfl, hb5⟩
      have H6 : Hid (LReads w5 a0 len0 cap0 z0 ∧ LReads w5 x len0 cx z0 ∧ Below w.heap.size w w5) := ⟨H5.out.1.keep hb5, H5.out.2.1.keep hb5, H5.out.2.2.2.trans (hb5.mono H5.out.2.2.2.size)⟩
      clear hb5 H5 T
      go_wp2_with fail
      refine (DL.out _ _ _ H6.out.1 H6.out.2.1).mono ?_
      rintro e w6 ⟨rfl, hb6⟩
      have H7 : Hid (Below w.heap.size w w6) := H6.out.2.2.trans (hb6.mono H6.out.2.2.size)
      clear hb6 H6
      go_wp2
      go_ret
      exact ⟨rfl, H7.out⟩

set_option maxHeartbeats 1000000 in
theorem treeGoes_walk (a0 : Option Addr) (len0 cap0 : Nat) (z0 : List (List UInt8)) (a1 : Int) (w : World) (w0 : LReads w a0 len0 cap0 z0) (w1 : (Lit.int .i64 a1).wf = true) (hK2 : Table 0 w) (hK : Table 1 w) :
    Calls Tryd.prog 5 #[.slice a0 len0 cap0, .int .i64 a1] w fun e w' => e = .returned (.bool true) ∧ Below w.heap.size w w' := by
  have hb := bounds_i64 w1
  have hmx : len0 ≤ 9223372036854775807 := by have := w0.2.2.2.1; unfold maxLen at this; omega
  by_cases hlong : 200 < len0
  · have hd : decide ((200 : Int) < (len0 : Int)) = true := by rw [decide_eq_true_eq]; omega
    go_enter Tryd.func5, Tryd.ntmps5
    go_wp2
    go_ret
    exact ⟨rfl, Below.refl _ _⟩
  · by_cases ho : a1 < 0 ∨ (len0 : Int) < a1
    · exact treeGoes_out a0 len0 cap0 z0 a1 w w0 (by omega) ho ⟨by omega, by omega⟩ hK
    · obtain ⟨i, hi⟩ : ∃ i : Nat, a1 = i := ⟨a1.toNat, by omega⟩
      subst hi
      exact treeGoes_in a0 len0 cap0 z0 i w w0 (by omega) (by omega) hK2 hK
end Go.Proofs.YtpjchiihiclhiaaDoor
