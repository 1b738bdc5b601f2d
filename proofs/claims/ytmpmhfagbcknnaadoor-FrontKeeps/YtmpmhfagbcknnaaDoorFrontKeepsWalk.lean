/- FrontKeeps answers true at every number, list and leaves. -/
import Derived.Test.YtmpmhfagbcknnaaDoorThree4
import Derived.Test.YtmpmhfagbcknnaaDoorOwns
namespace Go.Proofs.YtmpmhfagbcknnaaDoor
open Go.RowKit Sums
set_option linter.unusedVariables false
set_option linter.unusedSimpArgs false

theorem keepK {w W W' : World} {gd ge gf : Nat} {LD LE F : List Value} (h : W.rangeAt gd 0 LD ∧ W.rangeAt ge 0 LE ∧ W.rangeAt gf 0 F ∧ Below w.heap.size w W) (hb : Below W.heap.size W W') :
    W'.rangeAt gd 0 LD ∧ W'.rangeAt ge 0 LE ∧ W'.rangeAt gf 0 F ∧ Below w.heap.size w W' :=
  ⟨range_keep hb h.1, range_keep hb h.2.1, range_keep hb h.2.2.1, h.2.2.2.trans (hb.mono h.2.2.2.size)⟩
theorem keepX1 {W W' : World} {gx gy : Nat} {X Y : List Value} (h : W.rangeAt gx 0 X ∧ W.rangeAt gy 0 Y) (hb : Below W.heap.size W W') : W'.rangeAt gx 0 X ∧ W'.rangeAt gy 0 Y :=
  ⟨range_keep hb h.1, range_keep hb h.2⟩
theorem keepX0 {W W' : World} {gx gy g1 o1 g2 o2 : Nat} {X Y L1 L2 : List Value} (h : W.rangeAt gx 0 X ∧ W.rangeAt gy 0 Y ∧ W.rangeAt g1 o1 L1 ∧ W.rangeAt g2 o2 L2) (hb : Below W.heap.size W W') : W'.rangeAt gx 0 X ∧ W'.rangeAt gy 0 Y ∧ W'.rangeAt g1 o1 L1 ∧ W'.rangeAt g2 o2 L2 :=
  ⟨range_keep hb h.1, range_keep hb h.2.1, range_keep hb h.2.2.1, range_keep hb h.2.2.2⟩

set_option maxHeartbeats 2000000 in
theorem keeps_no (fr : FrontC) (a0 : Int) (a1 : Option Addr) (len1 cap1 : Nat) (z1 : List (List UInt8)) (z2 z3 : List UInt8) (w : World) (w1 : LReads w a1 len1 cap1 z1) (hlong : len1 ≤ 200) (w2 : z2.length = 32) (w3 : z3.length = 32) (D E : Array Value) (HD : Hid (D = (cellsOf z2).toArray)) (HE : Hid (E = (cellsOf z3).toArray)) (hb : -9223372036854775808 ≤ a0 ∧ a0 ≤ 9223372036854775807) (hr : ¬ isRight a0 len1) (hK : TabF w) :
    Calls Tryd.prog 7 #[.int .i64 a0, .slice a1 len1 cap1, .agg D, .agg E] w fun e w' => e = .returned (.bool true) ∧ Below w.heap.size w w' := by
  have hd : decide ((200 : Int) < (len1 : Int)) = false := by rw [decide_eq_false_iff_not]; omega
  obtain ⟨LD, hLD⟩ : ∃ LD : List Value, D = LD.toArray := ⟨D.toList, by simp⟩
  obtain ⟨LE, hLE⟩ : ∃ LE : List Value, E = LE.toArray := ⟨E.toList, by simp⟩
  subst hLD hLE
  have zD : (Tryd.prog.info? 29).map (·.size) = some LD.length := by have h := HD.out; rw [size23, show LD = cellsOf z2 by simpa using h]; simp [cellsOf_length, w2]
  have zE : (Tryd.prog.info? 29).map (·.size) = some LE.length := by have h := HE.out; rw [size23, show LE = cellsOf z3 by simpa using h]; simp [cellsOf_length, w3]
  have HZD := hidk zD
  have HZE := hidk zE
  have HW : Hid (LReads w a1 len1 cap1 z1) := w1
  have T : Hid (∀ W, Below w.heap.size w W → Calls Tryd.prog 13 #[] W fun e w' => e = .returned (.bool true) ∧ Below W.heap.size W w') := fun W hb => three4_true fr W (hK.keep hb)
  have AC : Hid (∀ W, Calls Tryd.prog 15 #[.agg #[.int .i64 a0, .slice a1 len1 cap1], .agg LD.toArray] W fun e w' => ∃ y cy, e = .returned (.tuple #[.agg #[.int .i64 0, .slice y 0 cy], .int .i64 30]) ∧ Below W.heap.size W w') := fun W => fr.add_no a0 a1 len1 cap1 W w1.2.2.2.1 hb hr _ z2 w2 HD
  have CK : Hid (∀ W, Calls Tryd.prog 9 #[.agg #[.int .i64 a0, .slice a1 len1 cap1]] W fun e w' => e = .returned (.int .i64 30) ∧ Below W.heap.size W w') := fun W => fr.check_no a0 a1 len1 cap1 W w1.2.2.2.1 hb hr
  clear hK w1 hr HD HE
  go_enter Tryd.func7, Tryd.ntmps7
  have H0 : Hid ((((w.alloc (.cells LD.toArray 29)).alloc (.cells LE.toArray 29)).alloc (.cells #[.int .i64 a0, .slice a1 len1 cap1] 25)).rangeAt w.heap.size 0 LD ∧ (((w.alloc (.cells LD.toArray 29)).alloc (.cells LE.toArray 29)).alloc (.cells #[.int .i64 a0, .slice a1 len1 cap1] 25)).rangeAt (w.heap.size + 1) 0 LE ∧ (((w.alloc (.cells LD.toArray 29)).alloc (.cells LE.toArray 29)).alloc (.cells #[.int .i64 a0, .slice a1 len1 cap1] 25)).rangeAt (w.heap.size + 1 + 1) 0 [.int .i64 a0, .slice a1 len1 cap1] ∧ Below w.heap.size w (((w.alloc (.cells LD.toArray 29)).alloc (.cells LE.toArray 29)).alloc (.cells #[.int .i64 a0, .slice a1 len1 cap1] 25))) := by
    have b1 : Below w.heap.size w (w.alloc (.cells LD.toArray 29)) := (Below.refl _ _).alloc (Nat.le_refl _) _
    have b2 := (Below.refl (w.alloc (.cells LD.toArray 29)).heap.size (w.alloc (.cells LD.toArray 29))).alloc (Nat.le_refl _) (.cells LE.toArray 29)
    have b3 := (Below.refl ((w.alloc (.cells LD.toArray 29)).alloc (.cells LE.toArray 29)).heap.size ((w.alloc (.cells LD.toArray 29)).alloc (.cells LE.toArray 29))).alloc (Nat.le_refl _) (.cells #[.int .i64 a0, .slice a1 len1 cap1] 25)
    refine ⟨range_keep b3 (range_keep b2 (range_row (heap_alloc_new w _))), range_keep b3 ?_, ?_, b1.trans ((b2.trans (b3.mono b2.size)).mono b1.size)⟩
    · have := heap_alloc_new (w.alloc (.cells LD.toArray 29)) (.cells LE.toArray 29)
      simp only [World.alloc, Array.size_push] at this
      exact range_row this
    · have := heap_alloc_new ((w.alloc (.cells LD.toArray 29)).alloc (.cells LE.toArray 29)) (.cells #[.int .i64 a0, .slice a1 len1 cap1] 25)
      simp only [World.alloc, Array.size_push] at this
      exact range_row this
  go_wp2_with (first
    | (refine wpList_load_mid rfl 29 (.tmp 6) rfl w.heap.size 0 rfl LD _ H0.out.1 Tryd.underlying29 rfl HZD.out ?_; try simp only [Act.put, List.setIfInBounds_toArray, List.set_cons_zero, List.set_cons_succ])
    | fail)
  refine (AC.out _).mono ?_
  rintro e w4 ⟨y, cy, rfl, hb4⟩
  have H4 := hidk (keepK H0.out hb4)
  have hal : Below w4.heap.size w4 (w4.alloc (.cells #[.int .i64 0, .slice y 0 cy] 25)) := (Below.refl _ _).alloc (Nat.le_refl _) _
  have H5 := hidk (keepK H4.out hal)
  clear H0 hb4 H4 hal AC
  go_wp2_with fail
  generalize w4.alloc (.cells #[.int .i64 0, .slice y 0 cy] 25) = w5 at H5 ⊢
  refine (T.out _ H5.out.2.2.2).mono ?_
  rintro e w6 ⟨rfl, hb6⟩
  have H6 := hidk (keepK H5.out hb6)
  clear H5 hb6 T
  go_wp2_with (first
    | (refine wpList_load_mid_w (by rfl) 25 (.tmp 9) rfl _ 0 rfl [.int .i64 a0, .slice a1 len1 cap1] _ H6.out.2.2.1 Tryd.underlying25 rfl sizeF ?_; try simp only [Act.put, List.setIfInBounds_toArray, List.set_cons_zero, List.set_cons_succ])
    | fail)
  refine (CK.out _).mono ?_
  rintro e w7 ⟨rfl, hb7⟩
  have H7 := hidk (keepK H6.out hb7)
  clear H6 hb7 CK
  go_wp2
  go_ret
  exact ⟨rfl, H7.out.2.2.2⟩

set_option maxHeartbeats 2000000 in
theorem keeps_full (fr : FrontC) (a1 : Option Addr) (len1 cap1 : Nat) (z1 : List (List UInt8)) (z2 z3 : List UInt8) (w : World) (w1 : LReads w a1 len1 cap1 z1) (hlong : len1 ≤ 200) (w2 : z2.length = 32) (w3 : z3.length = 32) (D E : Array Value) (HD : Hid (D = (cellsOf z2).toArray)) (HE : Hid (E = (cellsOf z3).toArray)) (hr : isRight 100000 len1) (hK : TabF w) :
    Calls Tryd.prog 7 #[.int .i64 100000, .slice a1 len1 cap1, .agg D, .agg E] w fun e w' => e = .returned (.bool true) ∧ Below w.heap.size w w' := by
  have hd : decide ((200 : Int) < (len1 : Int)) = false := by rw [decide_eq_false_iff_not]; omega
  obtain ⟨LD, hLD⟩ : ∃ LD : List Value, D = LD.toArray := ⟨D.toList, by simp⟩
  obtain ⟨LE, hLE⟩ : ∃ LE : List Value, E = LE.toArray := ⟨E.toList, by simp⟩
  subst hLD hLE
  have zD : (Tryd.prog.info? 29).map (·.size) = some LD.length := by have h := HD.out; rw [size23, show LD = cellsOf z2 by simpa using h]; simp [cellsOf_length, w2]
  have zE : (Tryd.prog.info? 29).map (·.size) = some LE.length := by have h := HE.out; rw [size23, show LE = cellsOf z3 by simpa using h]; simp [cellsOf_length, w3]
  have HZD := hidk zD
  have HZE := hidk zE
  have HW : Hid (LReads w a1 len1 cap1 z1) := w1
  have T : Hid (∀ W, Below w.heap.size w W → Calls Tryd.prog 13 #[] W fun e w' => e = .returned (.bool true) ∧ Below W.heap.size W w') := fun W hb => three4_true fr W (hK.keep hb)
  have AC : Hid (∀ W, Calls Tryd.prog 15 #[.agg #[.int .i64 100000, .slice a1 len1 cap1], .agg LD.toArray] W fun e w' => ∃ y cy, e = .returned (.tuple #[.agg #[.int .i64 0, .slice y 0 cy], .int .i64 2]) ∧ Below W.heap.size W w') := fun W => fr.add_full a1 len1 cap1 W hr _ z2 w2 HD
  have CK : Hid (∀ W, Calls Tryd.prog 9 #[.agg #[.int .i64 100000, .slice a1 len1 cap1]] W fun e w' => e = .returned (.int .i64 0) ∧ Below W.heap.size W w') := fun W => fr.check_ok 100000 a1 len1 cap1 W hr
  clear hK w1 hr HD HE
  go_enter Tryd.func7, Tryd.ntmps7
  have H0 : Hid ((((w.alloc (.cells LD.toArray 29)).alloc (.cells LE.toArray 29)).alloc (.cells #[.int .i64 100000, .slice a1 len1 cap1] 25)).rangeAt w.heap.size 0 LD ∧ (((w.alloc (.cells LD.toArray 29)).alloc (.cells LE.toArray 29)).alloc (.cells #[.int .i64 100000, .slice a1 len1 cap1] 25)).rangeAt (w.heap.size + 1) 0 LE ∧ (((w.alloc (.cells LD.toArray 29)).alloc (.cells LE.toArray 29)).alloc (.cells #[.int .i64 100000, .slice a1 len1 cap1] 25)).rangeAt (w.heap.size + 1 + 1) 0 [.int .i64 100000, .slice a1 len1 cap1] ∧ Below w.heap.size w (((w.alloc (.cells LD.toArray 29)).alloc (.cells LE.toArray 29)).alloc (.cells #[.int .i64 100000, .slice a1 len1 cap1] 25))) := by
    have b1 : Below w.heap.size w (w.alloc (.cells LD.toArray 29)) := (Below.refl _ _).alloc (Nat.le_refl _) _
    have b2 := (Below.refl (w.alloc (.cells LD.toArray 29)).heap.size (w.alloc (.cells LD.toArray 29))).alloc (Nat.le_refl _) (.cells LE.toArray 29)
    have b3 := (Below.refl ((w.alloc (.cells LD.toArray 29)).alloc (.cells LE.toArray 29)).heap.size ((w.alloc (.cells LD.toArray 29)).alloc (.cells LE.toArray 29))).alloc (Nat.le_refl _) (.cells #[.int .i64 100000, .slice a1 len1 cap1] 25)
    refine ⟨range_keep b3 (range_keep b2 (range_row (heap_alloc_new w _))), range_keep b3 ?_, ?_, b1.trans ((b2.trans (b3.mono b2.size)).mono b1.size)⟩
    · have := heap_alloc_new (w.alloc (.cells LD.toArray 29)) (.cells LE.toArray 29)
      simp only [World.alloc, Array.size_push] at this
      exact range_row this
    · have := heap_alloc_new ((w.alloc (.cells LD.toArray 29)).alloc (.cells LE.toArray 29)) (.cells #[.int .i64 100000, .slice a1 len1 cap1] 25)
      simp only [World.alloc, Array.size_push] at this
      exact range_row this
  go_wp2_with (first
    | (refine wpList_load_mid rfl 29 (.tmp 6) rfl w.heap.size 0 rfl LD _ H0.out.1 Tryd.underlying29 rfl HZD.out ?_; try simp only [Act.put, List.setIfInBounds_toArray, List.set_cons_zero, List.set_cons_succ])
    | fail)
  refine (AC.out _).mono ?_
  rintro e w4 ⟨y, cy, rfl, hb4⟩
  have H4 := hidk (keepK H0.out hb4)
  have hal : Below w4.heap.size w4 (w4.alloc (.cells #[.int .i64 0, .slice y 0 cy] 25)) := (Below.refl _ _).alloc (Nat.le_refl _) _
  have H5 := hidk (keepK H4.out hal)
  clear H0 hb4 H4 hal AC
  go_wp2_with fail
  generalize w4.alloc (.cells #[.int .i64 0, .slice y 0 cy] 25) = w5 at H5 ⊢
  refine (T.out _ H5.out.2.2.2).mono ?_
  rintro e w6 ⟨rfl, hb6⟩
  have H6 := hidk (keepK H5.out hb6)
  clear H5 hb6 T
  go_wp2_with (first
    | (refine wpList_load_mid_w (by rfl) 25 (.tmp 9) rfl _ 0 rfl [.int .i64 100000, .slice a1 len1 cap1] _ H6.out.2.2.1 Tryd.underlying25 rfl sizeF ?_; try simp only [Act.put, List.setIfInBounds_toArray, List.set_cons_zero, List.set_cons_succ])
    | fail)
  refine (CK.out _).mono ?_
  rintro e w7 ⟨rfl, hb7⟩
  have H7 := hidk (keepK H6.out hb7)
  clear H6 hb7 CK
  go_wp2
  go_ret
  exact ⟨rfl, H7.out.2.2.2⟩

set_option maxHeartbeats 4000000 in
theorem keeps_odd (fr : FrontC) (n : Nat) (a1 : Option Addr) (len1 cap1 : Nat) (z1 : List (List UInt8)) (z2 z3 : List UInt8) (w : World) (w1 : LReads w a1 len1 cap1 z1) (hlong : len1 ≤ 200) (w2 : z2.length = 32) (w3 : z3.length = 32) (D E : Array Value) (HD : Hid (D = (cellsOf z2).toArray)) (HE : Hid (E = (cellsOf z3).toArray)) (hr : isRight n len1) (hn : n ≤ 99999) (hpar : n % 2 = 1) (hK : TabF w) :
    Calls Tryd.prog 7 #[.int .i64 n, .slice a1 len1 cap1, .agg D, .agg E] w fun e w' => e = .returned (.bool true) ∧ Below w.heap.size w w' := by
  have hd : decide ((200 : Int) < (len1 : Int)) = false := by rw [decide_eq_false_iff_not]; omega
  obtain ⟨LD, hLD⟩ : ∃ LD : List Value, D = LD.toArray := ⟨D.toList, by simp⟩
  obtain ⟨LE, hLE⟩ : ∃ LE : List Value, E = LE.toArray := ⟨E.toList, by simp⟩
  subst hLD hLE
  have zD : (Tryd.prog.info? 29).map (·.size) = some LD.length := by have h := HD.out; rw [size23, show LD = cellsOf z2 by simpa using h]; simp [cellsOf_length, w2]
  have zE : (Tryd.prog.info? 29).map (·.size) = some LE.length := by have h := HE.out; rw [size23, show LE = cellsOf z3 by simpa using h]; simp [cellsOf_length, w3]
  have HZD := hidk zD
  have HZE := hidk zE
  have HW : Hid (LReads w a1 len1 cap1 z1) := w1
  have hlm : len1 = many n := by have := hr.2.2; rwa [Int.toNat_natCast] at this
  obtain ⟨m, hmk⟩ : ∃ m, many (n + 1) = m := ⟨_, rfl⟩
  obtain ⟨k, HM⟩ : ∃ k, Hid (m = k + 1) := ⟨m - 1, by show _ = _; have := many_hi (n + 1) (by omega); omega⟩
  have hkm : m ≤ 100000 := by have := many_le (n + 1); omega
  have hk : ∀ d, (addP n z1 d).length = m := fun d => by rw [addP_length n z1 d (by rw [w1.1, hlm]), hmk]
  have T : Hid (∀ W, Below w.heap.size w W → Calls Tryd.prog 13 #[] W fun e w' => e = .returned (.bool true) ∧ Below W.heap.size W w') := fun W hb => three4_true fr W (hK.keep hb)
  have AC : Hid (∀ W, Below w.heap.size w W → Calls Tryd.prog 15 #[.agg #[.int .i64 n, .slice a1 len1 cap1], .agg LD.toArray] W fun e w' => ∃ y cy, e = .returned (.tuple #[.agg #[.int .i64 ((n : Int) + 1), .slice y m cy], .int .i64 0]) ∧ Below W.heap.size W w') := fun W hb => by
    refine (fr.add_ok n a1 len1 cap1 z1 z2 W hr hn (w1.keep hb) w2 (hK.keep hb) _ HD).mono ?_
    rintro e W' ⟨y, cy, rfl, -, -, hb'⟩
    rw [hk z2]
    exact ⟨y, cy, rfl, hb'⟩
  have BC : Hid (∀ W, Below w.heap.size w W → Calls Tryd.prog 15 #[.agg #[.int .i64 n, .slice a1 len1 cap1], .agg LE.toArray] W fun e w' => ∃ y cy, e = .returned (.tuple #[.agg #[.int .i64 ((n : Int) + 1), .slice y m cy], .int .i64 0]) ∧ Below W.heap.size W w') := fun W hb => by
    refine (fr.add_ok n a1 len1 cap1 z1 z3 W hr hn (w1.keep hb) w3 (hK.keep hb) _ HE).mono ?_
    rintro e W' ⟨y, cy, rfl, -, -, hb'⟩
    rw [hk z3]
    exact ⟨y, cy, rfl, hb'⟩
  have CK : Hid (∀ W, Calls Tryd.prog 9 #[.agg #[.int .i64 n, .slice a1 len1 cap1]] W fun e w' => e = .returned (.int .i64 0) ∧ Below W.heap.size W w') := fun W => fr.check_ok n a1 len1 cap1 W hr
  have CX : Hid (∀ W y cy, Calls Tryd.prog 9 #[.agg #[.int .i64 ((n : Int) + 1), .slice y m cy]] W fun e w' => e = .returned (.int .i64 0) ∧ Below W.heap.size W w') := fun W y cy => fr.check_ok ((n : Int) + 1) y m cy W ⟨by omega, by omega, by rw [show ((n : Int) + 1).toNat = n + 1 by omega, hmk]⟩
  have eA := eqSelf LD.toArray z2 w2 HD
  have eB := eqSelf LE.toArray z3 w3 HE
  have e0 : IntKind.i64.wrap ((n : Int) + 1 - 1) = (n : Int) := by rw [wrap_int _ (by omega) (by omega)]; omega
  have e1 : IntKind.i64.wrap ((m : Int) - 1) = (k : Int) := by have := HM.out; rw [wrap_int _ (by omega) (by omega)]; omega
  have e2 := wrap_int (n : Int) (by omega) (by omega)
  have c4 : 0 < m := by have := HM.out; omega
  have t2 : (n : Int).tmod 2 = 1 := by rw [Int.tmod_eq_emod_of_nonneg (by omega)]; omega
  have c3 : decide ((0 : Int) < (m : Int)) = true := by have := HM.out; rw [decide_eq_true_eq]; omega
  clear hK w1 hr HD HE hk hmk hlm
  go_enter Tryd.func7, Tryd.ntmps7
  have H0 : Hid ((((w.alloc (.cells LD.toArray 29)).alloc (.cells LE.toArray 29)).alloc (.cells #[.int .i64 n, .slice a1 len1 cap1] 25)).rangeAt w.heap.size 0 LD ∧ (((w.alloc (.cells LD.toArray 29)).alloc (.cells LE.toArray 29)).alloc (.cells #[.int .i64 n, .slice a1 len1 cap1] 25)).rangeAt (w.heap.size + 1) 0 LE ∧ (((w.alloc (.cells LD.toArray 29)).alloc (.cells LE.toArray 29)).alloc (.cells #[.int .i64 n, .slice a1 len1 cap1] 25)).rangeAt (w.heap.size + 1 + 1) 0 [.int .i64 n, .slice a1 len1 cap1] ∧ Below w.heap.size w (((w.alloc (.cells LD.toArray 29)).alloc (.cells LE.toArray 29)).alloc (.cells #[.int .i64 n, .slice a1 len1 cap1] 25))) := by
    have b1 : Below w.heap.size w (w.alloc (.cells LD.toArray 29)) := (Below.refl _ _).alloc (Nat.le_refl _) _
    have b2 := (Below.refl (w.alloc (.cells LD.toArray 29)).heap.size (w.alloc (.cells LD.toArray 29))).alloc (Nat.le_refl _) (.cells LE.toArray 29)
    have b3 := (Below.refl ((w.alloc (.cells LD.toArray 29)).alloc (.cells LE.toArray 29)).heap.size ((w.alloc (.cells LD.toArray 29)).alloc (.cells LE.toArray 29))).alloc (Nat.le_refl _) (.cells #[.int .i64 n, .slice a1 len1 cap1] 25)
    refine ⟨range_keep b3 (range_keep b2 (range_row (heap_alloc_new w _))), range_keep b3 ?_, ?_, b1.trans ((b2.trans (b3.mono b2.size)).mono b1.size)⟩
    · have := heap_alloc_new (w.alloc (.cells LD.toArray 29)) (.cells LE.toArray 29)
      simp only [World.alloc, Array.size_push] at this
      exact range_row this
    · have := heap_alloc_new ((w.alloc (.cells LD.toArray 29)).alloc (.cells LE.toArray 29)) (.cells #[.int .i64 n, .slice a1 len1 cap1] 25)
      simp only [World.alloc, Array.size_push] at this
      exact range_row this
  go_wp2_with (first
    | (refine wpList_load_mid rfl 29 (.tmp 6) rfl w.heap.size 0 rfl LD _ H0.out.1 Tryd.underlying29 rfl HZD.out ?_; try simp only [Act.put, List.setIfInBounds_toArray, List.set_cons_zero, List.set_cons_succ])
    | fail)
  refine (AC.out _ H0.out.2.2.2).mono ?_
  rintro e w4 ⟨y, cy, rfl, hb4⟩
  have hal : Below w4.heap.size w4 (w4.alloc (.cells #[.int .i64 ((n : Int) + 1), .slice y m cy] 25)) := (Below.refl _ _).alloc (Nat.le_refl _) _
  have H5 := hidk (keepK (keepK H0.out hb4) hal)
  have HX5 : Hid ((w4.alloc (.cells #[.int .i64 ((n : Int) + 1), .slice y m cy] 25)).rangeAt w4.heap.size 0 [.int .i64 ((n : Int) + 1), .slice y m cy]) := range_row (heap_alloc_new w4 _)
  clear H0 hb4 hal AC
  go_wp2_with (first
    | (refine wpList_load_mid rfl 25 (.tmp 9) rfl _ 0 rfl [.int .i64 n, .slice a1 len1 cap1] _ H5.out.2.2.1 Tryd.underlying25 rfl sizeF ?_; try simp only [Act.put, List.setIfInBounds_toArray, List.set_cons_zero, List.set_cons_succ])
    | (refine wpList_load_mid rfl 29 (.tmp 7) rfl _ 0 rfl LE _ H5.out.2.1 Tryd.underlying29 rfl HZE.out ?_; try simp only [Act.put, List.setIfInBounds_toArray, List.set_cons_zero, List.set_cons_succ])
    | fail)
  generalize w4.alloc (.cells #[.int .i64 ((n : Int) + 1), .slice y m cy] 25) = w5 at H5 HX5 ⊢
  generalize w4.heap.size = fx at HX5 ⊢
  refine (BC.out _ H5.out.2.2.2).mono ?_
  rintro e w6 ⟨v, cv, rfl, hb6⟩
  have hal : Below w6.heap.size w6 (w6.alloc (.cells #[.int .i64 ((n : Int) + 1), .slice v m cv] 25)) := (Below.refl _ _).alloc (Nat.le_refl _) _
  have H7 := hidk (keepK (keepK H5.out hb6) hal)
  have HX7 : Hid ((w6.alloc (.cells #[.int .i64 ((n : Int) + 1), .slice v m cv] 25)).rangeAt fx 0 [.int .i64 ((n : Int) + 1), .slice y m cy] ∧ (w6.alloc (.cells #[.int .i64 ((n : Int) + 1), .slice v m cv] 25)).rangeAt w6.heap.size 0 [.int .i64 ((n : Int) + 1), .slice v m cv]) := ⟨range_keep hal (range_keep hb6 HX5.out), range_row (heap_alloc_new w6 _)⟩
  clear H5 HX5 hb6 hal BC
  go_wp2_with fail
  generalize w6.alloc (.cells #[.int .i64 ((n : Int) + 1), .slice v m cv] 25) = w7 at H7 HX7 ⊢
  generalize w6.heap.size = fy at HX7 ⊢
  refine wp_region_held_drew (S := (fun W => (W.rangeAt w.heap.size 0 LD ∧ W.rangeAt (w.heap.size + 1) 0 LE ∧ W.rangeAt (w.heap.size + 1 + 1) 0 [.int .i64 n, .slice a1 len1 cap1] ∧ Below w.heap.size w W) ∧ (W.rangeAt fx 0 [.int .i64 ((n : Int) + 1), .slice y m cy] ∧ W.rangeAt fy 0 [.int .i64 ((n : Int) + 1), .slice v m cv]))) (by kernel_rfl) ⟨keepK H7.out (Below.refl _ _).drew, keepX1 HX7.out (Below.refl _ _).drew⟩ (fun hHeld => ?_)
  refine wpAnyH_ready (rs := [0]) (by kernel_rfl) (by simp) ?_
  refine AllReadyH.cons (o := { dst := some 44, op := Op.call { callee := Callee.value (Operand.func 13), args := #[], argTypes := #[] }, type := 4, pos := "law.go:106", after := #[], guard := none }) rfl (fun K hK => ?_) AllReadyH.nil
  go_simp
  refine (T.out _ hHeld.1.2.2.2).mono ?_
  rintro e w8 ⟨rfl, hb8⟩
  go_wp2_with fail
  refine hK.out _ _ ⟨keepK hHeld.1 hb8, keepX1 hHeld.2 hb8⟩ (fun hHeld => ?_)
  clear hK K
  try simp only [Act.put, List.setIfInBounds_toArray, List.set_cons_zero, List.set_cons_succ]
  refine wpAnyH_take (i := 1) (oi := { dst := some 45, op := Op.move (Operand.tmp 44), type := 4, pos := "law.go:106", after := #[{ on := 0, ground := Ground.data }, { on := 0, ground := Ground.chain }], guard := none }) (v := .bool true) rfl (by kernel_rfl) (by kernel_rfl) (by kernel_rfl) (fun _ _ _ h => h) (Or.inl ⟨by rfl, by intro w hSw; go_simp⟩) hHeld ?_
  try simp only [Act.put, List.setIfInBounds_toArray, List.set_cons_zero, List.set_cons_succ]
  refine wpAnyH_take (i := 2) (oi := { dst := some 46, op := Op.load 25 (Operand.tmp 9), type := 25, pos := "law.go:106", after := #[{ on := 1, ground := Ground.guard }], guard := some (1, true) }) (v := .agg #[.int .i64 n, .slice a1 len1 cap1]) rfl (by kernel_rfl) (by kernel_rfl) (by kernel_rfl) (fun _ _ _ h => h) (yieldsIf_load_mid (by rfl) 25 (.tmp 9) rfl _ 0 rfl [.int .i64 n, .slice a1 len1 cap1] _ (fun _ h => h.1.2.2.1) Tryd.underlying25 rfl sizeF) hHeld ?_
  try simp only [Act.put, List.setIfInBounds_toArray, List.set_cons_zero, List.set_cons_succ]
  refine wpAnyH_ready (rs := [3]) (by kernel_rfl) (by simp) ?_
  refine AllReadyH.cons (o := { dst := some 47, op := Op.call { callee := Callee.value (Operand.func 9), args := #[Operand.tmp 46], argTypes := #[25] }, type := 26, pos := "law.go:106", after := #[{ on := 2, ground := Ground.data }, { on := 1, ground := Ground.chain }, { on := 1, ground := Ground.guard }], guard := some (1, true) }) rfl (fun K hK => ?_) AllReadyH.nil
  go_simp
  refine (CK.out _).mono ?_
  rintro e w9 ⟨rfl, hb9⟩
  go_wp2_with fail
  refine hK.out _ _ ⟨keepK hHeld.1 hb9, keepX1 hHeld.2 hb9⟩ (fun hHeld => ?_)
  clear hK K
  try simp only [Act.put, List.setIfInBounds_toArray, List.set_cons_zero, List.set_cons_succ]
  refine wpAnyH_take (i := 4) (oi := { dst := some 48, op := Op.binOp BinOp.eql 26 (Operand.tmp 47) (Operand.const (Value.int IntKind.i64 0)) 26, type := 4, pos := "law.go:106", after := #[{ on := 3, ground := Ground.data }, { on := 1, ground := Ground.guard }], guard := some (1, true) }) (v := .bool true) rfl (by kernel_rfl) (by kernel_rfl) (by kernel_rfl) (fun _ _ _ h => h) (Or.inl ⟨by rfl, by intro w hSw; go_simp⟩) hHeld ?_
  try simp only [Act.put, List.setIfInBounds_toArray, List.set_cons_zero, List.set_cons_succ]
  refine wpAnyH_take (i := 5) (oi := { dst := some 49, op := Op.pick (Operand.tmp 45) (Operand.tmp 48) (Operand.const (Value.bool false)), type := 4, pos := "law.go:106", after := #[{ on := 1, ground := Ground.data }, { on := 4, ground := Ground.data }], guard := none }) (v := .bool true) rfl (by kernel_rfl) (by kernel_rfl) (by kernel_rfl) (fun _ _ _ h => h) (Or.inl ⟨by rfl, by intro w hSw; go_simp⟩) hHeld ?_
  try simp only [Act.put, List.setIfInBounds_toArray, List.set_cons_zero, List.set_cons_succ]
  refine wpAnyH_take (i := 6) (oi := { dst := some 50, op := Op.move (Operand.tmp 49), type := 4, pos := "law.go:106", after := #[{ on := 5, ground := Ground.data }, { on := 3, ground := Ground.chain }], guard := none }) (v := .bool true) rfl (by kernel_rfl) (by kernel_rfl) (by kernel_rfl) (fun _ _ _ h => h) (Or.inl ⟨by rfl, by intro w hSw; go_simp⟩) hHeld ?_
  try simp only [Act.put, List.setIfInBounds_toArray, List.set_cons_zero, List.set_cons_succ]
  refine wpAnyH_take (i := 7) (oi := { dst := some 51, op := Op.load 25 (Operand.tmp 10), type := 25, pos := "law.go:106", after := #[{ on := 6, ground := Ground.guard }], guard := some (6, true) }) (v := .agg #[.int .i64 ((n : Int) + 1), .slice y m cy]) rfl (by kernel_rfl) (by kernel_rfl) (by kernel_rfl) (fun _ _ _ h => h) (yieldsIf_load_mid (by rfl) 25 (.tmp 10) rfl _ 0 rfl [.int .i64 ((n : Int) + 1), .slice y m cy] _ (fun _ h => h.2.1) Tryd.underlying25 rfl sizeF) hHeld ?_
  try simp only [Act.put, List.setIfInBounds_toArray, List.set_cons_zero, List.set_cons_succ]
  refine wpAnyH_ready (rs := [8]) (by kernel_rfl) (by simp) ?_
  refine AllReadyH.cons (o := { dst := some 52, op := Op.call { callee := Callee.value (Operand.func 9), args := #[Operand.tmp 51], argTypes := #[25] }, type := 26, pos := "law.go:106", after := #[{ on := 7, ground := Ground.data }, { on := 6, ground := Ground.chain }, { on := 6, ground := Ground.guard }], guard := some (6, true) }) rfl (fun K hK => ?_) AllReadyH.nil
  go_simp
  refine (CX.out _ _ _).mono ?_
  rintro e w10 ⟨rfl, hb10⟩
  go_wp2_with fail
  refine hK.out _ _ ⟨keepK hHeld.1 hb10, keepX1 hHeld.2 hb10⟩ (fun hHeld => ?_)
  clear hK K
  try simp only [Act.put, List.setIfInBounds_toArray, List.set_cons_zero, List.set_cons_succ]
  refine wpAnyH_take (i := 9) (oi := { dst := some 53, op := Op.binOp BinOp.eql 26 (Operand.tmp 52) (Operand.const (Value.int IntKind.i64 0)) 26, type := 4, pos := "law.go:106", after := #[{ on := 8, ground := Ground.data }, { on := 6, ground := Ground.guard }], guard := some (6, true) }) (v := .bool true) rfl (by kernel_rfl) (by kernel_rfl) (by kernel_rfl) (fun _ _ _ h => h) (Or.inl ⟨by rfl, by intro w hSw; go_simp⟩) hHeld ?_
  try simp only [Act.put, List.setIfInBounds_toArray, List.set_cons_zero, List.set_cons_succ]
  refine wpAnyH_take (i := 10) (oi := { dst := some 54, op := Op.pick (Operand.tmp 50) (Operand.tmp 53) (Operand.const (Value.bool false)), type := 4, pos := "law.go:106", after := #[{ on := 6, ground := Ground.data }, { on := 9, ground := Ground.data }], guard := none }) (v := .bool true) rfl (by kernel_rfl) (by kernel_rfl) (by kernel_rfl) (fun _ _ _ h => h) (Or.inl ⟨by rfl, by intro w hSw; go_simp⟩) hHeld ?_
  try simp only [Act.put, List.setIfInBounds_toArray, List.set_cons_zero, List.set_cons_succ]
  refine wpAnyH_take (i := 11) (oi := { dst := some 55, op := Op.move (Operand.tmp 54), type := 4, pos := "law.go:106", after := #[{ on := 10, ground := Ground.data }, { on := 8, ground := Ground.chain }], guard := none }) (v := .bool true) rfl (by kernel_rfl) (by kernel_rfl) (by kernel_rfl) (fun _ _ _ h => h) (Or.inl ⟨by rfl, by intro w hSw; go_simp⟩) hHeld ?_
  try simp only [Act.put, List.setIfInBounds_toArray, List.set_cons_zero, List.set_cons_succ]
  refine wpAnyH_take (i := 12) (oi := { dst := some 56, op := Op.move (Operand.tmp 13), type := 26, pos := "law.go:106", after := #[{ on := 11, ground := Ground.guard }], guard := some (11, true) }) (v := .int .i64 0) rfl (by kernel_rfl) (by kernel_rfl) (by kernel_rfl) (fun _ _ _ h => h) (Or.inl ⟨by rfl, by intro w hSw; go_simp⟩) hHeld ?_
  try simp only [Act.put, List.setIfInBounds_toArray, List.set_cons_zero, List.set_cons_succ]
  refine wpAnyH_take (i := 13) (oi := { dst := some 57, op := Op.binOp BinOp.eql 26 (Operand.tmp 56) (Operand.const (Value.int IntKind.i64 0)) 26, type := 4, pos := "law.go:106", after := #[{ on := 12, ground := Ground.data }, { on := 11, ground := Ground.guard }], guard := some (11, true) }) (v := .bool true) rfl (by kernel_rfl) (by kernel_rfl) (by kernel_rfl) (fun _ _ _ h => h) (Or.inl ⟨by rfl, by intro w hSw; go_simp⟩) hHeld ?_
  try simp only [Act.put, List.setIfInBounds_toArray, List.set_cons_zero, List.set_cons_succ]
  refine wpAnyH_take (i := 14) (oi := { dst := some 58, op := Op.pick (Operand.tmp 55) (Operand.tmp 57) (Operand.const (Value.bool false)), type := 4, pos := "law.go:106", after := #[{ on := 11, ground := Ground.data }, { on := 13, ground := Ground.data }], guard := none }) (v := .bool true) rfl (by kernel_rfl) (by kernel_rfl) (by kernel_rfl) (fun _ _ _ h => h) (Or.inl ⟨by rfl, by intro w hSw; go_simp⟩) hHeld ?_
  try simp only [Act.put, List.setIfInBounds_toArray, List.set_cons_zero, List.set_cons_succ]
  refine wpAnyH_take (i := 15) (oi := { dst := some 59, op := Op.move (Operand.tmp 58), type := 4, pos := "law.go:106", after := #[{ on := 14, ground := Ground.data }, { on := 11, ground := Ground.chain }], guard := none }) (v := .bool true) rfl (by kernel_rfl) (by kernel_rfl) (by kernel_rfl) (fun _ _ _ h => h) (Or.inl ⟨by rfl, by intro w hSw; go_simp⟩) hHeld ?_
  try simp only [Act.put, List.setIfInBounds_toArray, List.set_cons_zero, List.set_cons_succ]
  refine wpAnyH_take (i := 16) (oi := { dst := some 60, op := Op.fieldAddr 25 (Operand.tmp 10) 1, type := 0, pos := "law.go:106", after := #[{ on := 15, ground := Ground.guard }], guard := some (15, true) }) (v := .pointer (some ⟨fx, 1, none⟩)) rfl (by kernel_rfl) (by kernel_rfl) (by kernel_rfl) (fun _ _ _ h => h) (Or.inl ⟨by rfl, by intro w hSw; go_simp⟩) hHeld ?_
  try simp only [Act.put, List.setIfInBounds_toArray, List.set_cons_zero, List.set_cons_succ]
  refine wpAnyH_take (i := 17) (oi := { dst := some 61, op := Op.load 22 (Operand.tmp 60), type := 22, pos := "law.go:106", after := #[{ on := 16, ground := Ground.data }, { on := 15, ground := Ground.guard }], guard := some (15, true) }) (v := .slice y m cy) rfl (by kernel_rfl) (by kernel_rfl) (by kernel_rfl) (fun _ _ _ h => h) (Or.inl ⟨by rfl, by intro W hSw; have hc0 := hSw.2.1 1 _ rfl; simp only [Nat.zero_add] at hc0; go_simp⟩) hHeld ?_
  try simp only [Act.put, List.setIfInBounds_toArray, List.set_cons_zero, List.set_cons_succ]
  refine wpAnyH_take (i := 18) (oi := { dst := some 62, op := Op.call { callee := Callee.builtin Builtin.len, args := #[Operand.tmp 61], argTypes := #[22] }, type := 3, pos := "law.go:106", after := #[{ on := 17, ground := Ground.data }, { on := 15, ground := Ground.guard }], guard := some (15, true) }) (v := .int .i64 m) rfl (by kernel_rfl) (by kernel_rfl) (by kernel_rfl) (fun _ _ _ h => h) (Or.inl ⟨by rfl, by intro w hSw; go_simp⟩) hHeld ?_
  try simp only [Act.put, List.setIfInBounds_toArray, List.set_cons_zero, List.set_cons_succ]
  refine wpAnyH_take (i := 19) (oi := { dst := some 63, op := Op.fieldAddr 25 (Operand.tmp 12) 1, type := 0, pos := "law.go:106", after := #[{ on := 15, ground := Ground.guard }], guard := some (15, true) }) (v := .pointer (some ⟨fy, 1, none⟩)) rfl (by kernel_rfl) (by kernel_rfl) (by kernel_rfl) (fun _ _ _ h => h) (Or.inl ⟨by rfl, by intro w hSw; go_simp⟩) hHeld ?_
  try simp only [Act.put, List.setIfInBounds_toArray, List.set_cons_zero, List.set_cons_succ]
  refine wpAnyH_take (i := 20) (oi := { dst := some 64, op := Op.load 22 (Operand.tmp 63), type := 22, pos := "law.go:106", after := #[{ on := 19, ground := Ground.data }, { on := 15, ground := Ground.guard }], guard := some (15, true) }) (v := .slice v m cv) rfl (by kernel_rfl) (by kernel_rfl) (by kernel_rfl) (fun _ _ _ h => h) (Or.inl ⟨by rfl, by intro W hSw; have hc0 := hSw.2.2 1 _ rfl; simp only [Nat.zero_add] at hc0; go_simp⟩) hHeld ?_
  try simp only [Act.put, List.setIfInBounds_toArray, List.set_cons_zero, List.set_cons_succ]
  refine wpAnyH_take (i := 21) (oi := { dst := some 65, op := Op.call { callee := Callee.builtin Builtin.len, args := #[Operand.tmp 64], argTypes := #[22] }, type := 3, pos := "law.go:106", after := #[{ on := 20, ground := Ground.data }, { on := 15, ground := Ground.guard }], guard := some (15, true) }) (v := .int .i64 m) rfl (by kernel_rfl) (by kernel_rfl) (by kernel_rfl) (fun _ _ _ h => h) (Or.inl ⟨by rfl, by intro w hSw; go_simp⟩) hHeld ?_
  try simp only [Act.put, List.setIfInBounds_toArray, List.set_cons_zero, List.set_cons_succ]
  refine wpAnyH_take (i := 22) (oi := { dst := some 66, op := Op.binOp BinOp.eql 3 (Operand.tmp 62) (Operand.tmp 65) 3, type := 4, pos := "law.go:106", after := #[{ on := 18, ground := Ground.data }, { on := 21, ground := Ground.data }, { on := 15, ground := Ground.guard }], guard := some (15, true) }) (v := .bool true) rfl (by kernel_rfl) (by kernel_rfl) (by kernel_rfl) (fun _ _ _ h => h) (Or.inl ⟨by rfl, by intro w hSw; go_simp⟩) hHeld ?_
  try simp only [Act.put, List.setIfInBounds_toArray, List.set_cons_zero, List.set_cons_succ]
  refine wpAnyH_take (i := 23) (oi := { dst := some 67, op := Op.pick (Operand.tmp 59) (Operand.tmp 66) (Operand.const (Value.bool false)), type := 4, pos := "law.go:106", after := #[{ on := 15, ground := Ground.data }, { on := 22, ground := Ground.data }], guard := none }) (v := .bool true) rfl (by kernel_rfl) (by kernel_rfl) (by kernel_rfl) (fun _ _ _ h => h) (Or.inl ⟨by rfl, by intro w hSw; go_simp⟩) hHeld ?_
  try simp only [Act.put, List.setIfInBounds_toArray, List.set_cons_zero, List.set_cons_succ]
  refine wpAnyH_take (i := 24) (oi := { dst := some 68, op := Op.move (Operand.tmp 67), type := 4, pos := "law.go:106", after := #[{ on := 23, ground := Ground.data }, { on := 15, ground := Ground.chain }], guard := none }) (v := .bool true) rfl (by kernel_rfl) (by kernel_rfl) (by kernel_rfl) (fun _ _ _ h => h) (Or.inl ⟨by rfl, by intro w hSw; go_simp⟩) hHeld ?_
  try simp only [Act.put, List.setIfInBounds_toArray, List.set_cons_zero, List.set_cons_succ]
  refine wpAnyH_take (i := 25) (oi := { dst := some 69, op := Op.fieldAddr 25 (Operand.tmp 10) 0, type := 0, pos := "law.go:106", after := #[{ on := 24, ground := Ground.guard }], guard := some (24, true) }) (v := .pointer (some ⟨fx, 0, none⟩)) rfl (by kernel_rfl) (by kernel_rfl) (by kernel_rfl) (fun _ _ _ h => h) (Or.inl ⟨by rfl, by intro w hSw; go_simp⟩) hHeld ?_
  try simp only [Act.put, List.setIfInBounds_toArray, List.set_cons_zero, List.set_cons_succ]
  refine wpAnyH_take (i := 26) (oi := { dst := some 70, op := Op.load 3 (Operand.tmp 69), type := 3, pos := "law.go:106", after := #[{ on := 25, ground := Ground.data }, { on := 24, ground := Ground.guard }], guard := some (24, true) }) (v := .int .i64 ((n : Int) + 1)) rfl (by kernel_rfl) (by kernel_rfl) (by kernel_rfl) (fun _ _ _ h => h) (Or.inl ⟨by rfl, by intro W hSw; have hc0 := hSw.2.1 0 _ rfl; simp only [Nat.add_zero] at hc0; go_simp⟩) hHeld ?_
  try simp only [Act.put, List.setIfInBounds_toArray, List.set_cons_zero, List.set_cons_succ]
  refine wpAnyH_take (i := 27) (oi := { dst := some 71, op := Op.binOp BinOp.sub 3 (Operand.tmp 70) (Operand.const (Value.int IntKind.i64 1)) 3, type := 3, pos := "law.go:106", after := #[{ on := 26, ground := Ground.data }, { on := 24, ground := Ground.guard }], guard := some (24, true) }) (v := .int .i64 n) rfl (by kernel_rfl) (by kernel_rfl) (by kernel_rfl) (fun _ _ _ h => h) (Or.inl ⟨by rfl, by intro w hSw; go_simp⟩) hHeld ?_
  try simp only [Act.put, List.setIfInBounds_toArray, List.set_cons_zero, List.set_cons_succ]
  refine wpAnyH_take (i := 28) (oi := { dst := some 72, op := Op.move (Operand.tmp 0), type := 3, pos := "law.go:106", after := #[{ on := 24, ground := Ground.guard }], guard := some (24, true) }) (v := .int .i64 n) rfl (by kernel_rfl) (by kernel_rfl) (by kernel_rfl) (fun _ _ _ h => h) (Or.inl ⟨by rfl, by intro w hSw; go_simp⟩) hHeld ?_
  try simp only [Act.put, List.setIfInBounds_toArray, List.set_cons_zero, List.set_cons_succ]
  refine wpAnyH_take (i := 29) (oi := { dst := some 73, op := Op.binOp BinOp.eql 3 (Operand.tmp 71) (Operand.tmp 72) 3, type := 4, pos := "law.go:106", after := #[{ on := 27, ground := Ground.data }, { on := 28, ground := Ground.data }, { on := 24, ground := Ground.guard }], guard := some (24, true) }) (v := .bool true) rfl (by kernel_rfl) (by kernel_rfl) (by kernel_rfl) (fun _ _ _ h => h) (Or.inl ⟨by rfl, by intro w hSw; go_simp⟩) hHeld ?_
  try simp only [Act.put, List.setIfInBounds_toArray, List.set_cons_zero, List.set_cons_succ]
  refine wpAnyH_take (i := 30) (oi := { dst := some 74, op := Op.pick (Operand.tmp 68) (Operand.tmp 73) (Operand.const (Value.bool false)), type := 4, pos := "law.go:106", after := #[{ on := 24, ground := Ground.data }, { on := 29, ground := Ground.data }], guard := none }) (v := .bool true) rfl (by kernel_rfl) (by kernel_rfl) (by kernel_rfl) (fun _ _ _ h => h) (Or.inl ⟨by rfl, by intro w hSw; go_simp⟩) hHeld ?_
  try simp only [Act.put, List.setIfInBounds_toArray, List.set_cons_zero, List.set_cons_succ]
  refine wpAnyH_take (i := 31) (oi := { dst := some 75, op := Op.move (Operand.tmp 74), type := 4, pos := "law.go:106", after := #[{ on := 30, ground := Ground.data }, { on := 24, ground := Ground.chain }], guard := none }) (v := .bool true) rfl (by kernel_rfl) (by kernel_rfl) (by kernel_rfl) (fun _ _ _ h => h) (Or.inl ⟨by rfl, by intro w hSw; go_simp⟩) hHeld ?_
  try simp only [Act.put, List.setIfInBounds_toArray, List.set_cons_zero, List.set_cons_succ]
  refine wpAnyH_take (i := 32) (oi := { dst := some 76, op := Op.fieldAddr 25 (Operand.tmp 10) 1, type := 0, pos := "law.go:106", after := #[{ on := 31, ground := Ground.guard }], guard := some (31, true) }) (v := .pointer (some ⟨fx, 1, none⟩)) rfl (by kernel_rfl) (by kernel_rfl) (by kernel_rfl) (fun _ _ _ h => h) (Or.inl ⟨by rfl, by intro w hSw; go_simp⟩) hHeld ?_
  try simp only [Act.put, List.setIfInBounds_toArray, List.set_cons_zero, List.set_cons_succ]
  refine wpAnyH_take (i := 33) (oi := { dst := some 77, op := Op.load 22 (Operand.tmp 76), type := 22, pos := "law.go:106", after := #[{ on := 32, ground := Ground.data }, { on := 31, ground := Ground.guard }], guard := some (31, true) }) (v := .slice y m cy) rfl (by kernel_rfl) (by kernel_rfl) (by kernel_rfl) (fun _ _ _ h => h) (Or.inl ⟨by rfl, by intro W hSw; have hc0 := hSw.2.1 1 _ rfl; simp only [Nat.zero_add] at hc0; go_simp⟩) hHeld ?_
  try simp only [Act.put, List.setIfInBounds_toArray, List.set_cons_zero, List.set_cons_succ]
  refine wpAnyH_take (i := 34) (oi := { dst := some 78, op := Op.call { callee := Callee.builtin Builtin.len, args := #[Operand.tmp 77], argTypes := #[22] }, type := 3, pos := "law.go:106", after := #[{ on := 33, ground := Ground.data }, { on := 31, ground := Ground.guard }], guard := some (31, true) }) (v := .int .i64 m) rfl (by kernel_rfl) (by kernel_rfl) (by kernel_rfl) (fun _ _ _ h => h) (Or.inl ⟨by rfl, by intro w hSw; go_simp⟩) hHeld ?_
  try simp only [Act.put, List.setIfInBounds_toArray, List.set_cons_zero, List.set_cons_succ]
  refine wpAnyH_take (i := 35) (oi := { dst := some 79, op := Op.binOp BinOp.gtr 3 (Operand.tmp 78) (Operand.const (Value.int IntKind.i64 0)) 3, type := 4, pos := "law.go:106", after := #[{ on := 34, ground := Ground.data }, { on := 31, ground := Ground.guard }], guard := some (31, true) }) (v := .bool true) rfl (by kernel_rfl) (by kernel_rfl) (by kernel_rfl) (fun _ _ _ h => h) (Or.inl ⟨by rfl, by intro w hSw; go_simp⟩) hHeld ?_
  try simp only [Act.put, List.setIfInBounds_toArray, List.set_cons_zero, List.set_cons_succ]
  refine wpAnyH_take (i := 36) (oi := { dst := some 80, op := Op.pick (Operand.tmp 75) (Operand.tmp 79) (Operand.const (Value.bool false)), type := 4, pos := "law.go:106", after := #[{ on := 31, ground := Ground.data }, { on := 35, ground := Ground.data }], guard := none }) (v := .bool true) rfl (by kernel_rfl) (by kernel_rfl) (by kernel_rfl) (fun _ _ _ h => h) (Or.inl ⟨by rfl, by intro w hSw; go_simp⟩) hHeld ?_
  try simp only [Act.put, List.setIfInBounds_toArray, List.set_cons_zero, List.set_cons_succ]
  refine wpAnyH_take (i := 37) (oi := { dst := some 81, op := Op.move (Operand.tmp 80), type := 4, pos := "law.go:106", after := #[{ on := 36, ground := Ground.data }, { on := 31, ground := Ground.chain }], guard := none }) (v := .bool true) rfl (by kernel_rfl) (by kernel_rfl) (by kernel_rfl) (fun _ _ _ h => h) (Or.inl ⟨by rfl, by intro w hSw; go_simp⟩) hHeld ?_
  try simp only [Act.put, List.setIfInBounds_toArray, List.set_cons_zero, List.set_cons_succ]
  refine wpAnyH_take (i := 38) (oi := { dst := some 82, op := Op.move (Operand.tmp 0), type := 3, pos := "law.go:106", after := #[{ on := 37, ground := Ground.guard }], guard := some (37, true) }) (v := .int .i64 n) rfl (by kernel_rfl) (by kernel_rfl) (by kernel_rfl) (fun _ _ _ h => h) (Or.inl ⟨by rfl, by intro w hSw; go_simp⟩) hHeld ?_
  try simp only [Act.put, List.setIfInBounds_toArray, List.set_cons_zero, List.set_cons_succ]
  refine wpAnyH_take (i := 39) (oi := { dst := some 83, op := Op.binOp BinOp.rem 3 (Operand.tmp 82) (Operand.const (Value.int IntKind.i64 2)) 3, type := 3, pos := "law.go:106", after := #[{ on := 38, ground := Ground.data }, { on := 37, ground := Ground.guard }], guard := some (37, true) }) (v := .int .i64 1) rfl (by kernel_rfl) (by kernel_rfl) (by kernel_rfl) (fun _ _ _ h => h) (Or.inl ⟨by rfl, by intro w hSw; go_simp⟩) hHeld ?_
  try simp only [Act.put, List.setIfInBounds_toArray, List.set_cons_zero, List.set_cons_succ]
  refine wpAnyH_take (i := 40) (oi := { dst := some 84, op := Op.binOp BinOp.eql 3 (Operand.tmp 83) (Operand.const (Value.int IntKind.i64 1)) 3, type := 4, pos := "law.go:106", after := #[{ on := 39, ground := Ground.data }, { on := 37, ground := Ground.guard }], guard := some (37, true) }) (v := .bool true) rfl (by kernel_rfl) (by kernel_rfl) (by kernel_rfl) (fun _ _ _ h => h) (Or.inl ⟨by rfl, by intro w hSw; go_simp⟩) hHeld ?_
  try simp only [Act.put, List.setIfInBounds_toArray, List.set_cons_zero, List.set_cons_succ]
  refine wpAnyH_take (i := 41) (oi := { dst := some 85, op := Op.move (Operand.tmp 84), type := 4, pos := "law.go:106", after := #[{ on := 40, ground := Ground.data }, { on := 37, ground := Ground.chain }, { on := 37, ground := Ground.guard }], guard := some (37, true) }) (v := .bool true) rfl (by kernel_rfl) (by kernel_rfl) (by kernel_rfl) (fun _ _ _ h => h) (Or.inl ⟨by rfl, by intro w hSw; go_simp⟩) hHeld ?_
  try simp only [Act.put, List.setIfInBounds_toArray, List.set_cons_zero, List.set_cons_succ]
  refine wpAnyH_take (i := 42) (oi := { dst := some 86, op := Op.fieldAddr 25 (Operand.tmp 10) 1, type := 0, pos := "law.go:106", after := #[{ on := 41, ground := Ground.guard }], guard := some (41, false) }) (v := undef) rfl (by kernel_rfl) (by kernel_rfl) (by kernel_rfl) (fun _ _ _ h => h) (Or.inr ⟨by rfl, rfl⟩) hHeld ?_
  try simp only [Act.put, List.setIfInBounds_toArray, List.set_cons_zero, List.set_cons_succ]
  refine wpAnyH_take (i := 43) (oi := { dst := some 87, op := Op.load 22 (Operand.tmp 86), type := 22, pos := "law.go:106", after := #[{ on := 42, ground := Ground.data }, { on := 41, ground := Ground.guard }], guard := some (41, false) }) (v := undef) rfl (by kernel_rfl) (by kernel_rfl) (by kernel_rfl) (fun _ _ _ h => h) (Or.inr ⟨by rfl, rfl⟩) hHeld ?_
  try simp only [Act.put, List.setIfInBounds_toArray, List.set_cons_zero, List.set_cons_succ]
  refine wpAnyH_take (i := 44) (oi := { dst := some 88, op := Op.fieldAddr 25 (Operand.tmp 10) 1, type := 0, pos := "law.go:106", after := #[{ on := 41, ground := Ground.guard }], guard := some (41, false) }) (v := undef) rfl (by kernel_rfl) (by kernel_rfl) (by kernel_rfl) (fun _ _ _ h => h) (Or.inr ⟨by rfl, rfl⟩) hHeld ?_
  try simp only [Act.put, List.setIfInBounds_toArray, List.set_cons_zero, List.set_cons_succ]
  refine wpAnyH_take (i := 45) (oi := { dst := some 89, op := Op.load 22 (Operand.tmp 88), type := 22, pos := "law.go:106", after := #[{ on := 44, ground := Ground.data }, { on := 41, ground := Ground.guard }], guard := some (41, false) }) (v := undef) rfl (by kernel_rfl) (by kernel_rfl) (by kernel_rfl) (fun _ _ _ h => h) (Or.inr ⟨by rfl, rfl⟩) hHeld ?_
  try simp only [Act.put, List.setIfInBounds_toArray, List.set_cons_zero, List.set_cons_succ]
  refine wpAnyH_take (i := 46) (oi := { dst := some 90, op := Op.call { callee := Callee.builtin Builtin.len, args := #[Operand.tmp 89], argTypes := #[22] }, type := 3, pos := "law.go:106", after := #[{ on := 45, ground := Ground.data }, { on := 41, ground := Ground.guard }], guard := some (41, false) }) (v := undef) rfl (by kernel_rfl) (by kernel_rfl) (by kernel_rfl) (fun _ _ _ h => h) (Or.inr ⟨by rfl, rfl⟩) hHeld ?_
  try simp only [Act.put, List.setIfInBounds_toArray, List.set_cons_zero, List.set_cons_succ]
  refine wpAnyH_take (i := 47) (oi := { dst := some 91, op := Op.binOp BinOp.sub 3 (Operand.tmp 90) (Operand.const (Value.int IntKind.i64 1)) 3, type := 3, pos := "law.go:106", after := #[{ on := 46, ground := Ground.data }, { on := 41, ground := Ground.guard }], guard := some (41, false) }) (v := undef) rfl (by kernel_rfl) (by kernel_rfl) (by kernel_rfl) (fun _ _ _ h => h) (Or.inr ⟨by rfl, rfl⟩) hHeld ?_
  try simp only [Act.put, List.setIfInBounds_toArray, List.set_cons_zero, List.set_cons_succ]
  refine wpAnyH_take (i := 48) (oi := { dst := some 92, op := Op.indexAddr 22 (Operand.tmp 87) (Operand.tmp 91), type := 0, pos := "law.go:106", after := #[{ on := 43, ground := Ground.data }, { on := 47, ground := Ground.data }, { on := 41, ground := Ground.guard }], guard := some (41, false) }) (v := undef) rfl (by kernel_rfl) (by kernel_rfl) (by kernel_rfl) (fun _ _ _ h => h) (Or.inr ⟨by rfl, rfl⟩) hHeld ?_
  try simp only [Act.put, List.setIfInBounds_toArray, List.set_cons_zero, List.set_cons_succ]
  refine wpAnyH_take (i := 49) (oi := { dst := some 93, op := Op.load 29 (Operand.tmp 92), type := 29, pos := "law.go:106", after := #[{ on := 48, ground := Ground.data }, { on := 41, ground := Ground.guard }], guard := some (41, false) }) (v := undef) rfl (by kernel_rfl) (by kernel_rfl) (by kernel_rfl) (fun _ _ _ h => h) (Or.inr ⟨by rfl, rfl⟩) hHeld ?_
  try simp only [Act.put, List.setIfInBounds_toArray, List.set_cons_zero, List.set_cons_succ]
  refine wpAnyH_take (i := 50) (oi := { dst := some 94, op := Op.load 29 (Operand.tmp 6), type := 29, pos := "law.go:106", after := #[{ on := 41, ground := Ground.guard }], guard := some (41, false) }) (v := undef) rfl (by kernel_rfl) (by kernel_rfl) (by kernel_rfl) (fun _ _ _ h => h) (Or.inr ⟨by rfl, rfl⟩) hHeld ?_
  try simp only [Act.put, List.setIfInBounds_toArray, List.set_cons_zero, List.set_cons_succ]
  refine wpAnyH_take (i := 51) (oi := { dst := some 95, op := Op.binOp BinOp.eql 29 (Operand.tmp 93) (Operand.tmp 94) 29, type := 4, pos := "law.go:106", after := #[{ on := 49, ground := Ground.data }, { on := 50, ground := Ground.data }, { on := 41, ground := Ground.guard }], guard := some (41, false) }) (v := undef) rfl (by kernel_rfl) (by kernel_rfl) (by kernel_rfl) (fun _ _ _ h => h) (Or.inr ⟨by rfl, rfl⟩) hHeld ?_
  try simp only [Act.put, List.setIfInBounds_toArray, List.set_cons_zero, List.set_cons_succ]
  refine wpAnyH_take (i := 52) (oi := { dst := some 96, op := Op.move (Operand.tmp 95), type := 4, pos := "law.go:106", after := #[{ on := 51, ground := Ground.data }, { on := 41, ground := Ground.chain }, { on := 41, ground := Ground.guard }], guard := some (41, false) }) (v := undef) rfl (by kernel_rfl) (by kernel_rfl) (by kernel_rfl) (fun _ _ _ h => h) (Or.inr ⟨by rfl, rfl⟩) hHeld ?_
  try simp only [Act.put, List.setIfInBounds_toArray, List.set_cons_zero, List.set_cons_succ]
  refine wpAnyH_take (i := 53) (oi := { dst := some 97, op := Op.fieldAddr 25 (Operand.tmp 12) 1, type := 0, pos := "law.go:106", after := #[{ on := 52, ground := Ground.guard }], guard := some (52, true) }) (v := undef) rfl (by kernel_rfl) (by kernel_rfl) (by kernel_rfl) (fun _ _ _ h => h) (Or.inr ⟨by rfl, rfl⟩) hHeld ?_
  try simp only [Act.put, List.setIfInBounds_toArray, List.set_cons_zero, List.set_cons_succ]
  refine wpAnyH_take (i := 54) (oi := { dst := some 98, op := Op.load 22 (Operand.tmp 97), type := 22, pos := "law.go:106", after := #[{ on := 53, ground := Ground.data }, { on := 52, ground := Ground.guard }], guard := some (52, true) }) (v := undef) rfl (by kernel_rfl) (by kernel_rfl) (by kernel_rfl) (fun _ _ _ h => h) (Or.inr ⟨by rfl, rfl⟩) hHeld ?_
  try simp only [Act.put, List.setIfInBounds_toArray, List.set_cons_zero, List.set_cons_succ]
  refine wpAnyH_take (i := 55) (oi := { dst := some 99, op := Op.fieldAddr 25 (Operand.tmp 12) 1, type := 0, pos := "law.go:106", after := #[{ on := 52, ground := Ground.guard }], guard := some (52, true) }) (v := undef) rfl (by kernel_rfl) (by kernel_rfl) (by kernel_rfl) (fun _ _ _ h => h) (Or.inr ⟨by rfl, rfl⟩) hHeld ?_
  try simp only [Act.put, List.setIfInBounds_toArray, List.set_cons_zero, List.set_cons_succ]
  refine wpAnyH_take (i := 56) (oi := { dst := some 100, op := Op.load 22 (Operand.tmp 99), type := 22, pos := "law.go:106", after := #[{ on := 55, ground := Ground.data }, { on := 52, ground := Ground.guard }], guard := some (52, true) }) (v := undef) rfl (by kernel_rfl) (by kernel_rfl) (by kernel_rfl) (fun _ _ _ h => h) (Or.inr ⟨by rfl, rfl⟩) hHeld ?_
  try simp only [Act.put, List.setIfInBounds_toArray, List.set_cons_zero, List.set_cons_succ]
  refine wpAnyH_take (i := 57) (oi := { dst := some 101, op := Op.call { callee := Callee.builtin Builtin.len, args := #[Operand.tmp 100], argTypes := #[22] }, type := 3, pos := "law.go:106", after := #[{ on := 56, ground := Ground.data }, { on := 52, ground := Ground.guard }], guard := some (52, true) }) (v := undef) rfl (by kernel_rfl) (by kernel_rfl) (by kernel_rfl) (fun _ _ _ h => h) (Or.inr ⟨by rfl, rfl⟩) hHeld ?_
  try simp only [Act.put, List.setIfInBounds_toArray, List.set_cons_zero, List.set_cons_succ]
  refine wpAnyH_take (i := 58) (oi := { dst := some 102, op := Op.binOp BinOp.sub 3 (Operand.tmp 101) (Operand.const (Value.int IntKind.i64 1)) 3, type := 3, pos := "law.go:106", after := #[{ on := 57, ground := Ground.data }, { on := 52, ground := Ground.guard }], guard := some (52, true) }) (v := undef) rfl (by kernel_rfl) (by kernel_rfl) (by kernel_rfl) (fun _ _ _ h => h) (Or.inr ⟨by rfl, rfl⟩) hHeld ?_
  try simp only [Act.put, List.setIfInBounds_toArray, List.set_cons_zero, List.set_cons_succ]
  refine wpAnyH_take (i := 59) (oi := { dst := some 103, op := Op.indexAddr 22 (Operand.tmp 98) (Operand.tmp 102), type := 0, pos := "law.go:106", after := #[{ on := 54, ground := Ground.data }, { on := 58, ground := Ground.data }, { on := 52, ground := Ground.guard }], guard := some (52, true) }) (v := undef) rfl (by kernel_rfl) (by kernel_rfl) (by kernel_rfl) (fun _ _ _ h => h) (Or.inr ⟨by rfl, rfl⟩) hHeld ?_
  try simp only [Act.put, List.setIfInBounds_toArray, List.set_cons_zero, List.set_cons_succ]
  refine wpAnyH_take (i := 60) (oi := { dst := some 104, op := Op.load 29 (Operand.tmp 103), type := 29, pos := "law.go:106", after := #[{ on := 59, ground := Ground.data }, { on := 52, ground := Ground.guard }], guard := some (52, true) }) (v := undef) rfl (by kernel_rfl) (by kernel_rfl) (by kernel_rfl) (fun _ _ _ h => h) (Or.inr ⟨by rfl, rfl⟩) hHeld ?_
  try simp only [Act.put, List.setIfInBounds_toArray, List.set_cons_zero, List.set_cons_succ]
  refine wpAnyH_take (i := 61) (oi := { dst := some 105, op := Op.load 29 (Operand.tmp 7), type := 29, pos := "law.go:106", after := #[{ on := 52, ground := Ground.guard }], guard := some (52, true) }) (v := undef) rfl (by kernel_rfl) (by kernel_rfl) (by kernel_rfl) (fun _ _ _ h => h) (Or.inr ⟨by rfl, rfl⟩) hHeld ?_
  try simp only [Act.put, List.setIfInBounds_toArray, List.set_cons_zero, List.set_cons_succ]
  refine wpAnyH_take (i := 62) (oi := { dst := some 106, op := Op.binOp BinOp.eql 29 (Operand.tmp 104) (Operand.tmp 105) 29, type := 4, pos := "law.go:106", after := #[{ on := 60, ground := Ground.data }, { on := 61, ground := Ground.data }, { on := 52, ground := Ground.guard }], guard := some (52, true) }) (v := undef) rfl (by kernel_rfl) (by kernel_rfl) (by kernel_rfl) (fun _ _ _ h => h) (Or.inr ⟨by rfl, rfl⟩) hHeld ?_
  try simp only [Act.put, List.setIfInBounds_toArray, List.set_cons_zero, List.set_cons_succ]
  refine wpAnyH_take (i := 63) (oi := { dst := some 107, op := Op.pick (Operand.tmp 96) (Operand.tmp 106) (Operand.const (Value.bool false)), type := 4, pos := "law.go:106", after := #[{ on := 52, ground := Ground.data }, { on := 62, ground := Ground.data }, { on := 41, ground := Ground.guard }], guard := some (41, false) }) (v := undef) rfl (by kernel_rfl) (by kernel_rfl) (by kernel_rfl) (fun _ _ _ h => h) (Or.inr ⟨by rfl, rfl⟩) hHeld ?_
  try simp only [Act.put, List.setIfInBounds_toArray, List.set_cons_zero, List.set_cons_succ]
  refine wpAnyH_take (i := 64) (oi := { dst := some 108, op := Op.pick (Operand.tmp 85) (Operand.const (Value.bool true)) (Operand.tmp 107), type := 4, pos := "law.go:106", after := #[{ on := 41, ground := Ground.data }, { on := 63, ground := Ground.data }, { on := 37, ground := Ground.guard }], guard := some (37, true) }) (v := .bool true) rfl (by kernel_rfl) (by kernel_rfl) (by kernel_rfl) (fun _ _ _ h => h) (Or.inl ⟨by rfl, by intro w hSw; go_simp⟩) hHeld ?_
  try simp only [Act.put, List.setIfInBounds_toArray, List.set_cons_zero, List.set_cons_succ]
  refine wpAnyH_take (i := 65) (oi := { dst := some 109, op := Op.pick (Operand.tmp 81) (Operand.tmp 108) (Operand.const (Value.bool false)), type := 4, pos := "law.go:106", after := #[{ on := 37, ground := Ground.data }, { on := 64, ground := Ground.data }], guard := none }) (v := .bool true) rfl (by kernel_rfl) (by kernel_rfl) (by kernel_rfl) (fun _ _ _ h => h) (Or.inl ⟨by rfl, by intro w hSw; go_simp⟩) hHeld ?_
  try simp only [Act.put, List.setIfInBounds_toArray, List.set_cons_zero, List.set_cons_succ]
  refine wpAnyH_take (i := 66) (oi := { dst := some 8, op := Op.assign (Operand.tmp 109), type := 4, pos := "law.go:106", after := ([{ on := 65, ground := Ground.data }, { on := 52, ground := Ground.chain }, { on := 0, ground := Ground.phase }, { on := 1, ground := Ground.phase }, { on := 2, ground := Ground.phase }, { on := 3, ground := Ground.phase }, { on := 4, ground := Ground.phase }, { on := 5, ground := Ground.phase }, { on := 6, ground := Ground.phase }, { on := 7, ground := Ground.phase }, { on := 8, ground := Ground.phase }, { on := 9, ground := Ground.phase }, { on := 10, ground := Ground.phase }, { on := 11, ground := Ground.phase }, { on := 12, ground := Ground.phase }, { on := 13, ground := Ground.phase }, { on := 14, ground := Ground.phase }, { on := 15, ground := Ground.phase }, { on := 16, ground := Ground.phase }, { on := 17, ground := Ground.phase }, { on := 18, ground := Ground.phase }, { on := 19, ground := Ground.phase }, { on := 20, ground := Ground.phase }, { on := 21, ground := Ground.phase }, { on := 22, ground := Ground.phase }, { on := 23, ground := Ground.phase }, { on := 24, ground := Ground.phase }, { on := 25, ground := Ground.phase }, { on := 26, ground := Ground.phase }, { on := 27, ground := Ground.phase }, { on := 28, ground := Ground.phase }, { on := 29, ground := Ground.phase }, { on := 30, ground := Ground.phase }, { on := 31, ground := Ground.phase }].append [{ on := 32, ground := Ground.phase }, { on := 33, ground := Ground.phase }, { on := 34, ground := Ground.phase }, { on := 35, ground := Ground.phase }, { on := 36, ground := Ground.phase }, { on := 37, ground := Ground.phase }, { on := 38, ground := Ground.phase }, { on := 39, ground := Ground.phase }, { on := 40, ground := Ground.phase }, { on := 41, ground := Ground.phase }, { on := 42, ground := Ground.phase }, { on := 43, ground := Ground.phase }, { on := 44, ground := Ground.phase }, { on := 45, ground := Ground.phase }, { on := 46, ground := Ground.phase }, { on := 47, ground := Ground.phase }, { on := 48, ground := Ground.phase }, { on := 49, ground := Ground.phase }, { on := 50, ground := Ground.phase }, { on := 51, ground := Ground.phase }, { on := 52, ground := Ground.phase }, { on := 53, ground := Ground.phase }, { on := 54, ground := Ground.phase }, { on := 55, ground := Ground.phase }, { on := 56, ground := Ground.phase }, { on := 57, ground := Ground.phase }, { on := 58, ground := Ground.phase }, { on := 59, ground := Ground.phase }, { on := 60, ground := Ground.phase }, { on := 61, ground := Ground.phase }, { on := 62, ground := Ground.phase }, { on := 63, ground := Ground.phase }, { on := 64, ground := Ground.phase }, { on := 65, ground := Ground.phase }]).toArray, guard := none }) (v := .bool true) rfl (by kernel_rfl) (by kernel_rfl) (by kernel_rfl) (fun _ _ _ h => h) (Or.inl ⟨by rfl, by intro w hSw; go_simp⟩) hHeld ?_
  try simp only [Act.put, List.setIfInBounds_toArray, List.set_cons_zero, List.set_cons_succ]
  refine wpAnyH_done (by kernel_rfl) ?_ _
  go_wp2
  go_ret
  exact ⟨rfl, hHeld.1.2.2.2⟩

set_option maxHeartbeats 4000000 in
theorem keeps_even (fr : FrontC) (n : Nat) (a1 : Option Addr) (len1 cap1 : Nat) (z1 : List (List UInt8)) (z2 z3 : List UInt8) (w : World) (w1 : LReads w a1 len1 cap1 z1) (hlong : len1 ≤ 200) (w2 : z2.length = 32) (w3 : z3.length = 32) (D E : Array Value) (HD : Hid (D = (cellsOf z2).toArray)) (HE : Hid (E = (cellsOf z3).toArray)) (hr : isRight n len1) (hn : n ≤ 99999) (hpar : n % 2 = 0) (hK : TabF w) :
    Calls Tryd.prog 7 #[.int .i64 n, .slice a1 len1 cap1, .agg D, .agg E] w fun e w' => e = .returned (.bool true) ∧ Below w.heap.size w w' := by
  have hd : decide ((200 : Int) < (len1 : Int)) = false := by rw [decide_eq_false_iff_not]; omega
  obtain ⟨LD, hLD⟩ : ∃ LD : List Value, D = LD.toArray := ⟨D.toList, by simp⟩
  obtain ⟨LE, hLE⟩ : ∃ LE : List Value, E = LE.toArray := ⟨E.toList, by simp⟩
  subst hLD hLE
  have zD : (Tryd.prog.info? 29).map (·.size) = some LD.length := by have h := HD.out; rw [size23, show LD = cellsOf z2 by simpa using h]; simp [cellsOf_length, w2]
  have zE : (Tryd.prog.info? 29).map (·.size) = some LE.length := by have h := HE.out; rw [size23, show LE = cellsOf z3 by simpa using h]; simp [cellsOf_length, w3]
  have HZD := hidk zD
  have HZE := hidk zE
  have HW : Hid (LReads w a1 len1 cap1 z1) := w1
  have hlm : len1 = many n := by have := hr.2.2; rwa [Int.toNat_natCast] at this
  obtain ⟨m, hmk⟩ : ∃ m, many (n + 1) = m := ⟨_, rfl⟩
  obtain ⟨k, HM⟩ : ∃ k, Hid (m = k + 1) := ⟨m - 1, by show _ = _; have := many_hi (n + 1) (by omega); omega⟩
  have hkm : m ≤ 100000 := by have := many_le (n + 1); omega
  have hk : ∀ d, (addP n z1 d).length = m := fun d => by rw [addP_length n z1 d (by rw [w1.1, hlm]), hmk]
  have T : Hid (∀ W, Below w.heap.size w W → Calls Tryd.prog 13 #[] W fun e w' => e = .returned (.bool true) ∧ Below W.heap.size W w') := fun W hb => three4_true fr W (hK.keep hb)
  have AC : Hid (∀ W, Below w.heap.size w W → Calls Tryd.prog 15 #[.agg #[.int .i64 n, .slice a1 len1 cap1], .agg LD.toArray] W fun e w' => ∃ g o cy, e = .returned (.tuple #[.agg #[.int .i64 ((n : Int) + 1), .slice (some ⟨g, o, none⟩) m cy], .int .i64 0]) ∧ w'.rangeAt g (o + 32 * k) LD ∧ Below W.heap.size W w') := fun W hb => by
    refine (fr.add_ok n a1 len1 cap1 z1 z2 W hr hn (w1.keep hb) w2 (hK.keep hb) _ HD).mono ?_
    rintro e W' ⟨y, cy, rfl, hy, -, hb'⟩
    rw [hk z2] at hy ⊢
    obtain ⟨g, o, rfl, -⟩ := hy.at (by have := HM.out; omega)
    refine ⟨g, o, cy, rfl, ?_, hb'⟩
    have hr := hy.range k (by rw [hk z2, HM.out]; omega)
    have hl : (addP n z1 z2)[k]'(by rw [hk z2, HM.out]; omega) = z2 := by
      have hz1 : z1.length = k := by have := hk z2; rw [addP_even n z1 z2 hpar, List.length_append, List.length_singleton, HM.out] at this; omega
      simp [addP_even n z1 z2 hpar, hz1]
    rw [hl] at hr
    rwa [show LD = cellsOf z2 by simpa using HD.out]
  have BC : Hid (∀ W, Below w.heap.size w W → Calls Tryd.prog 15 #[.agg #[.int .i64 n, .slice a1 len1 cap1], .agg LE.toArray] W fun e w' => ∃ g o cy, e = .returned (.tuple #[.agg #[.int .i64 ((n : Int) + 1), .slice (some ⟨g, o, none⟩) m cy], .int .i64 0]) ∧ w'.rangeAt g (o + 32 * k) LE ∧ Below W.heap.size W w') := fun W hb => by
    refine (fr.add_ok n a1 len1 cap1 z1 z3 W hr hn (w1.keep hb) w3 (hK.keep hb) _ HE).mono ?_
    rintro e W' ⟨y, cy, rfl, hy, -, hb'⟩
    rw [hk z3] at hy ⊢
    obtain ⟨g, o, rfl, -⟩ := hy.at (by have := HM.out; omega)
    refine ⟨g, o, cy, rfl, ?_, hb'⟩
    have hr := hy.range k (by rw [hk z3, HM.out]; omega)
    have hl : (addP n z1 z3)[k]'(by rw [hk z3, HM.out]; omega) = z3 := by
      have hz1 : z1.length = k := by have := hk z3; rw [addP_even n z1 z3 hpar, List.length_append, List.length_singleton, HM.out] at this; omega
      simp [addP_even n z1 z3 hpar, hz1]
    rw [hl] at hr
    rwa [show LE = cellsOf z3 by simpa using HE.out]
  have CK : Hid (∀ W, Calls Tryd.prog 9 #[.agg #[.int .i64 n, .slice a1 len1 cap1]] W fun e w' => e = .returned (.int .i64 0) ∧ Below W.heap.size W w') := fun W => fr.check_ok n a1 len1 cap1 W hr
  have CX : Hid (∀ W y cy, Calls Tryd.prog 9 #[.agg #[.int .i64 ((n : Int) + 1), .slice y m cy]] W fun e w' => e = .returned (.int .i64 0) ∧ Below W.heap.size W w') := fun W y cy => fr.check_ok ((n : Int) + 1) y m cy W ⟨by omega, by omega, by rw [show ((n : Int) + 1).toNat = n + 1 by omega, hmk]⟩
  have eA := eqSelf LD.toArray z2 w2 HD
  have eB := eqSelf LE.toArray z3 w3 HE
  have e0 : IntKind.i64.wrap ((n : Int) + 1 - 1) = (n : Int) := by rw [wrap_int _ (by omega) (by omega)]; omega
  have e1 : IntKind.i64.wrap ((m : Int) - 1) = (k : Int) := by have := HM.out; rw [wrap_int _ (by omega) (by omega)]; omega
  have e2 := wrap_int (n : Int) (by omega) (by omega)
  have c4 : 0 < m := by have := HM.out; omega
  have t2 : (n : Int).tmod 2 = 0 := by rw [Int.tmod_eq_emod_of_nonneg (by omega)]; omega
  have c3 : decide ((0 : Int) < (m : Int)) = true := by have := HM.out; rw [decide_eq_true_eq]; omega
  clear hK w1 hr HD HE hk hmk hlm
  go_enter Tryd.func7, Tryd.ntmps7
  have H0 : Hid ((((w.alloc (.cells LD.toArray 29)).alloc (.cells LE.toArray 29)).alloc (.cells #[.int .i64 n, .slice a1 len1 cap1] 25)).rangeAt w.heap.size 0 LD ∧ (((w.alloc (.cells LD.toArray 29)).alloc (.cells LE.toArray 29)).alloc (.cells #[.int .i64 n, .slice a1 len1 cap1] 25)).rangeAt (w.heap.size + 1) 0 LE ∧ (((w.alloc (.cells LD.toArray 29)).alloc (.cells LE.toArray 29)).alloc (.cells #[.int .i64 n, .slice a1 len1 cap1] 25)).rangeAt (w.heap.size + 1 + 1) 0 [.int .i64 n, .slice a1 len1 cap1] ∧ Below w.heap.size w (((w.alloc (.cells LD.toArray 29)).alloc (.cells LE.toArray 29)).alloc (.cells #[.int .i64 n, .slice a1 len1 cap1] 25))) := by
    have b1 : Below w.heap.size w (w.alloc (.cells LD.toArray 29)) := (Below.refl _ _).alloc (Nat.le_refl _) _
    have b2 := (Below.refl (w.alloc (.cells LD.toArray 29)).heap.size (w.alloc (.cells LD.toArray 29))).alloc (Nat.le_refl _) (.cells LE.toArray 29)
    have b3 := (Below.refl ((w.alloc (.cells LD.toArray 29)).alloc (.cells LE.toArray 29)).heap.size ((w.alloc (.cells LD.toArray 29)).alloc (.cells LE.toArray 29))).alloc (Nat.le_refl _) (.cells #[.int .i64 n, .slice a1 len1 cap1] 25)
    refine ⟨range_keep b3 (range_keep b2 (range_row (heap_alloc_new w _))), range_keep b3 ?_, ?_, b1.trans ((b2.trans (b3.mono b2.size)).mono b1.size)⟩
    · have := heap_alloc_new (w.alloc (.cells LD.toArray 29)) (.cells LE.toArray 29)
      simp only [World.alloc, Array.size_push] at this
      exact range_row this
    · have := heap_alloc_new ((w.alloc (.cells LD.toArray 29)).alloc (.cells LE.toArray 29)) (.cells #[.int .i64 n, .slice a1 len1 cap1] 25)
      simp only [World.alloc, Array.size_push] at this
      exact range_row this
  go_wp2_with (first
    | (refine wpList_load_mid rfl 29 (.tmp 6) rfl w.heap.size 0 rfl LD _ H0.out.1 Tryd.underlying29 rfl HZD.out ?_; try simp only [Act.put, List.setIfInBounds_toArray, List.set_cons_zero, List.set_cons_succ])
    | fail)
  refine (AC.out _ H0.out.2.2.2).mono ?_
  rintro e w4 ⟨gx, ox, cy, rfl, hx, hb4⟩
  have hal : Below w4.heap.size w4 (w4.alloc (.cells #[.int .i64 ((n : Int) + 1), .slice (some ⟨gx, ox, none⟩) m cy] 25)) := (Below.refl _ _).alloc (Nat.le_refl _) _
  have H5 := hidk (keepK (keepK H0.out hb4) hal)
  have HX5 : Hid ((w4.alloc (.cells #[.int .i64 ((n : Int) + 1), .slice (some ⟨gx, ox, none⟩) m cy] 25)).rangeAt w4.heap.size 0 [.int .i64 ((n : Int) + 1), .slice (some ⟨gx, ox, none⟩) m cy] ∧ (w4.alloc (.cells #[.int .i64 ((n : Int) + 1), .slice (some ⟨gx, ox, none⟩) m cy] 25)).rangeAt gx (ox + 32 * k) LD) := ⟨range_row (heap_alloc_new w4 _), range_keep hal hx⟩
  clear H0 hb4 hal AC hx
  go_wp2_with (first
    | (refine wpList_load_mid rfl 25 (.tmp 9) rfl _ 0 rfl [.int .i64 n, .slice a1 len1 cap1] _ H5.out.2.2.1 Tryd.underlying25 rfl sizeF ?_; try simp only [Act.put, List.setIfInBounds_toArray, List.set_cons_zero, List.set_cons_succ])
    | (refine wpList_load_mid rfl 29 (.tmp 7) rfl _ 0 rfl LE _ H5.out.2.1 Tryd.underlying29 rfl HZE.out ?_; try simp only [Act.put, List.setIfInBounds_toArray, List.set_cons_zero, List.set_cons_succ])
    | fail)
  generalize w4.alloc (.cells #[.int .i64 ((n : Int) + 1), .slice (some ⟨gx, ox, none⟩) m cy] 25) = w5 at H5 HX5 ⊢
  generalize w4.heap.size = fx at HX5 ⊢
  refine (BC.out _ H5.out.2.2.2).mono ?_
  rintro e w6 ⟨gy, oy, cv, rfl, hv, hb6⟩
  have hal : Below w6.heap.size w6 (w6.alloc (.cells #[.int .i64 ((n : Int) + 1), .slice (some ⟨gy, oy, none⟩) m cv] 25)) := (Below.refl _ _).alloc (Nat.le_refl _) _
  have H7 := hidk (keepK (keepK H5.out hb6) hal)
  have HX7 : Hid ((w6.alloc (.cells #[.int .i64 ((n : Int) + 1), .slice (some ⟨gy, oy, none⟩) m cv] 25)).rangeAt fx 0 [.int .i64 ((n : Int) + 1), .slice (some ⟨gx, ox, none⟩) m cy] ∧ (w6.alloc (.cells #[.int .i64 ((n : Int) + 1), .slice (some ⟨gy, oy, none⟩) m cv] 25)).rangeAt w6.heap.size 0 [.int .i64 ((n : Int) + 1), .slice (some ⟨gy, oy, none⟩) m cv] ∧ (w6.alloc (.cells #[.int .i64 ((n : Int) + 1), .slice (some ⟨gy, oy, none⟩) m cv] 25)).rangeAt gx (ox + 32 * k) LD ∧ (w6.alloc (.cells #[.int .i64 ((n : Int) + 1), .slice (some ⟨gy, oy, none⟩) m cv] 25)).rangeAt gy (oy + 32 * k) LE) := ⟨range_keep hal (range_keep hb6 HX5.out.1), range_row (heap_alloc_new w6 _), range_keep hal (range_keep hb6 HX5.out.2), range_keep hal hv⟩
  clear H5 HX5 hb6 hal BC hv
  go_wp2_with fail
  generalize w6.alloc (.cells #[.int .i64 ((n : Int) + 1), .slice (some ⟨gy, oy, none⟩) m cv] 25) = w7 at H7 HX7 ⊢
  generalize w6.heap.size = fy at HX7 ⊢
  have ix1 := fun W => index_list W gx ox m cy k .i64 (by have := HM.out; omega)
  have ix2 := fun W => index_list W gy oy m cv k .i64 (by have := HM.out; omega)
  refine wp_region_held_drew (S := (fun W => (W.rangeAt w.heap.size 0 LD ∧ W.rangeAt (w.heap.size + 1) 0 LE ∧ W.rangeAt (w.heap.size + 1 + 1) 0 [.int .i64 n, .slice a1 len1 cap1] ∧ Below w.heap.size w W) ∧ (W.rangeAt fx 0 [.int .i64 ((n : Int) + 1), .slice (some ⟨gx, ox, none⟩) m cy] ∧ W.rangeAt fy 0 [.int .i64 ((n : Int) + 1), .slice (some ⟨gy, oy, none⟩) m cv] ∧ W.rangeAt gx (ox + 32 * k) LD ∧ W.rangeAt gy (oy + 32 * k) LE))) (by kernel_rfl) ⟨keepK H7.out (Below.refl _ _).drew, keepX0 HX7.out (Below.refl _ _).drew⟩ (fun hHeld => ?_)
  refine wpAnyH_ready (rs := [0]) (by kernel_rfl) (by simp) ?_
  refine AllReadyH.cons (o := { dst := some 44, op := Op.call { callee := Callee.value (Operand.func 13), args := #[], argTypes := #[] }, type := 4, pos := "law.go:106", after := #[], guard := none }) rfl (fun K hK => ?_) AllReadyH.nil
  go_simp
  refine (T.out _ hHeld.1.2.2.2).mono ?_
  rintro e w8 ⟨rfl, hb8⟩
  go_wp2_with fail
  refine hK.out _ _ ⟨keepK hHeld.1 hb8, keepX0 hHeld.2 hb8⟩ (fun hHeld => ?_)
  clear hK K
  try simp only [Act.put, List.setIfInBounds_toArray, List.set_cons_zero, List.set_cons_succ]
  refine wpAnyH_take (i := 1) (oi := { dst := some 45, op := Op.move (Operand.tmp 44), type := 4, pos := "law.go:106", after := #[{ on := 0, ground := Ground.data }, { on := 0, ground := Ground.chain }], guard := none }) (v := .bool true) rfl (by kernel_rfl) (by kernel_rfl) (by kernel_rfl) (fun _ _ _ h => h) (Or.inl ⟨by rfl, by intro w hSw; go_simp⟩) hHeld ?_
  try simp only [Act.put, List.setIfInBounds_toArray, List.set_cons_zero, List.set_cons_succ]
  refine wpAnyH_take (i := 2) (oi := { dst := some 46, op := Op.load 25 (Operand.tmp 9), type := 25, pos := "law.go:106", after := #[{ on := 1, ground := Ground.guard }], guard := some (1, true) }) (v := .agg #[.int .i64 n, .slice a1 len1 cap1]) rfl (by kernel_rfl) (by kernel_rfl) (by kernel_rfl) (fun _ _ _ h => h) (yieldsIf_load_mid (by rfl) 25 (.tmp 9) rfl _ 0 rfl [.int .i64 n, .slice a1 len1 cap1] _ (fun _ h => h.1.2.2.1) Tryd.underlying25 rfl sizeF) hHeld ?_
  try simp only [Act.put, List.setIfInBounds_toArray, List.set_cons_zero, List.set_cons_succ]
  refine wpAnyH_ready (rs := [3]) (by kernel_rfl) (by simp) ?_
  refine AllReadyH.cons (o := { dst := some 47, op := Op.call { callee := Callee.value (Operand.func 9), args := #[Operand.tmp 46], argTypes := #[25] }, type := 26, pos := "law.go:106", after := #[{ on := 2, ground := Ground.data }, { on := 1, ground := Ground.chain }, { on := 1, ground := Ground.guard }], guard := some (1, true) }) rfl (fun K hK => ?_) AllReadyH.nil
  go_simp
  refine (CK.out _).mono ?_
  rintro e w9 ⟨rfl, hb9⟩
  go_wp2_with fail
  refine hK.out _ _ ⟨keepK hHeld.1 hb9, keepX0 hHeld.2 hb9⟩ (fun hHeld => ?_)
  clear hK K
  try simp only [Act.put, List.setIfInBounds_toArray, List.set_cons_zero, List.set_cons_succ]
  refine wpAnyH_take (i := 4) (oi := { dst := some 48, op := Op.binOp BinOp.eql 26 (Operand.tmp 47) (Operand.const (Value.int IntKind.i64 0)) 26, type := 4, pos := "law.go:106", after := #[{ on := 3, ground := Ground.data }, { on := 1, ground := Ground.guard }], guard := some (1, true) }) (v := .bool true) rfl (by kernel_rfl) (by kernel_rfl) (by kernel_rfl) (fun _ _ _ h => h) (Or.inl ⟨by rfl, by intro w hSw; go_simp⟩) hHeld ?_
  try simp only [Act.put, List.setIfInBounds_toArray, List.set_cons_zero, List.set_cons_succ]
  refine wpAnyH_take (i := 5) (oi := { dst := some 49, op := Op.pick (Operand.tmp 45) (Operand.tmp 48) (Operand.const (Value.bool false)), type := 4, pos := "law.go:106", after := #[{ on := 1, ground := Ground.data }, { on := 4, ground := Ground.data }], guard := none }) (v := .bool true) rfl (by kernel_rfl) (by kernel_rfl) (by kernel_rfl) (fun _ _ _ h => h) (Or.inl ⟨by rfl, by intro w hSw; go_simp⟩) hHeld ?_
  try simp only [Act.put, List.setIfInBounds_toArray, List.set_cons_zero, List.set_cons_succ]
  refine wpAnyH_take (i := 6) (oi := { dst := some 50, op := Op.move (Operand.tmp 49), type := 4, pos := "law.go:106", after := #[{ on := 5, ground := Ground.data }, { on := 3, ground := Ground.chain }], guard := none }) (v := .bool true) rfl (by kernel_rfl) (by kernel_rfl) (by kernel_rfl) (fun _ _ _ h => h) (Or.inl ⟨by rfl, by intro w hSw; go_simp⟩) hHeld ?_
  try simp only [Act.put, List.setIfInBounds_toArray, List.set_cons_zero, List.set_cons_succ]
  refine wpAnyH_take (i := 7) (oi := { dst := some 51, op := Op.load 25 (Operand.tmp 10), type := 25, pos := "law.go:106", after := #[{ on := 6, ground := Ground.guard }], guard := some (6, true) }) (v := .agg #[.int .i64 ((n : Int) + 1), .slice (some ⟨gx, ox, none⟩) m cy]) rfl (by kernel_rfl) (by kernel_rfl) (by kernel_rfl) (fun _ _ _ h => h) (yieldsIf_load_mid (by rfl) 25 (.tmp 10) rfl _ 0 rfl [.int .i64 ((n : Int) + 1), .slice (some ⟨gx, ox, none⟩) m cy] _ (fun _ h => h.2.1) Tryd.underlying25 rfl sizeF) hHeld ?_
  try simp only [Act.put, List.setIfInBounds_toArray, List.set_cons_zero, List.set_cons_succ]
  refine wpAnyH_ready (rs := [8]) (by kernel_rfl) (by simp) ?_
  refine AllReadyH.cons (o := { dst := some 52, op := Op.call { callee := Callee.value (Operand.func 9), args := #[Operand.tmp 51], argTypes := #[25] }, type := 26, pos := "law.go:106", after := #[{ on := 7, ground := Ground.data }, { on := 6, ground := Ground.chain }, { on := 6, ground := Ground.guard }], guard := some (6, true) }) rfl (fun K hK => ?_) AllReadyH.nil
  go_simp
  refine (CX.out _ _ _).mono ?_
  rintro e w10 ⟨rfl, hb10⟩
  go_wp2_with fail
  refine hK.out _ _ ⟨keepK hHeld.1 hb10, keepX0 hHeld.2 hb10⟩ (fun hHeld => ?_)
  clear hK K
  try simp only [Act.put, List.setIfInBounds_toArray, List.set_cons_zero, List.set_cons_succ]
  refine wpAnyH_take (i := 9) (oi := { dst := some 53, op := Op.binOp BinOp.eql 26 (Operand.tmp 52) (Operand.const (Value.int IntKind.i64 0)) 26, type := 4, pos := "law.go:106", after := #[{ on := 8, ground := Ground.data }, { on := 6, ground := Ground.guard }], guard := some (6, true) }) (v := .bool true) rfl (by kernel_rfl) (by kernel_rfl) (by kernel_rfl) (fun _ _ _ h => h) (Or.inl ⟨by rfl, by intro w hSw; go_simp⟩) hHeld ?_
  try simp only [Act.put, List.setIfInBounds_toArray, List.set_cons_zero, List.set_cons_succ]
  refine wpAnyH_take (i := 10) (oi := { dst := some 54, op := Op.pick (Operand.tmp 50) (Operand.tmp 53) (Operand.const (Value.bool false)), type := 4, pos := "law.go:106", after := #[{ on := 6, ground := Ground.data }, { on := 9, ground := Ground.data }], guard := none }) (v := .bool true) rfl (by kernel_rfl) (by kernel_rfl) (by kernel_rfl) (fun _ _ _ h => h) (Or.inl ⟨by rfl, by intro w hSw; go_simp⟩) hHeld ?_
  try simp only [Act.put, List.setIfInBounds_toArray, List.set_cons_zero, List.set_cons_succ]
  refine wpAnyH_take (i := 11) (oi := { dst := some 55, op := Op.move (Operand.tmp 54), type := 4, pos := "law.go:106", after := #[{ on := 10, ground := Ground.data }, { on := 8, ground := Ground.chain }], guard := none }) (v := .bool true) rfl (by kernel_rfl) (by kernel_rfl) (by kernel_rfl) (fun _ _ _ h => h) (Or.inl ⟨by rfl, by intro w hSw; go_simp⟩) hHeld ?_
  try simp only [Act.put, List.setIfInBounds_toArray, List.set_cons_zero, List.set_cons_succ]
  refine wpAnyH_take (i := 12) (oi := { dst := some 56, op := Op.move (Operand.tmp 13), type := 26, pos := "law.go:106", after := #[{ on := 11, ground := Ground.guard }], guard := some (11, true) }) (v := .int .i64 0) rfl (by kernel_rfl) (by kernel_rfl) (by kernel_rfl) (fun _ _ _ h => h) (Or.inl ⟨by rfl, by intro w hSw; go_simp⟩) hHeld ?_
  try simp only [Act.put, List.setIfInBounds_toArray, List.set_cons_zero, List.set_cons_succ]
  refine wpAnyH_take (i := 13) (oi := { dst := some 57, op := Op.binOp BinOp.eql 26 (Operand.tmp 56) (Operand.const (Value.int IntKind.i64 0)) 26, type := 4, pos := "law.go:106", after := #[{ on := 12, ground := Ground.data }, { on := 11, ground := Ground.guard }], guard := some (11, true) }) (v := .bool true) rfl (by kernel_rfl) (by kernel_rfl) (by kernel_rfl) (fun _ _ _ h => h) (Or.inl ⟨by rfl, by intro w hSw; go_simp⟩) hHeld ?_
  try simp only [Act.put, List.setIfInBounds_toArray, List.set_cons_zero, List.set_cons_succ]
  refine wpAnyH_take (i := 14) (oi := { dst := some 58, op := Op.pick (Operand.tmp 55) (Operand.tmp 57) (Operand.const (Value.bool false)), type := 4, pos := "law.go:106", after := #[{ on := 11, ground := Ground.data }, { on := 13, ground := Ground.data }], guard := none }) (v := .bool true) rfl (by kernel_rfl) (by kernel_rfl) (by kernel_rfl) (fun _ _ _ h => h) (Or.inl ⟨by rfl, by intro w hSw; go_simp⟩) hHeld ?_
  try simp only [Act.put, List.setIfInBounds_toArray, List.set_cons_zero, List.set_cons_succ]
  refine wpAnyH_take (i := 15) (oi := { dst := some 59, op := Op.move (Operand.tmp 58), type := 4, pos := "law.go:106", after := #[{ on := 14, ground := Ground.data }, { on := 11, ground := Ground.chain }], guard := none }) (v := .bool true) rfl (by kernel_rfl) (by kernel_rfl) (by kernel_rfl) (fun _ _ _ h => h) (Or.inl ⟨by rfl, by intro w hSw; go_simp⟩) hHeld ?_
  try simp only [Act.put, List.setIfInBounds_toArray, List.set_cons_zero, List.set_cons_succ]
  refine wpAnyH_take (i := 16) (oi := { dst := some 60, op := Op.fieldAddr 25 (Operand.tmp 10) 1, type := 0, pos := "law.go:106", after := #[{ on := 15, ground := Ground.guard }], guard := some (15, true) }) (v := .pointer (some ⟨fx, 1, none⟩)) rfl (by kernel_rfl) (by kernel_rfl) (by kernel_rfl) (fun _ _ _ h => h) (Or.inl ⟨by rfl, by intro w hSw; go_simp⟩) hHeld ?_
  try simp only [Act.put, List.setIfInBounds_toArray, List.set_cons_zero, List.set_cons_succ]
  refine wpAnyH_take (i := 17) (oi := { dst := some 61, op := Op.load 22 (Operand.tmp 60), type := 22, pos := "law.go:106", after := #[{ on := 16, ground := Ground.data }, { on := 15, ground := Ground.guard }], guard := some (15, true) }) (v := .slice (some ⟨gx, ox, none⟩) m cy) rfl (by kernel_rfl) (by kernel_rfl) (by kernel_rfl) (fun _ _ _ h => h) (Or.inl ⟨by rfl, by intro W hSw; have hc0 := hSw.2.1 1 _ rfl; simp only [Nat.zero_add] at hc0; go_simp⟩) hHeld ?_
  try simp only [Act.put, List.setIfInBounds_toArray, List.set_cons_zero, List.set_cons_succ]
  refine wpAnyH_take (i := 18) (oi := { dst := some 62, op := Op.call { callee := Callee.builtin Builtin.len, args := #[Operand.tmp 61], argTypes := #[22] }, type := 3, pos := "law.go:106", after := #[{ on := 17, ground := Ground.data }, { on := 15, ground := Ground.guard }], guard := some (15, true) }) (v := .int .i64 m) rfl (by kernel_rfl) (by kernel_rfl) (by kernel_rfl) (fun _ _ _ h => h) (Or.inl ⟨by rfl, by intro w hSw; go_simp⟩) hHeld ?_
  try simp only [Act.put, List.setIfInBounds_toArray, List.set_cons_zero, List.set_cons_succ]
  refine wpAnyH_take (i := 19) (oi := { dst := some 63, op := Op.fieldAddr 25 (Operand.tmp 12) 1, type := 0, pos := "law.go:106", after := #[{ on := 15, ground := Ground.guard }], guard := some (15, true) }) (v := .pointer (some ⟨fy, 1, none⟩)) rfl (by kernel_rfl) (by kernel_rfl) (by kernel_rfl) (fun _ _ _ h => h) (Or.inl ⟨by rfl, by intro w hSw; go_simp⟩) hHeld ?_
  try simp only [Act.put, List.setIfInBounds_toArray, List.set_cons_zero, List.set_cons_succ]
  refine wpAnyH_take (i := 20) (oi := { dst := some 64, op := Op.load 22 (Operand.tmp 63), type := 22, pos := "law.go:106", after := #[{ on := 19, ground := Ground.data }, { on := 15, ground := Ground.guard }], guard := some (15, true) }) (v := .slice (some ⟨gy, oy, none⟩) m cv) rfl (by kernel_rfl) (by kernel_rfl) (by kernel_rfl) (fun _ _ _ h => h) (Or.inl ⟨by rfl, by intro W hSw; have hc0 := hSw.2.2.1 1 _ rfl; simp only [Nat.zero_add] at hc0; go_simp⟩) hHeld ?_
  try simp only [Act.put, List.setIfInBounds_toArray, List.set_cons_zero, List.set_cons_succ]
  refine wpAnyH_take (i := 21) (oi := { dst := some 65, op := Op.call { callee := Callee.builtin Builtin.len, args := #[Operand.tmp 64], argTypes := #[22] }, type := 3, pos := "law.go:106", after := #[{ on := 20, ground := Ground.data }, { on := 15, ground := Ground.guard }], guard := some (15, true) }) (v := .int .i64 m) rfl (by kernel_rfl) (by kernel_rfl) (by kernel_rfl) (fun _ _ _ h => h) (Or.inl ⟨by rfl, by intro w hSw; go_simp⟩) hHeld ?_
  try simp only [Act.put, List.setIfInBounds_toArray, List.set_cons_zero, List.set_cons_succ]
  refine wpAnyH_take (i := 22) (oi := { dst := some 66, op := Op.binOp BinOp.eql 3 (Operand.tmp 62) (Operand.tmp 65) 3, type := 4, pos := "law.go:106", after := #[{ on := 18, ground := Ground.data }, { on := 21, ground := Ground.data }, { on := 15, ground := Ground.guard }], guard := some (15, true) }) (v := .bool true) rfl (by kernel_rfl) (by kernel_rfl) (by kernel_rfl) (fun _ _ _ h => h) (Or.inl ⟨by rfl, by intro w hSw; go_simp⟩) hHeld ?_
  try simp only [Act.put, List.setIfInBounds_toArray, List.set_cons_zero, List.set_cons_succ]
  refine wpAnyH_take (i := 23) (oi := { dst := some 67, op := Op.pick (Operand.tmp 59) (Operand.tmp 66) (Operand.const (Value.bool false)), type := 4, pos := "law.go:106", after := #[{ on := 15, ground := Ground.data }, { on := 22, ground := Ground.data }], guard := none }) (v := .bool true) rfl (by kernel_rfl) (by kernel_rfl) (by kernel_rfl) (fun _ _ _ h => h) (Or.inl ⟨by rfl, by intro w hSw; go_simp⟩) hHeld ?_
  try simp only [Act.put, List.setIfInBounds_toArray, List.set_cons_zero, List.set_cons_succ]
  refine wpAnyH_take (i := 24) (oi := { dst := some 68, op := Op.move (Operand.tmp 67), type := 4, pos := "law.go:106", after := #[{ on := 23, ground := Ground.data }, { on := 15, ground := Ground.chain }], guard := none }) (v := .bool true) rfl (by kernel_rfl) (by kernel_rfl) (by kernel_rfl) (fun _ _ _ h => h) (Or.inl ⟨by rfl, by intro w hSw; go_simp⟩) hHeld ?_
  try simp only [Act.put, List.setIfInBounds_toArray, List.set_cons_zero, List.set_cons_succ]
  refine wpAnyH_take (i := 25) (oi := { dst := some 69, op := Op.fieldAddr 25 (Operand.tmp 10) 0, type := 0, pos := "law.go:106", after := #[{ on := 24, ground := Ground.guard }], guard := some (24, true) }) (v := .pointer (some ⟨fx, 0, none⟩)) rfl (by kernel_rfl) (by kernel_rfl) (by kernel_rfl) (fun _ _ _ h => h) (Or.inl ⟨by rfl, by intro w hSw; go_simp⟩) hHeld ?_
  try simp only [Act.put, List.setIfInBounds_toArray, List.set_cons_zero, List.set_cons_succ]
  refine wpAnyH_take (i := 26) (oi := { dst := some 70, op := Op.load 3 (Operand.tmp 69), type := 3, pos := "law.go:106", after := #[{ on := 25, ground := Ground.data }, { on := 24, ground := Ground.guard }], guard := some (24, true) }) (v := .int .i64 ((n : Int) + 1)) rfl (by kernel_rfl) (by kernel_rfl) (by kernel_rfl) (fun _ _ _ h => h) (Or.inl ⟨by rfl, by intro W hSw; have hc0 := hSw.2.1 0 _ rfl; simp only [Nat.add_zero] at hc0; go_simp⟩) hHeld ?_
  try simp only [Act.put, List.setIfInBounds_toArray, List.set_cons_zero, List.set_cons_succ]
  refine wpAnyH_take (i := 27) (oi := { dst := some 71, op := Op.binOp BinOp.sub 3 (Operand.tmp 70) (Operand.const (Value.int IntKind.i64 1)) 3, type := 3, pos := "law.go:106", after := #[{ on := 26, ground := Ground.data }, { on := 24, ground := Ground.guard }], guard := some (24, true) }) (v := .int .i64 n) rfl (by kernel_rfl) (by kernel_rfl) (by kernel_rfl) (fun _ _ _ h => h) (Or.inl ⟨by rfl, by intro w hSw; go_simp⟩) hHeld ?_
  try simp only [Act.put, List.setIfInBounds_toArray, List.set_cons_zero, List.set_cons_succ]
  refine wpAnyH_take (i := 28) (oi := { dst := some 72, op := Op.move (Operand.tmp 0), type := 3, pos := "law.go:106", after := #[{ on := 24, ground := Ground.guard }], guard := some (24, true) }) (v := .int .i64 n) rfl (by kernel_rfl) (by kernel_rfl) (by kernel_rfl) (fun _ _ _ h => h) (Or.inl ⟨by rfl, by intro w hSw; go_simp⟩) hHeld ?_
  try simp only [Act.put, List.setIfInBounds_toArray, List.set_cons_zero, List.set_cons_succ]
  refine wpAnyH_take (i := 29) (oi := { dst := some 73, op := Op.binOp BinOp.eql 3 (Operand.tmp 71) (Operand.tmp 72) 3, type := 4, pos := "law.go:106", after := #[{ on := 27, ground := Ground.data }, { on := 28, ground := Ground.data }, { on := 24, ground := Ground.guard }], guard := some (24, true) }) (v := .bool true) rfl (by kernel_rfl) (by kernel_rfl) (by kernel_rfl) (fun _ _ _ h => h) (Or.inl ⟨by rfl, by intro w hSw; go_simp⟩) hHeld ?_
  try simp only [Act.put, List.setIfInBounds_toArray, List.set_cons_zero, List.set_cons_succ]
  refine wpAnyH_take (i := 30) (oi := { dst := some 74, op := Op.pick (Operand.tmp 68) (Operand.tmp 73) (Operand.const (Value.bool false)), type := 4, pos := "law.go:106", after := #[{ on := 24, ground := Ground.data }, { on := 29, ground := Ground.data }], guard := none }) (v := .bool true) rfl (by kernel_rfl) (by kernel_rfl) (by kernel_rfl) (fun _ _ _ h => h) (Or.inl ⟨by rfl, by intro w hSw; go_simp⟩) hHeld ?_
  try simp only [Act.put, List.setIfInBounds_toArray, List.set_cons_zero, List.set_cons_succ]
  refine wpAnyH_take (i := 31) (oi := { dst := some 75, op := Op.move (Operand.tmp 74), type := 4, pos := "law.go:106", after := #[{ on := 30, ground := Ground.data }, { on := 24, ground := Ground.chain }], guard := none }) (v := .bool true) rfl (by kernel_rfl) (by kernel_rfl) (by kernel_rfl) (fun _ _ _ h => h) (Or.inl ⟨by rfl, by intro w hSw; go_simp⟩) hHeld ?_
  try simp only [Act.put, List.setIfInBounds_toArray, List.set_cons_zero, List.set_cons_succ]
  refine wpAnyH_take (i := 32) (oi := { dst := some 76, op := Op.fieldAddr 25 (Operand.tmp 10) 1, type := 0, pos := "law.go:106", after := #[{ on := 31, ground := Ground.guard }], guard := some (31, true) }) (v := .pointer (some ⟨fx, 1, none⟩)) rfl (by kernel_rfl) (by kernel_rfl) (by kernel_rfl) (fun _ _ _ h => h) (Or.inl ⟨by rfl, by intro w hSw; go_simp⟩) hHeld ?_
  try simp only [Act.put, List.setIfInBounds_toArray, List.set_cons_zero, List.set_cons_succ]
  refine wpAnyH_take (i := 33) (oi := { dst := some 77, op := Op.load 22 (Operand.tmp 76), type := 22, pos := "law.go:106", after := #[{ on := 32, ground := Ground.data }, { on := 31, ground := Ground.guard }], guard := some (31, true) }) (v := .slice (some ⟨gx, ox, none⟩) m cy) rfl (by kernel_rfl) (by kernel_rfl) (by kernel_rfl) (fun _ _ _ h => h) (Or.inl ⟨by rfl, by intro W hSw; have hc0 := hSw.2.1 1 _ rfl; simp only [Nat.zero_add] at hc0; go_simp⟩) hHeld ?_
  try simp only [Act.put, List.setIfInBounds_toArray, List.set_cons_zero, List.set_cons_succ]
  refine wpAnyH_take (i := 34) (oi := { dst := some 78, op := Op.call { callee := Callee.builtin Builtin.len, args := #[Operand.tmp 77], argTypes := #[22] }, type := 3, pos := "law.go:106", after := #[{ on := 33, ground := Ground.data }, { on := 31, ground := Ground.guard }], guard := some (31, true) }) (v := .int .i64 m) rfl (by kernel_rfl) (by kernel_rfl) (by kernel_rfl) (fun _ _ _ h => h) (Or.inl ⟨by rfl, by intro w hSw; go_simp⟩) hHeld ?_
  try simp only [Act.put, List.setIfInBounds_toArray, List.set_cons_zero, List.set_cons_succ]
  refine wpAnyH_take (i := 35) (oi := { dst := some 79, op := Op.binOp BinOp.gtr 3 (Operand.tmp 78) (Operand.const (Value.int IntKind.i64 0)) 3, type := 4, pos := "law.go:106", after := #[{ on := 34, ground := Ground.data }, { on := 31, ground := Ground.guard }], guard := some (31, true) }) (v := .bool true) rfl (by kernel_rfl) (by kernel_rfl) (by kernel_rfl) (fun _ _ _ h => h) (Or.inl ⟨by rfl, by intro w hSw; go_simp⟩) hHeld ?_
  try simp only [Act.put, List.setIfInBounds_toArray, List.set_cons_zero, List.set_cons_succ]
  refine wpAnyH_take (i := 36) (oi := { dst := some 80, op := Op.pick (Operand.tmp 75) (Operand.tmp 79) (Operand.const (Value.bool false)), type := 4, pos := "law.go:106", after := #[{ on := 31, ground := Ground.data }, { on := 35, ground := Ground.data }], guard := none }) (v := .bool true) rfl (by kernel_rfl) (by kernel_rfl) (by kernel_rfl) (fun _ _ _ h => h) (Or.inl ⟨by rfl, by intro w hSw; go_simp⟩) hHeld ?_
  try simp only [Act.put, List.setIfInBounds_toArray, List.set_cons_zero, List.set_cons_succ]
  refine wpAnyH_take (i := 37) (oi := { dst := some 81, op := Op.move (Operand.tmp 80), type := 4, pos := "law.go:106", after := #[{ on := 36, ground := Ground.data }, { on := 31, ground := Ground.chain }], guard := none }) (v := .bool true) rfl (by kernel_rfl) (by kernel_rfl) (by kernel_rfl) (fun _ _ _ h => h) (Or.inl ⟨by rfl, by intro w hSw; go_simp⟩) hHeld ?_
  try simp only [Act.put, List.setIfInBounds_toArray, List.set_cons_zero, List.set_cons_succ]
  refine wpAnyH_take (i := 38) (oi := { dst := some 82, op := Op.move (Operand.tmp 0), type := 3, pos := "law.go:106", after := #[{ on := 37, ground := Ground.guard }], guard := some (37, true) }) (v := .int .i64 n) rfl (by kernel_rfl) (by kernel_rfl) (by kernel_rfl) (fun _ _ _ h => h) (Or.inl ⟨by rfl, by intro w hSw; go_simp⟩) hHeld ?_
  try simp only [Act.put, List.setIfInBounds_toArray, List.set_cons_zero, List.set_cons_succ]
  refine wpAnyH_take (i := 39) (oi := { dst := some 83, op := Op.binOp BinOp.rem 3 (Operand.tmp 82) (Operand.const (Value.int IntKind.i64 2)) 3, type := 3, pos := "law.go:106", after := #[{ on := 38, ground := Ground.data }, { on := 37, ground := Ground.guard }], guard := some (37, true) }) (v := .int .i64 0) rfl (by kernel_rfl) (by kernel_rfl) (by kernel_rfl) (fun _ _ _ h => h) (Or.inl ⟨by rfl, by intro w hSw; go_simp⟩) hHeld ?_
  try simp only [Act.put, List.setIfInBounds_toArray, List.set_cons_zero, List.set_cons_succ]
  refine wpAnyH_take (i := 40) (oi := { dst := some 84, op := Op.binOp BinOp.eql 3 (Operand.tmp 83) (Operand.const (Value.int IntKind.i64 1)) 3, type := 4, pos := "law.go:106", after := #[{ on := 39, ground := Ground.data }, { on := 37, ground := Ground.guard }], guard := some (37, true) }) (v := .bool false) rfl (by kernel_rfl) (by kernel_rfl) (by kernel_rfl) (fun _ _ _ h => h) (Or.inl ⟨by rfl, by intro w hSw; go_simp⟩) hHeld ?_
  try simp only [Act.put, List.setIfInBounds_toArray, List.set_cons_zero, List.set_cons_succ]
  refine wpAnyH_take (i := 41) (oi := { dst := some 85, op := Op.move (Operand.tmp 84), type := 4, pos := "law.go:106", after := #[{ on := 40, ground := Ground.data }, { on := 37, ground := Ground.chain }, { on := 37, ground := Ground.guard }], guard := some (37, true) }) (v := .bool false) rfl (by kernel_rfl) (by kernel_rfl) (by kernel_rfl) (fun _ _ _ h => h) (Or.inl ⟨by rfl, by intro w hSw; go_simp⟩) hHeld ?_
  try simp only [Act.put, List.setIfInBounds_toArray, List.set_cons_zero, List.set_cons_succ]
  refine wpAnyH_take (i := 42) (oi := { dst := some 86, op := Op.fieldAddr 25 (Operand.tmp 10) 1, type := 0, pos := "law.go:106", after := #[{ on := 41, ground := Ground.guard }], guard := some (41, false) }) (v := .pointer (some ⟨fx, 1, none⟩)) rfl (by kernel_rfl) (by kernel_rfl) (by kernel_rfl) (fun _ _ _ h => h) (Or.inl ⟨by rfl, by intro w hSw; go_simp⟩) hHeld ?_
  try simp only [Act.put, List.setIfInBounds_toArray, List.set_cons_zero, List.set_cons_succ]
  refine wpAnyH_take (i := 43) (oi := { dst := some 87, op := Op.load 22 (Operand.tmp 86), type := 22, pos := "law.go:106", after := #[{ on := 42, ground := Ground.data }, { on := 41, ground := Ground.guard }], guard := some (41, false) }) (v := .slice (some ⟨gx, ox, none⟩) m cy) rfl (by kernel_rfl) (by kernel_rfl) (by kernel_rfl) (fun _ _ _ h => h) (Or.inl ⟨by rfl, by intro W hSw; have hc0 := hSw.2.1 1 _ rfl; simp only [Nat.zero_add] at hc0; go_simp⟩) hHeld ?_
  try simp only [Act.put, List.setIfInBounds_toArray, List.set_cons_zero, List.set_cons_succ]
  refine wpAnyH_take (i := 44) (oi := { dst := some 88, op := Op.fieldAddr 25 (Operand.tmp 10) 1, type := 0, pos := "law.go:106", after := #[{ on := 41, ground := Ground.guard }], guard := some (41, false) }) (v := .pointer (some ⟨fx, 1, none⟩)) rfl (by kernel_rfl) (by kernel_rfl) (by kernel_rfl) (fun _ _ _ h => h) (Or.inl ⟨by rfl, by intro w hSw; go_simp⟩) hHeld ?_
  try simp only [Act.put, List.setIfInBounds_toArray, List.set_cons_zero, List.set_cons_succ]
  refine wpAnyH_take (i := 45) (oi := { dst := some 89, op := Op.load 22 (Operand.tmp 88), type := 22, pos := "law.go:106", after := #[{ on := 44, ground := Ground.data }, { on := 41, ground := Ground.guard }], guard := some (41, false) }) (v := .slice (some ⟨gx, ox, none⟩) m cy) rfl (by kernel_rfl) (by kernel_rfl) (by kernel_rfl) (fun _ _ _ h => h) (Or.inl ⟨by rfl, by intro W hSw; have hc0 := hSw.2.1 1 _ rfl; simp only [Nat.zero_add] at hc0; go_simp⟩) hHeld ?_
  try simp only [Act.put, List.setIfInBounds_toArray, List.set_cons_zero, List.set_cons_succ]
  refine wpAnyH_take (i := 46) (oi := { dst := some 90, op := Op.call { callee := Callee.builtin Builtin.len, args := #[Operand.tmp 89], argTypes := #[22] }, type := 3, pos := "law.go:106", after := #[{ on := 45, ground := Ground.data }, { on := 41, ground := Ground.guard }], guard := some (41, false) }) (v := .int .i64 m) rfl (by kernel_rfl) (by kernel_rfl) (by kernel_rfl) (fun _ _ _ h => h) (Or.inl ⟨by rfl, by intro w hSw; go_simp⟩) hHeld ?_
  try simp only [Act.put, List.setIfInBounds_toArray, List.set_cons_zero, List.set_cons_succ]
  refine wpAnyH_take (i := 47) (oi := { dst := some 91, op := Op.binOp BinOp.sub 3 (Operand.tmp 90) (Operand.const (Value.int IntKind.i64 1)) 3, type := 3, pos := "law.go:106", after := #[{ on := 46, ground := Ground.data }, { on := 41, ground := Ground.guard }], guard := some (41, false) }) (v := .int .i64 k) rfl (by kernel_rfl) (by kernel_rfl) (by kernel_rfl) (fun _ _ _ h => h) (Or.inl ⟨by rfl, by intro w hSw; go_simp⟩) hHeld ?_
  try simp only [Act.put, List.setIfInBounds_toArray, List.set_cons_zero, List.set_cons_succ]
  refine wpAnyH_take (i := 48) (oi := { dst := some 92, op := Op.indexAddr 22 (Operand.tmp 87) (Operand.tmp 91), type := 0, pos := "law.go:106", after := #[{ on := 43, ground := Ground.data }, { on := 47, ground := Ground.data }, { on := 41, ground := Ground.guard }], guard := some (41, false) }) (v := .pointer (some ⟨gx, ox + 32 * k, none⟩)) rfl (by kernel_rfl) (by kernel_rfl) (by kernel_rfl) (fun _ _ _ h => h) (Or.inl ⟨by rfl, by intro W hSw; have := ix1 W; go_simp⟩) hHeld ?_
  try simp only [Act.put, List.setIfInBounds_toArray, List.set_cons_zero, List.set_cons_succ]
  refine wpAnyH_take (i := 49) (oi := { dst := some 93, op := Op.load 29 (Operand.tmp 92), type := 29, pos := "law.go:106", after := #[{ on := 48, ground := Ground.data }, { on := 41, ground := Ground.guard }], guard := some (41, false) }) (v := .agg LD.toArray) rfl (by kernel_rfl) (by kernel_rfl) (by kernel_rfl) (fun _ _ _ h => h) (yieldsIf_load_mid (by rfl) 29 (.tmp 92) rfl _ _ rfl LD _ (fun _ h => h.2.2.2.1) Tryd.underlying29 rfl zD) hHeld ?_
  try simp only [Act.put, List.setIfInBounds_toArray, List.set_cons_zero, List.set_cons_succ]
  refine wpAnyH_take (i := 50) (oi := { dst := some 94, op := Op.load 29 (Operand.tmp 6), type := 29, pos := "law.go:106", after := #[{ on := 41, ground := Ground.guard }], guard := some (41, false) }) (v := .agg LD.toArray) rfl (by kernel_rfl) (by kernel_rfl) (by kernel_rfl) (fun _ _ _ h => h) (yieldsIf_load_mid (by rfl) 29 (.tmp 6) rfl _ 0 rfl LD _ (fun _ h => h.1.1) Tryd.underlying29 rfl zD) hHeld ?_
  try simp only [Act.put, List.setIfInBounds_toArray, List.set_cons_zero, List.set_cons_succ]
  refine wpAnyH_take (i := 51) (oi := { dst := some 95, op := Op.binOp BinOp.eql 29 (Operand.tmp 93) (Operand.tmp 94) 29, type := 4, pos := "law.go:106", after := #[{ on := 49, ground := Ground.data }, { on := 50, ground := Ground.data }, { on := 41, ground := Ground.guard }], guard := some (41, false) }) (v := .bool true) rfl (by kernel_rfl) (by kernel_rfl) (by kernel_rfl) (fun _ _ _ h => h) (Or.inl ⟨by rfl, by intro W hSw; have := eA W; go_simp⟩) hHeld ?_
  try simp only [Act.put, List.setIfInBounds_toArray, List.set_cons_zero, List.set_cons_succ]
  refine wpAnyH_take (i := 52) (oi := { dst := some 96, op := Op.move (Operand.tmp 95), type := 4, pos := "law.go:106", after := #[{ on := 51, ground := Ground.data }, { on := 41, ground := Ground.chain }, { on := 41, ground := Ground.guard }], guard := some (41, false) }) (v := .bool true) rfl (by kernel_rfl) (by kernel_rfl) (by kernel_rfl) (fun _ _ _ h => h) (Or.inl ⟨by rfl, by intro w hSw; go_simp⟩) hHeld ?_
  try simp only [Act.put, List.setIfInBounds_toArray, List.set_cons_zero, List.set_cons_succ]
  refine wpAnyH_take (i := 53) (oi := { dst := some 97, op := Op.fieldAddr 25 (Operand.tmp 12) 1, type := 0, pos := "law.go:106", after := #[{ on := 52, ground := Ground.guard }], guard := some (52, true) }) (v := .pointer (some ⟨fy, 1, none⟩)) rfl (by kernel_rfl) (by kernel_rfl) (by kernel_rfl) (fun _ _ _ h => h) (Or.inl ⟨by rfl, by intro w hSw; go_simp⟩) hHeld ?_
  try simp only [Act.put, List.setIfInBounds_toArray, List.set_cons_zero, List.set_cons_succ]
  refine wpAnyH_take (i := 54) (oi := { dst := some 98, op := Op.load 22 (Operand.tmp 97), type := 22, pos := "law.go:106", after := #[{ on := 53, ground := Ground.data }, { on := 52, ground := Ground.guard }], guard := some (52, true) }) (v := .slice (some ⟨gy, oy, none⟩) m cv) rfl (by kernel_rfl) (by kernel_rfl) (by kernel_rfl) (fun _ _ _ h => h) (Or.inl ⟨by rfl, by intro W hSw; have hc0 := hSw.2.2.1 1 _ rfl; simp only [Nat.zero_add] at hc0; go_simp⟩) hHeld ?_
  try simp only [Act.put, List.setIfInBounds_toArray, List.set_cons_zero, List.set_cons_succ]
  refine wpAnyH_take (i := 55) (oi := { dst := some 99, op := Op.fieldAddr 25 (Operand.tmp 12) 1, type := 0, pos := "law.go:106", after := #[{ on := 52, ground := Ground.guard }], guard := some (52, true) }) (v := .pointer (some ⟨fy, 1, none⟩)) rfl (by kernel_rfl) (by kernel_rfl) (by kernel_rfl) (fun _ _ _ h => h) (Or.inl ⟨by rfl, by intro w hSw; go_simp⟩) hHeld ?_
  try simp only [Act.put, List.setIfInBounds_toArray, List.set_cons_zero, List.set_cons_succ]
  refine wpAnyH_take (i := 56) (oi := { dst := some 100, op := Op.load 22 (Operand.tmp 99), type := 22, pos := "law.go:106", after := #[{ on := 55, ground := Ground.data }, { on := 52, ground := Ground.guard }], guard := some (52, true) }) (v := .slice (some ⟨gy, oy, none⟩) m cv) rfl (by kernel_rfl) (by kernel_rfl) (by kernel_rfl) (fun _ _ _ h => h) (Or.inl ⟨by rfl, by intro W hSw; have hc0 := hSw.2.2.1 1 _ rfl; simp only [Nat.zero_add] at hc0; go_simp⟩) hHeld ?_
  try simp only [Act.put, List.setIfInBounds_toArray, List.set_cons_zero, List.set_cons_succ]
  refine wpAnyH_take (i := 57) (oi := { dst := some 101, op := Op.call { callee := Callee.builtin Builtin.len, args := #[Operand.tmp 100], argTypes := #[22] }, type := 3, pos := "law.go:106", after := #[{ on := 56, ground := Ground.data }, { on := 52, ground := Ground.guard }], guard := some (52, true) }) (v := .int .i64 m) rfl (by kernel_rfl) (by kernel_rfl) (by kernel_rfl) (fun _ _ _ h => h) (Or.inl ⟨by rfl, by intro w hSw; go_simp⟩) hHeld ?_
  try simp only [Act.put, List.setIfInBounds_toArray, List.set_cons_zero, List.set_cons_succ]
  refine wpAnyH_take (i := 58) (oi := { dst := some 102, op := Op.binOp BinOp.sub 3 (Operand.tmp 101) (Operand.const (Value.int IntKind.i64 1)) 3, type := 3, pos := "law.go:106", after := #[{ on := 57, ground := Ground.data }, { on := 52, ground := Ground.guard }], guard := some (52, true) }) (v := .int .i64 k) rfl (by kernel_rfl) (by kernel_rfl) (by kernel_rfl) (fun _ _ _ h => h) (Or.inl ⟨by rfl, by intro w hSw; go_simp⟩) hHeld ?_
  try simp only [Act.put, List.setIfInBounds_toArray, List.set_cons_zero, List.set_cons_succ]
  refine wpAnyH_take (i := 59) (oi := { dst := some 103, op := Op.indexAddr 22 (Operand.tmp 98) (Operand.tmp 102), type := 0, pos := "law.go:106", after := #[{ on := 54, ground := Ground.data }, { on := 58, ground := Ground.data }, { on := 52, ground := Ground.guard }], guard := some (52, true) }) (v := .pointer (some ⟨gy, oy + 32 * k, none⟩)) rfl (by kernel_rfl) (by kernel_rfl) (by kernel_rfl) (fun _ _ _ h => h) (Or.inl ⟨by rfl, by intro W hSw; have := ix2 W; go_simp⟩) hHeld ?_
  try simp only [Act.put, List.setIfInBounds_toArray, List.set_cons_zero, List.set_cons_succ]
  refine wpAnyH_take (i := 60) (oi := { dst := some 104, op := Op.load 29 (Operand.tmp 103), type := 29, pos := "law.go:106", after := #[{ on := 59, ground := Ground.data }, { on := 52, ground := Ground.guard }], guard := some (52, true) }) (v := .agg LE.toArray) rfl (by kernel_rfl) (by kernel_rfl) (by kernel_rfl) (fun _ _ _ h => h) (yieldsIf_load_mid (by rfl) 29 (.tmp 103) rfl _ _ rfl LE _ (fun _ h => h.2.2.2.2) Tryd.underlying29 rfl zE) hHeld ?_
  try simp only [Act.put, List.setIfInBounds_toArray, List.set_cons_zero, List.set_cons_succ]
  refine wpAnyH_take (i := 61) (oi := { dst := some 105, op := Op.load 29 (Operand.tmp 7), type := 29, pos := "law.go:106", after := #[{ on := 52, ground := Ground.guard }], guard := some (52, true) }) (v := .agg LE.toArray) rfl (by kernel_rfl) (by kernel_rfl) (by kernel_rfl) (fun _ _ _ h => h) (yieldsIf_load_mid (by rfl) 29 (.tmp 7) rfl _ 0 rfl LE _ (fun _ h => h.1.2.1) Tryd.underlying29 rfl zE) hHeld ?_
  try simp only [Act.put, List.setIfInBounds_toArray, List.set_cons_zero, List.set_cons_succ]
  refine wpAnyH_take (i := 62) (oi := { dst := some 106, op := Op.binOp BinOp.eql 29 (Operand.tmp 104) (Operand.tmp 105) 29, type := 4, pos := "law.go:106", after := #[{ on := 60, ground := Ground.data }, { on := 61, ground := Ground.data }, { on := 52, ground := Ground.guard }], guard := some (52, true) }) (v := .bool true) rfl (by kernel_rfl) (by kernel_rfl) (by kernel_rfl) (fun _ _ _ h => h) (Or.inl ⟨by rfl, by intro W hSw; have := eB W; go_simp⟩) hHeld ?_
  try simp only [Act.put, List.setIfInBounds_toArray, List.set_cons_zero, List.set_cons_succ]
  refine wpAnyH_take (i := 63) (oi := { dst := some 107, op := Op.pick (Operand.tmp 96) (Operand.tmp 106) (Operand.const (Value.bool false)), type := 4, pos := "law.go:106", after := #[{ on := 52, ground := Ground.data }, { on := 62, ground := Ground.data }, { on := 41, ground := Ground.guard }], guard := some (41, false) }) (v := .bool true) rfl (by kernel_rfl) (by kernel_rfl) (by kernel_rfl) (fun _ _ _ h => h) (Or.inl ⟨by rfl, by intro w hSw; go_simp⟩) hHeld ?_
  try simp only [Act.put, List.setIfInBounds_toArray, List.set_cons_zero, List.set_cons_succ]
  refine wpAnyH_take (i := 64) (oi := { dst := some 108, op := Op.pick (Operand.tmp 85) (Operand.const (Value.bool true)) (Operand.tmp 107), type := 4, pos := "law.go:106", after := #[{ on := 41, ground := Ground.data }, { on := 63, ground := Ground.data }, { on := 37, ground := Ground.guard }], guard := some (37, true) }) (v := .bool true) rfl (by kernel_rfl) (by kernel_rfl) (by kernel_rfl) (fun _ _ _ h => h) (Or.inl ⟨by rfl, by intro w hSw; go_simp⟩) hHeld ?_
  try simp only [Act.put, List.setIfInBounds_toArray, List.set_cons_zero, List.set_cons_succ]
  refine wpAnyH_take (i := 65) (oi := { dst := some 109, op := Op.pick (Operand.tmp 81) (Operand.tmp 108) (Operand.const (Value.bool false)), type := 4, pos := "law.go:106", after := #[{ on := 37, ground := Ground.data }, { on := 64, ground := Ground.data }], guard := none }) (v := .bool true) rfl (by kernel_rfl) (by kernel_rfl) (by kernel_rfl) (fun _ _ _ h => h) (Or.inl ⟨by rfl, by intro w hSw; go_simp⟩) hHeld ?_
  try simp only [Act.put, List.setIfInBounds_toArray, List.set_cons_zero, List.set_cons_succ]
  refine wpAnyH_take (i := 66) (oi := { dst := some 8, op := Op.assign (Operand.tmp 109), type := 4, pos := "law.go:106", after := ([{ on := 65, ground := Ground.data }, { on := 52, ground := Ground.chain }, { on := 0, ground := Ground.phase }, { on := 1, ground := Ground.phase }, { on := 2, ground := Ground.phase }, { on := 3, ground := Ground.phase }, { on := 4, ground := Ground.phase }, { on := 5, ground := Ground.phase }, { on := 6, ground := Ground.phase }, { on := 7, ground := Ground.phase }, { on := 8, ground := Ground.phase }, { on := 9, ground := Ground.phase }, { on := 10, ground := Ground.phase }, { on := 11, ground := Ground.phase }, { on := 12, ground := Ground.phase }, { on := 13, ground := Ground.phase }, { on := 14, ground := Ground.phase }, { on := 15, ground := Ground.phase }, { on := 16, ground := Ground.phase }, { on := 17, ground := Ground.phase }, { on := 18, ground := Ground.phase }, { on := 19, ground := Ground.phase }, { on := 20, ground := Ground.phase }, { on := 21, ground := Ground.phase }, { on := 22, ground := Ground.phase }, { on := 23, ground := Ground.phase }, { on := 24, ground := Ground.phase }, { on := 25, ground := Ground.phase }, { on := 26, ground := Ground.phase }, { on := 27, ground := Ground.phase }, { on := 28, ground := Ground.phase }, { on := 29, ground := Ground.phase }, { on := 30, ground := Ground.phase }, { on := 31, ground := Ground.phase }].append [{ on := 32, ground := Ground.phase }, { on := 33, ground := Ground.phase }, { on := 34, ground := Ground.phase }, { on := 35, ground := Ground.phase }, { on := 36, ground := Ground.phase }, { on := 37, ground := Ground.phase }, { on := 38, ground := Ground.phase }, { on := 39, ground := Ground.phase }, { on := 40, ground := Ground.phase }, { on := 41, ground := Ground.phase }, { on := 42, ground := Ground.phase }, { on := 43, ground := Ground.phase }, { on := 44, ground := Ground.phase }, { on := 45, ground := Ground.phase }, { on := 46, ground := Ground.phase }, { on := 47, ground := Ground.phase }, { on := 48, ground := Ground.phase }, { on := 49, ground := Ground.phase }, { on := 50, ground := Ground.phase }, { on := 51, ground := Ground.phase }, { on := 52, ground := Ground.phase }, { on := 53, ground := Ground.phase }, { on := 54, ground := Ground.phase }, { on := 55, ground := Ground.phase }, { on := 56, ground := Ground.phase }, { on := 57, ground := Ground.phase }, { on := 58, ground := Ground.phase }, { on := 59, ground := Ground.phase }, { on := 60, ground := Ground.phase }, { on := 61, ground := Ground.phase }, { on := 62, ground := Ground.phase }, { on := 63, ground := Ground.phase }, { on := 64, ground := Ground.phase }, { on := 65, ground := Ground.phase }]).toArray, guard := none }) (v := .bool true) rfl (by kernel_rfl) (by kernel_rfl) (by kernel_rfl) (fun _ _ _ h => h) (Or.inl ⟨by rfl, by intro w hSw; go_simp⟩) hHeld ?_
  try simp only [Act.put, List.setIfInBounds_toArray, List.set_cons_zero, List.set_cons_succ]
  refine wpAnyH_done (by kernel_rfl) ?_ _
  go_wp2
  go_ret
  exact ⟨rfl, hHeld.1.2.2.2⟩

theorem frontKeeps_of (fr : FrontC) (a0 : Int) (a1 : Option Addr) (len1 cap1 : Nat) (z1 : List (List UInt8)) (z2 z3 : List UInt8) (w : World) (w0 : (Lit.int .i64 a0).wf = true) (w1 : LReads w a1 len1 cap1 z1) (w2 : z2.length = 32) (w3 : z3.length = 32) (hK : TabF w) :
    Calls Tryd.prog 7 #[.int .i64 a0, .slice a1 len1 cap1, digV z2, digV z3] w fun e w' => e = .returned (.bool true) ∧ Below w.heap.size w w' := by
  have hb := bounds_i64 w0
  have hmx : len1 ≤ 9223372036854775807 := by have := w1.2.2.2.1; unfold maxLen at this; omega
  unfold digV
  obtain ⟨D, HD⟩ : ∃ D, Hid (D = (cellsOf z2).toArray) := ⟨_, (rfl : (cellsOf z2).toArray = _)⟩
  obtain ⟨E, HE⟩ : ∃ E, Hid (E = (cellsOf z3).toArray) := ⟨_, (rfl : (cellsOf z3).toArray = _)⟩
  rw [← HD.out, ← HE.out]
  by_cases hlong : 200 < len1
  · have hd : decide ((200 : Int) < (len1 : Int)) = true := by rw [decide_eq_true_eq]; omega
    clear HD HE
    go_enter Tryd.func7, Tryd.ntmps7
    go_wp2
    go_ret
    exact ⟨rfl, ((Below.refl _ _).alloc (Nat.le_refl _) _).alloc (by simp) _⟩
  · by_cases hr : isRight a0 len1
    · by_cases hf : a0 = 100000
      · subst hf
        exact keeps_full fr a1 len1 cap1 z1 z2 z3 w w1 (by omega) w2 w3 D E HD HE hr hK
      · obtain ⟨n, hn⟩ : ∃ n : Nat, a0 = n := ⟨a0.toNat, by have := hr.1; omega⟩
        subst hn
        rcases Nat.mod_two_eq_zero_or_one n with h | h
        · exact keeps_even fr n a1 len1 cap1 z1 z2 z3 w w1 (by omega) w2 w3 D E HD HE hr (by have := hr.2.1; omega) h hK
        · exact keeps_odd fr n a1 len1 cap1 z1 z2 z3 w w1 (by omega) w2 w3 D E HD HE hr (by have := hr.2.1; omega) h hK
    · exact keeps_no fr a0 a1 len1 cap1 z1 z2 z3 w w1 (by omega) w2 w3 D E HD HE ⟨by omega, by omega⟩ hr hK

end Go.Proofs.YtmpmhfagbcknnaaDoor
