/- FrontAdds answers true at every number, list and leaf. -/
import Derived.Test.YtmpmhfagbcknnaaDoorThree4
import Derived.Test.YtmpmhfagbcknnaaDoorOwns
namespace Go.Proofs.YtmpmhfagbcknnaaDoor
open Go.RowKit Sums
set_option linter.unusedVariables false
set_option linter.unusedSimpArgs false

set_option maxHeartbeats 2000000 in
theorem adds_no (fr : FrontC) (a0 : Int) (a1 : Option Addr) (len1 cap1 : Nat) (z1 : List (List UInt8)) (z2 : List UInt8) (w : World) (w1 : LReads w a1 len1 cap1 z1) (hlong : len1 ≤ 200) (w2 : z2.length = 32) (D : Array Value) (HD : Hid (D = (cellsOf z2).toArray)) (hb : -9223372036854775808 ≤ a0 ∧ a0 ≤ 9223372036854775807) (hr : ¬ isRight a0 len1) (hK : TabF w) :
    Calls Tryd.prog 4 #[.int .i64 a0, .slice a1 len1 cap1, .agg D] w fun e w' => e = .returned (.bool true) ∧ Below w.heap.size w w' := by
  have hd : decide ((200 : Int) < (len1 : Int)) = false := by rw [decide_eq_false_iff_not]; omega
  have HSD : Hid ((Tryd.prog.info? 29).map (·.size) = some D.size) := by show _ = _; rw [size23, HD.out]; simp [cellsOf_length, w2]
  have HW : Hid (LReads w a1 len1 cap1 z1) := w1
  have hb0 : Below w.heap.size w (w.alloc (.cells D 29)) := (Below.refl _ _).alloc (Nat.le_refl _) _
  have OW : Hid (Calls Tryd.prog 8 #[.slice a1 len1 cap1] (w.alloc (.cells D 29)) fun e w' => ∃ x cx, e = .returned (.slice x len1 cx) ∧ LReads w' x len1 cx z1 ∧ Below (w.alloc (.cells D 29)).heap.size (w.alloc (.cells D 29)) w') := own_reads a1 len1 cap1 z1 _ (w1.keep hb0) (by omega)
  have T : Hid (∀ W, Below w.heap.size w W → Calls Tryd.prog 13 #[] W fun e w' => e = .returned (.bool true) ∧ Below W.heap.size W w') := fun W hb => three4_true fr W (hK.keep hb)
  have AC : Hid (∀ W, Calls Tryd.prog 15 #[.agg #[.int .i64 a0, .slice a1 len1 cap1], .agg D] W fun e w' => ∃ y cy, e = .returned (.tuple #[.agg #[.int .i64 0, .slice y 0 cy], .int .i64 30]) ∧ Below W.heap.size W w') := fun W => fr.add_no a0 a1 len1 cap1 W w1.2.2.2.1 hb hr D z2 w2 HD
  have RI : Hid (∀ W x cx, Calls Tryd.prog 11 #[.int .i64 a0, .slice x len1 cx] W fun e w' => e = .returned (.bool false) ∧ W = w') := fun W x cx => refRight_no a0 x len1 cx W w1.2.2.2.1 hb hr
  clear hK w1 hr HD
  go_enter Tryd.func4, Tryd.ntmps4
  go_wp2_with fail
  refine OW.out.mono ?_
  rintro e w1 ⟨x, cx, rfl, hx, hb1⟩
  have HG1 : Hid (w1.heap[w.heap.size]? = some (.cells D 29 (0, 0)) ∧ Below w.heap.size w w1) := ⟨(hb1.block _ (by simp)).trans (heap_alloc_new w _), hb0.trans (hb1.mono (by simp))⟩
  clear hx hb1 hb0 OW
  go_wp2_with (first
    | (refine wpList_load_row rfl 29 (.tmp 5) rfl w.heap.size rfl 29 D (0, 0) _ HG1.out.1 Tryd.underlying29 rfl HSD.out ?_; try simp only [Act.put, List.setIfInBounds_toArray, List.set_cons_zero, List.set_cons_succ])
    | fail)
  refine (AC.out _).mono ?_
  rintro e w3 ⟨y, cy, rfl, hb3⟩
  have H3 : Hid (Below w.heap.size w (w3.alloc (.cells #[.int .i64 0, .slice y 0 cy] 25)) ∧ (w3.alloc (.cells #[.int .i64 0, .slice y 0 cy] 25)).heap[w3.heap.size]? = some (.cells #[.int .i64 0, .slice y 0 cy] 25 (0, 0))) := ⟨(HG1.out.2.trans (hb3.mono HG1.out.2.size)).alloc (Nat.le_trans HG1.out.2.size hb3.size) _, heap_alloc_new w3 _⟩
  clear hb3 HG1 AC
  go_wp2_with fail
  generalize w3.alloc (.cells #[.int .i64 0, .slice y 0 cy] 25) = w4 at H3 ⊢
  generalize w3.heap.size = gf at H3 ⊢
  refine (RI.out _ _ _).mono ?_
  rintro e w5 ⟨rfl, rfl⟩
  go_wp2_with fail
  refine (T.out _ H3.out.1).mono ?_
  rintro e w6 ⟨rfl, hb6⟩
  have HG6 : w6.heap[gf]? = some (.cells #[.int .i64 0, .slice y 0 cy] 25 (0, 0)) := (hb6.block _ (heap_lt H3.out.2)).trans H3.out.2
  have H6 : Hid (Below w.heap.size w w6) := H3.out.1.trans (hb6.mono H3.out.1.size)
  have hc0 : w6.cell? ⟨gf, 0, none⟩ = some (.int .i64 0) := by rw [cell_of_row w6 gf 0 _ 25 (0, 0) HG6]; rfl
  have hc1 : w6.cell? ⟨gf, 1, none⟩ = some (.slice y 0 cy) := by rw [cell_of_row w6 gf 1 _ 25 (0, 0) HG6]; rfl
  clear hb6 H3 HG6
  go_wp2
  go_ret
  exact ⟨rfl, H6.out⟩

set_option maxHeartbeats 2000000 in
theorem adds_full (fr : FrontC) (a1 : Option Addr) (len1 cap1 : Nat) (z1 : List (List UInt8)) (z2 : List UInt8) (w : World) (w1 : LReads w a1 len1 cap1 z1) (hlong : len1 ≤ 200) (w2 : z2.length = 32) (D : Array Value) (HD : Hid (D = (cellsOf z2).toArray)) (hr : isRight 100000 len1) (hK : TabF w) :
    Calls Tryd.prog 4 #[.int .i64 100000, .slice a1 len1 cap1, .agg D] w fun e w' => e = .returned (.bool true) ∧ Below w.heap.size w w' := by
  have hd : decide ((200 : Int) < (len1 : Int)) = false := by rw [decide_eq_false_iff_not]; omega
  have HSD : Hid ((Tryd.prog.info? 29).map (·.size) = some D.size) := by show _ = _; rw [size23, HD.out]; simp [cellsOf_length, w2]
  have HW : Hid (LReads w a1 len1 cap1 z1) := w1
  have hb0 : Below w.heap.size w (w.alloc (.cells D 29)) := (Below.refl _ _).alloc (Nat.le_refl _) _
  have OW : Hid (Calls Tryd.prog 8 #[.slice a1 len1 cap1] (w.alloc (.cells D 29)) fun e w' => ∃ x cx, e = .returned (.slice x len1 cx) ∧ LReads w' x len1 cx z1 ∧ Below (w.alloc (.cells D 29)).heap.size (w.alloc (.cells D 29)) w') := own_reads a1 len1 cap1 z1 _ (w1.keep hb0) (by omega)
  have T : Hid (∀ W, Below w.heap.size w W → Calls Tryd.prog 13 #[] W fun e w' => e = .returned (.bool true) ∧ Below W.heap.size W w') := fun W hb => three4_true fr W (hK.keep hb)
  have AC : Hid (∀ W, Calls Tryd.prog 15 #[.agg #[.int .i64 100000, .slice a1 len1 cap1], .agg D] W fun e w' => ∃ y cy, e = .returned (.tuple #[.agg #[.int .i64 0, .slice y 0 cy], .int .i64 2]) ∧ Below W.heap.size W w') := fun W => fr.add_full a1 len1 cap1 W hr D z2 w2 HD
  have RI : Hid (∀ W x cx, Calls Tryd.prog 11 #[.int .i64 100000, .slice x len1 cx] W fun e w' => e = .returned (.bool true) ∧ W = w') := fun W x cx => refRight_yes 100000 x len1 cx W hr
  clear hK w1 hr HD
  go_enter Tryd.func4, Tryd.ntmps4
  go_wp2_with fail
  refine OW.out.mono ?_
  rintro e w1 ⟨x, cx, rfl, hx, hb1⟩
  have HG1 : Hid (w1.heap[w.heap.size]? = some (.cells D 29 (0, 0)) ∧ Below w.heap.size w w1) := ⟨(hb1.block _ (by simp)).trans (heap_alloc_new w _), hb0.trans (hb1.mono (by simp))⟩
  clear hx hb1 hb0 OW
  go_wp2_with (first
    | (refine wpList_load_row rfl 29 (.tmp 5) rfl w.heap.size rfl 29 D (0, 0) _ HG1.out.1 Tryd.underlying29 rfl HSD.out ?_; try simp only [Act.put, List.setIfInBounds_toArray, List.set_cons_zero, List.set_cons_succ])
    | fail)
  refine (AC.out _).mono ?_
  rintro e w3 ⟨y, cy, rfl, hb3⟩
  have H3 : Hid (Below w.heap.size w (w3.alloc (.cells #[.int .i64 0, .slice y 0 cy] 25)) ∧ (w3.alloc (.cells #[.int .i64 0, .slice y 0 cy] 25)).heap[w3.heap.size]? = some (.cells #[.int .i64 0, .slice y 0 cy] 25 (0, 0))) := ⟨(HG1.out.2.trans (hb3.mono HG1.out.2.size)).alloc (Nat.le_trans HG1.out.2.size hb3.size) _, heap_alloc_new w3 _⟩
  clear hb3 HG1 AC
  go_wp2_with fail
  generalize w3.alloc (.cells #[.int .i64 0, .slice y 0 cy] 25) = w4 at H3 ⊢
  generalize w3.heap.size = gf at H3 ⊢
  refine (RI.out _ _ _).mono ?_
  rintro e w5 ⟨rfl, rfl⟩
  go_wp2_with fail
  refine (T.out _ H3.out.1).mono ?_
  rintro e w6 ⟨rfl, hb6⟩
  have HG6 : w6.heap[gf]? = some (.cells #[.int .i64 0, .slice y 0 cy] 25 (0, 0)) := (hb6.block _ (heap_lt H3.out.2)).trans H3.out.2
  have H6 : Hid (Below w.heap.size w w6) := H3.out.1.trans (hb6.mono H3.out.1.size)
  have hc0 : w6.cell? ⟨gf, 0, none⟩ = some (.int .i64 0) := by rw [cell_of_row w6 gf 0 _ 25 (0, 0) HG6]; rfl
  have hc1 : w6.cell? ⟨gf, 1, none⟩ = some (.slice y 0 cy) := by rw [cell_of_row w6 gf 1 _ 25 (0, 0) HG6]; rfl
  clear hb6 H3 HG6
  go_wp2
  go_ret
  exact ⟨rfl, H6.out⟩

theorem keepA {w W W' : World} {x y a : Option Addr} {n cx m cy cap gf gb : Nat} {z pk : List (List UInt8)} {F B : List Value} (h : LReads W a n cap z ∧ LReads W x n cx z ∧ LReads W y m cy pk ∧ W.rangeAt gf 0 F ∧ W.rangeAt gb 0 B ∧ Below w.heap.size w W) (hb : Below W.heap.size W W') :
    LReads W' a n cap z ∧ LReads W' x n cx z ∧ LReads W' y m cy pk ∧ W'.rangeAt gf 0 F ∧ W'.rangeAt gb 0 B ∧ Below w.heap.size w W' :=
  ⟨h.1.keep hb, h.2.1.keep hb, h.2.2.1.keep hb, range_keep hb h.2.2.2.1, range_keep hb h.2.2.2.2.1, h.2.2.2.2.2.trans (hb.mono h.2.2.2.2.2.size)⟩
theorem RoomO.keep {B : Nat} {x : Option Addr} {m : Nat} {W W' : World} (h : RoomO B x m W) (hb : Below W.heap.size W W') : RoomO B x m W' := by
  by_cases h0 : m = 0
  · exact .inl h0
  · rcases h with h | ⟨gp, o, e, hB, ht⟩
    · exact .inl h
    · refine .inr ⟨gp, o, e, hB, fun j hj => ?_⟩
      obtain ⟨h1, h2⟩ := ht j hj
      obtain ⟨u, hu⟩ := Option.isSome_iff_exists.1 h1
      have hlt : gp < W.heap.size := World.block_lt_of_cell? _ _ hu
      rw [hb.cell hlt]
      refine ⟨h1, ?_⟩
      rw [World.frozen?_of_block (hb.block gp hlt)]
      exact h2
theorem below_cells {B b : Nat} {a : World} (hb : B ≤ b) : ∀ (vs : List Value) (o : Nat) (w : World), Below B a w → Below B a (w.setCells b o vs)
  | [], _, _, h => h
  | v :: r, o, w, h => by
    rw [World.setCells]
    exact below_cells hb r (o + 1) _ (h.setCell (by simpa using hb) _)
theorem built77 : Tryd.prog.built 29 [(0, .int .u8 77)] = some (cellsOf (dig1 77)).toArray := by kernel_rfl

set_option maxHeartbeats 4000000 in
theorem adds_ok (fr : FrontC) (n : Nat) (a1 : Option Addr) (len1 cap1 : Nat) (z1 : List (List UInt8)) (z2 : List UInt8) (w : World) (w1 : LReads w a1 len1 cap1 z1) (hlong : len1 ≤ 200) (w2 : z2.length = 32) (D : Array Value) (HD : Hid (D = (cellsOf z2).toArray)) (hr : isRight n len1) (hn : n ≤ 99999) (hK2 : Table 0 w) (hK : TabF w) :
    Calls Tryd.prog 4 #[.int .i64 n, .slice a1 len1 cap1, .agg D] w fun e w' => e = .returned (.bool true) ∧ Below w.heap.size w w' := by
  have hd : decide ((200 : Int) < (len1 : Int)) = false := by rw [decide_eq_false_iff_not]; omega
  have HSD : Hid ((Tryd.prog.info? 29).map (·.size) = some D.size) := by show _ = _; rw [size23, HD.out]; simp [cellsOf_length, w2]
  have HW : Hid (LReads w a1 len1 cap1 z1) := w1
  have hb0 : Below w.heap.size w (w.alloc (.cells D 29)) := (Below.refl _ _).alloc (Nat.le_refl _) _
  have OW : Hid (Calls Tryd.prog 8 #[.slice a1 len1 cap1] (w.alloc (.cells D 29)) fun e w' => ∃ x cx, e = .returned (.slice x len1 cx) ∧ LReads w' x len1 cx z1 ∧ Below (w.alloc (.cells D 29)).heap.size (w.alloc (.cells D 29)) w') := own_reads a1 len1 cap1 z1 _ (w1.keep hb0) (by omega)
  have hlm : len1 = many n := by have := hr.2.2; rwa [Int.toNat_natCast] at this
  obtain ⟨m, HM⟩ : ∃ m, Hid (m = (addP n z1 z2).length) := ⟨_, (rfl : (addP n z1 z2).length = _)⟩
  have hm : m ≤ 100000 := by rw [HM.out, addP_length n z1 z2 (by rw [w1.1, hlm])]; have := many_le (n + 1); omega
  have T : Hid (∀ W, TabF W → Calls Tryd.prog 13 #[] W fun e w' => e = .returned (.bool true) ∧ Below W.heap.size W w') := fun W h => three4_true fr W h
  have AC : Hid (∀ W, Below w.heap.size w W → Calls Tryd.prog 15 #[.agg #[.int .i64 n, .slice a1 len1 cap1], .agg D] W fun e w' => ∃ y cy, e = .returned (.tuple #[.agg #[.int .i64 ((n : Int) + 1), .slice y m cy], .int .i64 0]) ∧ LReads w' y m cy (addP n z1 z2) ∧ RoomO W.heap.size y m w' ∧ Below W.heap.size W w') := fun W hb => by
    rw [HM.out]
    exact fr.add_ok n a1 len1 cap1 z1 z2 W hr hn (w1.keep hb) w2 (hK.keep hb) D HD
  have RI : Hid (∀ W x cx, Calls Tryd.prog 11 #[.int .i64 n, .slice x len1 cx] W fun e w' => e = .returned (.bool true) ∧ W = w') := fun W x cx => refRight_yes n x len1 cx W hr
  have RA : Hid (∀ W x cx, Below w.heap.size w W → LReads W x len1 cx z1 → Calls Tryd.prog 16 #[.int .i64 n, .slice x len1 cx, .agg D] W fun e w' => ∃ y cy, e = .returned (.slice y m cy) ∧ LReads w' y m cy (addP n z1 z2) ∧ Below W.heap.size W w') := fun W x cx hb hx => by
    rw [HM.out]
    exact refAdd_any n x len1 cx z1 z2 W hx hn hlm w2 (hK2.keep hb) D HD
  have DG : Hid (∀ W x cx y cy, LReads W x m cx (addP n z1 z2) → LReads W y m cy (addP n z1 z2) → Calls Tryd.prog 14 #[.slice x m cx, .slice y m cy] W fun e w' => e = .returned (.bool true) ∧ Below W.heap.size W w') := fun W x cx y cy h1 h2 => same_digs x y m cx cy _ W h1 h2
  have DL : Hid (∀ W x cx, LReads W a1 len1 cap1 z1 → LReads W x len1 cx z1 → Calls Tryd.prog 14 #[.slice a1 len1 cap1, .slice x len1 cx] W fun e w' => e = .returned (.bool true) ∧ Below W.heap.size W w') := fun W x cx h1 h2 => same_digs a1 x len1 cap1 cx z1 W h1 h2
  have HK : Hid (TabF w) := hK
  obtain ⟨LD, hLD⟩ : ∃ LD : List Value, D = LD.toArray := ⟨D.toList, by simp⟩
  have zD : (Tryd.prog.info? 29).map (·.size) = some LD.length := by have := HSD.out; rw [hLD] at this; simpa using this
  have HLD := hidk hLD
  obtain ⟨S7, HS7, HSS, H1S, H32S⟩ := dig_row' (dig1 77) rfl
  have HBS : Hid (Tryd.prog.built 29 [(0, .int .u8 77)] = some S7) := by show _ = _; rw [HS7.out]; exact built77
  have e0 := wrap_int ((n : Int) + 1) (by omega) (by omega)
  have c1 : ((n : Int) == 100000) = false := by rw [beq_eq_false_iff_ne]; omega
  have c2 : decide ((n : Int) = 100000) = false := by rw [decide_eq_false_iff_not]; omega
  have c3 : ¬ n = 100000 := by omega
  generalize addP n z1 z2 = pk at HM AC RA DG
  clear hK hK2 w1 hr HD HM hLD hlm HS7
  go_enter Tryd.func4, Tryd.ntmps4
  go_wp2_with fail
  refine OW.out.mono ?_
  rintro e w1 ⟨x, cx, rfl, hx, hb1⟩
  have HG1 : Hid (w1.heap[w.heap.size]? = some (.cells D 29 (0, 0)) ∧ Below w.heap.size w w1 ∧ LReads w1 x len1 cx z1) := ⟨(hb1.block _ (by simp)).trans (heap_alloc_new w _), hb0.trans (hb1.mono (by simp)), hx⟩
  clear hx hb1 hb0 OW
  go_wp2_with (first
    | (refine wpList_load_row rfl 29 (.tmp 5) rfl w.heap.size rfl 29 D (0, 0) _ HG1.out.1 Tryd.underlying29 rfl HSD.out ?_; try simp only [Act.put, List.setIfInBounds_toArray, List.set_cons_zero, List.set_cons_succ])
    | fail)
  refine (AC.out _ HG1.out.2.1).mono ?_
  rintro e w3 ⟨y, cy, rfl, hy, hroom, hb3⟩
  have hal : Below w3.heap.size w3 (w3.alloc (.cells #[.int .i64 ((n : Int) + 1), .slice y m cy] 25)) := (Below.refl _ _).alloc (Nat.le_refl _) _
  have hlo : Below w.heap.size w w3 := HG1.out.2.1.trans (hb3.mono HG1.out.2.1.size)
  have H3 : Hid ((LReads (w3.alloc (.cells #[.int .i64 ((n : Int) + 1), .slice y m cy] 25)) a1 len1 cap1 z1 ∧ LReads (w3.alloc (.cells #[.int .i64 ((n : Int) + 1), .slice y m cy] 25)) x len1 cx z1 ∧ LReads (w3.alloc (.cells #[.int .i64 ((n : Int) + 1), .slice y m cy] 25)) y m cy pk ∧ (w3.alloc (.cells #[.int .i64 ((n : Int) + 1), .slice y m cy] 25)).rangeAt w3.heap.size 0 [.int .i64 ((n : Int) + 1), .slice y m cy] ∧ (w3.alloc (.cells #[.int .i64 ((n : Int) + 1), .slice y m cy] 25)).rangeAt w.heap.size 0 LD ∧ Below w.heap.size w (w3.alloc (.cells #[.int .i64 ((n : Int) + 1), .slice y m cy] 25))) ∧
      RoomO w1.heap.size y m (w3.alloc (.cells #[.int .i64 ((n : Int) + 1), .slice y m cy] 25)) ∧ w1.heap.size ≤ (w3.alloc (.cells #[.int .i64 ((n : Int) + 1), .slice y m cy] 25)).heap.size ∧ (∀ g o, y = some ⟨g, o, none⟩ → 0 < m → g ≠ w3.heap.size)) := by
    refine ⟨⟨(HW.out.keep hlo).keep hal, (HG1.out.2.2.keep hb3).keep hal, hy.keep hal, range_row (heap_alloc_new w3 _), range_keep hal (range_keep hb3 (range_row (by rw [← HLD.out]; exact HG1.out.1))), hlo.trans (hal.mono hlo.size)⟩, hroom.keep hal, Nat.le_trans hb3.size hal.size, fun g o e h0 => ?_⟩
    obtain ⟨g', o', e', hg⟩ := hy.at h0
    rw [e] at e'; cases e'
    exact Nat.ne_of_lt hg
  have HL1 : Hid (∀ g o, a1 = some ⟨g, o, none⟩ → 0 < len1 → g < w1.heap.size) := fun g o e h0 => by
    obtain ⟨g', o', e', hg⟩ := HW.out.at h0
    rw [e] at e'; cases e'
    exact Nat.lt_of_lt_of_le hg HG1.out.2.1.size
  have HL2 : Hid (∀ g o, x = some ⟨g, o, none⟩ → 0 < len1 → g < w1.heap.size) := fun g o e h0 => by
    obtain ⟨g', o', e', hg⟩ := HG1.out.2.2.at h0
    rw [e] at e'; cases e'
    exact hg
  have HT1 : Hid (1 < w1.heap.size ∧ 3 < w1.heap.size) := ⟨Nat.lt_of_lt_of_le HK.out.at.1 HG1.out.2.1.size, Nat.lt_of_lt_of_le HK.out.at.2 HG1.out.2.1.size⟩
  have HS1 : Hid (w.heap.size ≤ w1.heap.size) := HG1.out.2.1.size
  clear hy hroom hb3 hal hlo HG1 AC
  go_wp2_with fail
  generalize w3.alloc (.cells #[.int .i64 ((n : Int) + 1), .slice y m cy] 25) = w4 at H3 ⊢
  generalize w3.heap.size = gf at H3 ⊢
  generalize w1.heap.size = B at H3 HL1 HL2 HT1 HS1
  refine (RI.out _ _ _).mono ?_
  rintro e w5 ⟨rfl, rfl⟩
  go_wp2
  refine wp_region_held_drew (S := (fun W => LReads W a1 len1 cap1 z1 ∧ LReads W x len1 cx z1 ∧ LReads W y m cy pk ∧ W.rangeAt gf 0 [.int .i64 ((n : Int) + 1), .slice y m cy] ∧ W.rangeAt w.heap.size 0 LD ∧ Below w.heap.size w W)) (by kernel_rfl) (keepA H3.out.1 (Below.refl _ _).drew) (fun hHeld => ?_)
  refine wpAnyH_take (i := 0) (oi := { dst := some 63, op := Op.move (Operand.tmp 9), type := 26, pos := "law.go:57", after := #[], guard := none }) (v := .int .i64 0) rfl (by kernel_rfl) (by kernel_rfl) (by kernel_rfl) (fun _ _ _ h => h) (Or.inl ⟨by rfl, by intro w hSw; go_simp⟩) hHeld ?_
  try simp only [Act.put, List.setIfInBounds_toArray, List.set_cons_zero, List.set_cons_succ]
  refine wpAnyH_take (i := 1) (oi := { dst := some 64, op := Op.binOp BinOp.eql 26 (Operand.tmp 63) (Operand.const (Value.int IntKind.i64 0)) 26, type := 4, pos := "law.go:57", after := #[{ on := 0, ground := Ground.data }], guard := none }) (v := .bool true) rfl (by kernel_rfl) (by kernel_rfl) (by kernel_rfl) (fun _ _ _ h => h) (Or.inl ⟨by rfl, by intro w hSw; go_simp⟩) hHeld ?_
  try simp only [Act.put, List.setIfInBounds_toArray, List.set_cons_zero, List.set_cons_succ]
  refine wpAnyH_take (i := 2) (oi := { dst := some 65, op := Op.move (Operand.tmp 64), type := 4, pos := "law.go:57", after := #[{ on := 1, ground := Ground.data }], guard := none }) (v := .bool true) rfl (by kernel_rfl) (by kernel_rfl) (by kernel_rfl) (fun _ _ _ h => h) (Or.inl ⟨by rfl, by intro w hSw; go_simp⟩) hHeld ?_
  try simp only [Act.put, List.setIfInBounds_toArray, List.set_cons_zero, List.set_cons_succ]
  refine wpAnyH_take (i := 3) (oi := { dst := some 66, op := Op.fieldAddr 25 (Operand.tmp 8) 0, type := 0, pos := "law.go:57", after := #[{ on := 2, ground := Ground.guard }], guard := some (2, true) }) (v := .pointer (some ⟨gf, 0, none⟩)) rfl (by kernel_rfl) (by kernel_rfl) (by kernel_rfl) (fun _ _ _ h => h) (Or.inl ⟨by rfl, by intro w hSw; go_simp⟩) hHeld ?_
  try simp only [Act.put, List.setIfInBounds_toArray, List.set_cons_zero, List.set_cons_succ]
  refine wpAnyH_take (i := 4) (oi := { dst := some 67, op := Op.load 3 (Operand.tmp 66), type := 3, pos := "law.go:57", after := #[{ on := 3, ground := Ground.data }, { on := 2, ground := Ground.guard }], guard := some (2, true) }) (v := .int .i64 ((n : Int) + 1)) rfl (by kernel_rfl) (by kernel_rfl) (by kernel_rfl) (fun _ _ _ h => h) (Or.inl ⟨by rfl, by intro W hSw; have hc0 := hSw.2.2.2.1 0 _ rfl; simp only [Nat.add_zero] at hc0; go_simp⟩) hHeld ?_
  try simp only [Act.put, List.setIfInBounds_toArray, List.set_cons_zero, List.set_cons_succ]
  refine wpAnyH_take (i := 5) (oi := { dst := some 68, op := Op.move (Operand.tmp 0), type := 3, pos := "law.go:57", after := #[{ on := 2, ground := Ground.guard }], guard := some (2, true) }) (v := .int .i64 n) rfl (by kernel_rfl) (by kernel_rfl) (by kernel_rfl) (fun _ _ _ h => h) (Or.inl ⟨by rfl, by intro w hSw; go_simp⟩) hHeld ?_
  try simp only [Act.put, List.setIfInBounds_toArray, List.set_cons_zero, List.set_cons_succ]
  refine wpAnyH_take (i := 6) (oi := { dst := some 69, op := Op.binOp BinOp.add 3 (Operand.tmp 68) (Operand.const (Value.int IntKind.i64 1)) 3, type := 3, pos := "law.go:57", after := #[{ on := 5, ground := Ground.data }, { on := 2, ground := Ground.guard }], guard := some (2, true) }) (v := .int .i64 ((n : Int) + 1)) rfl (by kernel_rfl) (by kernel_rfl) (by kernel_rfl) (fun _ _ _ h => h) (Or.inl ⟨by rfl, by intro w hSw; go_simp⟩) hHeld ?_
  try simp only [Act.put, List.setIfInBounds_toArray, List.set_cons_zero, List.set_cons_succ]
  refine wpAnyH_take (i := 7) (oi := { dst := some 70, op := Op.binOp BinOp.eql 3 (Operand.tmp 67) (Operand.tmp 69) 3, type := 4, pos := "law.go:57", after := #[{ on := 4, ground := Ground.data }, { on := 6, ground := Ground.data }, { on := 2, ground := Ground.guard }], guard := some (2, true) }) (v := .bool true) rfl (by kernel_rfl) (by kernel_rfl) (by kernel_rfl) (fun _ _ _ h => h) (Or.inl ⟨by rfl, by intro w hSw; go_simp⟩) hHeld ?_
  try simp only [Act.put, List.setIfInBounds_toArray, List.set_cons_zero, List.set_cons_succ]
  refine wpAnyH_take (i := 8) (oi := { dst := some 71, op := Op.pick (Operand.tmp 65) (Operand.tmp 70) (Operand.const (Value.bool false)), type := 4, pos := "law.go:57", after := #[{ on := 2, ground := Ground.data }, { on := 7, ground := Ground.data }], guard := none }) (v := .bool true) rfl (by kernel_rfl) (by kernel_rfl) (by kernel_rfl) (fun _ _ _ h => h) (Or.inl ⟨by rfl, by intro w hSw; go_simp⟩) hHeld ?_
  try simp only [Act.put, List.setIfInBounds_toArray, List.set_cons_zero, List.set_cons_succ]
  refine wpAnyH_take (i := 9) (oi := { dst := some 72, op := Op.move (Operand.tmp 71), type := 4, pos := "law.go:57", after := #[{ on := 8, ground := Ground.data }, { on := 2, ground := Ground.chain }], guard := none }) (v := .bool true) rfl (by kernel_rfl) (by kernel_rfl) (by kernel_rfl) (fun _ _ _ h => h) (Or.inl ⟨by rfl, by intro w hSw; go_simp⟩) hHeld ?_
  try simp only [Act.put, List.setIfInBounds_toArray, List.set_cons_zero, List.set_cons_succ]
  refine wpAnyH_take (i := 10) (oi := { dst := some 73, op := Op.fieldAddr 25 (Operand.tmp 8) 1, type := 0, pos := "law.go:57", after := #[{ on := 9, ground := Ground.guard }], guard := some (9, true) }) (v := .pointer (some ⟨gf, 1, none⟩)) rfl (by kernel_rfl) (by kernel_rfl) (by kernel_rfl) (fun _ _ _ h => h) (Or.inl ⟨by rfl, by intro w hSw; go_simp⟩) hHeld ?_
  try simp only [Act.put, List.setIfInBounds_toArray, List.set_cons_zero, List.set_cons_succ]
  refine wpAnyH_take (i := 11) (oi := { dst := some 74, op := Op.load 22 (Operand.tmp 73), type := 22, pos := "law.go:57", after := #[{ on := 10, ground := Ground.data }, { on := 9, ground := Ground.guard }], guard := some (9, true) }) (v := .slice y m cy) rfl (by kernel_rfl) (by kernel_rfl) (by kernel_rfl) (fun _ _ _ h => h) (Or.inl ⟨by rfl, by intro W hSw; have hc1 := hSw.2.2.2.1 1 _ rfl; simp only [Nat.zero_add] at hc1; go_simp⟩) hHeld ?_
  try simp only [Act.put, List.setIfInBounds_toArray, List.set_cons_zero, List.set_cons_succ]
  refine wpAnyH_take (i := 12) (oi := { dst := some 75, op := Op.move (Operand.tmp 0), type := 3, pos := "law.go:57", after := #[{ on := 9, ground := Ground.guard }], guard := some (9, true) }) (v := .int .i64 n) rfl (by kernel_rfl) (by kernel_rfl) (by kernel_rfl) (fun _ _ _ h => h) (Or.inl ⟨by rfl, by intro w hSw; go_simp⟩) hHeld ?_
  try simp only [Act.put, List.setIfInBounds_toArray, List.set_cons_zero, List.set_cons_succ]
  refine wpAnyH_take (i := 13) (oi := { dst := some 76, op := Op.move (Operand.tmp 7), type := 22, pos := "law.go:57", after := #[{ on := 9, ground := Ground.guard }], guard := some (9, true) }) (v := .slice x len1 cx) rfl (by kernel_rfl) (by kernel_rfl) (by kernel_rfl) (fun _ _ _ h => h) (Or.inl ⟨by rfl, by intro w hSw; go_simp⟩) hHeld ?_
  try simp only [Act.put, List.setIfInBounds_toArray, List.set_cons_zero, List.set_cons_succ]
  refine wpAnyH_take (i := 14) (oi := { dst := some 77, op := Op.load 29 (Operand.tmp 5), type := 29, pos := "law.go:57", after := #[{ on := 9, ground := Ground.guard }], guard := some (9, true) }) (v := .agg LD.toArray) rfl (by kernel_rfl) (by kernel_rfl) (by kernel_rfl) (fun _ _ _ h => h) (yieldsIf_load_mid (by rfl) 29 (.tmp 5) rfl _ 0 rfl LD _ (fun _ h => h.2.2.2.2.1) Tryd.underlying29 rfl zD) hHeld ?_
  try simp only [Act.put, List.setIfInBounds_toArray, List.set_cons_zero, List.set_cons_succ]
  refine wpAnyH_ready (rs := [15]) (by kernel_rfl) (by simp) ?_
  refine AllReadyH.cons (o := { dst := some 78, op := Op.call { callee := Callee.value (Operand.func 16), args := #[Operand.tmp 75, Operand.tmp 76, Operand.tmp 77], argTypes := #[3, 22, 29] }, type := 22, pos := "law.go:57", after := #[{ on := 12, ground := Ground.data }, { on := 13, ground := Ground.data }, { on := 14, ground := Ground.data }, { on := 9, ground := Ground.chain }, { on := 9, ground := Ground.guard }], guard := some (9, true) }) rfl (fun K hK => ?_) AllReadyH.nil
  go_simp
  rw [← HLD.out]
  refine (RA.out _ _ _ hHeld.2.2.2.2.2 hHeld.2.1).mono ?_
  rintro e w6 ⟨z, cz, rfl, hz, hb6⟩
  have HZ6 : Hid (LReads w6 z m cz pk) := hz
  go_wp2_with fail
  refine hK.out _ _ (keepA hHeld hb6) (fun hHeld => ?_)
  clear hK K
  try simp only [Act.put, List.setIfInBounds_toArray, List.set_cons_zero, List.set_cons_succ]
  refine wpAnyH_ready (rs := [16]) (by kernel_rfl) (by simp) ?_
  refine AllReadyH.cons (o := { dst := some 79, op := Op.call { callee := Callee.value (Operand.func 14), args := #[Operand.tmp 74, Operand.tmp 78], argTypes := #[22, 22] }, type := 4, pos := "law.go:57", after := #[{ on := 11, ground := Ground.data }, { on := 15, ground := Ground.data }, { on := 15, ground := Ground.chain }, { on := 9, ground := Ground.guard }], guard := some (9, true) }) rfl (fun K hK => ?_) AllReadyH.nil
  go_simp
  refine (DG.out _ _ _ _ _ hHeld.2.2.1 HZ6.out).mono ?_
  rintro e w7 ⟨rfl, hb7⟩
  go_wp2_with fail
  refine hK.out _ _ (keepA hHeld hb7) (fun hHeld => ?_)
  clear hK K
  try simp only [Act.put, List.setIfInBounds_toArray, List.set_cons_zero, List.set_cons_succ]
  refine wpAnyH_take (i := 17) (oi := { dst := some 80, op := Op.pick (Operand.tmp 72) (Operand.tmp 79) (Operand.const (Value.bool false)), type := 4, pos := "law.go:57", after := #[{ on := 9, ground := Ground.data }, { on := 16, ground := Ground.data }], guard := none }) (v := .bool true) rfl (by kernel_rfl) (by kernel_rfl) (by kernel_rfl) (fun _ _ _ h => h) (Or.inl ⟨by rfl, by intro w hSw; go_simp⟩) hHeld ?_
  try simp only [Act.put, List.setIfInBounds_toArray, List.set_cons_zero, List.set_cons_succ]
  refine wpAnyH_take (i := 18) (oi := { dst := some 10, op := Op.assign (Operand.tmp 80), type := 4, pos := "law.go:57", after := #[{ on := 17, ground := Ground.data }, { on := 16, ground := Ground.chain }, { on := 0, ground := Ground.phase }, { on := 1, ground := Ground.phase }, { on := 2, ground := Ground.phase }, { on := 3, ground := Ground.phase }, { on := 4, ground := Ground.phase }, { on := 5, ground := Ground.phase }, { on := 6, ground := Ground.phase }, { on := 7, ground := Ground.phase }, { on := 8, ground := Ground.phase }, { on := 9, ground := Ground.phase }, { on := 10, ground := Ground.phase }, { on := 11, ground := Ground.phase }, { on := 12, ground := Ground.phase }, { on := 13, ground := Ground.phase }, { on := 14, ground := Ground.phase }, { on := 15, ground := Ground.phase }, { on := 16, ground := Ground.phase }, { on := 17, ground := Ground.phase }], guard := none }) (v := .bool true) rfl (by kernel_rfl) (by kernel_rfl) (by kernel_rfl) (fun _ _ _ h => h) (Or.inl ⟨by rfl, by intro w hSw; go_simp⟩) hHeld ?_
  try simp only [Act.put, List.setIfInBounds_toArray, List.set_cons_zero, List.set_cons_succ]
  refine wpAnyH_done (by kernel_rfl) ?_ _
  have hb67 : Below w4.heap.size w4 w7 := ((Below.refl _ _).drew.trans hb6).trans (hb7.mono hb6.size)
  have H7 : Hid (LReads w7 a1 len1 cap1 z1 ∧ LReads w7 x len1 cx z1 ∧ w7.rangeAt gf 0 [.int .i64 ((n : Int) + 1), .slice y m cy] ∧ Below w.heap.size w w7 ∧ RoomO B y m w7) := ⟨hHeld.1, hHeld.2.1, hHeld.2.2.2.1, hHeld.2.2.2.2.2, H3.out.2.1.keep hb67⟩
  have HNE : Hid (∀ g o, y = some ⟨g, o, none⟩ → 0 < m → g ≠ gf) := H3.out.2.2.2
  clear hHeld hb67 hb6 hb7 HZ6 H3 RA DG RI
  go_wp2
  go_loopw [11] (fun v wr => ∃ k : Nat, k ≤ m ∧ v = .int .i64 k ∧ Hid (RoomO B y m wr ∧ Below B w7 wr ∧ wr.rangeAt gf 0 [.int .i64 ((n : Int) + 1), .slice y m cy])) (fun v _ => m - (intOf v).toNat)
  case atStart => exact ⟨0, by omega, rfl, H7.out.2.2.2.2, Below.refl _ _, H7.out.2.2.1⟩
  case round =>
    obtain ⟨k, hk, rfl, HR⟩ := hrel
    have hc1 : wr.cell? ⟨gf, 1, none⟩ = some (.slice y m cy) := by have := HR.out.2.2 1 _ rfl; simpa using this
    by_cases hlt : k < m
    · have hdi : decide ((k : Int) < (m : Int)) = true := by rw [decide_eq_true_eq]; omega
      have hw := wrap_int ((k : Int) + 1) (by omega) (by omega)
      obtain ⟨gp, o, rfl, hgp, hth⟩ : ∃ gp o, y = some ⟨gp, o, none⟩ ∧ B ≤ gp ∧ wr.there gp o (32 * m) := by
        rcases HR.out.1 with h | h
        · omega
        · exact h
      have hgf : gp ≠ gf := HNE.out gp o rfl (by omega)
      have HTh : Hid (wr.there gp (o + 32 * k) S7.size) := fun j hj => by
        have := hth (32 * k + j) (by rw [H32S.out] at hj; omega)
        rw [← Nat.add_assoc] at this
        exact this
      have ix := fun W => index_list W gp o m cy k .i64 hlt
      have HR2 : Hid (RoomO B (some ⟨gp, o, none⟩) m (wr.setCells gp (o + 32 * k) S7.toList) ∧ Below B w7 (wr.setCells gp (o + 32 * k) S7.toList) ∧ (wr.setCells gp (o + 32 * k) S7.toList).rangeAt gf 0 [.int .i64 ((n : Int) + 1), .slice (some ⟨gp, o, none⟩) m cy]) := ⟨.inr ⟨gp, o, rfl, hgp, World.there_setCells hth _ _ _⟩, below_cells hgp _ _ _ HR.out.2.1, World.rangeAt_setCells_apart HR.out.2.2 _ _ _ (.inl hgf.symm)⟩
      clear hth HR
      go_wp2_with (first
        | (refine wpList_build_one rfl 29 0 (.const (.int .u8 77)) rfl S7 _ rfl HBS.out ?_; try simp only [Act.put, List.setIfInBounds_toArray, List.set_cons_zero, List.set_cons_succ])
        | (refine wpList_store_mid rfl 29 (.tmp 92) (.tmp 91) rfl gp (o + 32 * k) S7 rfl rfl HTh.out HSS.out H1S.out ?_; try simp only [Act.put, List.setIfInBounds_toArray, List.set_cons_zero, List.set_cons_succ])
        | fail)
      go_roundw
      case rel => exact ⟨k + 1, by omega, by go_num, HR2⟩
      case measure => simp [intOf]; omega
    · obtain rfl : m = k := by omega
      have H8 : Hid (LReads wr a1 len1 cap1 z1 ∧ LReads wr x len1 cx z1 ∧ TabF wr ∧ Below w.heap.size w wr) :=
        ⟨H7.out.1.below HR.out.2.1 HL1.out, H7.out.2.1.below HR.out.2.1 HL2.out, TabF.low (HK.out.keep H7.out.2.2.2.1) HR.out.2.1 HT1.out, H7.out.2.2.2.1.trans (HR.out.2.1.mono HS1.out)⟩
      clear HR H7 HL1 HL2 HT1 HS1 HK HW HNE
      go_wp2_with fail
      refine (T.out _ H8.out.2.2.1).mono ?_
      rintro e w9 ⟨rfl, hb9⟩
      have H9 : Hid (LReads w9 a1 len1 cap1 z1 ∧ LReads w9 x len1 cx z1 ∧ Below w.heap.size w w9) := ⟨H8.out.1.keep hb9, H8.out.2.1.keep hb9, H8.out.2.2.2.trans (hb9.mono H8.out.2.2.2.size)⟩
      clear hb9 H8 T hc1
      go_wp2_with fail
      refine (DL.out _ _ _ H9.out.1 H9.out.2.1).mono ?_
      rintro e w10 ⟨rfl, hb10⟩
      have H10 : Hid (Below w.heap.size w w10) := H9.out.2.2.trans (hb10.mono H9.out.2.2.size)
      clear hb10 H9
      go_wp2
      go_ret
      exact ⟨rfl, H10.out⟩

theorem frontAdds_of (fr : FrontC) (a0 : Int) (a1 : Option Addr) (len1 cap1 : Nat) (z1 : List (List UInt8)) (z2 : List UInt8) (w : World) (w0 : (Lit.int .i64 a0).wf = true) (w1 : LReads w a1 len1 cap1 z1) (w2 : z2.length = 32) (hK2 : Table 0 w) (hK : TabF w) :
    Calls Tryd.prog 4 #[.int .i64 a0, .slice a1 len1 cap1, digV z2] w fun e w' => e = .returned (.bool true) ∧ Below w.heap.size w w' := by
  have hb := bounds_i64 w0
  have hmx : len1 ≤ 9223372036854775807 := by have := w1.2.2.2.1; unfold maxLen at this; omega
  unfold digV
  obtain ⟨D, HD⟩ : ∃ D, Hid (D = (cellsOf z2).toArray) := ⟨_, (rfl : (cellsOf z2).toArray = _)⟩
  rw [← HD.out]
  by_cases hlong : 200 < len1
  · have hd : decide ((200 : Int) < (len1 : Int)) = true := by rw [decide_eq_true_eq]; omega
    clear HD
    go_enter Tryd.func4, Tryd.ntmps4
    go_wp2
    go_ret
    exact ⟨rfl, (Below.refl _ _).alloc (Nat.le_refl _) _⟩
  · by_cases hr : isRight a0 len1
    · by_cases hf : a0 = 100000
      · subst hf
        exact adds_full fr a1 len1 cap1 z1 z2 w w1 (by omega) w2 D HD hr hK
      · obtain ⟨n, hn⟩ : ∃ n : Nat, a0 = n := ⟨a0.toNat, by have := hr.1; omega⟩
        subst hn
        exact adds_ok fr n a1 len1 cap1 z1 z2 w w1 (by omega) w2 D HD hr (by have := hr.2.1; omega) hK2 hK
    · exact adds_no fr a0 a1 len1 cap1 z1 z2 w w1 (by omega) w2 D HD ⟨by omega, by omega⟩ hr hK
end Go.Proofs.YtmpmhfagbcknnaaDoor
