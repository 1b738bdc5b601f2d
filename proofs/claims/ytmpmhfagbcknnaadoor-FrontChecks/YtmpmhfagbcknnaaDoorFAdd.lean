/- What front.Add answers. -/
import Derived.Test.YtmpmhfagbcknnaaDoorGrowns
namespace Go.Proofs.YtmpmhfagbcknnaaDoor
open Go.RowKit Sums
set_option linter.unusedVariables false
set_option linter.unusedSimpArgs false

theorem zeroG : (Tryd.prog.info? 50).map (fun i => (i.zero, i.size)) = some (some (.agg #[.int .i64 0, .slice none 0 0]), 2) := by kernel_rfl
theorem zeroF4 : (Tryd.prog.info? 25).map (fun i => (i.zero, i.size)) = some (some (.agg #[.int .i64 0, .slice none 0 0]), 2) := by kernel_rfl
/-- A struct of two cells, as a row. -/
theorem front_row (n : Int) (a : Option Addr) (len cap : Nat) : ∃ R : Array Value, Hid (#[.int .i64 n, .slice a len cap] = R) ∧ Hid ((Tryd.prog.info? 25).map (·.size) = some R.size) ∧ Hid ((Tryd.prog.info? 50).map (·.size) = some R.size) ∧ Hid (R.all (·.oneCell') = true) ∧ Hid (2 = R.size) :=
  ⟨_, (rfl : _ = _), sizeF, sizeG, (by simp [Value.oneCell'] : _ = _), (rfl : _ = _)⟩
theorem own_low {w : World} {B B' : Nat} {e : TypeId} {k : Nat} {v : Value} {n : Nat} {xs : List Value} (h : w.ownsRow B e k v n xs) (hB : B' ≤ B) : w.ownsRow B' e k v n xs := by
  refine ⟨h.1, ?_⟩
  rcases h.2 with h2 | ⟨g, cap, cur, h1, h2, h3⟩
  · exact .inl h2
  · exact .inr ⟨g, cap, cur, h1, by omega, h3⟩
theorem own_setRow {w : World} {B : Nat} {v : Value} {l : List (List UInt8)} (h : w.ownsRow B 29 32 v l.length (cellsOf l.flatten)) {b : Nat} {c c' : Array Value} {t : TypeId} (hb : w.heap[b]? = some (.cells c t (0, 0))) (ht : t ≠ 29) : (w.setRow b c').ownsRow B 29 32 v l.length (cellsOf l.flatten) := by
  refine ⟨h.1, ?_⟩
  rcases h.2 with h2 | ⟨g, cap, cur, h1, h2, h3, h4⟩
  · exact .inl h2
  · refine .inr ⟨g, cap, cur, h1, h2, ?_, h4⟩
    rw [setRow_other _ _ _ _ (fun e => ?_)]
    · exact h3
    · subst e
      rw [h3] at hb
      cases hb
      exact ht rfl
theorem RoomO.own {w : World} {B : Nat} {x : Option Addr} {cx m : Nat} {xs : List Value} (h : w.ownsRow B 29 32 (.slice x m cx) m xs) : RoomO B x m w := by
  rcases h.2 with ⟨_, h0⟩ | ⟨g, cap, cur, hv, hb, hg, hc, hm, hs, ht⟩
  · exact .inl h0
  · cases hv
    refine .inr ⟨g, 0, rfl, hb, fun j hj => ?_⟩
    rw [Nat.zero_add]
    have hjc : j < cur.size := by rw [hs]; omega
    refine ⟨?_, ?_⟩
    · rw [cell_of_row w g j cur 29 (0, 0) hg, Array.getElem?_eq_getElem hjc]
      rfl
    · simp [World.frozen?, hg]

/-- The call's world: what came in, and what goes out. -/
def Begun (w W : World) (n : Int) (a : Option Addr) (len cap : Nat) (D : Array Value) : Prop :=
  Below w.heap.size w W ∧ Two W w.heap.size (.int .i64 n) (.slice a len cap) ∧ W.heap[w.heap.size + 1]? = some (.cells D 29 (0, 0)) ∧ W.heap[w.heap.size + 2]? = some (.cells #[.int .i64 0, .slice none 0 0] 25 (0, 0))
theorem begun (w : World) (n : Int) (a : Option Addr) (len cap : Nat) (D : Array Value) : Begun w (((w.alloc (.cells #[.int .i64 n, .slice a len cap] 25)).alloc (.cells D 29)).alloc (.cells #[.int .i64 0, .slice none 0 0] 25)) n a len cap D := by
  have b1 : Below w.heap.size w (w.alloc (.cells #[.int .i64 n, .slice a len cap] 25)) := (Below.refl _ _).alloc (Nat.le_refl _) _
  refine ⟨(b1.alloc (by simp) _).alloc (by simp; omega) _, ((two_new w _ _ 25).keep ((Below.refl _ _).alloc (Nat.le_refl _) _)).keep ((Below.refl _ _).alloc (Nat.le_refl _) _), ?_, ?_⟩
  · refine heap_keep ?_
    have := heap_alloc_new (w.alloc (.cells #[.int .i64 n, .slice a len cap] 25)) (.cells D 29)
    simpa using this
  · have := heap_alloc_new ((w.alloc (.cells #[.int .i64 n, .slice a len cap] 25)).alloc (.cells D 29)) (.cells #[.int .i64 0, .slice none 0 0] 25)
    simpa using this
theorem Begun.keep {w W W' : World} {n : Int} {a : Option Addr} {len cap : Nat} {D : Array Value} (h : Begun w W n a len cap D) (hb : Below W.heap.size W W') : Begun w W' n a len cap D :=
  ⟨h.1.trans (hb.mono h.1.size), h.2.1.keep hb, (hb.block _ (heap_lt h.2.2.1)).trans h.2.2.1, (hb.block _ (heap_lt h.2.2.2)).trans h.2.2.2⟩

set_option maxHeartbeats 2000000 in
theorem fadd_no (n : Int) (a : Option Addr) (len cap : Nat) (w : World) (hl : len ≤ maxLen) (h : ¬ isRight n len) (D : Array Value) :
    Calls Tryd.prog 15 #[.agg #[.int .i64 n, .slice a len cap], .agg D] w fun e w' => ∃ y cy, e = .returned (.tuple #[.agg #[.int .i64 0, .slice y 0 cy], .int .i64 30]) ∧ Below w.heap.size w w' := by
  have CK : Hid (∀ W, Calls Tryd.prog 9 #[.agg #[.int .i64 n, .slice a len cap]] W fun e w' => e = .returned (.int .i64 30) ∧ Below W.heap.size W w') := fun W => check_no n a len cap W hl h
  obtain ⟨R, HR, HS, _, H1, H2⟩ := front_row 0 none 0 0
  have HE : Hid (Value.agg #[.int .i64 0, .slice none 0 0] = .agg R) := by show _ = _; rw [HR.out]
  clear h hl
  go_enter Tryd.func15, Tryd.ntmps15
  go_wp2_with fail
  refine (CK.out _).mono ?_
  rintro e w1 ⟨rfl, hb1⟩
  have HB := hidk ((begun w n a len cap D).keep hb1)
  clear hb1 CK
  go_wp2_with (first
    | (refine wpList_store_row rfl 25 (.tmp 4) (.tmp 12) rfl (w.heap.size + 2) R rfl HE.out 25 #[.int .i64 0, .slice none 0 0] HB.out.2.2.2 HS.out H2.out H1.out ?_; try simp only [Act.put, List.setIfInBounds_toArray, List.set_cons_zero, List.set_cons_succ])
    | fail)
  refine bodyPost_ret (v := .tuple #[.agg R, .int .i64 30]) ?_ rfl ⟨none, 0, by rw [HE.out], below_setRow HB.out.1 (by omega) _⟩
  exact results_row_tmp (p := 4) (q := 5) (ty := 25) rfl _ _ (w.heap.size + 2) 25 R (0, 0) _ rfl (setRow_heap _ _ _ _ 25 _ HB.out.2.2.2) Tryd.underlying25 rfl HS.out

set_option maxHeartbeats 2000000 in
theorem fadd_full (a : Option Addr) (len cap : Nat) (w : World) (h : isRight 100000 len) (D : Array Value) :
    Calls Tryd.prog 15 #[.agg #[.int .i64 100000, .slice a len cap], .agg D] w fun e w' => ∃ y cy, e = .returned (.tuple #[.agg #[.int .i64 0, .slice y 0 cy], .int .i64 2]) ∧ Below w.heap.size w w' := by
  have CK : Hid (∀ W, Calls Tryd.prog 9 #[.agg #[.int .i64 100000, .slice a len cap]] W fun e w' => e = .returned (.int .i64 0) ∧ Below W.heap.size W w') := fun W => check_ok 100000 a len cap W h
  obtain ⟨R, HR, HS, _, H1, H2⟩ := front_row 0 none 0 0
  have HE : Hid (Value.agg #[.int .i64 0, .slice none 0 0] = .agg R) := by show _ = _; rw [HR.out]
  clear h
  go_enter Tryd.func15, Tryd.ntmps15
  go_wp2_with fail
  refine (CK.out _).mono ?_
  rintro e w1 ⟨rfl, hb1⟩
  have HB := hidk ((begun w 100000 a len cap D).keep hb1)
  have hc0 := HB.out.2.1.1
  clear hb1 CK
  go_wp2_with (first
    | (refine wpList_store_row rfl 25 (.tmp 4) (.tmp 17) rfl (w.heap.size + 2) R rfl HE.out 25 #[.int .i64 0, .slice none 0 0] HB.out.2.2.2 HS.out H2.out H1.out ?_; try simp only [Act.put, List.setIfInBounds_toArray, List.set_cons_zero, List.set_cons_succ])
    | fail)
  refine bodyPost_ret (v := .tuple #[.agg R, .int .i64 2]) ?_ rfl ⟨none, 0, by rw [HE.out], below_setRow HB.out.1 (by omega) _⟩
  exact results_row_tmp (p := 4) (q := 5) (ty := 25) rfl _ _ (w.heap.size + 2) 25 R (0, 0) _ rfl (setRow_heap _ _ _ _ 25 _ HB.out.2.2.2) Tryd.underlying25 rfl HS.out

set_option maxHeartbeats 4000000 in
theorem fadd_ok (n : Nat) (a : Option Addr) (len cap : Nat) (ps : List (List UInt8)) (d : List UInt8) (w : World) (h : isRight n len) (hn : n ≤ 99999) (hR : LReads w a len cap ps) (hd : d.length = 32) (hK : TabF w) (D : Array Value) (HD : Hid (D = (cellsOf d).toArray)) :
    Calls Tryd.prog 15 #[.agg #[.int .i64 n, .slice a len cap], .agg D] w fun e w' => ∃ y cy, e = .returned (.tuple #[.agg #[.int .i64 ((n : Int) + 1), .slice y (addP n ps d).length cy], .int .i64 0]) ∧ LReads w' y (addP n ps d).length cy (addP n ps d) ∧ RoomO w.heap.size y (addP n ps d).length w' ∧ Below w.heap.size w w' := by
  have CK : Hid (∀ W, Calls Tryd.prog 9 #[.agg #[.int .i64 n, .slice a len cap]] W fun e w' => e = .returned (.int .i64 0) ∧ Below W.heap.size W w') := fun W => check_ok n a len cap W h
  have hm : len = many n := by have := h.2.2; rwa [Int.toNat_natCast] at this
  have hml : len ≤ 99999 := by rw [hm]; have := many_le n; omega
  have hlen := hR.1
  have GR : Hid (∀ W, Below w.heap.size w W → Calls Tryd.prog 26 #[.agg #[.int .i64 n, .slice a len cap]] W fun e w' => ∃ g, e = .returned (.agg #[.int .i64 n, .slice (some ⟨g, 0, none⟩) len (len + 1)]) ∧ w'.ownsRow W.heap.size 29 32 (.slice (some ⟨g, 0, none⟩) len (len + 1)) ps.length (cellsOf ps.flatten) ∧ Below W.heap.size W w') := fun W hb =>
    grown_any n a len cap ps W (hR.keep hb) (by omega)
  have hds : Digs32 (addP n ps d) := addP_digs sumD_length n ps d hR.2.1 hd
  have TK : Hid (∀ (B gp : Nat) (v : Value) (W : World), w.heap.size ≤ B → B ≤ gp → Grow B gp (.int .i64 n) v ps W → Below w.heap.size w W → Calls Tryd.prog 27 #[.pointer (some ⟨gp, 0, none⟩), .agg D] W fun e w' => e = .returned (.tuple #[]) ∧ (∃ y cy, Grow B gp (.int .i64 ((n : Int) + 1)) (.slice y (addP n ps d).length cy) (addP n ps d) w') ∧ Below B W w') := fun B gp v W h1 h2 h3 h4 => by
    refine (take_any B gp n v ps d W h3 hR.2.1 (by omega) hn hd h2 (hK.keep h4) ⟨Nat.lt_of_lt_of_le hK.at.1 h1, Nat.lt_of_lt_of_le hK.at.2 h1⟩ D HD).mono ?_
    rintro e w' ⟨rfl, ⟨v', hg⟩, hb⟩
    obtain ⟨y, cy, rfl, _⟩ := LReads.own hg.own hds
    exact ⟨rfl, ⟨y, cy, hg⟩, hb⟩
  have HSD : Hid ((Tryd.prog.info? 29).map (·.size) = some D.size) := by show _ = _; rw [size23, HD.out]; simp [cellsOf_length, hd]
  have c1 : ((n : Int) == 100000) = false := by rw [beq_eq_false_iff_ne]; omega
  have HDS := hidk hds
  clear h hm hR hK HD hds
  go_enter Tryd.func15, Tryd.ntmps15
  go_wp2_with fail
  refine (CK.out _).mono ?_
  rintro e w1 ⟨rfl, hb1⟩
  have HB := hidk ((begun w n a len cap D).keep hb1)
  have hc0 := HB.out.2.1.1
  have hc1 := HB.out.2.1.2
  clear hb1 CK
  go_wp2_with fail
  refine (GR.out _ HB.out.1).mono ?_
  rintro e w2 ⟨g, rfl, hown, hb2⟩
  have hal : Below w2.heap.size w2 (w2.alloc (.cells #[.int .i64 n, .slice (some ⟨g, 0, none⟩) len (len + 1)] 50)) := (Below.refl _ _).alloc (Nat.le_refl _) _
  have HSZ : Hid (w.heap.size + 2 < w1.heap.size ∧ w1.heap.size ≤ w2.heap.size) := ⟨heap_lt HB.out.2.2.2, hb2.size⟩
  have HG : Hid (Grow w1.heap.size w2.heap.size (.int .i64 n) (.slice (some ⟨g, 0, none⟩) len (len + 1)) ps (w2.alloc (.cells #[.int .i64 n, .slice (some ⟨g, 0, none⟩) len (len + 1)] 50))) := ⟨heap_alloc_new w2 _, own_below hown hal⟩
  have HB3 := hidk ((HB.out.keep hb2).keep hal)
  have HGD : Hid (w1.heap.size ≤ w2.heap.size) := HSZ.out.2
  clear hown hb2 GR hc0 hc1 HB hal
  go_wp2_with (first
    | (refine wpList_load_row rfl 29 (.tmp 3) rfl (w.heap.size + 1) rfl 29 D (0, 0) _ HB3.out.2.2.1 Tryd.underlying29 rfl HSD.out ?_; try simp only [Act.put, List.setIfInBounds_toArray, List.set_cons_zero, List.set_cons_succ])
    | fail)
  generalize w2.alloc (.cells #[.int .i64 n, .slice (some ⟨g, 0, none⟩) len (len + 1)] 50) = w3 at HG HB3 ⊢
  generalize hgd : w2.heap.size = gd at HG HGD ⊢
  clear hgd
  refine (TK.out w1.heap.size gd _ w3 (by have := HSZ.out; omega) HGD.out HG.out HB3.out.1).mono ?_
  rintro e w4 ⟨rfl, ⟨y, cy, hg4⟩, hb4⟩
  obtain ⟨R, HR, HSF, _, H1, H2⟩ := front_row ((n : Int) + 1) y (addP n ps d).length cy
  have HE : Hid (Value.agg #[.int .i64 ((n : Int) + 1), .slice y (addP n ps d).length cy] = .agg R) := by show _ = _; rw [HR.out]
  have HV : Hid (w4.heap[gd]? = some (.cells R 50 (0, 0))) := by show _ = _; rw [← HR.out]; exact hg4.var
  have HZ : Hid (w4.heap[w.heap.size + 2]? = some (.cells #[.int .i64 0, .slice none 0 0] 25 (0, 0))) := (hb4.block _ HSZ.out.1).trans HB3.out.2.2.2
  have hb5 : Below w.heap.size w w4 := HB3.out.1.trans (hb4.mono (by have := HSZ.out; omega))
  have ho5 : (w4.setRow (w.heap.size + 2) R).ownsRow w.heap.size 29 32 (.slice y (addP n ps d).length cy) (addP n ps d).length (cellsOf (addP n ps d).flatten) := own_setRow (own_low hg4.own (by have := HSZ.out; omega)) HZ.out (by decide)
  have HF : Hid (LReads (w4.setRow (w.heap.size + 2) R) y (addP n ps d).length cy (addP n ps d) ∧ RoomO w.heap.size y (addP n ps d).length (w4.setRow (w.heap.size + 2) R) ∧ Below w.heap.size w (w4.setRow (w.heap.size + 2) R)) := by
    refine ⟨?_, RoomO.own ho5, below_setRow hb5 (by omega) _⟩
    obtain ⟨y', cy', e, hy, _⟩ := LReads.own ho5 HDS.out
    cases e
    exact hy
  clear hg4 hb4 hb5 ho5 HB3 HG TK HR
  go_wp2_with (first
    | (refine wpList_load_row rfl 25 (.tmp 22) rfl gd rfl 50 R (0, 0) _ HV.out Tryd.underlying25 rfl HSF.out ?_; try simp only [Act.put, List.setIfInBounds_toArray, List.set_cons_zero, List.set_cons_succ])
    | (refine wpList_store_row rfl 25 (.tmp 4) (.tmp 23) rfl (w.heap.size + 2) R rfl rfl 25 #[.int .i64 0, .slice none 0 0] HZ.out HSF.out H2.out H1.out ?_; try simp only [Act.put, List.setIfInBounds_toArray, List.set_cons_zero, List.set_cons_succ])
    | fail)
  refine bodyPost_ret (v := .tuple #[.agg R, .int .i64 0]) ?_ rfl ⟨y, cy, by rw [HE.out], HF.out⟩
  exact results_row_tmp (p := 4) (q := 5) (ty := 25) rfl _ _ (w.heap.size + 2) 25 R (0, 0) _ rfl (setRow_heap _ _ _ _ 25 _ HZ.out) Tryd.underlying25 rfl HSF.out
end Go.Proofs.YtmpmhfagbcknnaaDoor
