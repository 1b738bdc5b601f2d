/- Texts of our own that the row of TopSigned leans on, part 6. -/
import Derived.Test.YtdnhnjimhbbababDoorTopSignedJ5
import Derived.OneCell
import Derived.Defers
import Derived.Recover

/- What front.Add answers. -/
namespace Go.Proofs.YtdnhnjimhbbababDoor
open Go.RowKit Sums
set_option maxRecDepth 100000
set_option linter.unusedVariables false
set_option linter.unusedSimpArgs false
/-- A struct of two cells, as a row. -/
theorem front_row (n : Int) (a : Option Addr) (len cap : Nat) : ∃ R : Array Value, Hid (#[.int .i64 n, .slice a len cap] = R) ∧ Hid ((Tryd.prog.info? 28).map (·.size) = some R.size) ∧ Hid ((Tryd.prog.info? 58).map (·.size) = some R.size) ∧ Hid (R.all (·.oneCell') = true) ∧ Hid (2 = R.size) :=
  ⟨_, (rfl : _ = _), sizeF, sizeG, (by simp [Value.oneCell'] : _ = _), (rfl : _ = _)⟩
theorem own_low {w : World} {B B' : Nat} {e : TypeId} {k : Nat} {v : Value} {n : Nat} {xs : List Value} (h : w.ownsRow B e k v n xs) (hB : B' ≤ B) : w.ownsRow B' e k v n xs := by
  refine ⟨h.1, ?_⟩
  rcases h.2 with h2 | ⟨g, cap, cur, h1, h2, h3⟩
  · exact .inl h2
  · exact .inr ⟨g, cap, cur, h1, by omega, h3⟩
theorem own_setRow {w : World} {B : Nat} {v : Value} {l : List (List UInt8)} (h : w.ownsRow B 30 32 v l.length (cellsOf l.flatten)) {b : Nat} {c c' : Array Value} {t : TypeId} (hb : w.heap[b]? = some (.cells c t (0, 0))) (ht : t ≠ 30) : (w.setRow b c').ownsRow B 30 32 v l.length (cellsOf l.flatten) := by
  refine ⟨h.1, ?_⟩
  rcases h.2 with h2 | ⟨g, cap, cur, h1, h2, h3, h4⟩
  · exact .inl h2
  · refine .inr ⟨g, cap, cur, h1, h2, ?_, h4⟩
    rw [setRow_other _ _ _ _ (fun e => ?_)]
    · exact h3
    · subst e
      rw [h3] at hb
      cases hb
      exact ht rfl
theorem RoomO.own {w : World} {B : Nat} {x : Option Addr} {cx m : Nat} {xs : List Value} (h : w.ownsRow B 30 32 (.slice x m cx) m xs) : RoomO B x m w := by
  rcases h.2 with ⟨_, h0⟩ | ⟨g, cap, cur, hv, hb, hg, hc, hm, hs, ht⟩
  · exact .inl h0
  · cases hv
    refine .inr ⟨g, 0, rfl, hb, fun j hj => ?_⟩
    rw [Nat.zero_add]
    have hjc : j < cur.size := by rw [hs]; omega
    refine ⟨?_, ?_⟩
    · rw [cell_of_row w g j cur 30 (0, 0) hg, Array.getElem?_eq_getElem hjc]
      rfl
    · simp [World.frozen?, hg]
/-- The call's world: what came in, and what goes out. -/
def Begun (w W : World) (n : Int) (a : Option Addr) (len cap : Nat) (D : Array Value) : Prop :=
  Below w.heap.size w W ∧ Two W w.heap.size (.int .i64 n) (.slice a len cap) ∧ W.heap[w.heap.size + 1]? = some (.cells D 30 (0, 0)) ∧ W.heap[w.heap.size + 2]? = some (.cells #[.int .i64 0, .slice none 0 0] 28 (0, 0))
theorem begun (w : World) (n : Int) (a : Option Addr) (len cap : Nat) (D : Array Value) : Begun w (((w.alloc (.cells #[.int .i64 n, .slice a len cap] 28)).alloc (.cells D 30)).alloc (.cells #[.int .i64 0, .slice none 0 0] 28)) n a len cap D := by
  have b1 : Below w.heap.size w (w.alloc (.cells #[.int .i64 n, .slice a len cap] 28)) := (Below.refl _ _).alloc (Nat.le_refl _) _
  refine ⟨(b1.alloc (by simp) _).alloc (by simp; omega) _, ((two_new w _ _ 28).keep ((Below.refl _ _).alloc (Nat.le_refl _) _)).keep ((Below.refl _ _).alloc (Nat.le_refl _) _), ?_, ?_⟩
  · refine heap_keep ?_
    have := heap_alloc_new (w.alloc (.cells #[.int .i64 n, .slice a len cap] 28)) (.cells D 30)
    simpa using this
  · have := heap_alloc_new ((w.alloc (.cells #[.int .i64 n, .slice a len cap] 28)).alloc (.cells D 30)) (.cells #[.int .i64 0, .slice none 0 0] 28)
    simpa using this
theorem Begun.keep {w W W' : World} {n : Int} {a : Option Addr} {len cap : Nat} {D : Array Value} (h : Begun w W n a len cap D) (hb : Below W.heap.size W W') : Begun w W' n a len cap D :=
  ⟨h.1.trans (hb.mono h.1.size), h.2.1.keep hb, (hb.block _ (heap_lt h.2.2.1)).trans h.2.2.1, (hb.block _ (heap_lt h.2.2.2)).trans h.2.2.2⟩
set_option maxHeartbeats 2000000 in
theorem fadd_no (n : Int) (a : Option Addr) (len cap : Nat) (w : World) (hl : len ≤ maxLen) (h : ¬ isRight n len) (D : Array Value) :
    Calls Tryd.prog 6 #[.agg #[.int .i64 n, .slice a len cap], .agg D] w fun e w' => ∃ y cy, e = .returned (.tuple #[.agg #[.int .i64 0, .slice y 0 cy], .int .i64 30]) ∧ Below w.heap.size w w' := by
  have CK : Hid (∀ W, Calls Tryd.prog 19 #[.agg #[.int .i64 n, .slice a len cap]] W fun e w' => e = .returned (.int .i64 30) ∧ Below W.heap.size W w') := fun W => check_no n a len cap W hl h
  obtain ⟨R, HR, HS, _, H1, H2⟩ := front_row 0 none 0 0
  have HE : Hid (Value.agg #[.int .i64 0, .slice none 0 0] = .agg R) := by show _ = _; rw [HR.out]
  clear h hl
  go_enter Tryd.func6, Tryd.ntmps6
  go_wp2_with fail
  refine (CK.out _).mono ?_
  rintro e w1 ⟨rfl, hb1⟩
  have HB := hidk ((begun w n a len cap D).keep hb1)
  clear hb1 CK
  go_wp2_with (first
    | (refine wpList_store_row rfl 28 (.tmp 4) (.tmp 12) rfl (w.heap.size + 2) R rfl HE.out 28 #[.int .i64 0, .slice none 0 0] HB.out.2.2.2 HS.out H2.out H1.out ?_; try simp only [Act.put, List.setIfInBounds_toArray, List.set_cons_zero, List.set_cons_succ])
    | fail)
  refine bodyPost_ret (v := .tuple #[.agg R, .int .i64 30]) ?_ rfl ⟨none, 0, by rw [HE.out], below_setRow HB.out.1 (by omega) _⟩
  exact results_row_tmp (p := 4) (q := 5) (ty := 28) rfl _ _ (w.heap.size + 2) 28 R (0, 0) _ rfl (setRow_heap _ _ _ _ 28 _ HB.out.2.2.2) Tryd.underlying28 rfl HS.out
set_option maxHeartbeats 2000000 in
theorem fadd_full (a : Option Addr) (len cap : Nat) (w : World) (h : isRight 100000 len) (D : Array Value) :
    Calls Tryd.prog 6 #[.agg #[.int .i64 100000, .slice a len cap], .agg D] w fun e w' => ∃ y cy, e = .returned (.tuple #[.agg #[.int .i64 0, .slice y 0 cy], .int .i64 2]) ∧ Below w.heap.size w w' := by
  have CK : Hid (∀ W, Calls Tryd.prog 19 #[.agg #[.int .i64 100000, .slice a len cap]] W fun e w' => e = .returned (.int .i64 0) ∧ Below W.heap.size W w') := fun W => check_ok 100000 a len cap W h
  obtain ⟨R, HR, HS, _, H1, H2⟩ := front_row 0 none 0 0
  have HE : Hid (Value.agg #[.int .i64 0, .slice none 0 0] = .agg R) := by show _ = _; rw [HR.out]
  clear h
  go_enter Tryd.func6, Tryd.ntmps6
  go_wp2_with fail
  refine (CK.out _).mono ?_
  rintro e w1 ⟨rfl, hb1⟩
  have HB := hidk ((begun w 100000 a len cap D).keep hb1)
  have hc0 := HB.out.2.1.1
  clear hb1 CK
  go_wp2_with (first
    | (refine wpList_store_row rfl 28 (.tmp 4) (.tmp 17) rfl (w.heap.size + 2) R rfl HE.out 28 #[.int .i64 0, .slice none 0 0] HB.out.2.2.2 HS.out H2.out H1.out ?_; try simp only [Act.put, List.setIfInBounds_toArray, List.set_cons_zero, List.set_cons_succ])
    | fail)
  refine bodyPost_ret (v := .tuple #[.agg R, .int .i64 2]) ?_ rfl ⟨none, 0, by rw [HE.out], below_setRow HB.out.1 (by omega) _⟩
  exact results_row_tmp (p := 4) (q := 5) (ty := 28) rfl _ _ (w.heap.size + 2) 28 R (0, 0) _ rfl (setRow_heap _ _ _ _ 28 _ HB.out.2.2.2) Tryd.underlying28 rfl HS.out
set_option maxHeartbeats 4000000 in
theorem fadd_ok (n : Nat) (a : Option Addr) (len cap : Nat) (ps : List (List UInt8)) (d : List UInt8) (w : World) (h : isRight n len) (hn : n ≤ 99999) (hR : LReads w a len cap ps) (hd : d.length = 32) (hK : TabF w) (D : Array Value) (HD : Hid (D = (cellsOf d).toArray)) :
    Calls Tryd.prog 6 #[.agg #[.int .i64 n, .slice a len cap], .agg D] w fun e w' => ∃ y cy, e = .returned (.tuple #[.agg #[.int .i64 ((n : Int) + 1), .slice y (addP n ps d).length cy], .int .i64 0]) ∧ LReads w' y (addP n ps d).length cy (addP n ps d) ∧ RoomO w.heap.size y (addP n ps d).length w' ∧ Below w.heap.size w w' := by
  have CK : Hid (∀ W, Calls Tryd.prog 19 #[.agg #[.int .i64 n, .slice a len cap]] W fun e w' => e = .returned (.int .i64 0) ∧ Below W.heap.size W w') := fun W => check_ok n a len cap W h
  have hm : len = many n := by have := h.2.2; rwa [Int.toNat_natCast] at this
  have hml : len ≤ 99999 := by rw [hm]; have := many_le n; omega
  have hlen := hR.1
  have GR : Hid (∀ W, Below w.heap.size w W → Calls Tryd.prog 20 #[.agg #[.int .i64 n, .slice a len cap]] W fun e w' => ∃ g, e = .returned (.agg #[.int .i64 n, .slice (some ⟨g, 0, none⟩) len (len + 1)]) ∧ w'.ownsRow W.heap.size 30 32 (.slice (some ⟨g, 0, none⟩) len (len + 1)) ps.length (cellsOf ps.flatten) ∧ Below W.heap.size W w') := fun W hb =>
    grown_any n a len cap ps W (hR.keep hb) (by omega)
  have hds : Digs32 (addP n ps d) := addP_digs sumD_length n ps d hR.2.1 hd
  have TK : Hid (∀ (B gp : Nat) (v : Value) (W : World), w.heap.size ≤ B → B ≤ gp → Grow B gp (.int .i64 n) v ps W → Below w.heap.size w W → Calls Tryd.prog 21 #[.pointer (some ⟨gp, 0, none⟩), .agg D] W fun e w' => e = .returned (.tuple #[]) ∧ (∃ y cy, Grow B gp (.int .i64 ((n : Int) + 1)) (.slice y (addP n ps d).length cy) (addP n ps d) w') ∧ Below B W w') := fun B gp v W h1 h2 h3 h4 => by
    refine (take_any B gp n v ps d W h3 hR.2.1 (by omega) hn hd h2 (hK.keep h4) ⟨Nat.lt_of_lt_of_le hK.at.1 h1, Nat.lt_of_lt_of_le hK.at.2 h1⟩ D HD).mono ?_
    rintro e w' ⟨rfl, ⟨v', hg⟩, hb⟩
    obtain ⟨y, cy, rfl, _⟩ := LReads.own hg.own hds
    exact ⟨rfl, ⟨y, cy, hg⟩, hb⟩
  have HSD : Hid ((Tryd.prog.info? 30).map (·.size) = some D.size) := by show _ = _; rw [size23, HD.out]; simp [cellsOf_length, hd]
  have c1 : ((n : Int) == 100000) = false := by rw [beq_eq_false_iff_ne]; omega
  have HDS := hidk hds
  clear h hm hR hK HD hds
  go_enter Tryd.func6, Tryd.ntmps6
  go_wp2_with fail
  refine (CK.out _).mono ?_
  rintro e w1 ⟨rfl, hb1⟩
  have HB := hidk ((begun w n a len cap D).keep hb1)
  have hc0 := HB.out.2.1.1
  have hc1 := HB.out.2.1.2
  clear hb1 CK
  go_wp2_with fail
  refine (GR.out _ HB.out.1).mono ?_
  rintro e w2 ⟨g, rfl, hown, hb2⟩
  have hal : Below w2.heap.size w2 (w2.alloc (.cells #[.int .i64 n, .slice (some ⟨g, 0, none⟩) len (len + 1)] 58)) := (Below.refl _ _).alloc (Nat.le_refl _) _
  have HSZ : Hid (w.heap.size + 2 < w1.heap.size ∧ w1.heap.size ≤ w2.heap.size) := ⟨heap_lt HB.out.2.2.2, hb2.size⟩
  have HG : Hid (Grow w1.heap.size w2.heap.size (.int .i64 n) (.slice (some ⟨g, 0, none⟩) len (len + 1)) ps (w2.alloc (.cells #[.int .i64 n, .slice (some ⟨g, 0, none⟩) len (len + 1)] 58))) := ⟨heap_alloc_new w2 _, own_below hown hal⟩
  have HB3 := hidk ((HB.out.keep hb2).keep hal)
  have HGD : Hid (w1.heap.size ≤ w2.heap.size) := HSZ.out.2
  clear hown hb2 GR hc0 hc1 HB hal
  go_wp2_with (first
    | (refine wpList_load_row rfl 30 (.tmp 3) rfl (w.heap.size + 1) rfl 30 D (0, 0) _ HB3.out.2.2.1 Tryd.underlying30 rfl HSD.out ?_; try simp only [Act.put, List.setIfInBounds_toArray, List.set_cons_zero, List.set_cons_succ])
    | fail)
  generalize w2.alloc (.cells #[.int .i64 n, .slice (some ⟨g, 0, none⟩) len (len + 1)] 58) = w3 at HG HB3 ⊢
  generalize hgd : w2.heap.size = gd at HG HGD ⊢
  clear hgd
  refine (TK.out w1.heap.size gd _ w3 (by have := HSZ.out; omega) HGD.out HG.out HB3.out.1).mono ?_
  rintro e w4 ⟨rfl, ⟨y, cy, hg4⟩, hb4⟩
  obtain ⟨R, HR, HSF, _, H1, H2⟩ := front_row ((n : Int) + 1) y (addP n ps d).length cy
  have HE : Hid (Value.agg #[.int .i64 ((n : Int) + 1), .slice y (addP n ps d).length cy] = .agg R) := by show _ = _; rw [HR.out]
  have HV : Hid (w4.heap[gd]? = some (.cells R 58 (0, 0))) := by show _ = _; rw [← HR.out]; exact hg4.var
  have HZ : Hid (w4.heap[w.heap.size + 2]? = some (.cells #[.int .i64 0, .slice none 0 0] 28 (0, 0))) := (hb4.block _ HSZ.out.1).trans HB3.out.2.2.2
  have hb5 : Below w.heap.size w w4 := HB3.out.1.trans (hb4.mono (by have := HSZ.out; omega))
  have ho5 : (w4.setRow (w.heap.size + 2) R).ownsRow w.heap.size 30 32 (.slice y (addP n ps d).length cy) (addP n ps d).length (cellsOf (addP n ps d).flatten) := own_setRow (own_low hg4.own (by have := HSZ.out; omega)) HZ.out (by decide)
  have HF : Hid (LReads (w4.setRow (w.heap.size + 2) R) y (addP n ps d).length cy (addP n ps d) ∧ RoomO w.heap.size y (addP n ps d).length (w4.setRow (w.heap.size + 2) R) ∧ Below w.heap.size w (w4.setRow (w.heap.size + 2) R)) := by
    refine ⟨?_, RoomO.own ho5, below_setRow hb5 (by omega) _⟩
    obtain ⟨y', cy', e, hy, _⟩ := LReads.own ho5 HDS.out
    cases e
    exact hy
  clear hg4 hb4 hb5 ho5 HB3 HG TK HR
  go_wp2_with (first
    | (refine wpList_load_row rfl 28 (.tmp 22) rfl gd rfl 58 R (0, 0) _ HV.out Tryd.underlying28 rfl HSF.out ?_; try simp only [Act.put, List.setIfInBounds_toArray, List.set_cons_zero, List.set_cons_succ])
    | (refine wpList_store_row rfl 28 (.tmp 4) (.tmp 23) rfl (w.heap.size + 2) R rfl rfl 28 #[.int .i64 0, .slice none 0 0] HZ.out HSF.out H2.out H1.out ?_; try simp only [Act.put, List.setIfInBounds_toArray, List.set_cons_zero, List.set_cons_succ])
    | fail)
  refine bodyPost_ret (v := .tuple #[.agg R, .int .i64 0]) ?_ rfl ⟨y, cy, by rw [HE.out], HF.out⟩
  exact results_row_tmp (p := 4) (q := 5) (ty := 28) rfl _ _ (w.heap.size + 2) 28 R (0, 0) _ rfl (setRow_heap _ _ _ _ 28 _ HZ.out) Tryd.underlying28 rfl HSF.out
end Go.Proofs.YtdnhnjimhbbababDoor

/- What front.Of answers; what all calls of package front answer. -/
namespace Go.Proofs.YtdnhnjimhbbababDoor
open Go.RowKit Sums
set_option maxRecDepth 100000
set_option linter.unusedVariables false
set_option linter.unusedSimpArgs false
/-- What the landed package front answers. -/
theorem frontC : FrontC where
  check_ok n a len cap w h := check_ok n a len cap w h
  check_no n a len cap w hl _ h := check_no n a len cap w hl h
  frontRoot_ok n a len cap ps w h hR hK D HD := froot_ok n a len cap ps w h hR hK D HD
  frontRoot_no n a len cap w hl _ h Z HZ := froot_no n a len cap w hl h Z HZ
  add_ok n a len cap ps d w h hn hR hd hK D HD := fadd_ok n a len cap ps d w h hn hR hd hK D HD
  add_no n a len cap w hl _ h D d _ _ := fadd_no n a len cap w hl h D
  add_full a len cap w h D d _ _ := fadd_full a len cap w h D
end Go.Proofs.YtdnhnjimhbbababDoor

/- The knots on the way of a leaf, from the leaf up, each as the 64 bytes of its two digests. No program is spoken of. -/
namespace Go.Proofs.YtdnhnjimhbbababDoor
open Sums
set_option maxRecDepth 100000
set_option linter.unusedVariables false
/-- Digests of 64 bytes: knots. -/
def Digs64 (l : List (List UInt8)) : Prop := ∀ d ∈ l, d.length = 64
theorem Digs64.one {d : List UInt8} (h : d.length = 64) : Digs64 [d] := fun x hx => by simp at hx; rw [hx]; exact h
/-- The knots on the way, from the leaf up. -/
def kn : List (List UInt8) → Nat → Nat → List UInt8 → List (List UInt8)
  | [], _, _, _ => []
  | d :: r, s, i, x => if i < split s then kn r (split s) i x ++ [(mkR r (split s) i x).1 ++ d] else kn r (s - split s) (i - split s) x ++ [d ++ (mkR r (s - split s) (i - split s) x).1]
theorem kn_left (d : List UInt8) (r : List (List UInt8)) (s i : Nat) (x : List UInt8) (hi : i < split s) : kn (d :: r) s i x = kn r (split s) i x ++ [(mkR r (split s) i x).1 ++ d] := by
  show (if i < split s then _ else _) = _; rw [if_pos hi]
theorem kn_right (d : List UInt8) (r : List (List UInt8)) (s i : Nat) (x : List UInt8) (hi : ¬ i < split s) : kn (d :: r) s i x = kn r (s - split s) (i - split s) x ++ [d ++ (mkR r (s - split s) (i - split s) x).1] := by
  show (if i < split s then _ else _) = _; rw [if_neg hi]
theorem kn_length : ∀ (r : List (List UInt8)) (s i : Nat) (x : List UInt8), (kn r s i x).length = r.length
  | [], _, _, _ => rfl
  | d :: r, s, i, x => by
    by_cases hi : i < split s
    · rw [kn_left d r s i x hi, List.length_append, kn_length r]; rfl
    · rw [kn_right d r s i x hi, List.length_append, kn_length r]; rfl
end Go.Proofs.YtdnhnjimhbbababDoor

/- What check's own small functions answer: a proof that must have so many digests, a proof parted from its last one; knots, and their sums and texts. -/
namespace Go.Proofs.YtdnhnjimhbbababDoor
open Go.RowKit Sums
set_option maxRecDepth 100000
set_option linter.unusedVariables false
set_option linter.unusedSimpArgs false
/-- A variable that is an array, made; the world behind it is a letter. -/
theorem wpList_new_var {P : Program} {ops : Array Oper} {rest : List Oper} {o : Oper} {a : Act} {w : World} {Q : Exit → Act → World → Prop} (hg : o.guard = none) (t : TypeId) (ho : o.op = .alloc t)
    (cs : Array Value) (hz : (P.info? t).map (fun i => (i.zero, i.size)) = some (some (.agg cs), cs.size)) (h : ∀ g w', Hid (Made g cs t w w') → wpList P ops Q rest (a.put o.dst (.pointer (some ⟨g, 0, none⟩))) w') : wpList P ops Q (o :: rest) a w :=
  wpList_alloc_row hg t ho cs hz (h w.heap.size _ ⟨rfl, heap_alloc_new w _, (Below.refl _ _).alloc (Nat.le_refl _) _⟩)
theorem wpList_set_var {P : Program} {ops : Array Oper} {rest : List Oper} {o : Oper} {a : Act} {w : World} {Q : Exit → Act → World → Prop} (hgd : o.guard = none) (t : TypeId) (x y : Operand) (ho : o.op = .store t x y)
    (g : Nat) (D : Array Value) (hx : a.eval x = .pointer (some ⟨g, 0, none⟩)) (hy : a.eval y = .agg D) (t' : TypeId) (Z : Array Value) (hg : w.heap[g]? = some (.cells Z t' (0, 0))) (hi : (P.info? t).map (·.size) = some D.size) (hold : Z.size = D.size) (h1 : D.all (·.oneCell') = true)
    (h : ∀ w', Hid (Wrote g D t' w w') → wpList P ops Q rest (a.put o.dst undef) w') : wpList P ops Q (o :: rest) a w :=
  wpList_store_row hgd t x y ho g D hx hy t' Z hg hi hold h1 (h _ (wrote_row hg))
theorem results_tmp_row {P : Program} {fn : Func} {p q : Tmp} {ty : TypeId} (h : fn.results = #[.tmp q, .cell p ty]) (tmps : Array Value) (w : World) (g : Nat) (t : TypeId) (cs : Array Value) (fr : Nat × Nat) (d : TypeDesc)
    (hp : tmps.getD p undef = .pointer (some ⟨g, 0, none⟩)) (hg : w.heap[g]? = some (.cells cs t fr))
    (hu : P.underlying ty = some d) (hd : (match d with | .struct _ | .array _ _ => true | _ => false) = true) (hi : (P.info? ty).map (·.size) = some cs.size) :
    (results fn tmps).run P w = .ok (.tuple #[tmps.getD q undef, .agg cs]) w := by
  have hp' : tmps[p]?.getD undef = .pointer (some ⟨g, 0, none⟩) := by simpa using hp
  simp [results, h, hp', asAddr, run_loadVar_row w g t ty cs fr d hg hu hd hi]
/-- An array read out of the midst of a row. -/
theorem yieldsIf_mid {P : Program} {ops : Array Oper} {S : World → Prop} {op : Oper} {a : Act} (hw : Region.wanted op (yielded ops a.tmps) = true) (ty : TypeId) (x : Operand) (ho : op.op = .load ty x)
    (b o : Nat) (hx : a.eval x = .pointer (some ⟨b, o, none⟩)) (D : Array Value) (d : TypeDesc) (hS : ∀ w, S w → w.rangeAt b o D.toList)
    (hu : P.underlying ty = some d) (hd : d.isRow = true) (hi : (P.info? ty).map (·.size) = some D.size) : YieldsIf P ops S op (.agg D) a := by
  have := yieldsIf_load_mid (P := P) (ops := ops) (S := S) hw ty x ho b o hx D.toList d hS hu hd (by simpa using hi)
  simpa using this
theorem wpList_mid {P : Program} {ops : Array Oper} {rest : List Oper} {op : Oper} {a : Act} {w : World} {Q : Exit → Act → World → Prop} (hgd : op.guard = none) (ty : TypeId) (x : Operand) (ho : op.op = .load ty x)
    (b o : Nat) (hx : a.eval x = .pointer (some ⟨b, o, none⟩)) (D : Array Value) (d : TypeDesc) (hc : w.rangeAt b o D.toList)
    (hu : P.underlying ty = some d) (hd : d.isRow = true) (hi : (P.info? ty).map (·.size) = some D.size)
    (h : wpList P ops Q rest (a.put op.dst (.agg D)) w) : wpList P ops Q (op :: rest) a w :=
  wpList_load_mid hgd ty x ho b o hx D.toList d hc hu hd (by simpa using hi) (by simpa using h)
/-- A struct that is built, where the order is drawn. -/
theorem yieldsIf_build {P : Program} {ops : Array Oper} {S : World → Prop} {o : Oper} {a : Act} (hw : Region.wanted o (yielded ops a.tmps) = true) (t : TypeId) (parts : Array (Nat × Operand)) (ho : o.op = .build t parts) (vals : Array (Nat × Value)) (hv : (parts.toList.map fun p => (p.1, a.eval p.2)) = vals.toList)
    (v : Value) (hrun : ∀ W, (Instr.build t vals).run P W = .ok v W) : YieldsIf P ops S o v a :=
  .inl ⟨hw, fun w _ => by
    have hv' : (parts.map fun (i, x) => (i, a.eval x)) = vals := by
      apply Array.ext'
      rw [Array.toList_map, ← hv]
    subst hv'
    unfold execOp
    simp only [ho, Sem.run_bind, hrun, Result.andThen_ok]
    rfl⟩
/-! Knots. -/
theorem infoK : (Tryd.prog.info? 135).map (fun i => (i.zero, i.size, i.bytes)) = some (some (.agg (cellsOf (List.replicate 64 0)).toArray), 64, 64) := by kernel_rfl
theorem sizeK : (Tryd.prog.info? 135).map (·.size) = some 64 := by
  obtain ⟨i, hi, _, hs, _⟩ := info_parts infoK
  rw [hi, Option.map_some, hs]
theorem noughtsK : ∃ Z : Array Value, Hid (Z = (cellsOf (List.replicate 64 0)).toArray) ∧ Hid ((Tryd.prog.info? 135).map (fun i => (i.zero, i.size)) = some (some (.agg Z), Z.size)) ∧ Hid (Z.size = 64) := by
  refine ⟨(cellsOf (List.replicate 64 0)).toArray, (rfl : _ = _), ?_, (rfl : _ = _)⟩
  obtain ⟨i, hi, hz, hs, _⟩ := info_parts infoK
  show _ = _
  rw [hi, Option.map_some, hz, hs]
  rfl
theorem knot_row (l : List UInt8) (hl : l.length = 64) : ∃ D : Array Value, Hid (D = (cellsOf l).toArray) ∧ Hid ((Tryd.prog.info? 135).map (·.size) = some D.size) ∧ Hid (D.all (·.oneCell') = true) ∧ Hid (D.size = 64) := by
  refine ⟨(cellsOf l).toArray, (rfl : _ = _), ?_, cellsOf_all l, ?_⟩
  · show _ = _
    rw [sizeK]; simp [cellsOf_length, hl]
  · show _ = _
    simp [cellsOf_length, hl]
theorem fill_put (place : Nat → Option (Nat × Nat)) (i off n : Nat) (D cs : Array Value) (pre old post : List Value) (more : List (Nat × Value)) (hp : place i = some (off, n)) (hn : D.size = n) (hcs : cs.toList = pre ++ old ++ post) (hpre : pre.length = off) (hold : old.length = n) :
    Instr.fill place cs ((i, .agg D) :: more) = Instr.fill place (pre ++ D.toList ++ post).toArray more := by
  have hsz : (Value.agg D).cells.size = n := hn
  have hcz : cs.size = off + n + post.length := by rw [← Array.length_toList, hcs]; simp only [List.length_append, hpre, hold]
  conv => lhs; unfold Instr.fill
  simp only [hp, hsz]
  rw [if_neg (by simp; omega)]
  congr 1
  apply Array.ext'
  have := fold_set D.toList 0 off cs pre old post hcs (by omega) (by rw [hold, Array.length_toList, hn])
  rw [← this, ← Array.foldl_toList]
  congr 2
  simp [Value.cells]
theorem builtK (A B K : Array Value) (hA : A.size = 32) (hB : B.size = 32) (hK : K.toList = A.toList ++ B.toList) : Tryd.prog.built 135 [(0, .agg A), (1, .agg B)] = some K := by
  obtain ⟨i, hi, hz, hs, _⟩ := info_parts infoK
  obtain ⟨j, hj, _, hjs, _⟩ := info_parts infoD
  obtain ⟨Z, hZ⟩ : ∃ Z, Z = List.replicate 32 (0 : UInt8) := ⟨_, rfl⟩
  have hZ32 : (cellsOf Z).length = 32 := by rw [cellsOf_length, hZ]; rfl
  have e : (cellsOf (List.replicate 64 0)).toArray = (cellsOf Z ++ cellsOf Z).toArray := by rw [hZ, ← cellsOf_append]; rfl
  rw [e] at hz
  unfold Program.built
  simp only [hi, Tryd.underlying135, hz, List.mapM_cons, List.mapM_nil, hj, hjs, Option.map_some, Option.bind_eq_bind, Option.bind_some, Option.pure_def]
  show Instr.fill _ (cellsOf Z ++ cellsOf Z).toArray _ = some K
  refine (fill_put _ 0 0 32 A _ [] (cellsOf Z) (cellsOf Z) _ rfl hA rfl rfl hZ32).trans ?_
  refine (fill_put _ 1 32 32 B _ A.toList (cellsOf Z) [] _ rfl hB (by simp) (by simpa using hA) hZ32).trans ?_
  simp only [Instr.fill, List.append_nil, Option.some.injEq]
  exact Array.ext' hK.symm
/-- A knot that is made of two digests. -/
theorem build_knot (w : World) (A B K : Array Value) (hA : A.size = 32) (hB : B.size = 32) (hK : K.toList = A.toList ++ B.toList) : (Instr.build 135 #[(0, .agg A), (1, .agg B)]).run Tryd.prog w = .ok (.agg K) w := run_build w 135 _ K (builtK A B K hA hB hK)
theorem range_knot {W : World} {g : Nat} {l r : List UInt8} {t : TypeId} {fr : Nat × Nat} (hl : l.length = 32) (h : W.heap[g]? = some (.cells (cellsOf (l ++ r)).toArray t fr)) : W.rangeAt g 0 (cellsOf l) ∧ W.rangeAt g 32 (cellsOf r) := by
  refine ⟨fun j v hj => ?_, fun j v hj => ?_⟩
  · have hlt := (List.getElem?_eq_some_iff.1 hj).1
    rw [Nat.zero_add, cell_of_row W g j _ t fr h]
    simp only [List.getElem?_toArray, cellsOf_append]
    rw [List.getElem?_append_left hlt, hj]
  · rw [cell_of_row W g _ _ t fr h]
    simp only [List.getElem?_toArray, cellsOf_append]
    rw [List.getElem?_append_right (by rw [cellsOf_length]; omega), cellsOf_length, hl, Nat.add_sub_cancel_left, hj]
/-! A proof that must have so many digests. -/
theorem must_ok (n : Nat) (a : Option Addr) (len cap : Nat) (w : World) (h : len = n) (hl : len ≤ maxLen) :
    Calls Tryd.prog 71 #[.int .i64 n, .slice a len cap] w fun e w' => e = .returned (.tuple #[]) ∧ w' = w := by
  subst h
  have hlx : len ≤ 9223372036854775807 := by unfold maxLen at hl; omega
  clear hl
  go_enter Tryd.func71, Tryd.ntmps71
  go_wp2
  go_end0
  exact ⟨rfl, rfl⟩
theorem must_no (n : Nat) (a : Option Addr) (len cap : Nat) (w : World) (h : len ≠ n) (hl : len ≤ maxLen) :
    Calls Tryd.prog 71 #[.int .i64 n, .slice a len cap] w fun e w' => (∃ u p, e = .panicked [{ v := .iface u p, recovered := false }]) ∧ w' = w := by
  have hlx : len ≤ 9223372036854775807 := by unfold maxLen at hl; omega
  have hne : ((len : Int) != (n : Int)) = true := by rw [bne_iff_ne]; omega
  clear hl h
  go_enter Tryd.func71, Tryd.ntmps71
  go_wp2
  exact ⟨rfl, ⟨_, _, rfl⟩, rfl⟩
/-! A proof parted from its last digest. -/
set_option maxHeartbeats 1000000 in
theorem cut_no (a : Option Addr) (cap : Nat) (w : World) :
    Calls Tryd.prog 72 #[.slice a 0 cap] w fun e w' => (∃ u p, e = .panicked [{ v := .iface u p, recovered := false }]) ∧ Below w.heap.size w w' := by
  obtain ⟨Z, HZ, HA, HS, H1, H32⟩ := noughts27
  go_enter Tryd.func72, Tryd.ntmps72
  go_wp2_with (first
    | (refine wpList_alloc_row rfl 30 rfl Z HA.out ?_)
    | fail)
  exact ⟨rfl, ⟨_, _, rfl⟩, (Below.refl _ _).alloc (Nat.le_refl _) _⟩
set_option maxHeartbeats 1000000 in
theorem cut_ok (g o m cap : Nat) (l : List (List UInt8)) (d : List UInt8) (w : World) (hR : LReads w (some ⟨g, o, none⟩) (m + 1) cap (l ++ [d])) (D : Array Value) (HD : Hid (D = (cellsOf d).toArray)) :
    Calls Tryd.prog 72 #[.slice (some ⟨g, o, none⟩) (m + 1) cap] w fun e w' => e = .returned (.tuple #[.slice (some ⟨g, o, none⟩) m cap, .agg D]) ∧ Below w.heap.size w w' := by
  obtain ⟨Z, HZ, HA, HS, H1, H32⟩ := noughts27
  have hd : d.length = 32 := hR.2.1 d (by simp)
  have HSD : Hid ((Tryd.prog.info? 30).map (·.size) = some D.size) := by show _ = _; rw [size23, HD.out]; simp [cellsOf_length, hd]
  have H1D : Hid (D.all (·.oneCell') = true) := by show _ = _; rw [HD.out]; exact cellsOf_all _
  have HZD : Hid (Z.size = D.size) := by show _ = _; rw [H32.out, HD.out]; simp [cellsOf_length, hd]
  have hlm : l.length = m := by have := hR.1; simpa using this
  have hcap : m + 1 ≤ cap := hR.2.2.1
  have hlx : m + 1 ≤ 9223372036854775807 := by have := hR.2.2.2.1; unfold maxLen at this; omega
  have e0 : (l ++ [d])[m]'(by simp; omega) = d := by simp [← hlm]
  have HRG : Hid (w.rangeAt g (o + 32 * m) D.toList) := by
    have := hR.range m (by simp; omega)
    rw [e0] at this
    rw [HD.out]; exact this
  have hgl : g < w.heap.size := by
    obtain ⟨g', o', e, h⟩ := hR.at (by omega)
    cases e
    exact h
  have HW0 : Hid (Below w.heap.size w (w.alloc (.cells Z 30)).drew ∧ (w.alloc (.cells Z 30)).drew.heap[w.heap.size]? = some (.cells Z 30 (0, 0))) := ⟨((Below.refl _ _).alloc (Nat.le_refl _) _).drew, heap_alloc_new w _⟩
  have slc : ∀ W, (Instr.sliceAt 26 (.slice (some ⟨g, o, none⟩) (m + 1) cap) none (some (.int .i64 (m : Int))) none).run Tryd.prog W = .ok (.slice (some ⟨g, o, none⟩) m cap) W := fun W => slice_left W g o (m + 1) cap m (by omega)
  have idx : ∀ W, (Instr.indexAt 26 (.slice (some ⟨g, o, none⟩) (m + 1) cap) (.int .i64 (m : Int))).run Tryd.prog W = .ok (.pointer (some ⟨g, o + 32 * m, none⟩)) W := fun W => index_list W g o (m + 1) cap m .i64 (by omega)
  have wr := wrap_int ((m : Int)) (by omega) (by omega)
  have c0 : (((m : Int) + 1) == 0) = false := by rw [beq_eq_false_iff_ne]; omega
  have c1 : (m : Int) + 1 - 1 = (m : Int) := by omega
  clear hR HD
  go_enter Tryd.func72, Tryd.ntmps72
  go_wp2_with (first
    | (refine wpList_alloc_row rfl 30 rfl Z HA.out ?_)
    | fail)
  refine wp_region_held_drew (S := (fun W => W.rangeAt g (o + 32 * m) D.toList)) (by kernel_rfl) (range_keep HW0.out.1 HRG.out) (fun hHeld => ?_)
  refine wpAnyH_take (i := 0) (oi := { dst := some 12, op := Op.move (Operand.tmp 0), type := 26, pos := "check.go:149", after := #[], guard := none }) (v := .slice (some ⟨g, o, none⟩) (m + 1) cap) rfl (by kernel_rfl) (by kernel_rfl) (by kernel_rfl) (fun _ _ _ h => h) (Or.inl ⟨by rfl, by intro W hSw; go_simp⟩) hHeld ?_
  try simp only [Act.put, List.setIfInBounds_toArray, List.set_cons_zero, List.set_cons_succ]
  refine wpAnyH_take (i := 1) (oi := { dst := some 13, op := Op.move (Operand.tmp 4), type := 3, pos := "check.go:149", after := #[], guard := none }) (v := .int .i64 (m : Int)) rfl (by kernel_rfl) (by kernel_rfl) (by kernel_rfl) (fun _ _ _ h => h) (Or.inl ⟨by rfl, by intro W hSw; go_simp⟩) hHeld ?_
  try simp only [Act.put, List.setIfInBounds_toArray, List.set_cons_zero, List.set_cons_succ]
  refine wpAnyH_take (i := 2) (oi := { dst := some 14, op := Op.slice 26 (Operand.tmp 12) none (some (Operand.tmp 13)) none, type := 26, pos := "check.go:149", after := #[{ on := 0, ground := Ground.data }, { on := 1, ground := Ground.data }], guard := none }) (v := .slice (some ⟨g, o, none⟩) m cap) rfl (by kernel_rfl) (by kernel_rfl) (by kernel_rfl) (fun _ _ _ h => h) (Or.inl ⟨by rfl, by intro W hSw; have := slc W; go_simp⟩) hHeld ?_
  try simp only [Act.put, List.setIfInBounds_toArray, List.set_cons_zero, List.set_cons_succ]
  refine wpAnyH_take (i := 3) (oi := { dst := some 15, op := Op.move (Operand.tmp 0), type := 26, pos := "check.go:149", after := #[{ on := 7, ground := Ground.gcOnly Departure.lateStores }], guard := none }) (v := .slice (some ⟨g, o, none⟩) (m + 1) cap) rfl (by kernel_rfl) (by kernel_rfl) (by kernel_rfl) (fun _ _ _ h => h) (Or.inl ⟨by rfl, by intro W hSw; go_simp⟩) hHeld ?_
  try simp only [Act.put, List.setIfInBounds_toArray, List.set_cons_zero, List.set_cons_succ]
  refine wpAnyH_take (i := 4) (oi := { dst := some 16, op := Op.move (Operand.tmp 4), type := 3, pos := "check.go:149", after := #[{ on := 7, ground := Ground.gcOnly Departure.lateStores }], guard := none }) (v := .int .i64 (m : Int)) rfl (by kernel_rfl) (by kernel_rfl) (by kernel_rfl) (fun _ _ _ h => h) (Or.inl ⟨by rfl, by intro W hSw; go_simp⟩) hHeld ?_
  try simp only [Act.put, List.setIfInBounds_toArray, List.set_cons_zero, List.set_cons_succ]
  refine wpAnyH_take (i := 5) (oi := { dst := some 17, op := Op.indexAddr 26 (Operand.tmp 15) (Operand.tmp 16), type := 0, pos := "check.go:149", after := #[{ on := 3, ground := Ground.data }, { on := 4, ground := Ground.data }, { on := 7, ground := Ground.gcOnly Departure.lateStores }], guard := none }) (v := .pointer (some ⟨g, o + 32 * m, none⟩)) rfl (by kernel_rfl) (by kernel_rfl) (by kernel_rfl) (fun _ _ _ h => h) (Or.inl ⟨by rfl, by intro W hSw; have := idx W; go_simp⟩) hHeld ?_
  try simp only [Act.put, List.setIfInBounds_toArray, List.set_cons_zero, List.set_cons_succ]
  refine wpAnyH_take (i := 6) (oi := { dst := some 18, op := Op.load 30 (Operand.tmp 17), type := 30, pos := "check.go:149", after := #[{ on := 5, ground := Ground.data }, { on := 7, ground := Ground.gcOnly Departure.lateStores }], guard := none }) (v := .agg D) rfl (by kernel_rfl) (by kernel_rfl) (by kernel_rfl) (fun _ _ _ h => h) (yieldsIf_mid (by rfl) 30 (.tmp 17) rfl g (o + 32 * m) rfl D _ (fun _ h => h) Tryd.underlying30 rfl HSD.out) hHeld ?_
  try simp only [Act.put, List.setIfInBounds_toArray, List.set_cons_zero, List.set_cons_succ]
  refine wpAnyH_take (i := 7) (oi := { dst := some 2, op := Op.assign (Operand.tmp 14), type := 26, pos := "check.go:149", after := #[{ on := 2, ground := Ground.data }, { on := 0, ground := Ground.phase }, { on := 1, ground := Ground.phase }, { on := 2, ground := Ground.phase }, { on := 3, ground := Ground.textOnly Departure.lateStores }, { on := 4, ground := Ground.textOnly Departure.lateStores }, { on := 5, ground := Ground.textOnly Departure.lateStores }, { on := 6, ground := Ground.textOnly Departure.lateStores }], guard := none }) (v := .slice (some ⟨g, o, none⟩) m cap) rfl (by kernel_rfl) (by kernel_rfl) (by kernel_rfl) (fun _ _ _ h => h) (Or.inl ⟨by rfl, by intro W hSw; go_simp⟩) hHeld ?_
  try simp only [Act.put, List.setIfInBounds_toArray, List.set_cons_zero, List.set_cons_succ]
  refine wpAnyH_ready (rs := [8]) (by kernel_rfl) (by simp) ?_
  refine (AllReadyH.cons (o := { dst := none, op := Op.store 30 (Operand.tmp 3) (Operand.tmp 18), type := 0, pos := "check.go:149", after := #[{ on := 6, ground := Ground.data }, { on := 7, ground := Ground.chain }, { on := 0, ground := Ground.phase }, { on := 1, ground := Ground.phase }, { on := 2, ground := Ground.phase }, { on := 3, ground := Ground.phase }, { on := 4, ground := Ground.phase }, { on := 5, ground := Ground.phase }, { on := 6, ground := Ground.phase }, { on := 7, ground := Ground.phase }], guard := none }) rfl (fun K hK => ?_) AllReadyH.nil)
  refine step_store_row (by rfl) 30 (.tmp 3) (.tmp 18) rfl w.heap.size D rfl rfl 30 Z HW0.out.2 HSD.out HZD.out H1D.out ?_
  refine hK.out _ _ (range_other hHeld (by omega)) (fun hHeld => ?_)
  clear hK K
  try simp only [Act.put, List.setIfInBounds_toArray, List.set_cons_zero, List.set_cons_succ]
  refine wpAnyH_done (by kernel_rfl) ?_ _
  go_wp2
  refine bodyPost_ret (v := .tuple #[.slice (some ⟨g, o, none⟩) m cap, .agg D]) ?_ rfl ⟨rfl, below_setRow HW0.out.1 (Nat.le_refl _) _⟩
  exact results_tmp_row (p := 3) (q := 2) (ty := 30) rfl _ _ w.heap.size 30 D (0, 0) _ rfl (setRow_heap _ _ _ _ 30 _ HW0.out.2) Tryd.underlying30 rfl HSD.out
/-! A knot's sum, and its text. -/
set_option maxHeartbeats 1000000 in
theorem sum_any (l r : List UInt8) (hl : l.length = 32) (hr : r.length = 32) (w : World) (hK : Table 0 w) (KK : Array Value) (HKK : Hid (KK = (cellsOf (l ++ r)).toArray)) (D : Array Value) (HD : Hid (D = (cellsOf (knotD l r)).toArray)) :
    Calls Tryd.prog 73 #[.agg KK] w fun e w' => e = .returned (.agg D) ∧ Below w.heap.size w w' := by
  obtain ⟨Z, HZ, HA, HS, H1, H32⟩ := noughts27
  obtain ⟨L, HL, HSL, H1L, H32L⟩ := dig_row' l hl
  obtain ⟨R, HR, HSR, H1R, H32R⟩ := dig_row' r hr
  have HSD : Hid ((Tryd.prog.info? 30).map (·.size) = some D.size) := by show _ = _; rw [size23, HD.out]; simp [cellsOf_length, knotD, sumD_length]
  have H1D : Hid (D.all (·.oneCell') = true) := by show _ = _; rw [HD.out]; exact cellsOf_all _
  have HZD : Hid (Z.size = D.size) := by show _ = _; rw [H32.out, HD.out]; simp [cellsOf_length, knotD, sumD_length]
  have HW0 : Hid (((w.alloc (.cells KK 135)).alloc (.cells Z 30)).rangeAt w.heap.size 0 L.toList ∧ ((w.alloc (.cells KK 135)).alloc (.cells Z 30)).rangeAt w.heap.size 32 R.toList ∧ Below w.heap.size w ((w.alloc (.cells KK 135)).alloc (.cells Z 30)) ∧ ((w.alloc (.cells KK 135)).alloc (.cells Z 30)).heap[w.heap.size + 1]? = some (.cells Z 30 (0, 0))) := by
    have h : ((w.alloc (.cells KK 135)).alloc (.cells Z 30)).heap[w.heap.size]? = some (.cells KK 135 (0, 0)) := heap_keep (heap_alloc_new w _)
    rw [HKK.out] at h
    have h2 := range_knot hl h
    rw [HL.out, HR.out]
    exact ⟨by rw [HKK.out]; exact h2.1, by rw [HKK.out]; exact h2.2, ((Below.refl _ _).alloc (Nat.le_refl _) _).alloc (by simp) _, by have := heap_alloc_new (w.alloc (.cells KK 135)) (.cells Z 30); simpa using this⟩
  have KN : Hid (∀ W, Below w.heap.size w W → Calls Tryd.prog 22 #[.agg L, .agg R] W fun e w' => e = .returned (.agg D) ∧ Below W.heap.size W w') := fun W hb => by
    rw [HL.out, HR.out]
    exact knot_any l r hl hr W (hK.keep hb) D HD
  clear hK HKK HD
  go_enter Tryd.func73, Tryd.ntmps73
  go_wp2_with (first
    | (refine wpList_alloc_row rfl 30 rfl Z HA.out ?_)
    | (refine wpList_mid rfl 30 (.tmp 3) rfl w.heap.size 0 rfl L _ HW0.out.1 Tryd.underlying30 rfl HSL.out ?_)
    | (refine wpList_mid rfl 30 (.tmp 5) rfl w.heap.size 32 rfl R _ HW0.out.2.1 Tryd.underlying30 rfl HSR.out ?_)
    | fail)
  refine (KN.out _ HW0.out.2.2.1).mono ?_
  rintro e w1 ⟨rfl, hb1⟩
  have HG : Hid (w1.heap[w.heap.size + 1]? = some (.cells Z 30 (0, 0))) := (hb1.block _ (heap_lt HW0.out.2.2.2)).trans HW0.out.2.2.2
  have hB : Below w.heap.size w w1 := HW0.out.2.2.1.trans (hb1.mono HW0.out.2.2.1.size)
  clear hb1 HW0
  go_wp2_with (first
    | (refine wpList_store_row rfl 30 (.tmp 2) (.tmp 7) rfl (w.heap.size + 1) D rfl rfl 30 Z HG.out HSD.out HZD.out H1D.out ?_)
    | fail)
  refine bodyPost_ret (v := .agg D) ?_ rfl ⟨rfl, below_setRow hB (by simp) _⟩
  exact results_cell_row (p := 2) (ty := 30) rfl _ _ (w.heap.size + 1) 30 D (0, 0) _ rfl (setRow_heap _ _ _ _ 30 _ HG.out) Tryd.underlying30 rfl HSD.out
theorem slice_at (w : World) (g o : Nat) : (Instr.sliceAt 30 (.pointer (some ⟨g, o, none⟩)) none none none).run Tryd.prog w = .ok (.slice (some ⟨g, o, none⟩) 32 32) w := by
  simp [Instr.sliceAt, Instr.slice, Instr.sliceBounds, run_underlying Tryd.underlying30, Instr.sureAddr]
  rw [add_plain]
  simp
theorem conv_at (W : World) (g o : Nat) (l : List UInt8) (hl : l.length = 32) (h : W.rangeAt g o (cellsOf l)) : Sem.run Tryd.prog (convert 43 9 (.slice (some ⟨g, o, none⟩) 32 32)) W = .ok (.string ⟨l.toArray⟩) W := by
  have := run_convert_bytes_back (P := Tryd.prog) W 43 9 5 ⟨g, o, none⟩ 32 l Tryd.underlying43 Tryd.underlying5 Tryd.underlying9 (fun j hj => by
    rw [add_plain]
    exact h j _ (cellsOf_at l j hj))
  rw [hl] at this
  exact this
end Go.Proofs.YtdnhnjimhbbababDoor

/- Knots in memory: a list of them that grows in a variable, beside the variables of the calls that make it grow. -/
namespace Go.Proofs.YtdnhnjimhbbababDoor
open Go.RowKit Sums
set_option maxRecDepth 100000
set_option linter.unusedVariables false
set_option linter.unusedSimpArgs false
/-- What a call leaves that makes the list in the variable gk grow: all other blocks are as they were; the list lies where it lay, or in a new block. -/
structure Grew (gk : Nat) (v v' : Value) (w w' : World) : Prop where
  os : w'.os = w.os
  tape : w'.tape = w.tape
  output : w'.output = w.output
  size : w.heap.size ≤ w'.heap.size
  block : ∀ k, k < w.heap.size → k ≠ gk → some k ≠ v.ownBlock → w'.heap[k]? = w.heap[k]?
  mine : v'.ownBlock = v.ownBlock ∨ ∃ k, v'.ownBlock = some k ∧ w.heap.size ≤ k
theorem Grew.of {gk : Nat} {v : Value} {w w' : World} (h : Below w.heap.size w w') : Grew gk v v w w' := ⟨h.os, h.tape, h.output, h.size, fun k hk _ _ => h.block k hk, .inl rfl⟩
theorem Grew.trans {gk : Nat} {v v1 v2 : Value} {w w1 w2 : World} (h : Grew gk v v1 w w1) (k : Grew gk v1 v2 w1 w2) : Grew gk v v2 w w2 := by
  refine ⟨k.os.trans h.os, k.tape.trans h.tape, k.output.trans h.output, Nat.le_trans h.size k.size, fun j hj h1 h2 => ?_, ?_⟩
  · refine (k.block j (Nat.lt_of_lt_of_le hj h.size) h1 ?_).trans (h.block j hj h1 h2)
    rcases h.mine with e | ⟨q, e, hq⟩
    · rw [e]; exact h2
    · rw [e]; intro e'; cases e'; omega
  · rcases k.mine with e | ⟨q, e, hq⟩
    · rw [e]; exact h.mine
    · exact .inr ⟨q, e, Nat.le_trans h.size hq⟩
theorem Grew.below {gk B : Nat} {v v' : Value} {w w' : World} (h : Grew gk v v' w w') (hB : B ≤ w.heap.size) (hg : B ≤ gk) (hv : ∀ k, v.ownBlock = some k → B ≤ k) : Below B w w' :=
  ⟨h.os, h.tape, h.output, h.size, fun k hk => h.block k (by omega) (by omega) (fun e => by have := hv k e.symm; omega)⟩
theorem Grew.new {gk y : Nat} {v v' : Value} {w w' : World} (h : Grew gk v v' w w') (hy : y < w.heap.size) (hv : some y ≠ v.ownBlock) : some y ≠ v'.ownBlock := by
  rcases h.mine with e | ⟨q, e, hq⟩
  · rw [e]; exact hv
  · rw [e]; intro e'; cases e'; omega
/-- What is written into a block of the call's own is not seen. -/
theorem Grew.wrote {gk g : Nat} {v v' : Value} {w w1 w2 : World} {D : Array Value} {t : TypeId} (h : Grew gk v v' w w1) (hw : Wrote g D t w1 w2) (hg : w.heap.size ≤ g) : Grew gk v v' w w2 := by
  have hb := hw.below w.heap.size w1 (Below.refl _ _) hg
  exact ⟨hb.os.trans h.os, hb.tape.trans h.tape, hb.output.trans h.output, Nat.le_trans h.size hb.size, fun k hk h1 h2 => (hb.block k hk).trans (h.block k hk h1 h2), h.mine⟩
/-- What the variables hold: the leaf, the function, the list of knots. -/
structure KH (B gl gf gk : Nat) (X : Array Value) (F v : Value) (l : List (List UInt8)) (w : World) : Prop where
  leaf : w.heap[gl]? = some (.cells X 30 (0, 0))
  fn : w.heap[gf]? = some (.cells #[F] 130 (0, 0))
  var : w.heap[gk]? = some (.cells #[v] 91 (0, 0))
  own : w.ownsRow B 135 64 v l.length (cellsOf l.flatten)
theorem own_apart {B : Nat} {v : Value} {n : Nat} {xs : List Value} {w : World} {b : Nat} {c : Array Value} {t : TypeId} {m : Nat × Nat} (h : w.ownsRow B 135 64 v n xs) (hb : w.heap[b]? = some (.cells c t m)) (ht : t ≠ 135) : some b ≠ v.ownBlock := by
  intro e
  rcases h.2 with ⟨rfl, _⟩ | ⟨g, cap, cur, rfl, _, hgb, _⟩
  · simp [Value.ownBlock] at e
  · obtain rfl : b = g := by simpa [Value.ownBlock] using e
    rw [hgb] at hb
    cases hb
    exact ht rfl
theorem KH.keep {B gl gf gk : Nat} {X : Array Value} {F v : Value} {l : List (List UInt8)} {w w' : World} (h : KH B gl gf gk X F v l w) (hb : Below w.heap.size w w') : KH B gl gf gk X F v l w' :=
  ⟨(hb.block _ (heap_lt h.leaf)).trans h.leaf, (hb.block _ (heap_lt h.fn)).trans h.fn, (hb.block _ (heap_lt h.var)).trans h.var, own_below h.own hb⟩
theorem KH.drew {B gl gf gk : Nat} {X : Array Value} {F v : Value} {l : List (List UInt8)} {w : World} (h : KH B gl gf gk X F v l w) : KH B gl gf gk X F v l w.drew := ⟨h.leaf, h.fn, h.var, h.own⟩
theorem KH.wrote {B gl gf gk g : Nat} {X : Array Value} {F v : Value} {l : List (List UInt8)} {w w' : World} {D : Array Value} {t : TypeId} (h : KH B gl gf gk X F v l w) (hw : Wrote g D t w w') (h1 : g ≠ gl) (h2 : g ≠ gf) (h3 : g ≠ gk) (h4 : some g ≠ v.ownBlock) : KH B gl gf gk X F v l w' := by
  have hb := hw.below 0 w (Below.refl _ _) (Nat.zero_le _)
  refine ⟨(hw.other _ (Ne.symm h1)).trans h.leaf, (hw.other _ (Ne.symm h2)).trans h.fn, (hw.other _ (Ne.symm h3)).trans h.var, ?_⟩
  exact h.own.kept (row := some g) ⟨hb.os, hb.tape, hb.output, hb.size, fun k _ hk => hw.other k (fun e => hk (by rw [e]))⟩ (.inr (Ne.symm h4))
/-- Knots put behind those of a list of the call's own. -/
theorem run_append_knot (W : World) (B : Nat) (v : Value) (l : List (List UInt8)) (k : List UInt8) (hk : k.length = 64) (hown : W.ownsRow B 135 64 v l.length (cellsOf l.flatten)) (a : Addr)
    (hN : ∀ j u, (cellsOf k)[j]? = some u → W.cell? (a.add j) = some u) (hB : B ≤ W.heap.size) (hlen : l.length + 1 ≤ 1000000) :
    ∃ v' w', (Builtin.append_ #[91, 91] 91 #[v, .slice (some a) 1 1]).run Tryd.prog W = .ok v' w' ∧ w'.ownsRow B 135 64 v' (l ++ [k]).length (cellsOf (l ++ [k]).flatten) ∧ W.grownBy w' v.ownBlock ∧ (v'.ownBlock = v.ownBlock ∨ ∃ q, v'.ownBlock = some q ∧ W.heap.size ≤ q) := by
  obtain ⟨i0, hi, hz0, hz1, hz2⟩ := info_parts infoK
  have hl1 : (cellsOf k).length = 1 * 64 := by rw [cellsOf_length, hk]
  have hu : Tryd.prog.underlying 91 = some (.slice 135) := Tryd.underlying91
  obtain ⟨v', w', hr, ho, hg, _⟩ := run_append_own (P := Tryd.prog) W B 91 91 135 i0 _ 64 64 hu hi hz0 hz1 hz2 (by rfl) (by decide) v l.length _ hown a 1 1 (cellsOf k)
    hl1 hN (cellsOf_one _) (by unfold maxLen; omega) (by omega) hB
  refine ⟨v', w', hr, ?_, hg, ?_⟩
  · rw [List.length_append, List.flatten_append, cellsOf_append]
    simpa using ho
  · have hi1 : (cellsOf k).length = 1 * i0.size := by rw [hz1, hl1]
    rcases hown.2 with ⟨rfl, h0⟩ | ⟨g, cap, cur, rfl, hbg, hgg, hnc, hcm, hcs, htake⟩
    · have := run_append_nil (P := Tryd.prog) W 91 91 135 i0 _ hu hi hz0 a 1 1 (cellsOf k) hi1 hN (by omega) (by omega) (by omega)
      rw [hr] at this
      cases this
      exact .inr ⟨W.heap.size, rfl, Nat.le_refl _⟩
    · by_cases hroom : l.length + 1 ≤ cap
      · have := run_append_room (P := Tryd.prog) W 91 91 135 i0 hu hi g l.length cap cur hgg a 1 1 (cellsOf k) hi1 hN (cellsOf_one _) hroom (by rw [hz1, hl1, hcs]; omega)
        rw [hr] at this
        cases this
        exact .inl rfl
      · have hx : (cellsOf l.flatten).length = l.length * i0.size := by rw [hz1]; exact hown.1
        have := run_append_grow (P := Tryd.prog) W 91 91 135 i0 _ hu hi hz0 ⟨g, 0, none⟩ l.length cap (cellsOf l.flatten) hx (hown.cells (g := g) rfl) a 1 1 (cellsOf k) hi1 hN (by omega) (by omega) (growslice_fits (by omega) (by rw [hz2]; omega))
        rw [hr] at this
        cases this
        exact .inr ⟨W.heap.size, rfl, Nat.le_refl _⟩
/-- A literal of one knot. -/
theorem build_oneK (w : World) (k : List UInt8) (hk : k.length = 64) (D : Array Value) (HD : Hid (D = (cellsOf k).toArray)) :
    (Instr.buildSlice 91 1 #[(0, .agg D)]).run Tryd.prog w = .ok (.slice (some ⟨w.heap.size, 0, none⟩) 1 1) (w.alloc (.cells D 135)) := by
  obtain ⟨i0, hi, hz0, hz1, hz2⟩ := info_parts infoK
  refine run_buildSlice w 91 135 1 _ _ i0 _ Tryd.underlying91 hi hz0 (by rw [hz1]; omega) (by rw [hz1]; omega) ?_
  rw [hz1]
  generalize hcs : Array.map _ (Array.range (1 * 64)) = cs
  have hcz : cs.size = 64 := by rw [← hcs]; simp
  have hD : D.size = 64 := by rw [HD.out]; simp [cellsOf_length, hk]
  refine (fill_put _ 0 0 64 D cs [] cs.toList [] [] rfl hD (by simp) rfl (by simpa using hcz)).trans ?_
  simp [Instr.fill]
/-- One knot put behind the list of the variable: the literal's block is made, the append runs, the variable is written. -/
theorem KH.append {B gl gf gk : Nat} {X : Array Value} {F v : Value} {l : List (List UInt8)} {w : World} (h : KH B gl gf gk X F v l w) (hlk : gl ≠ gk) (hfk : gf ≠ gk) (hB : B ≤ w.heap.size) (hlen : l.length + 1 ≤ 1000000) (k : List UInt8) (hk : k.length = 64) (D : Array Value) (HD : Hid (D = (cellsOf k).toArray)) :
    ∃ v' w', (Builtin.append_ #[91, 91] 91 #[v, .slice (some ⟨w.heap.size, 0, none⟩) 1 1]).run Tryd.prog (w.alloc (.cells D 135)) = .ok v' w' ∧
      w'.heap[gk]? = some (.cells #[v] 91 (0, 0)) ∧ KH B gl gf gk X F v' (l ++ [k]) (w'.setCell ⟨gk, 0, none⟩ v') ∧ Grew gk v v' w (w'.setCell ⟨gk, 0, none⟩ v') := by
  have hb0 : Below w.heap.size w (w.alloc (.cells D 135)) := (Below.refl _ _).alloc (Nat.le_refl _) _
  have h' := h.keep hb0
  obtain ⟨v', w', hr, ho, hg, hm⟩ := run_append_knot (w.alloc (.cells D 135)) B v l k hk h'.own ⟨w.heap.size, 0, none⟩ (by
    intro j u hj
    rw [add_plain, Nat.zero_add, cell_of_row _ _ j _ 135 (0, 0) (heap_alloc_new w _), HD.out]
    simpa using hj) (Nat.le_trans hB (by simp)) hlen
  have q1 : w'.heap[gk]? = some (.cells #[v] 91 (0, 0)) := (hg.block _ (heap_lt h'.var) (own_apart h'.own h'.var (by decide))).trans h'.var
  have q2 : w'.heap[gf]? = some (.cells #[F] 130 (0, 0)) := (hg.block _ (heap_lt h'.fn) (own_apart h'.own h'.fn (by decide))).trans h'.fn
  have q3 : w'.heap[gl]? = some (.cells X 30 (0, 0)) := (hg.block _ (heap_lt h'.leaf) (own_apart h'.own h'.leaf (by decide))).trans h'.leaf
  refine ⟨v', w', hr, q1, ⟨?_, ?_, one_setCell q1, ?_⟩, ?_⟩
  · rw [Below.heap_setCell _ _ _ _ (by simpa using hlk)]; exact q3
  · rw [Below.heap_setCell _ _ _ _ (by simpa using hfk)]; exact q2
  · exact ownsRow_setCell_other ho (own_apart ho q1 (by decide)).symm v'
  · refine ⟨hg.os, hg.tape, hg.output, ?_, fun j hj h1 h2 => ?_, ?_⟩
    · have := hg.size
      simp [World.setCell] at this ⊢
      omega
    · rw [Below.heap_setCell _ _ _ _ (by simpa using h1)]
      exact (hg.block j (by simp; omega) h2).trans (hb0.block j hj)
    · rcases hm with e | ⟨q, e, hq⟩
      · exact .inl e
      · exact .inr ⟨q, e, by simp at hq; omega⟩
end Go.Proofs.YtdnhnjimhbbababDoor

/- What check.leafMakes answers: what a leaf and a proof make, and the knots on the way; or it gives up. -/
namespace Go.Proofs.YtdnhnjimhbbababDoor
open Go.RowKit Sums
set_option maxRecDepth 100000
set_option linter.unusedVariables false
set_option linter.unusedSimpArgs false

attribute [local go_sem] store_func
set_option maxHeartbeats 4000000 in
/-- Down to the leaf, where the proof makes nothing: it gives up. -/
theorem down_no (r : List (List UInt8)) : ∀ (S I : Nat) (x : List UInt8) (a : Option Addr) (len cap gl gf gk : Nat) (w : World) (hS1 : 1 ≤ S) (hS : S ≤ 100000) (hI : I < S) (hR : LReads w a len cap r.reverse)
    (hF : w.heap[gf]? = some (.cells #[.func (.func 70) #[] #[.pointer (some ⟨gl, 0, none⟩), .pointer (some ⟨gf, 0, none⟩), .pointer (some ⟨gk, 0, none⟩)]] 130 (0, 0))) (hm : (mkR r S I x).2 = false),
    Calls Tryd.prog 70 #[.int .i64 S, .int .i64 I, .slice a len cap, .pointer (some ⟨gl, 0, none⟩), .pointer (some ⟨gf, 0, none⟩), .pointer (some ⟨gk, 0, none⟩)] w fun e w' => (∃ u p, e = .panicked [{ v := .iface u p, recovered := false }]) ∧ Below w.heap.size w w' := by
  induction r with
  | nil =>
    intro S I x a len cap gl gf gk w hS1 hS hI hR hF hm
    have hl : len = 0 := by have := hR.1; simpa using this.symm
    subst hl
    have h1 : S ≠ 1 := fun e => by subst e; simp [mkR] at hm
    obtain ⟨Z, HZ, HA, HS, H1, H32⟩ := noughts27
    have c1 : ((S : Int) == 1) = false := by rw [beq_eq_false_iff_ne]; omega
    have SP : Hid (∀ W, Calls Tryd.prog 68 #[.int .i64 (S : Int)] W fun e w' => e = .returned (.int .i64 (split S : Nat)) ∧ W = w') := fun W => by
      have := split_any (S : Int) W (by omega)
      rwa [Int.toNat_natCast] at this
    clear hm hF hR
    go_enter Tryd.func70, Tryd.ntmps70
    go_wp2_with (first
      | (show wpList _ _ _ ({ dst := some 9, op := _, type := _, pos := _, after := _, guard := _ } :: _) _ _; refine wpList_new_var rfl 30 rfl Z HA.out ?_; intro g9 w1 HM9; try simp only [Act.put, List.setIfInBounds_toArray, List.set_cons_zero, List.set_cons_succ])
      | fail)
    refine (SP.out _).mono ?_
    rintro e w2 ⟨rfl, rfl⟩
    go_wp2_with fail
    refine (cut_no _ _ _).mono ?_
    rintro e w3 ⟨⟨u, p, rfl⟩, hb3⟩
    exact ⟨rfl, ⟨_, _, rfl⟩, HM9.out.below.trans (hb3.mono HM9.out.below.size)⟩
  | cons d r ih =>
    intro S I x a len cap gl gf gk w hS1 hS hI hR hF hm
    obtain ⟨Z, HZ, HA, HS, H1, H32⟩ := noughts27
    obtain ⟨ZK, HZK, HAK, H32K⟩ := noughtsK
    have hlen : r.length + 1 = len := by have := hR.1; simpa using this
    obtain ⟨m, hmm⟩ : ∃ m, m = r.length := ⟨_, rfl⟩
    obtain rfl : len = m + 1 := by omega
    have hml := hR.2.2.2.1
    by_cases h1 : S = 1
    · subst h1
      have MU : Hid (∀ W, Calls Tryd.prog 71 #[.int .i64 0, .slice a (m + 1) cap] W fun e w' => (∃ u p, e = .panicked [{ v := .iface u p, recovered := false }]) ∧ w' = W) := fun W => must_no 0 a (m + 1) cap W (by omega) hml
      clear hm hF hR ih
      go_enter Tryd.func70, Tryd.ntmps70
      go_wp2_with (first
        | (show wpList _ _ _ ({ dst := some 9, op := _, type := _, pos := _, after := _, guard := _ } :: _) _ _; refine wpList_new_var rfl 30 rfl Z HA.out ?_; intro g9 w1 HM9; try simp only [Act.put, List.setIfInBounds_toArray, List.set_cons_zero, List.set_cons_succ])
        | fail)
      refine (MU.out _).mono ?_
      rintro e w2 ⟨⟨u, p, rfl⟩, rfl⟩
      exact ⟨rfl, ⟨_, _, rfl⟩, HM9.out.below⟩
    · have c1 : ((S : Int) == 1) = false := by rw [beq_eq_false_iff_ne]; omega
      obtain ⟨k, hk⟩ : ∃ k, k = split S := ⟨_, rfl⟩
      have hkl := split_lt S (by omega)
      have hkp := split_pos S (by omega)
      rw [← hk] at hkl hkp
      have SP : Hid (∀ W, Calls Tryd.prog 68 #[.int .i64 (S : Int)] W fun e w' => e = .returned (.int .i64 (k : Nat)) ∧ W = w') := fun W => by
        have := split_any (S : Int) W (by omega)
        rw [Int.toNat_natCast, ← hk] at this
        exact this
      obtain ⟨g, o, rfl, hgl⟩ := hR.at (by omega)
      have hRr : (d :: r).reverse = r.reverse ++ [d] := by simp
      have hd : d.length = 32 := hR.2.1 d (by simp)
      obtain ⟨D, HD, HSD, H1D, H32D⟩ := dig_row' d hd
      have HZD : Hid (Z.size = D.size) := by show _ = _; rw [H32.out, H32D.out]
      rw [hRr] at hR
      have CU : Hid (∀ W, Below w.heap.size w W → Calls Tryd.prog 72 #[.slice (some ⟨g, o, none⟩) (m + 1) cap] W fun e w' => e = .returned (.tuple #[.slice (some ⟨g, o, none⟩) m cap, .agg D]) ∧ Below W.heap.size W w') := fun W hb =>
        cut_ok g o m cap r.reverse d W (hR.keep hb) D HD
      have RR : ∀ W, Below w.heap.size w W → LReads W (some ⟨g, o, none⟩) m cap r.reverse := fun W hb => by
        have := (hR.keep hb).take m (by omega)
        rwa [List.take_left' (by simp [hmm])] at this
      have FN : Hid (∀ W, Below w.heap.size w W → W.cell? ⟨gf, 0, none⟩ = some (.func (.func 70) #[] #[.pointer (some ⟨gl, 0, none⟩), .pointer (some ⟨gf, 0, none⟩), .pointer (some ⟨gk, 0, none⟩)])) := fun W hb => cell_of_one ((hb.block _ (heap_lt hF)).trans hF)
      have FH : ∀ W, Below w.heap.size w W → W.heap[gf]? = some (.cells #[.func (.func 70) #[] #[.pointer (some ⟨gl, 0, none⟩), .pointer (some ⟨gf, 0, none⟩), .pointer (some ⟨gk, 0, none⟩)]] 130 (0, 0)) := fun W hb => (hb.block _ (heap_lt hF)).trans hF
      by_cases hik : I < k
      · -- the left part
        have hm1 : (mkR r k I x).2 = false := by rw [mkR_left d r S I x h1 (by rw [← hk]; exact hik), ← hk] at hm; exact hm
        have IH : Hid (∀ W, Below w.heap.size w W → Calls Tryd.prog 70 #[.int .i64 (k : Int), .int .i64 (I : Int), .slice (some ⟨g, o, none⟩) m cap, .pointer (some ⟨gl, 0, none⟩), .pointer (some ⟨gf, 0, none⟩), .pointer (some ⟨gk, 0, none⟩)] W fun e w' => (∃ u p, e = .panicked [{ v := .iface u p, recovered := false }]) ∧ Below W.heap.size W w') := fun W hb => ih k I x (some ⟨g, o, none⟩) m cap gl gf gk W hkp (by omega) hik (RR W hb) (FH W hb) hm1
        have hdl : (decide ((I : Int) < (k : Int))) = true := by rw [decide_eq_true_eq]; omega
        clear hm hm1 hF hR ih FH RR hk hmm hRr
        go_enter Tryd.func70, Tryd.ntmps70
        go_wp2_with (first
          | (show wpList _ _ _ ({ dst := some 9, op := _, type := _, pos := _, after := _, guard := _ } :: _) _ _; refine wpList_new_var rfl 30 rfl Z HA.out ?_; intro g9 w1 HM9; try simp only [Act.put, List.setIfInBounds_toArray, List.set_cons_zero, List.set_cons_succ])
          | fail)
        refine (SP.out _).mono ?_
        rintro e w2 ⟨rfl, rfl⟩
        go_wp2_with fail
        refine (CU.out _ HM9.out.below).mono ?_
        rintro e w3 ⟨rfl, hb3⟩
        have HB3 := hidk (HM9.out.below.trans (hb3.mono HM9.out.below.size))
        clear hb3 HM9 SP CU
        go_wp2_with (first
          | (show wpList _ _ _ ({ dst := some 12, op := _, type := _, pos := _, after := _, guard := _ } :: _) _ _; refine wpList_new_var rfl 30 rfl Z HA.out ?_; intro g12 w4 HM12; try simp only [Act.put, List.setIfInBounds_toArray, List.set_cons_zero, List.set_cons_succ])
          | (refine wpList_set_var rfl 30 (.tmp 12) (.tmp 25) rfl g12 D rfl rfl 30 Z HM12.out.row HSD.out HZD.out H1D.out ?_; intro w5 HW12; try simp only [Act.put, List.setIfInBounds_toArray, List.set_cons_zero, List.set_cons_succ])
          | (show wpList _ _ _ ({ dst := some 13, op := _, type := _, pos := _, after := _, guard := _ } :: _) _ _; refine wpList_new_var rfl 135 rfl ZK HAK.out ?_; intro g13 w6 HM13; try simp only [Act.put, List.setIfInBounds_toArray, List.set_cons_zero, List.set_cons_succ])
          | fail)
        have hg12 : w.heap.size ≤ g12 := by rw [HM12.out.new]; exact HB3.out.size
        have HB5 := hidk (HW12.out.below w.heap.size w (HB3.out.trans (HM12.out.below.mono HB3.out.size)) hg12)
        have HB6 := hidk (HB5.out.trans (HM13.out.below.mono HB5.out.size))
        have HR6 := hidk ((HM13.out.below.block _ (heap_lt HW12.out.row)).trans HW12.out.row)
        clear HM12 HW12 HM13 HB3 HB5
        refine wp_region_held_drew (S := (fun W => W.cell? ⟨gf, 0, none⟩ = some (.func (.func 70) #[] #[.pointer (some ⟨gl, 0, none⟩), .pointer (some ⟨gf, 0, none⟩), .pointer (some ⟨gk, 0, none⟩)]) ∧ W.heap[g12]? = some (.cells D 30 (0, 0)))) (by kernel_rfl) ⟨FN.out _ HB6.out.drew, HR6.out⟩ (fun hHeld => ?_)
        refine wpAnyH_take (i := 0) (oi := { dst := some 29, op := Op.load 130 (Operand.tmp 4), type := 130, pos := "check.go:101", after := #[], guard := none }) (v := .func (.func 70) #[] #[.pointer (some ⟨gl, 0, none⟩), .pointer (some ⟨gf, 0, none⟩), .pointer (some ⟨gk, 0, none⟩)]) rfl (by kernel_rfl) (by kernel_rfl) (by kernel_rfl) (fun _ _ _ h => h) (Or.inl ⟨by rfl, by intro W hSw; have h := hSw.1; go_simp⟩) hHeld ?_
        try simp only [Act.put, List.setIfInBounds_toArray, List.set_cons_zero, List.set_cons_succ]
        refine wpAnyH_take (i := 1) (oi := { dst := some 30, op := Op.move (Operand.tmp 10), type := 3, pos := "check.go:101", after := #[], guard := none }) (v := .int .i64 (k : Int)) rfl (by kernel_rfl) (by kernel_rfl) (by kernel_rfl) (fun _ _ _ h => h) (Or.inl ⟨by rfl, by intro W hSw; go_simp⟩) hHeld ?_
        try simp only [Act.put, List.setIfInBounds_toArray, List.set_cons_zero, List.set_cons_succ]
        refine wpAnyH_take (i := 2) (oi := { dst := some 31, op := Op.move (Operand.tmp 1), type := 3, pos := "check.go:101", after := #[], guard := none }) (v := .int .i64 (I : Int)) rfl (by kernel_rfl) (by kernel_rfl) (by kernel_rfl) (fun _ _ _ h => h) (Or.inl ⟨by rfl, by intro W hSw; go_simp⟩) hHeld ?_
        try simp only [Act.put, List.setIfInBounds_toArray, List.set_cons_zero, List.set_cons_succ]
        refine wpAnyH_take (i := 3) (oi := { dst := some 32, op := Op.move (Operand.tmp 11), type := 26, pos := "check.go:101", after := #[], guard := none }) (v := .slice (some ⟨g, o, none⟩) m cap) rfl (by kernel_rfl) (by kernel_rfl) (by kernel_rfl) (fun _ _ _ h => h) (Or.inl ⟨by rfl, by intro W hSw; go_simp⟩) hHeld ?_
        try simp only [Act.put, List.setIfInBounds_toArray, List.set_cons_zero, List.set_cons_succ]
        refine wpAnyH_take (i := 5) (oi := { dst := some 34, op := Op.load 30 (Operand.tmp 12), type := 30, pos := "check.go:101", after := #[], guard := none }) (v := .agg D) rfl (by kernel_rfl) (by kernel_rfl) (by kernel_rfl) (fun _ _ _ h => h) (yieldsIf_row (by rfl) 30 (.tmp 12) rfl g12 rfl 30 D (0, 0) _ (fun _ h => h.2) Tryd.underlying30 rfl HSD.out) hHeld ?_
        try simp only [Act.put, List.setIfInBounds_toArray, List.set_cons_zero, List.set_cons_succ]
        refine wpAnyH_ready (rs := [4]) (by kernel_rfl) (by simp) ?_
        refine (AllReadyH.cons (o := { dst := some 33, op := Op.call { callee := Callee.value (Operand.tmp 29), args := #[Operand.tmp 30, Operand.tmp 31, Operand.tmp 32], argTypes := #[3, 3, 26] }, type := 30, pos := "check.go:101", after := #[{ on := 0, ground := Ground.data }, { on := 1, ground := Ground.data }, { on := 2, ground := Ground.data }, { on := 3, ground := Ground.data }], guard := none }) rfl (fun K hK => ?_) AllReadyH.nil)
        go_simp
        refine (IH.out _ HB6.out.drew).mono ?_
        rintro e w7 ⟨⟨u, p, rfl⟩, hb7⟩
        exact ⟨rfl, ⟨_, _, rfl⟩, HB6.out.drew.trans (hb7.mono HB6.out.drew.size)⟩
      · -- the right part
        have hm1 : (mkR r (S - k) (I - k) x).2 = false := by rw [mkR_right d r S I x h1 (by rw [← hk]; exact hik), ← hk] at hm; exact hm
        have IH : Hid (∀ W, Below w.heap.size w W → Calls Tryd.prog 70 #[.int .i64 ((S : Int) - (k : Int)), .int .i64 ((I : Int) - (k : Int)), .slice (some ⟨g, o, none⟩) m cap, .pointer (some ⟨gl, 0, none⟩), .pointer (some ⟨gf, 0, none⟩), .pointer (some ⟨gk, 0, none⟩)] W fun e w' => (∃ u p, e = .panicked [{ v := .iface u p, recovered := false }]) ∧ Below W.heap.size W w') := fun W hb => by
          rw [show ((S : Int) - (k : Int)) = ((S - k : Nat) : Int) by omega, show ((I : Int) - (k : Int)) = ((I - k : Nat) : Int) by omega]
          exact ih (S - k) (I - k) x (some ⟨g, o, none⟩) m cap gl gf gk W (by omega) (by omega) (by omega) (RR W hb) (FH W hb) hm1
        have hdl : (decide ((I : Int) < (k : Int))) = false := by rw [decide_eq_false_iff_not]; omega
        have wr1 := wrap_int ((S : Int) - (k : Int)) (by omega) (by omega)
        have wr2 := wrap_int ((I : Int) - (k : Int)) (by omega) (by omega)
        clear hm hm1 hF hR ih FH RR hk hmm hRr
        go_enter Tryd.func70, Tryd.ntmps70
        go_wp2_with (first
          | (show wpList _ _ _ ({ dst := some 9, op := _, type := _, pos := _, after := _, guard := _ } :: _) _ _; refine wpList_new_var rfl 30 rfl Z HA.out ?_; intro g9 w1 HM9; try simp only [Act.put, List.setIfInBounds_toArray, List.set_cons_zero, List.set_cons_succ])
          | fail)
        refine (SP.out _).mono ?_
        rintro e w2 ⟨rfl, rfl⟩
        go_wp2_with fail
        refine (CU.out _ HM9.out.below).mono ?_
        rintro e w3 ⟨rfl, hb3⟩
        have HB3 := hidk (HM9.out.below.trans (hb3.mono HM9.out.below.size))
        clear hb3 HM9 SP CU
        go_wp2_with (first
          | (show wpList _ _ _ ({ dst := some 12, op := _, type := _, pos := _, after := _, guard := _ } :: _) _ _; refine wpList_new_var rfl 30 rfl Z HA.out ?_; intro g12 w4 HM12; try simp only [Act.put, List.setIfInBounds_toArray, List.set_cons_zero, List.set_cons_succ])
          | (refine wpList_set_var rfl 30 (.tmp 12) (.tmp 25) rfl g12 D rfl rfl 30 Z HM12.out.row HSD.out HZD.out H1D.out ?_; intro w5 HW12; try simp only [Act.put, List.setIfInBounds_toArray, List.set_cons_zero, List.set_cons_succ])
          | (show wpList _ _ _ ({ dst := some 13, op := _, type := _, pos := _, after := _, guard := _ } :: _) _ _; refine wpList_new_var rfl 135 rfl ZK HAK.out ?_; intro g13 w6 HM13; try simp only [Act.put, List.setIfInBounds_toArray, List.set_cons_zero, List.set_cons_succ])
          | fail)
        have hg12 : w.heap.size ≤ g12 := by rw [HM12.out.new]; exact HB3.out.size
        have HB5 := hidk (HW12.out.below w.heap.size w (HB3.out.trans (HM12.out.below.mono HB3.out.size)) hg12)
        have HB6 := hidk (HB5.out.trans (HM13.out.below.mono HB5.out.size))
        have HR6 := hidk ((HM13.out.below.block _ (heap_lt HW12.out.row)).trans HW12.out.row)
        clear HM12 HW12 HM13 HB3 HB5
        refine wp_region_held_drew (S := (fun W => W.cell? ⟨gf, 0, none⟩ = some (.func (.func 70) #[] #[.pointer (some ⟨gl, 0, none⟩), .pointer (some ⟨gf, 0, none⟩), .pointer (some ⟨gk, 0, none⟩)]) ∧ W.heap[g12]? = some (.cells D 30 (0, 0)))) (by kernel_rfl) ⟨FN.out _ HB6.out.drew, HR6.out⟩ (fun hHeld => ?_)
        refine wpAnyH_take (i := 0) (oi := { dst := some 36, op := Op.load 30 (Operand.tmp 12), type := 30, pos := "check.go:103", after := #[], guard := none }) (v := .agg D) rfl (by kernel_rfl) (by kernel_rfl) (by kernel_rfl) (fun _ _ _ h => h) (yieldsIf_row (by rfl) 30 (.tmp 12) rfl g12 rfl 30 D (0, 0) _ (fun _ h => h.2) Tryd.underlying30 rfl HSD.out) hHeld ?_
        try simp only [Act.put, List.setIfInBounds_toArray, List.set_cons_zero, List.set_cons_succ]
        refine wpAnyH_take (i := 1) (oi := { dst := some 37, op := Op.load 130 (Operand.tmp 4), type := 130, pos := "check.go:103", after := #[], guard := none }) (v := .func (.func 70) #[] #[.pointer (some ⟨gl, 0, none⟩), .pointer (some ⟨gf, 0, none⟩), .pointer (some ⟨gk, 0, none⟩)]) rfl (by kernel_rfl) (by kernel_rfl) (by kernel_rfl) (fun _ _ _ h => h) (Or.inl ⟨by rfl, by intro W hSw; have h := hSw.1; go_simp⟩) hHeld ?_
        try simp only [Act.put, List.setIfInBounds_toArray, List.set_cons_zero, List.set_cons_succ]
        refine wpAnyH_take (i := 2) (oi := { dst := some 38, op := Op.move (Operand.tmp 0), type := 3, pos := "check.go:103", after := #[], guard := none }) (v := .int .i64 (S : Int)) rfl (by kernel_rfl) (by kernel_rfl) (by kernel_rfl) (fun _ _ _ h => h) (Or.inl ⟨by rfl, by intro W hSw; go_simp⟩) hHeld ?_
        try simp only [Act.put, List.setIfInBounds_toArray, List.set_cons_zero, List.set_cons_succ]
        refine wpAnyH_take (i := 3) (oi := { dst := some 39, op := Op.move (Operand.tmp 10), type := 3, pos := "check.go:103", after := #[], guard := none }) (v := .int .i64 (k : Int)) rfl (by kernel_rfl) (by kernel_rfl) (by kernel_rfl) (fun _ _ _ h => h) (Or.inl ⟨by rfl, by intro W hSw; go_simp⟩) hHeld ?_
        try simp only [Act.put, List.setIfInBounds_toArray, List.set_cons_zero, List.set_cons_succ]
        refine wpAnyH_take (i := 4) (oi := { dst := some 40, op := Op.binOp BinOp.sub 3 (Operand.tmp 38) (Operand.tmp 39) 3, type := 3, pos := "check.go:103", after := #[{ on := 2, ground := Ground.data }, { on := 3, ground := Ground.data }], guard := none }) (v := .int .i64 ((S : Int) - (k : Int))) rfl (by kernel_rfl) (by kernel_rfl) (by kernel_rfl) (fun _ _ _ h => h) (Or.inl ⟨by rfl, by intro W hSw; go_simp⟩) hHeld ?_
        try simp only [Act.put, List.setIfInBounds_toArray, List.set_cons_zero, List.set_cons_succ]
        refine wpAnyH_take (i := 5) (oi := { dst := some 41, op := Op.move (Operand.tmp 1), type := 3, pos := "check.go:103", after := #[], guard := none }) (v := .int .i64 (I : Int)) rfl (by kernel_rfl) (by kernel_rfl) (by kernel_rfl) (fun _ _ _ h => h) (Or.inl ⟨by rfl, by intro W hSw; go_simp⟩) hHeld ?_
        try simp only [Act.put, List.setIfInBounds_toArray, List.set_cons_zero, List.set_cons_succ]
        refine wpAnyH_take (i := 6) (oi := { dst := some 42, op := Op.move (Operand.tmp 10), type := 3, pos := "check.go:103", after := #[], guard := none }) (v := .int .i64 (k : Int)) rfl (by kernel_rfl) (by kernel_rfl) (by kernel_rfl) (fun _ _ _ h => h) (Or.inl ⟨by rfl, by intro W hSw; go_simp⟩) hHeld ?_
        try simp only [Act.put, List.setIfInBounds_toArray, List.set_cons_zero, List.set_cons_succ]
        refine wpAnyH_take (i := 7) (oi := { dst := some 43, op := Op.binOp BinOp.sub 3 (Operand.tmp 41) (Operand.tmp 42) 3, type := 3, pos := "check.go:103", after := #[{ on := 5, ground := Ground.data }, { on := 6, ground := Ground.data }], guard := none }) (v := .int .i64 ((I : Int) - (k : Int))) rfl (by kernel_rfl) (by kernel_rfl) (by kernel_rfl) (fun _ _ _ h => h) (Or.inl ⟨by rfl, by intro W hSw; go_simp⟩) hHeld ?_
        try simp only [Act.put, List.setIfInBounds_toArray, List.set_cons_zero, List.set_cons_succ]
        refine wpAnyH_take (i := 8) (oi := { dst := some 44, op := Op.move (Operand.tmp 11), type := 26, pos := "check.go:103", after := #[], guard := none }) (v := .slice (some ⟨g, o, none⟩) m cap) rfl (by kernel_rfl) (by kernel_rfl) (by kernel_rfl) (fun _ _ _ h => h) (Or.inl ⟨by rfl, by intro W hSw; go_simp⟩) hHeld ?_
        try simp only [Act.put, List.setIfInBounds_toArray, List.set_cons_zero, List.set_cons_succ]
        refine wpAnyH_ready (rs := [9]) (by kernel_rfl) (by simp) ?_
        refine (AllReadyH.cons (o := { dst := some 45, op := Op.call { callee := Callee.value (Operand.tmp 37), args := #[Operand.tmp 40, Operand.tmp 43, Operand.tmp 44], argTypes := #[3, 3, 26] }, type := 30, pos := "check.go:103", after := #[{ on := 1, ground := Ground.data }, { on := 4, ground := Ground.data }, { on := 7, ground := Ground.data }, { on := 8, ground := Ground.data }], guard := none }) rfl (fun K hK => ?_) AllReadyH.nil)
        go_simp
        refine (IH.out _ HB6.out.drew).mono ?_
        rintro e w7 ⟨⟨u, p, rfl⟩, hb7⟩
        exact ⟨rfl, ⟨_, _, rfl⟩, HB6.out.drew.trans (hb7.mono HB6.out.drew.size)⟩
set_option maxHeartbeats 4000000 in
/-- Down to the leaf, where the proof makes something. -/
theorem down_ok (r : List (List UInt8)) : ∀ (S I : Nat) (x : List UInt8) (acc : List (List UInt8)) (a : Option Addr) (len cap B gl gf gk : Nat) (v : Value) (w : World) (X : Array Value) (HX : Hid (X = (cellsOf x).toArray)) (hx : x.length = 32) (hS1 : 1 ≤ S) (hS : S ≤ 100000) (hI : I < S) (hR : LReads w a len cap r.reverse)
    (hH : KH B gl gf gk X (.func (.func 70) #[] #[.pointer (some ⟨gl, 0, none⟩), .pointer (some ⟨gf, 0, none⟩), .pointer (some ⟨gk, 0, none⟩)]) v acc w) (hlk : gl ≠ gk) (hfk : gf ≠ gk) (hBk : B ≤ gk) (hBw : B ≤ w.heap.size) (hac : acc.length + r.length ≤ 1000) (hK : Table 0 w) (hKB : 0 < B) (hm : (mkR r S I x).2 = true)
    (M : Array Value) (HM : Hid (M = (cellsOf (mkR r S I x).1).toArray)),
    Calls Tryd.prog 70 #[.int .i64 S, .int .i64 I, .slice a len cap, .pointer (some ⟨gl, 0, none⟩), .pointer (some ⟨gf, 0, none⟩), .pointer (some ⟨gk, 0, none⟩)] w fun e w' => e = .returned (.agg M) ∧ ∃ v', KH B gl gf gk X (.func (.func 70) #[] #[.pointer (some ⟨gl, 0, none⟩), .pointer (some ⟨gf, 0, none⟩), .pointer (some ⟨gk, 0, none⟩)]) v' (acc ++ kn r S I x) w' ∧ Grew gk v v' w w' := by
  induction r with
  | nil =>
    intro S I x acc a len cap B gl gf gk v w X HX hx hS1 hS hI hR hH hlk hfk hBk hBw hac hK hKB hm M HM
    have hl : len = 0 := by have := hR.1; simpa using this.symm
    subst hl
    obtain rfl : S = 1 := by simpa [mkR] using hm
    obtain rfl : M = X := by rw [HM.out, HX.out]; rfl
    obtain ⟨Z, HZ, HA, HS, H1, H32⟩ := noughts27
    have HSX : Hid ((Tryd.prog.info? 30).map (·.size) = some M.size) := by show _ = _; rw [size23, HX.out]; simp [cellsOf_length, hx]
    have H1X : Hid (M.all (·.oneCell') = true) := by show _ = _; rw [HX.out]; exact cellsOf_all _
    have HZX : Hid (Z.size = M.size) := by show _ = _; rw [H32.out, HX.out]; simp [cellsOf_length, hx]
    have MU : Hid (∀ W, Calls Tryd.prog 71 #[.int .i64 0, .slice a 0 cap] W fun e w' => e = .returned (.tuple #[]) ∧ w' = W) := fun W => must_ok 0 a 0 cap W rfl (by unfold maxLen; omega)
    have HH := hidk hH
    have Hsz : Hid (gl < w.heap.size ∧ gf < w.heap.size ∧ gk < w.heap.size ∧ ∀ q, v.ownBlock = some q → q < w.heap.size) := ⟨heap_lt hH.leaf, heap_lt hH.fn, heap_lt hH.var, fun q e => (hH.own.lt q e).2⟩
    have HE : Hid (acc ++ kn [] 1 I x = acc) := by show _ = _; simp [kn]
    rw [HE.out]
    clear hm hH hR hK HM HE
    go_enter Tryd.func70, Tryd.ntmps70
    go_wp2_with (first
      | (show wpList _ _ _ ({ dst := some 9, op := _, type := _, pos := _, after := _, guard := _ } :: _) _ _; refine wpList_new_var rfl 30 rfl Z HA.out ?_; intro g9 w1 HM9; try simp only [Act.put, List.setIfInBounds_toArray, List.set_cons_zero, List.set_cons_succ])
      | fail)
    refine (MU.out _).mono ?_
    rintro e w2 ⟨rfl, rfl⟩
    have HL1 := hidk ((HM9.out.below.block _ Hsz.out.1).trans HH.out.leaf)
    go_wp2_with (first
      | (show wpList _ _ _ ({ dst := some 18, op := _, type := _, pos := _, after := _, guard := _ } :: _) _ _; refine wpList_load_row rfl 30 (.tmp 3) rfl gl rfl 30 M (0, 0) _ HL1.out Tryd.underlying30 rfl HSX.out ?_; try simp only [Act.put, List.setIfInBounds_toArray, List.set_cons_zero, List.set_cons_succ])
      | (refine wpList_set_var rfl 30 (.tmp 9) (.tmp 18) rfl g9 M rfl rfl 30 Z HM9.out.row HSX.out HZX.out H1X.out ?_; intro w3 HW9; try simp only [Act.put, List.setIfInBounds_toArray, List.set_cons_zero, List.set_cons_succ])
      | fail)
    have hn := HM9.out.new
    refine bodyPost_ret (v := .agg M) ?_ rfl ⟨rfl, v, (HH.out.keep HM9.out.below).wrote HW9.out (by have := Hsz.out.1; omega) (by have := Hsz.out.2.1; omega) (by have := Hsz.out.2.2.1; omega) (fun e => by have := Hsz.out.2.2.2 _ e.symm; omega), (Grew.of HM9.out.below).wrote HW9.out (by omega)⟩
    exact results_cell_row (p := 9) (ty := 30) rfl _ _ g9 30 M (0, 0) _ rfl HW9.out.row Tryd.underlying30 rfl HSX.out
  | cons d r ih =>
    intro S I x acc a len cap B gl gf gk v w X HX hx hS1 hS hI hR hH hlk hfk hBk hBw hac hK hKB hm M HM
    obtain ⟨Z, HZ, HA, HS, H1, H32⟩ := noughts27
    obtain ⟨ZK, HZK, HAK, H32K⟩ := noughtsK
    have hlen : r.length + 1 = len := by have := hR.1; simpa using this
    obtain ⟨m, hmm⟩ : ∃ m, m = r.length := ⟨_, rfl⟩
    obtain rfl : len = m + 1 := by omega
    have hml := hR.2.2.2.1
    have h1 : S ≠ 1 := fun e => by subst e; rw [mkR_one] at hm; cases hm
    have c1 : ((S : Int) == 1) = false := by rw [beq_eq_false_iff_ne]; omega
    obtain ⟨k, hk⟩ : ∃ k, k = split S := ⟨_, rfl⟩
    have hkl := split_lt S (by omega)
    have hkp := split_pos S (by omega)
    rw [← hk] at hkl hkp
    have SP : Hid (∀ W, Calls Tryd.prog 68 #[.int .i64 (S : Int)] W fun e w' => e = .returned (.int .i64 (k : Nat)) ∧ W = w') := fun W => by
      have := split_any (S : Int) W (by omega)
      rw [Int.toNat_natCast, ← hk] at this
      exact this
    obtain ⟨g, o, rfl, hgl⟩ := hR.at (by omega)
    have hRr : (d :: r).reverse = r.reverse ++ [d] := by simp
    have hd : d.length = 32 := hR.2.1 d (by simp)
    obtain ⟨D, HD, HSD, H1D, H32D⟩ := dig_row' d hd
    have HZD : Hid (Z.size = D.size) := by show _ = _; rw [H32.out, H32D.out]
    rw [hRr] at hR
    have CU : Hid (∀ W, Below w.heap.size w W → Calls Tryd.prog 72 #[.slice (some ⟨g, o, none⟩) (m + 1) cap] W fun e w' => e = .returned (.tuple #[.slice (some ⟨g, o, none⟩) m cap, .agg D]) ∧ Below W.heap.size W w') := fun W hb =>
      cut_ok g o m cap r.reverse d W (hR.keep hb) D HD
    have RR : ∀ W, Below w.heap.size w W → LReads W (some ⟨g, o, none⟩) m cap r.reverse := fun W hb => by
      have := (hR.keep hb).take m (by omega)
      rwa [List.take_left' (by simp [hmm])] at this
    have hac' : acc.length + r.length ≤ 1000 := by simp only [List.length_cons] at hac; omega
    have HH := hidk hH
    have Hsz : Hid (gl < w.heap.size ∧ gf < w.heap.size ∧ gk < w.heap.size ∧ ∀ q, v.ownBlock = some q → B ≤ q ∧ q < w.heap.size) := ⟨heap_lt hH.leaf, heap_lt hH.fn, heap_lt hH.var, fun q e => hH.own.lt q e⟩
    have HSF : Hid ((Tryd.prog.info? 30).map (·.size) = some M.size) := by show _ = _; rw [size23, HM.out]; simp [cellsOf_length, mkR_length sumD_length _ _ _ _ hx]
    have H1F : Hid (M.all (·.oneCell') = true) := by show _ = _; rw [HM.out]; exact cellsOf_all _
    have HZF : Hid (Z.size = M.size) := by show _ = _; rw [H32.out, HM.out]; simp [cellsOf_length, mkR_length sumD_length _ _ _ _ hx]
    by_cases hik : I < k
    · -- the left part
      have hE : mkR (d :: r) S I x = (knotD (mkR r k I x).1 d, (mkR r k I x).2) := by rw [mkR_left d r S I x h1 (by rw [← hk]; exact hik), ← hk]
      have hKE : kn (d :: r) S I x = kn r k I x ++ [(mkR r k I x).1 ++ d] := by rw [kn_left d r S I x (by rw [← hk]; exact hik), ← hk]
      rw [hE] at hm HM
      have hml1 : (mkR r k I x).1.length = 32 := mkR_length sumD_length _ _ _ _ hx
      obtain ⟨M1, HM1, HSM1, H1M1, H32M1⟩ := dig_row' (mkR r k I x).1 hml1
      have hk64 : ((mkR r k I x).1 ++ d).length = 64 := by rw [List.length_append, hml1, hd]
      obtain ⟨KK, HKK, HSK, H1K, H64K⟩ := knot_row ((mkR r k I x).1 ++ d) hk64
      have HZKK : Hid (ZK.size = KK.size) := by show _ = _; rw [H32K.out, H64K.out]
      have BK : Hid (∀ W, (Instr.build 135 #[(0, .agg M1), (1, .agg D)]).run Tryd.prog W = .ok (.agg KK) W) := fun W => build_knot W M1 D KK H32M1.out H32D.out (by rw [HKK.out, HM1.out, HD.out]; simp [cellsOf_append])
      have SU : Hid (∀ W, Below B w W → Calls Tryd.prog 73 #[.agg KK] W fun e w' => e = .returned (.agg M) ∧ Below W.heap.size W w') := fun W hb => sum_any (mkR r k I x).1 d hml1 hd W (table_low hK hb hKB) KK HKK M HM
      have IH : Hid (∀ W, Below w.heap.size w W → Calls Tryd.prog 70 #[.int .i64 (k : Int), .int .i64 (I : Int), .slice (some ⟨g, o, none⟩) m cap, .pointer (some ⟨gl, 0, none⟩), .pointer (some ⟨gf, 0, none⟩), .pointer (some ⟨gk, 0, none⟩)] W fun e w' => e = .returned (.agg M1) ∧ ∃ v', KH B gl gf gk X (.func (.func 70) #[] #[.pointer (some ⟨gl, 0, none⟩), .pointer (some ⟨gf, 0, none⟩), .pointer (some ⟨gk, 0, none⟩)]) v' (acc ++ kn r k I x) w' ∧ Grew gk v v' W w') := fun W hb => ih k I x acc (some ⟨g, o, none⟩) m cap B gl gf gk v W X HX hx (by omega) (by omega) (by omega) (RR W hb) (hH.keep hb) hlk hfk hBk (Nat.le_trans hBw hb.size) hac' (hK.keep hb) hKB hm M1 HM1
      have hdl : (decide ((I : Int) < (k : Int))) = true := by rw [decide_eq_true_eq]; omega
      have HE : Hid (acc ++ kn (d :: r) S I x = (acc ++ kn r k I x) ++ [(mkR r k I x).1 ++ d]) := by show _ = _; rw [hKE, List.append_assoc]
      have hsh : (acc ++ kn r k I x).length + 1 ≤ 1000000 := by rw [List.length_append, kn_length]; omega
      rw [HE.out]
      obtain ⟨acc2, HA2⟩ : ∃ y, Hid (y = acc ++ kn r k I x) := ⟨_, (rfl : acc ++ kn r k I x = _)⟩
      rw [← HA2.out] at hsh IH ⊢
      obtain ⟨kt, HKT⟩ : ∃ y, Hid (y = (mkR r k I x).1 ++ d) := ⟨_, (rfl : (mkR r k I x).1 ++ d = _)⟩
      rw [← HKT.out] at HKK hk64 ⊢
      have FN : Hid (∀ W, Below w.heap.size w W → W.cell? ⟨gf, 0, none⟩ = some (.func (.func 70) #[] #[.pointer (some ⟨gl, 0, none⟩), .pointer (some ⟨gf, 0, none⟩), .pointer (some ⟨gk, 0, none⟩)])) := fun W hb => cell_of_one ((hb.block _ (heap_lt hH.fn)).trans hH.fn)
      clear hm HM hE hKE hH hR hK ih RR hk hmm hRr HE HA2 HKT HM1 HD hml1 hac hac'
      go_enter Tryd.func70, Tryd.ntmps70
      go_wp2_with (first
        | (show wpList _ _ _ ({ dst := some 9, op := _, type := _, pos := _, after := _, guard := _ } :: _) _ _; refine wpList_new_var rfl 30 rfl Z HA.out ?_; intro g9 wa HM9; try simp only [Act.put, List.setIfInBounds_toArray, List.set_cons_zero, List.set_cons_succ])
        | fail)
      refine (SP.out _).mono ?_
      rintro e wb ⟨rfl, rfl⟩
      go_wp2_with fail
      refine (CU.out _ HM9.out.below).mono ?_
      rintro e wc ⟨rfl, hb3⟩
      have HB3 := hidk (HM9.out.below.trans (hb3.mono HM9.out.below.size))
      have HR9 := hidk ((hb3.block _ (heap_lt HM9.out.row)).trans HM9.out.row)
      have hg9 : w.heap.size = g9 := HM9.out.new.symm
      clear hb3 SP CU
      go_wp2_with (first
        | (show wpList _ _ _ ({ dst := some 12, op := _, type := _, pos := _, after := _, guard := _ } :: _) _ _; refine wpList_new_var rfl 30 rfl Z HA.out ?_; intro g12 wd HM12; try simp only [Act.put, List.setIfInBounds_toArray, List.set_cons_zero, List.set_cons_succ])
        | (refine wpList_set_var rfl 30 (.tmp 12) (.tmp 25) rfl g12 D rfl rfl 30 Z HM12.out.row HSD.out HZD.out H1D.out ?_; intro we HW12; try simp only [Act.put, List.setIfInBounds_toArray, List.set_cons_zero, List.set_cons_succ])
        | (show wpList _ _ _ ({ dst := some 13, op := _, type := _, pos := _, after := _, guard := _ } :: _) _ _; refine wpList_new_var rfl 135 rfl ZK HAK.out ?_; intro g13 wf HM13; try simp only [Act.put, List.setIfInBounds_toArray, List.set_cons_zero, List.set_cons_succ])
        | fail)
      have hg12 : g9 < g12 := by rw [HM12.out.new]; exact heap_lt HR9.out
      have hg13 : g12 < g13 := by rw [HM13.out.new]; exact heap_lt HW12.out.row
      have HB5 := hidk (HW12.out.below w.heap.size w (HB3.out.trans (HM12.out.below.mono HB3.out.size)) (by omega))
      have HB6 := hidk (HB5.out.trans (HM13.out.below.mono HB5.out.size))
      have HR6 := hidk ((HM13.out.below.block _ (heap_lt HW12.out.row)).trans HW12.out.row)
      have HR5 := hidk ((HW12.out.other g9 (by omega)).trans ((HM12.out.below.block _ (heap_lt HR9.out)).trans HR9.out))
      have HR69 := hidk ((HM13.out.below.block _ (heap_lt HR5.out)).trans HR5.out)
      have HR13 := hidk HM13.out.row
      have h13 : g13 < wf.heap.size := heap_lt HR13.out
      clear HM12 HW12 HM13 HB3 HB5 HR9 HR5 HM9
      refine wp_region_held_drew (S := (fun W => W.cell? ⟨gf, 0, none⟩ = some (.func (.func 70) #[] #[.pointer (some ⟨gl, 0, none⟩), .pointer (some ⟨gf, 0, none⟩), .pointer (some ⟨gk, 0, none⟩)]) ∧ W.heap[g12]? = some (.cells D 30 (0, 0)))) (by kernel_rfl) ⟨FN.out _ HB6.out.drew, HR6.out⟩ (fun hHeld => ?_)
      refine wpAnyH_take (i := 0) (oi := { dst := some 29, op := Op.load 130 (Operand.tmp 4), type := 130, pos := "check.go:101", after := #[], guard := none }) (v := .func (.func 70) #[] #[.pointer (some ⟨gl, 0, none⟩), .pointer (some ⟨gf, 0, none⟩), .pointer (some ⟨gk, 0, none⟩)]) rfl (by kernel_rfl) (by kernel_rfl) (by kernel_rfl) (fun _ _ _ h => h) (Or.inl ⟨by rfl, by intro W hSw; have h := hSw.1; go_simp⟩) hHeld ?_
      try simp only [Act.put, List.setIfInBounds_toArray, List.set_cons_zero, List.set_cons_succ]
      refine wpAnyH_take (i := 1) (oi := { dst := some 30, op := Op.move (Operand.tmp 10), type := 3, pos := "check.go:101", after := #[], guard := none }) (v := .int .i64 (k : Int)) rfl (by kernel_rfl) (by kernel_rfl) (by kernel_rfl) (fun _ _ _ h => h) (Or.inl ⟨by rfl, by intro W hSw; go_simp⟩) hHeld ?_
      try simp only [Act.put, List.setIfInBounds_toArray, List.set_cons_zero, List.set_cons_succ]
      refine wpAnyH_take (i := 2) (oi := { dst := some 31, op := Op.move (Operand.tmp 1), type := 3, pos := "check.go:101", after := #[], guard := none }) (v := .int .i64 (I : Int)) rfl (by kernel_rfl) (by kernel_rfl) (by kernel_rfl) (fun _ _ _ h => h) (Or.inl ⟨by rfl, by intro W hSw; go_simp⟩) hHeld ?_
      try simp only [Act.put, List.setIfInBounds_toArray, List.set_cons_zero, List.set_cons_succ]
      refine wpAnyH_take (i := 3) (oi := { dst := some 32, op := Op.move (Operand.tmp 11), type := 26, pos := "check.go:101", after := #[], guard := none }) (v := .slice (some ⟨g, o, none⟩) m cap) rfl (by kernel_rfl) (by kernel_rfl) (by kernel_rfl) (fun _ _ _ h => h) (Or.inl ⟨by rfl, by intro W hSw; go_simp⟩) hHeld ?_
      try simp only [Act.put, List.setIfInBounds_toArray, List.set_cons_zero, List.set_cons_succ]
      refine wpAnyH_take (i := 5) (oi := { dst := some 34, op := Op.load 30 (Operand.tmp 12), type := 30, pos := "check.go:101", after := #[], guard := none }) (v := .agg D) rfl (by kernel_rfl) (by kernel_rfl) (by kernel_rfl) (fun _ _ _ h => h) (yieldsIf_row (by rfl) 30 (.tmp 12) rfl g12 rfl 30 D (0, 0) _ (fun _ h => h.2) Tryd.underlying30 rfl HSD.out) hHeld ?_
      try simp only [Act.put, List.setIfInBounds_toArray, List.set_cons_zero, List.set_cons_succ]
      refine wpAnyH_ready (rs := [4]) (by kernel_rfl) (by simp) ?_
      refine (AllReadyH.cons (o := { dst := some 33, op := Op.call { callee := Callee.value (Operand.tmp 29), args := #[Operand.tmp 30, Operand.tmp 31, Operand.tmp 32], argTypes := #[3, 3, 26] }, type := 30, pos := "check.go:101", after := #[{ on := 0, ground := Ground.data }, { on := 1, ground := Ground.data }, { on := 2, ground := Ground.data }, { on := 3, ground := Ground.data }], guard := none }) rfl (fun K hK => ?_) AllReadyH.nil)
      go_simp
      refine (IH.out _ HB6.out.drew).mono ?_
      rintro e w4 ⟨rfl, v7, hH7, hG7⟩
      have hKP : ∀ y, w.heap.size ≤ y → y < wf.heap.size → w4.heap[y]? = wf.heap[y]? := fun y h1 h2 => hG7.block y h2 (by have := Hsz.out.2.2.1; omega) (fun e => by have := (Hsz.out.2.2.2 y e.symm).2; omega)
      have HNV : Hid (∀ y, w.heap.size ≤ y → y < wf.heap.size → some y ≠ v7.ownBlock) := fun y h1 h2 => hG7.new h2 (fun e => by have := (Hsz.out.2.2.2 y e.symm).2; omega)
      have HGX := hidk (Grew.trans (Grew.of HB6.out.drew) hG7)
      have HH7 := hidk hH7
      have HR97 := hidk ((hKP g9 (by omega) (by omega)).trans HR69.out)
      have HR127 := hidk ((hKP g12 (by omega) (by omega)).trans HR6.out)
      have HR137 := hidk ((hKP g13 (by omega) (by omega)).trans HR13.out)
      clear hG7 hH7 hKP
      go_wp2_with fail
      refine hK.out _ _ ⟨cell_of_one HH7.out.fn, HR127.out⟩ (fun hHeld => ?_)
      clear hK K
      try simp only [Act.put, List.setIfInBounds_toArray, List.set_cons_zero, List.set_cons_succ]
      refine wpAnyH_take (i := 6) (oi := { dst := some 35, op := Op.build 135 #[(0, Operand.tmp 33), (1, Operand.tmp 34)], type := 135, pos := "check.go:101", after := #[{ on := 4, ground := Ground.data }, { on := 5, ground := Ground.data }], guard := none }) (v := .agg KK) rfl (by kernel_rfl) (by kernel_rfl) (by kernel_rfl) (fun _ _ _ h => h) (yieldsIf_build (by rfl) 135 _ rfl #[(0, .agg M1), (1, .agg D)] rfl (.agg KK) BK.out) hHeld ?_
      try simp only [Act.put, List.setIfInBounds_toArray, List.set_cons_zero, List.set_cons_succ]
      refine wpAnyH_ready (rs := [7]) (by kernel_rfl) (by simp) ?_
      refine (AllReadyH.cons (o := { dst := none, op := Op.store 135 (Operand.tmp 13) (Operand.tmp 35), type := 0, pos := "check.go:101", after := #[{ on := 6, ground := Ground.data }, { on := 4, ground := Ground.chain }, { on := 0, ground := Ground.phase }, { on := 1, ground := Ground.phase }, { on := 2, ground := Ground.phase }, { on := 3, ground := Ground.phase }, { on := 4, ground := Ground.phase }, { on := 5, ground := Ground.phase }, { on := 6, ground := Ground.phase }], guard := none }) rfl (fun K hK => ?_) AllReadyH.nil)
      refine step_set_var (by rfl) 135 (.tmp 13) (.tmp 35) rfl g13 KK rfl rfl 135 ZK HR137.out HSK.out HZKK.out H1K.out ?_
      intro w8 HW13
      have HH8 := hidk (HH7.out.wrote HW13.out (by have := Hsz.out.1; omega) (by have := Hsz.out.2.1; omega) (by have := Hsz.out.2.2.1; omega) (HNV.out g13 (by omega) h13))
      refine hK.out _ _ ⟨cell_of_one HH8.out.fn, (HW13.out.other g12 (by omega)).trans hHeld.2⟩ (fun hHeld => ?_)
      clear hK K
      try simp only [Act.put, List.setIfInBounds_toArray, List.set_cons_zero, List.set_cons_succ]
      refine wpAnyH_done (by kernel_rfl) ?_ _
      have HG8 := hidk ((HGX.out.wrote HW13.out (by omega)))
      have hB8 : B ≤ w8.heap.size := Nat.le_trans hBw HG8.out.size
      obtain ⟨v9, w9, hrun, q1, hH9, hG9⟩ := HH8.out.append hlk hfk hB8 hsh kt hk64 KK HKK
      obtain ⟨gn, cn, hv9⟩ := own_form hH9.own (by simp)
      simp only [List.length_append, List.length_cons, List.length_nil, Nat.zero_add] at hv9
      subst hv9
      have HH9 := hidk hH9
      have HG9 := hidk (HG8.out.trans hG9)
      have HL13 := hidk HW13.out.row
      have h8 : g13 < w8.heap.size := heap_lt HL13.out
      have H13b := hidk ((hG9.block g13 h8 (by have := Hsz.out.2.2.1; omega) (HNV.out g13 (by omega) h13)).trans HW13.out.row)
      have H9b := hidk ((hG9.block g9 (by omega) (by have := Hsz.out.2.2.1; omega) (HNV.out g9 (by omega) (by omega))).trans ((HW13.out.other g9 (by omega)).trans HR97.out))
      have hc8 := cell_of_one HH8.out.var
      have hc9 := cell_of_one q1
      have hf9 := free_of_one q1
      have HBB := hidk (HG9.out.below hBw hBk (fun q e => (Hsz.out.2.2.2 q e).1))
      clear hHeld hH9 hG9 HW13 HH8 HG8 q1 HGX HR97 IH BK FN
      go_wp2_with (first
        | (show wpList _ _ _ ({ dst := some 48, op := _, type := _, pos := _, after := _, guard := _ } :: _) _ _; refine wpList_load_row rfl 135 (.tmp 13) rfl g13 rfl 135 KK (0, 0) _ HL13.out Tryd.underlying135 rfl HSK.out ?_; try simp only [Act.put, List.setIfInBounds_toArray, List.set_cons_zero, List.set_cons_succ])
        | (show wpList _ _ _ ({ dst := some 49, op := _, type := _, pos := _, after := _, guard := _ } :: _) _ _; refine wpList_build_run rfl 91 1 _ rfl #[(0, .agg KK)] rfl _ _ (build_oneK _ kt hk64 KK HKK) ?_; try simp only [Act.put, List.setIfInBounds_toArray, List.set_cons_zero, List.set_cons_succ])
        | (show wpList _ _ _ ({ dst := some 50, op := _, type := _, pos := _, after := _, guard := _ } :: _) _ _; refine wpList_append_run rfl (.tmp 47) (.tmp 49) 91 91 rfl v7 _ _ w9 rfl rfl hrun ?_; try simp only [Act.put, List.setIfInBounds_toArray, List.set_cons_zero, List.set_cons_succ])
        | (show wpList _ _ _ ({ dst := some 51, op := _, type := _, pos := _, after := _, guard := _ } :: _) _ _; refine wpList_load_row rfl 135 (.tmp 13) rfl g13 rfl 135 KK (0, 0) _ H13b.out Tryd.underlying135 rfl HSK.out ?_; try simp only [Act.put, List.setIfInBounds_toArray, List.set_cons_zero, List.set_cons_succ])
        | fail)
      refine (SU.out _ HBB.out).mono ?_
      rintro e wx ⟨rfl, hbx⟩
      have H9x := hidk ((hbx.block _ (heap_lt H9b.out)).trans H9b.out)
      clear hc8 hc9 hf9 hrun
      go_wp2_with (first
        | (refine wpList_set_var rfl 30 (.tmp 9) (.tmp 52) rfl g9 M rfl rfl 30 Z H9x.out HSF.out HZF.out H1F.out ?_; intro wy HW9; try simp only [Act.put, List.setIfInBounds_toArray, List.set_cons_zero, List.set_cons_succ])
        | fail)
      refine bodyPost_ret (v := .agg M) ?_ rfl ⟨rfl, .slice (some ⟨gn, 0, none⟩) (acc2.length + 1) cn, (HH9.out.keep hbx).wrote HW9.out (by have := Hsz.out.1; omega) (by have := Hsz.out.2.1; omega) (by have := Hsz.out.2.2.1; omega) ?_, (HG9.out.trans (Grew.of hbx)).wrote HW9.out (by omega)⟩
      · exact results_cell_row (p := 9) (ty := 30) rfl _ _ g9 30 M (0, 0) _ rfl HW9.out.row Tryd.underlying30 rfl HSF.out
      · exact own_apart (HH9.out.keep hbx).own H9x.out (by decide)
    · -- the right part
      have hE : mkR (d :: r) S I x = (knotD d (mkR r (S - k) (I - k) x).1, (mkR r (S - k) (I - k) x).2) := by rw [mkR_right d r S I x h1 (by rw [← hk]; exact hik), ← hk]
      have hKE : kn (d :: r) S I x = kn r (S - k) (I - k) x ++ [d ++ (mkR r (S - k) (I - k) x).1] := by rw [kn_right d r S I x (by rw [← hk]; exact hik), ← hk]
      rw [hE] at hm HM
      have hml1 : (mkR r (S - k) (I - k) x).1.length = 32 := mkR_length sumD_length _ _ _ _ hx
      obtain ⟨M1, HM1, HSM1, H1M1, H32M1⟩ := dig_row' (mkR r (S - k) (I - k) x).1 hml1
      have hk64 : (d ++ (mkR r (S - k) (I - k) x).1).length = 64 := by rw [List.length_append, hml1, hd]
      obtain ⟨KK, HKK, HSK, H1K, H64K⟩ := knot_row (d ++ (mkR r (S - k) (I - k) x).1) hk64
      have HZKK : Hid (ZK.size = KK.size) := by show _ = _; rw [H32K.out, H64K.out]
      have BK : Hid (∀ W, (Instr.build 135 #[(0, .agg D), (1, .agg M1)]).run Tryd.prog W = .ok (.agg KK) W) := fun W => build_knot W D M1 KK H32D.out H32M1.out (by rw [HKK.out, HM1.out, HD.out]; simp [cellsOf_append])
      have SU : Hid (∀ W, Below B w W → Calls Tryd.prog 73 #[.agg KK] W fun e w' => e = .returned (.agg M) ∧ Below W.heap.size W w') := fun W hb => sum_any d (mkR r (S - k) (I - k) x).1 hd hml1 W (table_low hK hb hKB) KK HKK M HM
      have IH : Hid (∀ W, Below w.heap.size w W → Calls Tryd.prog 70 #[.int .i64 ((S : Int) - (k : Int)), .int .i64 ((I : Int) - (k : Int)), .slice (some ⟨g, o, none⟩) m cap, .pointer (some ⟨gl, 0, none⟩), .pointer (some ⟨gf, 0, none⟩), .pointer (some ⟨gk, 0, none⟩)] W fun e w' => e = .returned (.agg M1) ∧ ∃ v', KH B gl gf gk X (.func (.func 70) #[] #[.pointer (some ⟨gl, 0, none⟩), .pointer (some ⟨gf, 0, none⟩), .pointer (some ⟨gk, 0, none⟩)]) v' (acc ++ kn r (S - k) (I - k) x) w' ∧ Grew gk v v' W w') := fun W hb => by
        rw [show ((S : Int) - (k : Int)) = ((S - k : Nat) : Int) by omega, show ((I : Int) - (k : Int)) = ((I - k : Nat) : Int) by omega]
        exact ih (S - k) (I - k) x acc (some ⟨g, o, none⟩) m cap B gl gf gk v W X HX hx (by omega) (by omega) (by omega) (RR W hb) (hH.keep hb) hlk hfk hBk (Nat.le_trans hBw hb.size) hac' (hK.keep hb) hKB hm M1 HM1
      have hdl : (decide ((I : Int) < (k : Int))) = false := by rw [decide_eq_false_iff_not]; omega
      have wr1 := wrap_int ((S : Int) - (k : Int)) (by omega) (by omega)
      have wr2 := wrap_int ((I : Int) - (k : Int)) (by omega) (by omega)
      have HE : Hid (acc ++ kn (d :: r) S I x = (acc ++ kn r (S - k) (I - k) x) ++ [d ++ (mkR r (S - k) (I - k) x).1]) := by show _ = _; rw [hKE, List.append_assoc]
      have hsh : (acc ++ kn r (S - k) (I - k) x).length + 1 ≤ 1000000 := by rw [List.length_append, kn_length]; omega
      rw [HE.out]
      obtain ⟨acc2, HA2⟩ : ∃ y, Hid (y = acc ++ kn r (S - k) (I - k) x) := ⟨_, (rfl : acc ++ kn r (S - k) (I - k) x = _)⟩
      rw [← HA2.out] at hsh IH ⊢
      obtain ⟨kt, HKT⟩ : ∃ y, Hid (y = d ++ (mkR r (S - k) (I - k) x).1) := ⟨_, (rfl : d ++ (mkR r (S - k) (I - k) x).1 = _)⟩
      rw [← HKT.out] at HKK hk64 ⊢
      have FN : Hid (∀ W, Below w.heap.size w W → W.cell? ⟨gf, 0, none⟩ = some (.func (.func 70) #[] #[.pointer (some ⟨gl, 0, none⟩), .pointer (some ⟨gf, 0, none⟩), .pointer (some ⟨gk, 0, none⟩)])) := fun W hb => cell_of_one ((hb.block _ (heap_lt hH.fn)).trans hH.fn)
      clear hm HM hE hKE hH hR hK ih RR hk hmm hRr HE HA2 HKT HM1 HD hml1 hac hac'
      go_enter Tryd.func70, Tryd.ntmps70
      go_wp2_with (first
        | (show wpList _ _ _ ({ dst := some 9, op := _, type := _, pos := _, after := _, guard := _ } :: _) _ _; refine wpList_new_var rfl 30 rfl Z HA.out ?_; intro g9 wa HM9; try simp only [Act.put, List.setIfInBounds_toArray, List.set_cons_zero, List.set_cons_succ])
        | fail)
      refine (SP.out _).mono ?_
      rintro e wb ⟨rfl, rfl⟩
      go_wp2_with fail
      refine (CU.out _ HM9.out.below).mono ?_
      rintro e wc ⟨rfl, hb3⟩
      have HB3 := hidk (HM9.out.below.trans (hb3.mono HM9.out.below.size))
      have HR9 := hidk ((hb3.block _ (heap_lt HM9.out.row)).trans HM9.out.row)
      have hg9 : w.heap.size = g9 := HM9.out.new.symm
      clear hb3 SP CU
      go_wp2_with (first
        | (show wpList _ _ _ ({ dst := some 12, op := _, type := _, pos := _, after := _, guard := _ } :: _) _ _; refine wpList_new_var rfl 30 rfl Z HA.out ?_; intro g12 wd HM12; try simp only [Act.put, List.setIfInBounds_toArray, List.set_cons_zero, List.set_cons_succ])
        | (refine wpList_set_var rfl 30 (.tmp 12) (.tmp 25) rfl g12 D rfl rfl 30 Z HM12.out.row HSD.out HZD.out H1D.out ?_; intro we HW12; try simp only [Act.put, List.setIfInBounds_toArray, List.set_cons_zero, List.set_cons_succ])
        | (show wpList _ _ _ ({ dst := some 13, op := _, type := _, pos := _, after := _, guard := _ } :: _) _ _; refine wpList_new_var rfl 135 rfl ZK HAK.out ?_; intro g13 wf HM13; try simp only [Act.put, List.setIfInBounds_toArray, List.set_cons_zero, List.set_cons_succ])
        | fail)
      have hg12 : g9 < g12 := by rw [HM12.out.new]; exact heap_lt HR9.out
      have hg13 : g12 < g13 := by rw [HM13.out.new]; exact heap_lt HW12.out.row
      have HB5 := hidk (HW12.out.below w.heap.size w (HB3.out.trans (HM12.out.below.mono HB3.out.size)) (by omega))
      have HB6 := hidk (HB5.out.trans (HM13.out.below.mono HB5.out.size))
      have HR6 := hidk ((HM13.out.below.block _ (heap_lt HW12.out.row)).trans HW12.out.row)
      have HR5 := hidk ((HW12.out.other g9 (by omega)).trans ((HM12.out.below.block _ (heap_lt HR9.out)).trans HR9.out))
      have HR69 := hidk ((HM13.out.below.block _ (heap_lt HR5.out)).trans HR5.out)
      have HR13 := hidk HM13.out.row
      have h13 : g13 < wf.heap.size := heap_lt HR13.out
      clear HM12 HW12 HM13 HB3 HB5 HR9 HR5 HM9
      refine wp_region_held_drew (S := (fun W => W.cell? ⟨gf, 0, none⟩ = some (.func (.func 70) #[] #[.pointer (some ⟨gl, 0, none⟩), .pointer (some ⟨gf, 0, none⟩), .pointer (some ⟨gk, 0, none⟩)]) ∧ W.heap[g12]? = some (.cells D 30 (0, 0)))) (by kernel_rfl) ⟨FN.out _ HB6.out.drew, HR6.out⟩ (fun hHeld => ?_)
      refine wpAnyH_take (i := 0) (oi := { dst := some 36, op := Op.load 30 (Operand.tmp 12), type := 30, pos := "check.go:103", after := #[], guard := none }) (v := .agg D) rfl (by kernel_rfl) (by kernel_rfl) (by kernel_rfl) (fun _ _ _ h => h) (yieldsIf_row (by rfl) 30 (.tmp 12) rfl g12 rfl 30 D (0, 0) _ (fun _ h => h.2) Tryd.underlying30 rfl HSD.out) hHeld ?_
      try simp only [Act.put, List.setIfInBounds_toArray, List.set_cons_zero, List.set_cons_succ]
      refine wpAnyH_take (i := 1) (oi := { dst := some 37, op := Op.load 130 (Operand.tmp 4), type := 130, pos := "check.go:103", after := #[], guard := none }) (v := .func (.func 70) #[] #[.pointer (some ⟨gl, 0, none⟩), .pointer (some ⟨gf, 0, none⟩), .pointer (some ⟨gk, 0, none⟩)]) rfl (by kernel_rfl) (by kernel_rfl) (by kernel_rfl) (fun _ _ _ h => h) (Or.inl ⟨by rfl, by intro W hSw; have h := hSw.1; go_simp⟩) hHeld ?_
      try simp only [Act.put, List.setIfInBounds_toArray, List.set_cons_zero, List.set_cons_succ]
      refine wpAnyH_take (i := 2) (oi := { dst := some 38, op := Op.move (Operand.tmp 0), type := 3, pos := "check.go:103", after := #[], guard := none }) (v := .int .i64 (S : Int)) rfl (by kernel_rfl) (by kernel_rfl) (by kernel_rfl) (fun _ _ _ h => h) (Or.inl ⟨by rfl, by intro W hSw; go_simp⟩) hHeld ?_
      try simp only [Act.put, List.setIfInBounds_toArray, List.set_cons_zero, List.set_cons_succ]
      refine wpAnyH_take (i := 3) (oi := { dst := some 39, op := Op.move (Operand.tmp 10), type := 3, pos := "check.go:103", after := #[], guard := none }) (v := .int .i64 (k : Int)) rfl (by kernel_rfl) (by kernel_rfl) (by kernel_rfl) (fun _ _ _ h => h) (Or.inl ⟨by rfl, by intro W hSw; go_simp⟩) hHeld ?_
      try simp only [Act.put, List.setIfInBounds_toArray, List.set_cons_zero, List.set_cons_succ]
      refine wpAnyH_take (i := 4) (oi := { dst := some 40, op := Op.binOp BinOp.sub 3 (Operand.tmp 38) (Operand.tmp 39) 3, type := 3, pos := "check.go:103", after := #[{ on := 2, ground := Ground.data }, { on := 3, ground := Ground.data }], guard := none }) (v := .int .i64 ((S : Int) - (k : Int))) rfl (by kernel_rfl) (by kernel_rfl) (by kernel_rfl) (fun _ _ _ h => h) (Or.inl ⟨by rfl, by intro W hSw; go_simp⟩) hHeld ?_
      try simp only [Act.put, List.setIfInBounds_toArray, List.set_cons_zero, List.set_cons_succ]
      refine wpAnyH_take (i := 5) (oi := { dst := some 41, op := Op.move (Operand.tmp 1), type := 3, pos := "check.go:103", after := #[], guard := none }) (v := .int .i64 (I : Int)) rfl (by kernel_rfl) (by kernel_rfl) (by kernel_rfl) (fun _ _ _ h => h) (Or.inl ⟨by rfl, by intro W hSw; go_simp⟩) hHeld ?_
      try simp only [Act.put, List.setIfInBounds_toArray, List.set_cons_zero, List.set_cons_succ]
      refine wpAnyH_take (i := 6) (oi := { dst := some 42, op := Op.move (Operand.tmp 10), type := 3, pos := "check.go:103", after := #[], guard := none }) (v := .int .i64 (k : Int)) rfl (by kernel_rfl) (by kernel_rfl) (by kernel_rfl) (fun _ _ _ h => h) (Or.inl ⟨by rfl, by intro W hSw; go_simp⟩) hHeld ?_
      try simp only [Act.put, List.setIfInBounds_toArray, List.set_cons_zero, List.set_cons_succ]
      refine wpAnyH_take (i := 7) (oi := { dst := some 43, op := Op.binOp BinOp.sub 3 (Operand.tmp 41) (Operand.tmp 42) 3, type := 3, pos := "check.go:103", after := #[{ on := 5, ground := Ground.data }, { on := 6, ground := Ground.data }], guard := none }) (v := .int .i64 ((I : Int) - (k : Int))) rfl (by kernel_rfl) (by kernel_rfl) (by kernel_rfl) (fun _ _ _ h => h) (Or.inl ⟨by rfl, by intro W hSw; go_simp⟩) hHeld ?_
      try simp only [Act.put, List.setIfInBounds_toArray, List.set_cons_zero, List.set_cons_succ]
      refine wpAnyH_take (i := 8) (oi := { dst := some 44, op := Op.move (Operand.tmp 11), type := 26, pos := "check.go:103", after := #[], guard := none }) (v := .slice (some ⟨g, o, none⟩) m cap) rfl (by kernel_rfl) (by kernel_rfl) (by kernel_rfl) (fun _ _ _ h => h) (Or.inl ⟨by rfl, by intro W hSw; go_simp⟩) hHeld ?_
      try simp only [Act.put, List.setIfInBounds_toArray, List.set_cons_zero, List.set_cons_succ]
      refine wpAnyH_ready (rs := [9]) (by kernel_rfl) (by simp) ?_
      refine (AllReadyH.cons (o := { dst := some 45, op := Op.call { callee := Callee.value (Operand.tmp 37), args := #[Operand.tmp 40, Operand.tmp 43, Operand.tmp 44], argTypes := #[3, 3, 26] }, type := 30, pos := "check.go:103", after := #[{ on := 1, ground := Ground.data }, { on := 4, ground := Ground.data }, { on := 7, ground := Ground.data }, { on := 8, ground := Ground.data }], guard := none }) rfl (fun K hK => ?_) AllReadyH.nil)
      go_simp
      refine (IH.out _ HB6.out.drew).mono ?_
      rintro e w9 ⟨rfl, v7, hH7, hG7⟩
      have hKP : ∀ y, w.heap.size ≤ y → y < wf.heap.size → w9.heap[y]? = wf.heap[y]? := fun y h1 h2 => hG7.block y h2 (by have := Hsz.out.2.2.1; omega) (fun e => by have := (Hsz.out.2.2.2 y e.symm).2; omega)
      have HNV : Hid (∀ y, w.heap.size ≤ y → y < wf.heap.size → some y ≠ v7.ownBlock) := fun y h1 h2 => hG7.new h2 (fun e => by have := (Hsz.out.2.2.2 y e.symm).2; omega)
      have HGX := hidk (Grew.trans (Grew.of HB6.out.drew) hG7)
      have HH7 := hidk hH7
      have HR97 := hidk ((hKP g9 (by omega) (by omega)).trans HR69.out)
      have HR127 := hidk ((hKP g12 (by omega) (by omega)).trans HR6.out)
      have HR137 := hidk ((hKP g13 (by omega) (by omega)).trans HR13.out)
      clear hG7 hH7 hKP
      go_wp2_with fail
      refine hK.out _ _ ⟨cell_of_one HH7.out.fn, HR127.out⟩ (fun hHeld => ?_)
      clear hK K
      try simp only [Act.put, List.setIfInBounds_toArray, List.set_cons_zero, List.set_cons_succ]
      refine wpAnyH_take (i := 10) (oi := { dst := some 46, op := Op.build 135 #[(0, Operand.tmp 36), (1, Operand.tmp 45)], type := 135, pos := "check.go:103", after := #[{ on := 0, ground := Ground.data }, { on := 9, ground := Ground.data }], guard := none }) (v := .agg KK) rfl (by kernel_rfl) (by kernel_rfl) (by kernel_rfl) (fun _ _ _ h => h) (yieldsIf_build (by rfl) 135 _ rfl #[(0, .agg D), (1, .agg M1)] rfl (.agg KK) BK.out) hHeld ?_
      try simp only [Act.put, List.setIfInBounds_toArray, List.set_cons_zero, List.set_cons_succ]
      refine wpAnyH_ready (rs := [11]) (by kernel_rfl) (by simp) ?_
      refine (AllReadyH.cons (o := { dst := none, op := Op.store 135 (Operand.tmp 13) (Operand.tmp 46), type := 0, pos := "check.go:103", after := #[{ on := 10, ground := Ground.data }, { on := 9, ground := Ground.chain }, { on := 0, ground := Ground.phase }, { on := 1, ground := Ground.phase }, { on := 2, ground := Ground.phase }, { on := 3, ground := Ground.phase }, { on := 4, ground := Ground.phase }, { on := 5, ground := Ground.phase }, { on := 6, ground := Ground.phase }, { on := 7, ground := Ground.phase }, { on := 8, ground := Ground.phase }, { on := 9, ground := Ground.phase }, { on := 10, ground := Ground.phase }], guard := none }) rfl (fun K hK => ?_) AllReadyH.nil)
      refine step_set_var (by rfl) 135 (.tmp 13) (.tmp 46) rfl g13 KK rfl rfl 135 ZK HR137.out HSK.out HZKK.out H1K.out ?_
      intro w8 HW13
      have HH8 := hidk (HH7.out.wrote HW13.out (by have := Hsz.out.1; omega) (by have := Hsz.out.2.1; omega) (by have := Hsz.out.2.2.1; omega) (HNV.out g13 (by omega) h13))
      refine hK.out _ _ ⟨cell_of_one HH8.out.fn, (HW13.out.other g12 (by omega)).trans hHeld.2⟩ (fun hHeld => ?_)
      clear hK K
      try simp only [Act.put, List.setIfInBounds_toArray, List.set_cons_zero, List.set_cons_succ]
      refine wpAnyH_done (by kernel_rfl) ?_ _
      have HG8 := hidk ((HGX.out.wrote HW13.out (by omega)))
      have hB8 : B ≤ w8.heap.size := Nat.le_trans hBw HG8.out.size
      obtain ⟨v9, w9, hrun, q1, hH9, hG9⟩ := HH8.out.append hlk hfk hB8 hsh kt hk64 KK HKK
      obtain ⟨gn, cn, hv9⟩ := own_form hH9.own (by simp)
      simp only [List.length_append, List.length_cons, List.length_nil, Nat.zero_add] at hv9
      subst hv9
      have HH9 := hidk hH9
      have HG9 := hidk (HG8.out.trans hG9)
      have HL13 := hidk HW13.out.row
      have h8 : g13 < w8.heap.size := heap_lt HL13.out
      have H13b := hidk ((hG9.block g13 h8 (by have := Hsz.out.2.2.1; omega) (HNV.out g13 (by omega) h13)).trans HW13.out.row)
      have H9b := hidk ((hG9.block g9 (by omega) (by have := Hsz.out.2.2.1; omega) (HNV.out g9 (by omega) (by omega))).trans ((HW13.out.other g9 (by omega)).trans HR97.out))
      have hc8 := cell_of_one HH8.out.var
      have hc9 := cell_of_one q1
      have hf9 := free_of_one q1
      have HBB := hidk (HG9.out.below hBw hBk (fun q e => (Hsz.out.2.2.2 q e).1))
      clear hHeld hH9 hG9 HW13 HH8 HG8 q1 HGX HR97 IH BK FN
      go_wp2_with (first
        | (show wpList _ _ _ ({ dst := some 48, op := _, type := _, pos := _, after := _, guard := _ } :: _) _ _; refine wpList_load_row rfl 135 (.tmp 13) rfl g13 rfl 135 KK (0, 0) _ HL13.out Tryd.underlying135 rfl HSK.out ?_; try simp only [Act.put, List.setIfInBounds_toArray, List.set_cons_zero, List.set_cons_succ])
        | (show wpList _ _ _ ({ dst := some 49, op := _, type := _, pos := _, after := _, guard := _ } :: _) _ _; refine wpList_build_run rfl 91 1 _ rfl #[(0, .agg KK)] rfl _ _ (build_oneK _ kt hk64 KK HKK) ?_; try simp only [Act.put, List.setIfInBounds_toArray, List.set_cons_zero, List.set_cons_succ])
        | (show wpList _ _ _ ({ dst := some 50, op := _, type := _, pos := _, after := _, guard := _ } :: _) _ _; refine wpList_append_run rfl (.tmp 47) (.tmp 49) 91 91 rfl v7 _ _ w9 rfl rfl hrun ?_; try simp only [Act.put, List.setIfInBounds_toArray, List.set_cons_zero, List.set_cons_succ])
        | (show wpList _ _ _ ({ dst := some 51, op := _, type := _, pos := _, after := _, guard := _ } :: _) _ _; refine wpList_load_row rfl 135 (.tmp 13) rfl g13 rfl 135 KK (0, 0) _ H13b.out Tryd.underlying135 rfl HSK.out ?_; try simp only [Act.put, List.setIfInBounds_toArray, List.set_cons_zero, List.set_cons_succ])
        | fail)
      refine (SU.out _ HBB.out).mono ?_
      rintro e wx ⟨rfl, hbx⟩
      have H9x := hidk ((hbx.block _ (heap_lt H9b.out)).trans H9b.out)
      clear hc8 hc9 hf9 hrun
      go_wp2_with (first
        | (refine wpList_set_var rfl 30 (.tmp 9) (.tmp 52) rfl g9 M rfl rfl 30 Z H9x.out HSF.out HZF.out H1F.out ?_; intro wy HW9; try simp only [Act.put, List.setIfInBounds_toArray, List.set_cons_zero, List.set_cons_succ])
        | fail)
      refine bodyPost_ret (v := .agg M) ?_ rfl ⟨rfl, .slice (some ⟨gn, 0, none⟩) (acc2.length + 1) cn, (HH9.out.keep hbx).wrote HW9.out (by have := Hsz.out.1; omega) (by have := Hsz.out.2.1; omega) (by have := Hsz.out.2.2.1; omega) ?_, (HG9.out.trans (Grew.of hbx)).wrote HW9.out (by omega)⟩
      · exact results_cell_row (p := 9) (ty := 30) rfl _ _ g9 30 M (0, 0) _ rfl HW9.out.row Tryd.underlying30 rfl HSF.out
      · exact own_apart (HH9.out.keep hbx).own H9x.out (by decide)
end Go.Proofs.YtdnhnjimhbbababDoor

/- What check.leafMakes answers: what a leaf and a proof make, and the knots on the way; or it gives up. -/
namespace Go.Proofs.YtdnhnjimhbbababDoor
open Go.RowKit Sums
set_option maxRecDepth 100000
set_option linter.unusedVariables false
set_option linter.unusedSimpArgs false

attribute [local go_sem] store_func
set_option maxHeartbeats 1000000 in
theorem leafMakes_no (S I : Nat) (x : List UInt8) (p : List (List UInt8)) (a : Option Addr) (len cap : Nat) (w : World) (X : Array Value) (hS1 : 1 ≤ S) (hS : S ≤ 100000) (hI : I < S) (hR : LReads w a len cap p) (hm : (mkR p.reverse S I x).2 = false) :
    Calls Tryd.prog 46 #[.int .i64 S, .int .i64 I, .agg X, .slice a len cap] w fun e w' => (∃ u p, e = .panicked [{ v := .iface u p, recovered := false }]) ∧ Below w.heap.size w w' := by
  have hmf : ∀ (fn : Fn) (first cap : Array Value) (w : World), (Instr.makeFunc fn first cap).run Tryd.prog w = .ok (.func fn first cap) w := fun _ _ _ _ => rfl
  obtain ⟨Z, HZ, HA, HS, H1, H32⟩ := noughts27
  have DN : Hid (∀ W gf gk, Below w.heap.size w W → W.heap[gf]? = some (.cells #[.func (.func 70) #[] #[.pointer (some ⟨w.heap.size, 0, none⟩), .pointer (some ⟨gf, 0, none⟩), .pointer (some ⟨gk, 0, none⟩)]] 130 (0, 0)) → Calls Tryd.prog 70 #[.int .i64 S, .int .i64 I, .slice a len cap, .pointer (some ⟨w.heap.size, 0, none⟩), .pointer (some ⟨gf, 0, none⟩), .pointer (some ⟨gk, 0, none⟩)] W fun e w' => (∃ u p, e = .panicked [{ v := .iface u p, recovered := false }]) ∧ Below W.heap.size W w') := fun W gf gk hb hf =>
    down_no p.reverse S I x a len cap w.heap.size gf gk W hS1 hS hI (by rw [List.reverse_reverse]; exact hR.keep hb) hf hm
  clear hm hR
  go_enter Tryd.func46, Tryd.ntmps46
  go_wp2_with (first
    | (show wpList _ _ _ ({ dst := some 8, op := _, type := _, pos := _, after := _, guard := _ } :: _) _ _; refine wpList_new_var rfl 30 rfl Z HA.out ?_; intro g8 w1 HM8; try simp only [Act.put, List.setIfInBounds_toArray, List.set_cons_zero, List.set_cons_succ])
    | fail)
  have h1s : w.heap.size + 1 < w1.heap.size := by have := heap_lt HM8.out.row; have e := HM8.out.new; simp at e; omega
  have h8a : w.heap.size < g8 := by have e := HM8.out.new; simp at e; omega
  have h8b : g8 < w1.heap.size := heap_lt HM8.out.row
  have HL1 := hidk ((HM8.out.below.block _ (by simp)).trans (heap_alloc_new w (.cells X 30)))
  have HB1 : Hid (Below w.heap.size w w1) := ((Below.refl _ _).alloc (Nat.le_refl _) _).trans (HM8.out.below.mono (by simp))
  have HB2 : Hid (Below w.heap.size w ((w1.alloc (.cells #[.slice none 0 0] 91)).alloc (.cells #[.func (.func 70) #[] #[.pointer (some ⟨w.heap.size, 0, none⟩), .pointer (some ⟨w1.heap.size + 1, 0, none⟩), .pointer (some ⟨w1.heap.size, 0, none⟩)]] 130))) := (HB1.out.alloc (by omega) _).alloc (by simp; omega) _
  have HF2 : Hid (((w1.alloc (.cells #[.slice none 0 0] 91)).alloc (.cells #[.func (.func 70) #[] #[.pointer (some ⟨w.heap.size, 0, none⟩), .pointer (some ⟨w1.heap.size + 1, 0, none⟩), .pointer (some ⟨w1.heap.size, 0, none⟩)]] 130)).heap[w1.heap.size + 1]? = some (.cells #[.func (.func 70) #[] #[.pointer (some ⟨w.heap.size, 0, none⟩), .pointer (some ⟨w1.heap.size + 1, 0, none⟩), .pointer (some ⟨w1.heap.size, 0, none⟩)]] 130 (0, 0))) := heap_alloc2_new w1 _ _
  refine (DN.out _ _ _ HB2.out HF2.out).mono ?_
  rintro e w2 ⟨⟨u, q, rfl⟩, hb2⟩
  exact ⟨rfl, ⟨_, _, rfl⟩, HB2.out.trans (hb2.mono HB2.out.size)⟩
set_option maxHeartbeats 2000000 in
theorem leafMakes_ok (S I : Nat) (x : List UInt8) (p : List (List UInt8)) (a : Option Addr) (len cap : Nat) (w : World) (X : Array Value) (HX : Hid (X = (cellsOf x).toArray)) (hx : x.length = 32) (hS1 : 1 ≤ S) (hS : S ≤ 100000) (hI : I < S) (hR : LReads w a len cap p) (hK : Table 0 w) (hm : (mkR p.reverse S I x).2 = true) (M : Array Value) (HM : Hid (M = (cellsOf (mkR p.reverse S I x).1).toArray)) :
    Calls Tryd.prog 46 #[.int .i64 S, .int .i64 I, .agg X, .slice a len cap] w fun e w' => ∃ v, e = .returned (.tuple #[.agg M, v]) ∧ w'.ownsRow w.heap.size 135 64 v (kn p.reverse S I x).length (cellsOf (kn p.reverse S I x).flatten) ∧ Below w.heap.size w w' := by
  have hmf : ∀ (fn : Fn) (first cap : Array Value) (w : World), (Instr.makeFunc fn first cap).run Tryd.prog w = .ok (.func fn first cap) w := fun _ _ _ _ => rfl
  obtain ⟨Z, HZ, HA, HS, H1, H32⟩ := noughts27
  have hsh : p.length ≤ 17 := by
    have := mkR_short 17 p.reverse S I x hS1 (by omega) hm
    rwa [List.length_reverse] at this
  have HSM : Hid ((Tryd.prog.info? 30).map (·.size) = some M.size) := by show _ = _; rw [size23, HM.out]; simp [cellsOf_length, mkR_length sumD_length _ _ _ _ hx]
  have H1M : Hid (M.all (·.oneCell') = true) := by show _ = _; rw [HM.out]; exact cellsOf_all _
  have HZM : Hid (Z.size = M.size) := by show _ = _; rw [H32.out, HM.out]; simp [cellsOf_length, mkR_length sumD_length _ _ _ _ hx]
  have DN : Hid (∀ W gf gk, Below w.heap.size w W → w.heap.size ≤ gk → w.heap.size ≠ gk → gf ≠ gk → KH w.heap.size w.heap.size gf gk X (.func (.func 70) #[] #[.pointer (some ⟨w.heap.size, 0, none⟩), .pointer (some ⟨gf, 0, none⟩), .pointer (some ⟨gk, 0, none⟩)]) (.slice none 0 0) [] W → Calls Tryd.prog 70 #[.int .i64 S, .int .i64 I, .slice a len cap, .pointer (some ⟨w.heap.size, 0, none⟩), .pointer (some ⟨gf, 0, none⟩), .pointer (some ⟨gk, 0, none⟩)] W fun e w' => e = .returned (.agg M) ∧ ∃ v', KH w.heap.size w.heap.size gf gk X (.func (.func 70) #[] #[.pointer (some ⟨w.heap.size, 0, none⟩), .pointer (some ⟨gf, 0, none⟩), .pointer (some ⟨gk, 0, none⟩)]) v' (kn p.reverse S I x) w' ∧ Grew gk (.slice none 0 0) v' W w') := fun W gf gk hb hk1 hk2 hk3 hH => by
    have := down_ok p.reverse S I x [] a len cap w.heap.size w.heap.size gf gk (.slice none 0 0) W X HX hx hS1 hS hI (by rw [List.reverse_reverse]; exact hR.keep hb) hH hk2 hk3 hk1 hb.size (by simp; omega) (hK.keep hb) hK.1 hm M HM
    rwa [List.nil_append] at this
  obtain ⟨KL, HKL⟩ : ∃ y, Hid (y = kn p.reverse S I x) := ⟨_, (rfl : kn p.reverse S I x = _)⟩
  rw [← HKL.out] at DN ⊢
  clear hm hR hK HM HKL hsh
  go_enter Tryd.func46, Tryd.ntmps46
  go_wp2_with (first
    | (show wpList _ _ _ ({ dst := some 8, op := _, type := _, pos := _, after := _, guard := _ } :: _) _ _; refine wpList_new_var rfl 30 rfl Z HA.out ?_; intro g8 w1 HM8; try simp only [Act.put, List.setIfInBounds_toArray, List.set_cons_zero, List.set_cons_succ])
    | fail)
  have h1s : w.heap.size + 1 < w1.heap.size := by have := heap_lt HM8.out.row; have e := HM8.out.new; simp at e; omega
  have h8a : w.heap.size < g8 := by have e := HM8.out.new; simp at e; omega
  have h8b : g8 < w1.heap.size := heap_lt HM8.out.row
  have HL1 := hidk ((HM8.out.below.block _ (by simp)).trans (heap_alloc_new w (.cells X 30)))
  have HB1 : Hid (Below w.heap.size w w1) := ((Below.refl _ _).alloc (Nat.le_refl _) _).trans (HM8.out.below.mono (by simp))
  have HB2 : Hid (Below w.heap.size w ((w1.alloc (.cells #[.slice none 0 0] 91)).alloc (.cells #[.func (.func 70) #[] #[.pointer (some ⟨w.heap.size, 0, none⟩), .pointer (some ⟨w1.heap.size + 1, 0, none⟩), .pointer (some ⟨w1.heap.size, 0, none⟩)]] 130))) := (HB1.out.alloc (by omega) _).alloc (by simp; omega) _
  have HF2 : Hid (((w1.alloc (.cells #[.slice none 0 0] 91)).alloc (.cells #[.func (.func 70) #[] #[.pointer (some ⟨w.heap.size, 0, none⟩), .pointer (some ⟨w1.heap.size + 1, 0, none⟩), .pointer (some ⟨w1.heap.size, 0, none⟩)]] 130)).heap[w1.heap.size + 1]? = some (.cells #[.func (.func 70) #[] #[.pointer (some ⟨w.heap.size, 0, none⟩), .pointer (some ⟨w1.heap.size + 1, 0, none⟩), .pointer (some ⟨w1.heap.size, 0, none⟩)]] 130 (0, 0))) := heap_alloc2_new w1 _ _
  have HKH : Hid (KH w.heap.size w.heap.size (w1.heap.size + 1) w1.heap.size X (.func (.func 70) #[] #[.pointer (some ⟨w.heap.size, 0, none⟩), .pointer (some ⟨w1.heap.size + 1, 0, none⟩), .pointer (some ⟨w1.heap.size, 0, none⟩)]) (.slice none 0 0) [] ((w1.alloc (.cells #[.slice none 0 0] 91)).alloc (.cells #[.func (.func 70) #[] #[.pointer (some ⟨w.heap.size, 0, none⟩), .pointer (some ⟨w1.heap.size + 1, 0, none⟩), .pointer (some ⟨w1.heap.size, 0, none⟩)]] 130))) := ⟨heap_keep (heap_keep HL1.out), HF2.out, heap_alloc2_old w1 _ _, World.ownsRow_nil _ _ _ _⟩
  have HR8 : Hid (((w1.alloc (.cells #[.slice none 0 0] 91)).alloc (.cells #[.func (.func 70) #[] #[.pointer (some ⟨w.heap.size, 0, none⟩), .pointer (some ⟨w1.heap.size + 1, 0, none⟩), .pointer (some ⟨w1.heap.size, 0, none⟩)]] 130)).heap[g8]? = some (.cells Z 30 (0, 0))) := heap_keep (heap_keep HM8.out.row)
  refine (DN.out _ _ _ HB2.out (by omega) (by omega) (by omega) HKH.out).mono ?_
  rintro e w2 ⟨rfl, v2, hH2, hG2⟩
  have HB3 := hidk (hG2.below HB2.out.size (by omega) (fun q e => by simp [Value.ownBlock] at e))
  have HR82 := hidk ((hG2.block g8 (by simp; omega) (by omega) (by simp [Value.ownBlock])).trans HR8.out)
  have HH2 := hidk hH2
  have h2s : w1.heap.size + 1 < w2.heap.size := heap_lt hH2.fn
  clear hH2 hG2 HKH HR8 HF2 HL1 HM8 DN
  go_wp2_with (first
    | (show wpList _ _ _ ({ dst := some 12, op := _, type := _, pos := _, after := _, guard := _ } :: _) _ _; refine wpList_new_var rfl 30 rfl Z HA.out ?_; intro g12 w3 HM12; try simp only [Act.put, List.setIfInBounds_toArray, List.set_cons_zero, List.set_cons_succ])
    | (refine wpList_set_var rfl 30 (.tmp 12) (.tmp 18) rfl g12 M rfl rfl 30 Z HM12.out.row HSM.out HZM.out H1M.out ?_; intro w4 HW12; try simp only [Act.put, List.setIfInBounds_toArray, List.set_cons_zero, List.set_cons_succ])
    | fail)
  have hg12 : w2.heap.size ≤ g12 := Nat.le_of_eq HM12.out.new.symm
  have hb2 : w.heap.size + 1 < w2.heap.size := by omega
  have HH3 := hidk (HH2.out.keep HM12.out.below)
  have HH4 := hidk (HH3.out.wrote HW12.out (by omega) (by omega) (by omega) (own_apart HH3.out.own HM12.out.row (by decide)))
  have HB4 := hidk (HW12.out.below w.heap.size w ((HB2.out.trans HB3.out).trans (HM12.out.below.mono (by omega))) (by omega))
  have HR84 := hidk ((HW12.out.other g8 (by omega)).trans ((HM12.out.below.block _ (heap_lt HR82.out)).trans HR82.out))
  have HR12 := hidk HW12.out.row
  clear HH2 HH3 HM12 HW12 HR82 HB3
  refine wp_region_held_drew (S := (fun W => W.heap[g12]? = some (.cells M 30 (0, 0)) ∧ W.cell? ⟨w1.heap.size, 0, none⟩ = some v2)) (by kernel_rfl) ⟨HR12.out, cell_of_one HH4.out.drew.var⟩ (fun hHeld => ?_)
  refine wpAnyH_take (i := 0) (oi := { dst := some 19, op := Op.load 30 (Operand.tmp 12), type := 30, pos := "check.go:109", after := #[], guard := none }) (v := .agg M) rfl (by kernel_rfl) (by kernel_rfl) (by kernel_rfl) (fun _ _ _ h => h) (yieldsIf_row (by rfl) 30 (.tmp 12) rfl g12 rfl 30 M (0, 0) _ (fun _ h => h.1) Tryd.underlying30 rfl HSM.out) hHeld ?_
  try simp only [Act.put, List.setIfInBounds_toArray, List.set_cons_zero, List.set_cons_succ]
  refine wpAnyH_take (i := 1) (oi := { dst := some 20, op := Op.load 91 (Operand.tmp 10), type := 91, pos := "check.go:109", after := #[{ on := 2, ground := Ground.gcOnly Departure.lateStores }], guard := none }) (v := v2) rfl (by kernel_rfl) (by kernel_rfl) (by kernel_rfl) (fun _ _ _ h => h) (Or.inl ⟨by rfl, by intro W hSw; have h := hSw.2; go_simp⟩) hHeld ?_
  try simp only [Act.put, List.setIfInBounds_toArray, List.set_cons_zero, List.set_cons_succ]
  refine wpAnyH_ready (rs := [2]) (by kernel_rfl) (by simp) ?_
  refine (AllReadyH.cons (o := { dst := none, op := Op.store 30 (Operand.tmp 8) (Operand.tmp 19), type := 0, pos := "check.go:109", after := #[{ on := 0, ground := Ground.data }, { on := 0, ground := Ground.phase }, { on := 1, ground := Ground.textOnly Departure.lateStores }], guard := none }) rfl (fun K hK => ?_) AllReadyH.nil)
  refine step_set_var (by rfl) 30 (.tmp 8) (.tmp 19) rfl g8 M rfl rfl 30 Z HR84.out HSM.out HZM.out H1M.out ?_
  intro w5 HW8
  refine hK.out _ _ ⟨(HW8.out.other g12 (by omega)).trans hHeld.1, by rw [World.cell?_of_block (a := ⟨w1.heap.size, 0, none⟩) (HW8.out.other w1.heap.size (by omega))]; exact hHeld.2⟩ (fun hHeld => ?_)
  clear hK K
  try simp only [Act.put, List.setIfInBounds_toArray, List.set_cons_zero, List.set_cons_succ]
  refine wpAnyH_take (i := 3) (oi := { dst := some 9, op := Op.assign (Operand.tmp 20), type := 91, pos := "check.go:109", after := #[{ on := 1, ground := Ground.data }, { on := 2, ground := Ground.chain }, { on := 0, ground := Ground.phase }, { on := 1, ground := Ground.phase }, { on := 2, ground := Ground.phase }], guard := none }) (v := v2) rfl (by kernel_rfl) (by kernel_rfl) (by kernel_rfl) (fun _ _ _ h => h) (Or.inl ⟨by rfl, by intro W hSw; go_simp⟩) hHeld ?_
  try simp only [Act.put, List.setIfInBounds_toArray, List.set_cons_zero, List.set_cons_succ]
  refine wpAnyH_done (by kernel_rfl) ?_ _
  have HH5 := hidk (HH4.out.drew.wrote HW8.out (by omega) (by omega) (by omega) (own_apart HH4.out.drew.own HR84.out (by decide)))
  go_wp2
  refine bodyPost_ret (v := .tuple #[.agg M, v2]) ?_ rfl ⟨v2, rfl, HH5.out.own, HW8.out.below w.heap.size w HB4.out.drew (by omega)⟩
  exact results_row_tmp (p := 8) (q := 9) (ty := 30) rfl _ _ g8 30 M (0, 0) _ rfl HW8.out.row Tryd.underlying30 rfl HSM.out
end Go.Proofs.YtdnhnjimhbbababDoor

/- What check.held answers: what is asked, or that it gave up. -/
namespace Go.Proofs.YtdnhnjimhbbababDoor
open Go.RowKit Sums
set_option maxRecDepth 100000
set_option linter.unusedVariables false
set_option linter.unusedSimpArgs false
/-- The deferred function, of a call that gives up. -/
theorem catch_panicking (p : Addr) (x : Int) (u : TypeId) (pv : Value) (older : List PanicEntry) (w : World) (hc : w.cell? p = some (.int .i64 x)) (hz : w.frozen? p = false) :
    CallsD Tryd.prog 69 #[.pointer (some p)] (.panicking ({ v := .iface u pv, recovered := false } :: older)) w fun e u' w' =>
      e = .returned (.tuple #[]) ∧ u' = .panicking ({ v := .iface u pv, recovered := true } :: older) ∧ w' = w.setCell p (.int .i64 40) := by
  refine callsD_of_wpS Tryd.func69 rfl fun c₀ cs hu => ?_
  apply wpS_seq
  apply wpS_region
  simp [wpOpsS, go_sem, recoverD, hu, Tryd.ntmps69, Exit.thenS]
  refine wpS_cond (t := true) (by simp [Act.eval, Array.replicate]) ?_
  simp only [if_true]
  apply wpS_region
  simp [wpOpsS, go_sem, hc, hz, bodyPostS, results, Tryd.results69]
/-- The deferred function, of a call that comes back. -/
theorem catch_idle (p : Addr) (w : World) :
    CallsD Tryd.prog 69 #[.pointer (some p)] .returning w fun e u' w' => e = .returned (.tuple #[]) ∧ u' = .returning ∧ w' = w := by
  refine callsD_of_wpS Tryd.func69 rfl fun c₀ cs hu => ?_
  apply wpS_seq
  apply wpS_region
  simp [wpOpsS, go_sem, recoverD, hu, Tryd.ntmps69, Exit.thenS]
  refine wpS_cond (t := false) (by simp [Act.eval, Array.replicate]) ?_
  simp only [Bool.false_eq_true, if_false]
  refine wpS_of_wp (wp_skip ?_)
  cases c₀
  simp_all [bodyPostS, results, Tryd.results69]
theorem cell_new_one (w w' : World) (x : Value) (t : TypeId) (hb : Below (w.alloc (.cells #[x] t)).heap.size (w.alloc (.cells #[x] t)) w') : w'.heap[w.heap.size]? = some (.cells #[x] t (0, 0)) :=
  (hb.block _ (by simp)).trans (heap_alloc_new w _)
set_option maxHeartbeats 1000000 in
theorem held_no (n : Nat) (caps : Array Value) (w : World) (hn : ∀ W, (callFunc n caps).run Tryd.prog W = .ok (.enter n caps) W) (hc : Hid (∀ W, Below w.heap.size w W → Calls Tryd.prog n caps W fun e w' => (∃ u p, e = .panicked [{ v := .iface u p, recovered := false }]) ∧ Below W.heap.size W w')) :
    Calls Tryd.prog 44 #[.func (.func n) #[] caps] w fun e w' => e = .returned (.int .i64 40) ∧ Below w.heap.size w w' := by
  have hmf : ∀ (fn : Fn) (first cap : Array Value) (w : World), (Instr.makeFunc fn first cap).run Tryd.prog w = .ok (.func fn first cap) w := fun _ _ _ _ => rfl
  have HB : Hid (Below w.heap.size w (w.alloc (.cells #[.int .i64 0] 32))) := (Below.refl _ _).alloc (Nat.le_refl _) _
  go_enter_defers Tryd.func44, Tryd.ntmps44
  go_wp2_with fail
  refine (hc.out _ HB.out).mono ?_
  rintro e w2 ⟨⟨u, p, rfl⟩, hb2⟩
  have h2 := cell_new_one w w2 _ _ hb2
  refine leaves_cons (f := 69) (args := #[.pointer (some ⟨w.heap.size, 0, none⟩)]) (by simp) (by simp [go_sem]) ?_
  refine (catch_panicking ⟨w.heap.size, 0, none⟩ 0 u _ [] _ (cell_of_one h2) (free_of_one h2)).mono ?_
  rintro e u' w3 ⟨rfl, rfl, rfl⟩
  have h3 := one_setCell (u := .int .i64 40) h2
  have hc3 := cell_of_one h3
  have hB3 : Below w.heap.size w (w2.setCell ⟨w.heap.size, 0, none⟩ (.int .i64 40)) := (HB.out.trans (hb2.mono HB.out.size)).setCell (Nat.le_refl _) _
  simp [Leaves, settle, results, Tryd.results44, go_sem, hc3, hB3]
set_option maxHeartbeats 1000000 in
theorem held_ok (n : Nat) (caps : Array Value) (w : World) (b : Bool) (hn : ∀ W, (callFunc n caps).run Tryd.prog W = .ok (.enter n caps) W) (hc : Hid (∀ W, Below w.heap.size w W → Calls Tryd.prog n caps W fun e w' => e = .returned (.bool b) ∧ Below W.heap.size W w')) :
    Calls Tryd.prog 44 #[.func (.func n) #[] caps] w fun e w' => e = .returned (.int .i64 (if b then 0 else 41)) ∧ Below w.heap.size w w' := by
  have hmf : ∀ (fn : Fn) (first cap : Array Value) (w : World), (Instr.makeFunc fn first cap).run Tryd.prog w = .ok (.func fn first cap) w := fun _ _ _ _ => rfl
  have HB : Hid (Below w.heap.size w (w.alloc (.cells #[.int .i64 0] 32))) := (Below.refl _ _).alloc (Nat.le_refl _) _
  have hnot : ∀ (x : Bool) (w : World), (Op.unary .not (.bool x)).run Tryd.prog w = .ok (.bool (!x)) w := fun _ _ => rfl
  cases b
  · go_enter_defers Tryd.func44, Tryd.ntmps44
    go_wp2_with fail
    refine (hc.out _ HB.out).mono ?_
    rintro e w2 ⟨rfl, hb2⟩
    have h2 := cell_new_one w w2 _ _ hb2
    have hc2 := cell_of_one h2
    have hf2 := free_of_one h2
    have HB2 := hidk (HB.out.trans (hb2.mono HB.out.size))
    clear hb2
    go_wp2
    refine leaves_cons (f := 69) (args := #[.pointer (some ⟨w.heap.size, 0, none⟩)]) (by simp) (by simp [go_sem]) ?_
    refine (catch_idle ⟨w.heap.size, 0, none⟩ _).mono ?_
    rintro e u' w3 ⟨rfl, rfl, rfl⟩
    have h3 := one_setCell (u := .int .i64 41) h2
    have hc3 := cell_of_one h3
    have hB3 : Below w.heap.size w (w2.setCell ⟨w.heap.size, 0, none⟩ (.int .i64 41)) := HB2.out.setCell (Nat.le_refl _) _
    simp [Leaves, settle, results, Tryd.results44, go_sem, hc3, hB3]
  · go_enter_defers Tryd.func44, Tryd.ntmps44
    go_wp2_with fail
    refine (hc.out _ HB.out).mono ?_
    rintro e w2 ⟨rfl, hb2⟩
    have h2 := cell_new_one w w2 _ _ hb2
    have hc2 := cell_of_one h2
    have hf2 := free_of_one h2
    have HB2 := hidk (HB.out.trans (hb2.mono HB.out.size))
    clear hb2
    go_wp2
    refine leaves_cons (f := 69) (args := #[.pointer (some ⟨w.heap.size, 0, none⟩)]) (by simp) (by simp [go_sem]) ?_
    refine (catch_idle ⟨w.heap.size, 0, none⟩ _).mono ?_
    rintro e u' w3 ⟨rfl, rfl, rfl⟩
    have h3 := one_setCell (u := .int .i64 0) h2
    have hc3 := cell_of_one h3
    have hB3 : Below w.heap.size w (w2.setCell ⟨w.heap.size, 0, none⟩ (.int .i64 0)) := HB2.out.setCell (Nat.le_refl _) _
    simp [Leaves, settle, results, Tryd.results44, go_sem, hc3, hB3]
end Go.Proofs.YtdnhnjimhbbababDoor

/- What check.Included answers. -/
namespace Go.Proofs.YtdnhnjimhbbababDoor
open Go.RowKit Sums
set_option maxRecDepth 100000
set_option linter.unusedVariables false
set_option linter.unusedSimpArgs false
/-- What the closure's variables hold. -/
structure Five (gr gs gi gl gp : Nat) (R : Array Value) (s i : Int) (X : Array Value) (a : Option Addr) (len cap : Nat) (W : World) : Prop where
  root : W.heap[gr]? = some (.cells R 30 (0, 0))
  size : W.heap[gs]? = some (.cells #[.int .i64 s] 3 (0, 0))
  index : W.heap[gi]? = some (.cells #[.int .i64 i] 3 (0, 0))
  leaf : W.heap[gl]? = some (.cells X 30 (0, 0))
  proof : W.heap[gp]? = some (.cells #[.slice a len cap] 26 (0, 0))
theorem Five.keep {gr gs gi gl gp : Nat} {R : Array Value} {s i : Int} {X : Array Value} {a : Option Addr} {len cap : Nat} {W W' : World} (h : Five gr gs gi gl gp R s i X a len cap W) (hb : Below W.heap.size W W') : Five gr gs gi gl gp R s i X a len cap W' :=
  ⟨(hb.block _ (heap_lt h.root)).trans h.root, (hb.block _ (heap_lt h.size)).trans h.size, (hb.block _ (heap_lt h.index)).trans h.index, (hb.block _ (heap_lt h.leaf)).trans h.leaf, (hb.block _ (heap_lt h.proof)).trans h.proof⟩
set_option maxHeartbeats 1000000 in
theorem incl1_no (S I : Nat) (x : List UInt8) (p : List (List UInt8)) (a : Option Addr) (len cap gr gs gi gl gp : Nat) (w : World) (R X : Array Value) (HX : Hid (X = (cellsOf x).toArray)) (hx : x.length = 32) (hS1 : 1 ≤ S) (hS : S ≤ 100000) (hI : I < S) (hF : Five gr gs gi gl gp R S I X a len cap w) (hR : LReads w a len cap p) (hm : (mkR p.reverse S I x).2 = false) :
    Calls Tryd.prog 45 #[.pointer (some ⟨gs, 0, none⟩), .pointer (some ⟨gi, 0, none⟩), .pointer (some ⟨gl, 0, none⟩), .pointer (some ⟨gp, 0, none⟩), .pointer (some ⟨gr, 0, none⟩)] w fun e w' => (∃ u p, e = .panicked [{ v := .iface u p, recovered := false }]) ∧ Below w.heap.size w w' := by
  have HSX : Hid ((Tryd.prog.info? 30).map (·.size) = some X.size) := by show _ = _; rw [size23, HX.out]; simp [cellsOf_length, hx]
  have LM : Hid (Calls Tryd.prog 46 #[.int .i64 S, .int .i64 I, .agg X, .slice a len cap] w fun e w' => (∃ u p, e = .panicked [{ v := .iface u p, recovered := false }]) ∧ Below w.heap.size w w') := leafMakes_no S I x p a len cap w X hS1 hS hI hR hm
  have hc0 := cell_of_one hF.size
  have hc1 := cell_of_one hF.index
  have hc3 := cell_of_one hF.proof
  have HL := hidk hF.leaf
  clear hm hR hF
  go_enter Tryd.func45, Tryd.ntmps45
  go_wp2_with (first
    | (show wpList _ _ _ ({ dst := some 11, op := _, type := _, pos := _, after := _, guard := _ } :: _) _ _; refine wpList_load_row rfl 30 (.tmp 2) rfl gl rfl 30 X (0, 0) _ HL.out Tryd.underlying30 rfl HSX.out ?_; try simp only [Act.put, List.setIfInBounds_toArray, List.set_cons_zero, List.set_cons_succ])
    | fail)
  refine LM.out.mono ?_
  rintro e w2 ⟨⟨u, q, rfl⟩, hb2⟩
  exact ⟨rfl, ⟨_, _, rfl⟩, hb2⟩
set_option maxHeartbeats 1000000 in
theorem incl1_ok (root : List UInt8) (S I : Nat) (x : List UInt8) (p : List (List UInt8)) (a : Option Addr) (len cap gr gs gi gl gp : Nat) (w : World) (R X : Array Value) (HR : Hid (R = (cellsOf root).toArray)) (hr : root.length = 32) (HX : Hid (X = (cellsOf x).toArray)) (hx : x.length = 32) (hS1 : 1 ≤ S) (hS : S ≤ 100000) (hI : I < S) (hF : Five gr gs gi gl gp R S I X a len cap w) (hR : LReads w a len cap p) (hK : Table 0 w) (hm : (mkR p.reverse S I x).2 = true) :
    Calls Tryd.prog 45 #[.pointer (some ⟨gs, 0, none⟩), .pointer (some ⟨gi, 0, none⟩), .pointer (some ⟨gl, 0, none⟩), .pointer (some ⟨gp, 0, none⟩), .pointer (some ⟨gr, 0, none⟩)] w fun e w' => e = .returned (.bool (decide ((mkR p.reverse S I x).1 = root))) ∧ Below w.heap.size w w' := by
  obtain ⟨Z, HZ, HA, HS, H1, H32⟩ := noughts27
  have HSX : Hid ((Tryd.prog.info? 30).map (·.size) = some X.size) := by show _ = _; rw [size23, HX.out]; simp [cellsOf_length, hx]
  have HSR : Hid ((Tryd.prog.info? 30).map (·.size) = some R.size) := by show _ = _; rw [size23, HR.out]; simp [cellsOf_length, hr]
  obtain ⟨M, HM, HSM, H1M, H32M⟩ := dig_row' (mkR p.reverse S I x).1 (mkR_length sumD_length _ _ _ _ hx)
  have HZM : Hid (Z.size = M.size) := by show _ = _; rw [H32.out, H32M.out]
  obtain ⟨b, hb⟩ : ∃ b, decide ((mkR p.reverse S I x).1 = root) = b := ⟨_, rfl⟩
  have hq : ∀ W, (binOp .eql 30 (.agg M) (.agg R)).run Tryd.prog W = .ok (.bool b) W := fun W => eqDigV _ _ (mkR_length sumD_length _ _ _ _ hx) hr M R HM HR b hb W
  have LM : Hid (Calls Tryd.prog 46 #[.int .i64 S, .int .i64 I, .agg X, .slice a len cap] w fun e w' => ∃ v, e = .returned (.tuple #[.agg M, v]) ∧ w'.ownsRow w.heap.size 135 64 v (kn p.reverse S I x).length (cellsOf (kn p.reverse S I x).flatten) ∧ Below w.heap.size w w') := leafMakes_ok S I x p a len cap w X HX hx hS1 hS hI hR hK hm M HM
  have hc0 := cell_of_one hF.size
  have hc1 := cell_of_one hF.index
  have hc3 := cell_of_one hF.proof
  have HL := hidk hF.leaf
  have HRT := hidk hF.root
  rw [hb]
  clear hm hR hF hK hb
  go_enter Tryd.func45, Tryd.ntmps45
  go_wp2_with (first
    | (show wpList _ _ _ ({ dst := some 11, op := _, type := _, pos := _, after := _, guard := _ } :: _) _ _; refine wpList_load_row rfl 30 (.tmp 2) rfl gl rfl 30 X (0, 0) _ HL.out Tryd.underlying30 rfl HSX.out ?_; try simp only [Act.put, List.setIfInBounds_toArray, List.set_cons_zero, List.set_cons_succ])
    | fail)
  refine LM.out.mono ?_
  rintro e w2 ⟨v, rfl, _, hb2⟩
  have HR2 := hidk ((hb2.block _ (heap_lt HRT.out)).trans HRT.out)
  clear HL HRT LM hc0 hc1 hc3
  go_wp2_with (first
    | (show wpList _ _ _ ({ dst := some 6, op := _, type := _, pos := _, after := _, guard := _ } :: _) _ _; refine wpList_new_var rfl 30 rfl Z HA.out ?_; intro g6 w3 HM6; try simp only [Act.put, List.setIfInBounds_toArray, List.set_cons_zero, List.set_cons_succ])
    | (refine wpList_set_var rfl 30 (.tmp 6) (.tmp 14) rfl g6 M rfl rfl 30 Z HM6.out.row HSM.out HZM.out H1M.out ?_; intro w4 HW6; have HR4 := hidk ((HW6.out.other gr (by have := HM6.out.new; have := heap_lt HR2.out; omega)).trans ((HM6.out.below.block _ (heap_lt HR2.out)).trans HR2.out)); try simp only [Act.put, List.setIfInBounds_toArray, List.set_cons_zero, List.set_cons_succ])
    | (show wpList _ _ _ ({ dst := some 16, op := _, type := _, pos := _, after := _, guard := _ } :: _) _ _; refine wpList_load_row rfl 30 (.tmp 6) rfl g6 rfl 30 M (0, 0) _ HW6.out.row Tryd.underlying30 rfl HSM.out ?_; try simp only [Act.put, List.setIfInBounds_toArray, List.set_cons_zero, List.set_cons_succ])
    | (show wpList _ _ _ ({ dst := some 17, op := _, type := _, pos := _, after := _, guard := _ } :: _) _ _; refine wpList_load_row rfl 30 (.tmp 4) rfl gr rfl 30 R (0, 0) _ HR4.out Tryd.underlying30 rfl HSR.out ?_; try simp only [Act.put, List.setIfInBounds_toArray, List.set_cons_zero, List.set_cons_succ])
    | fail)
  go_ret
  refine ⟨rfl, HW6.out.below w.heap.size w (hb2.trans (HM6.out.below.mono hb2.size)) ?_⟩
  rw [HM6.out.new]
  exact hb2.size
theorem five_new (w : World) (R X : Array Value) (size index : Int) (a : Option Addr) (len cap : Nat) : Five w.heap.size (w.heap.size + 1) (w.heap.size + 2) (w.heap.size + 3) (w.heap.size + 4) R size index X a len cap (((((w.alloc (.cells R 30)).alloc (.cells #[.int .i64 size] 3)).alloc (.cells #[.int .i64 index] 3)).alloc (.cells X 30)).alloc (.cells #[.slice a len cap] 26)) ∧ Below w.heap.size w (((((w.alloc (.cells R 30)).alloc (.cells #[.int .i64 size] 3)).alloc (.cells #[.int .i64 index] 3)).alloc (.cells X 30)).alloc (.cells #[.slice a len cap] 26)) := by
  refine ⟨⟨heap_keep (heap_keep (heap_keep (heap_keep (heap_alloc_new w _)))), heap_keep (heap_keep (heap_keep ?_)), heap_keep (heap_keep ?_), heap_keep ?_, ?_⟩, ?_⟩
  · have := heap_alloc_new (w.alloc (.cells R 30)) (.cells #[.int .i64 size] 3)
    simpa using this
  · have := heap_alloc_new ((w.alloc (.cells R 30)).alloc (.cells #[.int .i64 size] 3)) (.cells #[.int .i64 index] 3)
    simpa using this
  · have := heap_alloc_new (((w.alloc (.cells R 30)).alloc (.cells #[.int .i64 size] 3)).alloc (.cells #[.int .i64 index] 3)) (.cells X 30)
    simpa using this
  · have := heap_alloc_new ((((w.alloc (.cells R 30)).alloc (.cells #[.int .i64 size] 3)).alloc (.cells #[.int .i64 index] 3)).alloc (.cells X 30)) (.cells #[.slice a len cap] 26)
    simpa using this
  · exact ((((((Below.refl _ _).alloc (Nat.le_refl _) _).alloc (by simp) _).alloc (by simp; omega) _).alloc (by simp; omega) _).alloc (by simp; omega) _)
set_option maxHeartbeats 1000000 in
theorem included_out (root : List UInt8) (size index : Int) (a : Option Addr) (len cap : Nat) (w : World) (R X : Array Value) (h : ¬ (1 ≤ size ∧ size ≤ 100000 ∧ 0 ≤ index ∧ index < size)) :
    Calls Tryd.prog 14 #[.agg R, .int .i64 size, .int .i64 index, .agg X, .slice a len cap] w fun e w' => e = .returned (.int .i64 40) ∧ Below w.heap.size w w' := by
  have HB := hidk (five_new w R X size index a len cap).2
  have hF := (five_new w R X size index a len cap).1
  have hc1 := cell_of_one hF.size
  have hc2 := cell_of_one hF.index
  clear hF
  by_cases h1 : size < 1
  · have d1 : decide (size < 1) = true := by rw [decide_eq_true_eq]; exact h1
    clear h h1
    go_enter Tryd.func14, Tryd.ntmps14
    go_wp2
    go_ret
    exact ⟨rfl, HB.out⟩
  · have d1 : decide (size < 1) = false := by rw [decide_eq_false_iff_not]; exact h1
    by_cases h2 : 100000 < size
    · have d2 : decide (100000 < size) = true := by rw [decide_eq_true_eq]; exact h2
      clear h h1 h2
      go_enter Tryd.func14, Tryd.ntmps14
      go_wp2
      go_ret
      exact ⟨rfl, HB.out⟩
    · have d2 : decide (100000 < size) = false := by rw [decide_eq_false_iff_not]; exact h2
      by_cases h3 : index < 0
      · have d3 : decide (index < 0) = true := by rw [decide_eq_true_eq]; exact h3
        clear h h1 h2 h3
        go_enter Tryd.func14, Tryd.ntmps14
        go_wp2
        go_ret
        exact ⟨rfl, HB.out⟩
      · have d3 : decide (index < 0) = false := by rw [decide_eq_false_iff_not]; exact h3
        have d4 : decide (size ≤ index) = true := by rw [decide_eq_true_eq]; omega
        clear h h1 h2 h3
        go_enter Tryd.func14, Tryd.ntmps14
        go_wp2
        go_ret
        exact ⟨rfl, HB.out⟩
set_option maxHeartbeats 1000000 in
theorem included_in (root : List UInt8) (S I : Nat) (x : List UInt8) (p : List (List UInt8)) (a : Option Addr) (len cap : Nat) (w : World) (R X : Array Value) (HR : Hid (R = (cellsOf root).toArray)) (hr : root.length = 32) (HX : Hid (X = (cellsOf x).toArray)) (hx : x.length = 32) (hS1 : 1 ≤ S) (hS : S ≤ 100000) (hI : I < S) (hR : LReads w a len cap p) (hK : Table 0 w) :
    Calls Tryd.prog 14 #[.agg R, .int .i64 S, .int .i64 I, .agg X, .slice a len cap] w fun e w' => e = .returned (.int .i64 (incE root S I x p)) ∧ Below w.heap.size w w' := by
  have hmf : ∀ (fn : Fn) (first cap : Array Value) (w : World), (Instr.makeFunc fn first cap).run Tryd.prog w = .ok (.func fn first cap) w := fun _ _ _ _ => rfl
  have HF := hidk (five_new w R X S I a len cap)
  have hc1 := cell_of_one HF.out.1.size
  have hc2 := cell_of_one HF.out.1.index
  have HD : Hid (∀ W, (((((w.alloc (.cells R 30)).alloc (.cells #[.int .i64 S] 3)).alloc (.cells #[.int .i64 (I : Int)] 3)).alloc (.cells X 30)).alloc (.cells #[.slice a len cap] 26)) = W → Calls Tryd.prog 44 #[.func (.func 45) #[] #[.pointer (some ⟨(w.heap.size + 1), 0, none⟩), .pointer (some ⟨(w.heap.size + 2), 0, none⟩), .pointer (some ⟨(w.heap.size + 3), 0, none⟩), .pointer (some ⟨(w.heap.size + 4), 0, none⟩), .pointer (some ⟨w.heap.size, 0, none⟩)]] W fun e w' => e = .returned (.int .i64 (incE root S I x p)) ∧ Below W.heap.size W w') := fun W hW => by
    subst hW
    rw [incE_in root S I x p hS1 hS hI]
    by_cases hm : (mkR p.reverse S I x).2 = true
    · rw [if_pos hm]
      have := held_ok 45 _ _ (decide ((mkR p.reverse S I x).1 = root)) (fun _ => by simp [go_sem]) (fun W' hb => incl1_ok root S I x p a len cap _ _ _ _ _ W' R X HR hr HX hx hS1 hS hI (HF.out.1.keep hb) ((hR.keep HF.out.2).keep hb) ((hK.keep HF.out.2).keep hb) hm)
      simpa using this
    · rw [if_neg hm]
      exact held_no 45 _ _ (fun _ => by simp [go_sem]) (fun W' hb => incl1_no S I x p a len cap _ _ _ _ _ W' R X HX hx hS1 hS hI (HF.out.1.keep hb) ((hR.keep HF.out.2).keep hb) (by simpa using hm))
  have d1 : decide ((S : Int) < 1) = false := by rw [decide_eq_false_iff_not]; omega
  have d1' : decide (S < 1) = false := by rw [decide_eq_false_iff_not]; omega
  have d2 : decide (100000 < (S : Int)) = false := by rw [decide_eq_false_iff_not]; omega
  have d2' : decide (100000 < S) = false := by rw [decide_eq_false_iff_not]; omega
  have d3 : decide ((I : Int) < 0) = false := by rw [decide_eq_false_iff_not]; omega
  have d4 : decide ((S : Int) ≤ (I : Int)) = false := by rw [decide_eq_false_iff_not]; omega
  have d4' : decide (S ≤ I) = false := by rw [decide_eq_false_iff_not]; omega
  obtain ⟨E, hE⟩ : ∃ E, E = incE root S I x p := ⟨_, rfl⟩
  rw [← hE] at HD ⊢
  have HB := hidk HF.out.2
  clear hK hR HF hE
  go_enter Tryd.func14, Tryd.ntmps14
  go_wp2_with fail
  refine (HD.out _ rfl).mono ?_
  rintro e w2 ⟨rfl, hb2⟩
  have HB2 := hidk (HB.out.trans (hb2.mono HB.out.size))
  clear hb2 HD
  go_wp2
  go_ret
  exact ⟨rfl, HB2.out⟩
end Go.Proofs.YtdnhnjimhbbababDoor

/- What check.growthMakes answers: what a proof of consistency makes; or it gives up. -/
namespace Go.Proofs.YtdnhnjimhbbababDoor
open Go.RowKit Sums
set_option maxRecDepth 100000
set_option linter.unusedVariables false
set_option linter.unusedSimpArgs false

attribute [local go_sem] store_func
theorem results_row_row {P : Program} {fn : Func} {p1 p2 : Tmp} {ty : TypeId} (h : fn.results = #[.cell p1 ty, .cell p2 ty]) (tmps : Array Value) (w : World) (g1 g2 : Nat) (t1 t2 : TypeId) (c1 c2 : Array Value) (f1 f2 : Nat × Nat) (d : TypeDesc)
    (hp1 : tmps.getD p1 undef = .pointer (some ⟨g1, 0, none⟩)) (hp2 : tmps.getD p2 undef = .pointer (some ⟨g2, 0, none⟩)) (h1 : w.heap[g1]? = some (.cells c1 t1 f1)) (h2 : w.heap[g2]? = some (.cells c2 t2 f2))
    (hu : P.underlying ty = some d) (hd : (match d with | .struct _ | .array _ _ => true | _ => false) = true) (hi1 : (P.info? ty).map (·.size) = some c1.size) (hi2 : (P.info? ty).map (·.size) = some c2.size) :
    (results fn tmps).run P w = .ok (.tuple #[.agg c1, .agg c2]) w := by
  have hp1' : tmps[p1]?.getD undef = .pointer (some ⟨g1, 0, none⟩) := by simpa using hp1
  have hp2' : tmps[p2]?.getD undef = .pointer (some ⟨g2, 0, none⟩) := by simpa using hp2
  simp [results, h, hp1', hp2', asAddr, run_loadVar_row w g1 t1 ty c1 f1 d h1 hu hd hi1, run_loadVar_row w g2 t2 ty c2 f2 d h2 hu hd hi2]
set_option maxHeartbeats 4000000 in
/-- Down to the old root, where the proof makes nothing: it gives up. -/
theorem growm_no (r : List (List UInt8)) : ∀ (M N : Nat) (x : List UInt8) (k : Bool) (a : Option Addr) (len cap gl gf : Nat) (w : World) (hM1 : 1 ≤ M) (hMN : M ≤ N) (hN : N ≤ 100000) (hR : LReads w a len cap r.reverse)
    (hF : w.heap[gf]? = some (.cells #[.func (.func 74) #[] #[.pointer (some ⟨gl, 0, none⟩), .pointer (some ⟨gf, 0, none⟩)]] 136 (0, 0))) (hm : (bothR r M N x k).2.2 = false),
    Calls Tryd.prog 74 #[.int .i64 M, .int .i64 N, .bool k, .slice a len cap, .pointer (some ⟨gl, 0, none⟩), .pointer (some ⟨gf, 0, none⟩)] w fun e w' => (∃ u p, e = .panicked [{ v := .iface u p, recovered := false }]) ∧ Below w.heap.size w w' := by
  induction r with
  | nil =>
    intro M N x k a len cap gl gf w hM1 hMN hN hR hF hm
    obtain ⟨Z, HZ, HA, HS, H1, H32⟩ := noughts27
    have hl : len = 0 := by have := hR.1; simpa using this.symm
    subst hl
    have hml : 0 ≤ maxLen := Nat.zero_le _
    by_cases hmn : M = N
    · subst hmn
      obtain rfl : k = false := by simpa [bothR] using hm
      have cq : ((M : Int) == (M : Int)) = true := by simp
      have MU : Hid (∀ W, Calls Tryd.prog 71 #[.int .i64 1, .slice a 0 cap] W fun e w' => (∃ u p, e = .panicked [{ v := .iface u p, recovered := false }]) ∧ w' = W) := fun W => must_no 1 a 0 cap W (by omega) hml
      clear hm hF hR
      go_enter Tryd.func74, Tryd.ntmps74
      go_wp2_with (first
        | (show wpList _ _ _ ({ dst := some 10, op := _, type := _, pos := _, after := _, guard := _ } :: _) _ _; refine wpList_new_var rfl 30 rfl Z HA.out ?_; intro g10 wa HM10; try simp only [Act.put, List.setIfInBounds_toArray, List.set_cons_zero, List.set_cons_succ])
        | (show wpList _ _ _ ({ dst := some 11, op := _, type := _, pos := _, after := _, guard := _ } :: _) _ _; refine wpList_new_var rfl 30 rfl Z HA.out ?_; intro g11 wb HM11; try simp only [Act.put, List.setIfInBounds_toArray, List.set_cons_zero, List.set_cons_succ])
        | fail)
      have HBB := hidk (HM10.out.below.trans (HM11.out.below.mono HM10.out.below.size))
      refine (MU.out _).mono ?_
      rintro e wc ⟨⟨u, q, rfl⟩, rfl⟩
      exact ⟨rfl, ⟨_, _, rfl⟩, HBB.out⟩
    · have cq : ((M : Int) == (N : Int)) = false := by rw [beq_eq_false_iff_ne]; omega
      obtain ⟨s, hs⟩ : ∃ s, s = split N := ⟨_, rfl⟩
      have hsl := split_lt N (by omega)
      have hsp := split_pos N (by omega)
      rw [← hs] at hsl hsp
      have SP : Hid (∀ W, Calls Tryd.prog 68 #[.int .i64 (N : Int)] W fun e w' => e = .returned (.int .i64 (s : Nat)) ∧ W = w') := fun W => by
        have := split_any (N : Int) W (by omega)
        rw [Int.toNat_natCast, ← hs] at this
        exact this
      clear hm hF hR hs
      go_enter Tryd.func74, Tryd.ntmps74
      go_wp2_with (first
        | (show wpList _ _ _ ({ dst := some 10, op := _, type := _, pos := _, after := _, guard := _ } :: _) _ _; refine wpList_new_var rfl 30 rfl Z HA.out ?_; intro g10 wa HM10; try simp only [Act.put, List.setIfInBounds_toArray, List.set_cons_zero, List.set_cons_succ])
        | (show wpList _ _ _ ({ dst := some 11, op := _, type := _, pos := _, after := _, guard := _ } :: _) _ _; refine wpList_new_var rfl 30 rfl Z HA.out ?_; intro g11 wb HM11; try simp only [Act.put, List.setIfInBounds_toArray, List.set_cons_zero, List.set_cons_succ])
        | fail)
      have HBB := hidk (HM10.out.below.trans (HM11.out.below.mono HM10.out.below.size))
      refine (SP.out _).mono ?_
      rintro e wc ⟨rfl, rfl⟩
      go_wp2_with fail
      refine (cut_no _ _ _).mono ?_
      rintro e w3 ⟨⟨u, q, rfl⟩, hb3⟩
      exact ⟨rfl, ⟨_, _, rfl⟩, HBB.out.trans (hb3.mono HBB.out.size)⟩
  | cons d r ih =>
    intro M N x k a len cap gl gf w hM1 hMN hN hR hF hm
    obtain ⟨Z, HZ, HA, HS, H1, H32⟩ := noughts27
    have hlen : r.length + 1 = len := by have := hR.1; simpa using this
    obtain ⟨m, hmm⟩ : ∃ m, m = r.length := ⟨_, rfl⟩
    obtain rfl : len = m + 1 := by omega
    have hml := hR.2.2.2.1
    by_cases hmn : M = N
    · subst hmn
      have cq : ((M : Int) == (M : Int)) = true := by simp
      cases k
      · have h0 : m ≠ 0 := by
          rw [bothR_all] at hm
          intro e
          have : r = [] := List.eq_nil_of_length_eq_zero (by omega)
          subst this
          simp at hm
        have MU : Hid (∀ W, Calls Tryd.prog 71 #[.int .i64 1, .slice a (m + 1) cap] W fun e w' => (∃ u p, e = .panicked [{ v := .iface u p, recovered := false }]) ∧ w' = W) := fun W => must_no 1 a (m + 1) cap W (by omega) hml
        clear hm hF hR ih
        go_enter Tryd.func74, Tryd.ntmps74
        go_wp2_with (first
          | (show wpList _ _ _ ({ dst := some 10, op := _, type := _, pos := _, after := _, guard := _ } :: _) _ _; refine wpList_new_var rfl 30 rfl Z HA.out ?_; intro g10 wa HM10; try simp only [Act.put, List.setIfInBounds_toArray, List.set_cons_zero, List.set_cons_succ])
          | (show wpList _ _ _ ({ dst := some 11, op := _, type := _, pos := _, after := _, guard := _ } :: _) _ _; refine wpList_new_var rfl 30 rfl Z HA.out ?_; intro g11 wb HM11; try simp only [Act.put, List.setIfInBounds_toArray, List.set_cons_zero, List.set_cons_succ])
          | fail)
        have HBB := hidk (HM10.out.below.trans (HM11.out.below.mono HM10.out.below.size))
        refine (MU.out _).mono ?_
        rintro e wc ⟨⟨u, q, rfl⟩, rfl⟩
        exact ⟨rfl, ⟨_, _, rfl⟩, HBB.out⟩
      · have MU : Hid (∀ W, Calls Tryd.prog 71 #[.int .i64 0, .slice a (m + 1) cap] W fun e w' => (∃ u p, e = .panicked [{ v := .iface u p, recovered := false }]) ∧ w' = W) := fun W => must_no 0 a (m + 1) cap W (by omega) hml
        clear hm hF hR ih
        go_enter Tryd.func74, Tryd.ntmps74
        go_wp2_with (first
          | (show wpList _ _ _ ({ dst := some 10, op := _, type := _, pos := _, after := _, guard := _ } :: _) _ _; refine wpList_new_var rfl 30 rfl Z HA.out ?_; intro g10 wa HM10; try simp only [Act.put, List.setIfInBounds_toArray, List.set_cons_zero, List.set_cons_succ])
          | (show wpList _ _ _ ({ dst := some 11, op := _, type := _, pos := _, after := _, guard := _ } :: _) _ _; refine wpList_new_var rfl 30 rfl Z HA.out ?_; intro g11 wb HM11; try simp only [Act.put, List.setIfInBounds_toArray, List.set_cons_zero, List.set_cons_succ])
          | fail)
        have HBB := hidk (HM10.out.below.trans (HM11.out.below.mono HM10.out.below.size))
        refine (MU.out _).mono ?_
        rintro e wc ⟨⟨u, q, rfl⟩, rfl⟩
        exact ⟨rfl, ⟨_, _, rfl⟩, HBB.out⟩
    · have cq : ((M : Int) == (N : Int)) = false := by rw [beq_eq_false_iff_ne]; omega
      obtain ⟨s, hs⟩ : ∃ s, s = split N := ⟨_, rfl⟩
      have hsl := split_lt N (by omega)
      have hsp := split_pos N (by omega)
      rw [← hs] at hsl hsp
      have SP : Hid (∀ W, Calls Tryd.prog 68 #[.int .i64 (N : Int)] W fun e w' => e = .returned (.int .i64 (s : Nat)) ∧ W = w') := fun W => by
        have := split_any (N : Int) W (by omega)
        rw [Int.toNat_natCast, ← hs] at this
        exact this
      obtain ⟨g, o, rfl, hgl⟩ := hR.at (by omega)
      have hRr : (d :: r).reverse = r.reverse ++ [d] := by simp
      have hd : d.length = 32 := hR.2.1 d (by simp)
      obtain ⟨D, HD, HSD, H1D, H32D⟩ := dig_row' d hd
      have HZD : Hid (Z.size = D.size) := by show _ = _; rw [H32.out, H32D.out]
      rw [hRr] at hR
      have CU : Hid (∀ W, Below w.heap.size w W → Calls Tryd.prog 72 #[.slice (some ⟨g, o, none⟩) (m + 1) cap] W fun e w' => e = .returned (.tuple #[.slice (some ⟨g, o, none⟩) m cap, .agg D]) ∧ Below W.heap.size W w') := fun W hb =>
        cut_ok g o m cap r.reverse d W (hR.keep hb) D HD
      have RR : ∀ W, Below w.heap.size w W → LReads W (some ⟨g, o, none⟩) m cap r.reverse := fun W hb => by
        have := (hR.keep hb).take m (by omega)
        rwa [List.take_left' (by simp [hmm])] at this
      have FN : Hid (∀ W, Below w.heap.size w W → W.cell? ⟨gf, 0, none⟩ = some (.func (.func 74) #[] #[.pointer (some ⟨gl, 0, none⟩), .pointer (some ⟨gf, 0, none⟩)])) := fun W hb => cell_of_one ((hb.block _ (heap_lt hF)).trans hF)
      have FH : ∀ W, Below w.heap.size w W → W.heap[gf]? = some (.cells #[.func (.func 74) #[] #[.pointer (some ⟨gl, 0, none⟩), .pointer (some ⟨gf, 0, none⟩)]] 136 (0, 0)) := fun W hb => (hb.block _ (heap_lt hF)).trans hF
      by_cases hle : M ≤ s
      · -- the left part
        cases k
        · skip
          have hm1 : (bothR r M s x false).2.2 = false := by rw [bothR_left d r M N x false hmn (by rw [← hs]; exact hle), ← hs] at hm; exact hm
          have IH : Hid (∀ W, Below w.heap.size w W → Calls Tryd.prog 74 #[.int .i64 (M : Int), .int .i64 (s : Int), .bool false, .slice (some ⟨g, o, none⟩) m cap, .pointer (some ⟨gl, 0, none⟩), .pointer (some ⟨gf, 0, none⟩)] W fun e w' => (∃ u p, e = .panicked [{ v := .iface u p, recovered := false }]) ∧ Below W.heap.size W w') := fun W hb => ih M s x false (some ⟨g, o, none⟩) m cap gl gf W hM1 hle (by omega) (RR W hb) (FH W hb) hm1
          have dl : (decide ((M : Int) ≤ (s : Int))) = true := by rw [decide_eq_true_eq]; omega
          have dl' : (decide (M ≤ s)) = true := by rw [decide_eq_true_eq]; omega
          clear hm hm1 hF hR ih FH RR hs hmm hRr
          go_enter Tryd.func74, Tryd.ntmps74
          go_wp2_with (first
            | (show wpList _ _ _ ({ dst := some 10, op := _, type := _, pos := _, after := _, guard := _ } :: _) _ _; refine wpList_new_var rfl 30 rfl Z HA.out ?_; intro g10 wa HM10; try simp only [Act.put, List.setIfInBounds_toArray, List.set_cons_zero, List.set_cons_succ])
            | (show wpList _ _ _ ({ dst := some 11, op := _, type := _, pos := _, after := _, guard := _ } :: _) _ _; refine wpList_new_var rfl 30 rfl Z HA.out ?_; intro g11 wb HM11; try simp only [Act.put, List.setIfInBounds_toArray, List.set_cons_zero, List.set_cons_succ])
            | fail)
          have HBB := hidk (HM10.out.below.trans (HM11.out.below.mono HM10.out.below.size))
          refine (SP.out _).mono ?_
          rintro e wc ⟨rfl, rfl⟩
          go_wp2_with fail
          refine (CU.out _ HBB.out).mono ?_
          rintro e wd ⟨rfl, hb3⟩
          have HB3 := hidk (HBB.out.trans (hb3.mono HBB.out.size))
          clear hb3 SP CU HBB
          go_wp2_with (first
            | (show wpList _ _ _ ({ dst := some 14, op := _, type := _, pos := _, after := _, guard := _ } :: _) _ _; refine wpList_new_var rfl 30 rfl Z HA.out ?_; intro g14 we HM14; try simp only [Act.put, List.setIfInBounds_toArray, List.set_cons_zero, List.set_cons_succ])
            | (refine wpList_set_var rfl 30 (.tmp 14) (.tmp 46) rfl g14 D rfl rfl 30 Z HM14.out.row HSD.out HZD.out H1D.out ?_; intro wf HW14; have hcf := FN.out _ (HW14.out.below w.heap.size w (HB3.out.trans (HM14.out.below.mono HB3.out.size)) (by rw [HM14.out.new]; exact HB3.out.size)); try simp only [Act.put, List.setIfInBounds_toArray, List.set_cons_zero, List.set_cons_succ])
            | fail)
          have hg14 : w.heap.size ≤ g14 := by rw [HM14.out.new]; exact HB3.out.size
          have HB5 := hidk (HW14.out.below w.heap.size w (HB3.out.trans (HM14.out.below.mono HB3.out.size)) hg14)

          refine (IH.out _ HB5.out).mono ?_
          rintro e wg ⟨⟨u, q, rfl⟩, hb7⟩
          exact ⟨rfl, ⟨_, _, rfl⟩, HB5.out.trans (hb7.mono HB5.out.size)⟩
        · skip
          have hm1 : (bothR r M s x true).2.2 = false := by rw [bothR_left d r M N x true hmn (by rw [← hs]; exact hle), ← hs] at hm; exact hm
          have IH : Hid (∀ W, Below w.heap.size w W → Calls Tryd.prog 74 #[.int .i64 (M : Int), .int .i64 (s : Int), .bool true, .slice (some ⟨g, o, none⟩) m cap, .pointer (some ⟨gl, 0, none⟩), .pointer (some ⟨gf, 0, none⟩)] W fun e w' => (∃ u p, e = .panicked [{ v := .iface u p, recovered := false }]) ∧ Below W.heap.size W w') := fun W hb => ih M s x true (some ⟨g, o, none⟩) m cap gl gf W hM1 hle (by omega) (RR W hb) (FH W hb) hm1
          have dl : (decide ((M : Int) ≤ (s : Int))) = true := by rw [decide_eq_true_eq]; omega
          have dl' : (decide (M ≤ s)) = true := by rw [decide_eq_true_eq]; omega
          clear hm hm1 hF hR ih FH RR hs hmm hRr
          go_enter Tryd.func74, Tryd.ntmps74
          go_wp2_with (first
            | (show wpList _ _ _ ({ dst := some 10, op := _, type := _, pos := _, after := _, guard := _ } :: _) _ _; refine wpList_new_var rfl 30 rfl Z HA.out ?_; intro g10 wa HM10; try simp only [Act.put, List.setIfInBounds_toArray, List.set_cons_zero, List.set_cons_succ])
            | (show wpList _ _ _ ({ dst := some 11, op := _, type := _, pos := _, after := _, guard := _ } :: _) _ _; refine wpList_new_var rfl 30 rfl Z HA.out ?_; intro g11 wb HM11; try simp only [Act.put, List.setIfInBounds_toArray, List.set_cons_zero, List.set_cons_succ])
            | fail)
          have HBB := hidk (HM10.out.below.trans (HM11.out.below.mono HM10.out.below.size))
          refine (SP.out _).mono ?_
          rintro e wc ⟨rfl, rfl⟩
          go_wp2_with fail
          refine (CU.out _ HBB.out).mono ?_
          rintro e wd ⟨rfl, hb3⟩
          have HB3 := hidk (HBB.out.trans (hb3.mono HBB.out.size))
          clear hb3 SP CU HBB
          go_wp2_with (first
            | (show wpList _ _ _ ({ dst := some 14, op := _, type := _, pos := _, after := _, guard := _ } :: _) _ _; refine wpList_new_var rfl 30 rfl Z HA.out ?_; intro g14 we HM14; try simp only [Act.put, List.setIfInBounds_toArray, List.set_cons_zero, List.set_cons_succ])
            | (refine wpList_set_var rfl 30 (.tmp 14) (.tmp 46) rfl g14 D rfl rfl 30 Z HM14.out.row HSD.out HZD.out H1D.out ?_; intro wf HW14; have hcf := FN.out _ (HW14.out.below w.heap.size w (HB3.out.trans (HM14.out.below.mono HB3.out.size)) (by rw [HM14.out.new]; exact HB3.out.size)); try simp only [Act.put, List.setIfInBounds_toArray, List.set_cons_zero, List.set_cons_succ])
            | fail)
          have hg14 : w.heap.size ≤ g14 := by rw [HM14.out.new]; exact HB3.out.size
          have HB5 := hidk (HW14.out.below w.heap.size w (HB3.out.trans (HM14.out.below.mono HB3.out.size)) hg14)

          refine (IH.out _ HB5.out).mono ?_
          rintro e wg ⟨⟨u, q, rfl⟩, hb7⟩
          exact ⟨rfl, ⟨_, _, rfl⟩, HB5.out.trans (hb7.mono HB5.out.size)⟩
      · -- the right part
        have hm1 : (bothR r (M - s) (N - s) x false).2.2 = false := by rw [bothR_right d r M N x k hmn (by rw [← hs]; exact hle), ← hs] at hm; exact hm
        have IH : Hid (∀ W, Below w.heap.size w W → Calls Tryd.prog 74 #[.int .i64 ((M : Int) - (s : Int)), .int .i64 ((N : Int) - (s : Int)), .bool false, .slice (some ⟨g, o, none⟩) m cap, .pointer (some ⟨gl, 0, none⟩), .pointer (some ⟨gf, 0, none⟩)] W fun e w' => (∃ u p, e = .panicked [{ v := .iface u p, recovered := false }]) ∧ Below W.heap.size W w') := fun W hb => by
          rw [show ((M : Int) - (s : Int)) = ((M - s : Nat) : Int) by omega, show ((N : Int) - (s : Int)) = ((N - s : Nat) : Int) by omega]
          exact ih (M - s) (N - s) x false (some ⟨g, o, none⟩) m cap gl gf W (by omega) (by omega) (by omega) (RR W hb) (FH W hb) hm1
        have dl : (decide ((M : Int) ≤ (s : Int))) = false := by rw [decide_eq_false_iff_not]; omega
        have dl' : (decide (M ≤ s)) = false := by rw [decide_eq_false_iff_not]; omega
        have wr1 := wrap_int ((M : Int) - (s : Int)) (by omega) (by omega)
        have wr2 := wrap_int ((N : Int) - (s : Int)) (by omega) (by omega)
        clear hm hm1 hF hR ih FH RR hs hmm hRr
        go_enter Tryd.func74, Tryd.ntmps74
        go_wp2_with (first
          | (show wpList _ _ _ ({ dst := some 10, op := _, type := _, pos := _, after := _, guard := _ } :: _) _ _; refine wpList_new_var rfl 30 rfl Z HA.out ?_; intro g10 wa HM10; try simp only [Act.put, List.setIfInBounds_toArray, List.set_cons_zero, List.set_cons_succ])
          | (show wpList _ _ _ ({ dst := some 11, op := _, type := _, pos := _, after := _, guard := _ } :: _) _ _; refine wpList_new_var rfl 30 rfl Z HA.out ?_; intro g11 wb HM11; try simp only [Act.put, List.setIfInBounds_toArray, List.set_cons_zero, List.set_cons_succ])
          | fail)
        have HBB := hidk (HM10.out.below.trans (HM11.out.below.mono HM10.out.below.size))
        refine (SP.out _).mono ?_
        rintro e wc ⟨rfl, rfl⟩
        go_wp2_with fail
        refine (CU.out _ HBB.out).mono ?_
        rintro e wd ⟨rfl, hb3⟩
        have HB3 := hidk (HBB.out.trans (hb3.mono HBB.out.size))
        clear hb3 SP CU HBB
        go_wp2_with (first
          | (show wpList _ _ _ ({ dst := some 14, op := _, type := _, pos := _, after := _, guard := _ } :: _) _ _; refine wpList_new_var rfl 30 rfl Z HA.out ?_; intro g14 we HM14; try simp only [Act.put, List.setIfInBounds_toArray, List.set_cons_zero, List.set_cons_succ])
          | (refine wpList_set_var rfl 30 (.tmp 14) (.tmp 46) rfl g14 D rfl rfl 30 Z HM14.out.row HSD.out HZD.out H1D.out ?_; intro wf HW14; have hcf := FN.out _ (HW14.out.below w.heap.size w (HB3.out.trans (HM14.out.below.mono HB3.out.size)) (by rw [HM14.out.new]; exact HB3.out.size)); try simp only [Act.put, List.setIfInBounds_toArray, List.set_cons_zero, List.set_cons_succ])
          | fail)
        have hg14 : w.heap.size ≤ g14 := by rw [HM14.out.new]; exact HB3.out.size
        have HB5 := hidk (HW14.out.below w.heap.size w (HB3.out.trans (HM14.out.below.mono HB3.out.size)) hg14)

        refine (IH.out _ HB5.out).mono ?_
        rintro e wg ⟨⟨u, q, rfl⟩, hb7⟩
        exact ⟨rfl, ⟨_, _, rfl⟩, HB5.out.trans (hb7.mono HB5.out.size)⟩
set_option maxHeartbeats 8000000 in
/-- Down to the old root, where the proof makes something. -/
theorem growm_ok (r : List (List UInt8)) : ∀ (M N : Nat) (x : List UInt8) (k : Bool) (a : Option Addr) (len cap gl gf : Nat) (w : World) (X : Array Value) (HX : Hid (X = (cellsOf x).toArray)) (hx : x.length = 32) (hM1 : 1 ≤ M) (hMN : M ≤ N) (hN : N ≤ 100000) (hR : LReads w a len cap r.reverse)
    (hF : w.heap[gf]? = some (.cells #[.func (.func 74) #[] #[.pointer (some ⟨gl, 0, none⟩), .pointer (some ⟨gf, 0, none⟩)]] 136 (0, 0))) (hL : w.heap[gl]? = some (.cells X 30 (0, 0))) (hK : Table 0 w) (hm : (bothR r M N x k).2.2 = true) (M1 : Array Value) (HM1 : Hid (M1 = (cellsOf (bothR r M N x k).1).toArray)) (M2 : Array Value) (HM2 : Hid (M2 = (cellsOf (bothR r M N x k).2.1).toArray)),
    Calls Tryd.prog 74 #[.int .i64 M, .int .i64 N, .bool k, .slice a len cap, .pointer (some ⟨gl, 0, none⟩), .pointer (some ⟨gf, 0, none⟩)] w fun e w' => e = .returned (.tuple #[.agg M1, .agg M2]) ∧ Below w.heap.size w w' := by
  induction r with
  | nil =>
    intro M N x k a len cap gl gf w X HX hx hM1 hMN hN hR hF hL hK hm M1 HM1 M2 HM2
    obtain ⟨Z, HZ, HA, HS, H1, H32⟩ := noughts27
    have hl : len = 0 := by have := hR.1; simpa using this.symm
    subst hl
    obtain ⟨hmn, hk⟩ : M = N ∧ k = true := by simpa [bothR] using hm
    subst hmn hk
    have hl1 : x.length = 32 := hx
    obtain rfl : M1 = X := by rw [HM1.out, HX.out]; rfl
    obtain rfl : M1 = M2 := by rw [HM2.out, HX.out]; rfl
    have HM1 := HX
    have HSM1 : Hid ((Tryd.prog.info? 30).map (·.size) = some M1.size) := by show _ = _; rw [size23, HM1.out]; simp [cellsOf_length, hl1]
    have H1M1 : Hid (M1.all (·.oneCell') = true) := by show _ = _; rw [HM1.out]; exact cellsOf_all _
    have HZM1 : Hid (Z.size = M1.size) := by show _ = _; rw [H32.out, HM1.out]; simp [cellsOf_length, hl1]
    have MU : Hid (∀ W, Calls Tryd.prog 71 #[.int .i64 0, .slice a 0 cap] W fun e w' => e = .returned (.tuple #[]) ∧ w' = W) := fun W => must_ok 0 a 0 cap W rfl (by unfold maxLen; omega)
    have cq : ((M : Int) == (M : Int)) = true := by simp
    have HL := hidk hL
    clear hm hF hR hK HX HM1 HM2 hL
    go_enter Tryd.func74, Tryd.ntmps74
    go_wp2_with (first
      | (show wpList _ _ _ ({ dst := some 10, op := _, type := _, pos := _, after := _, guard := _ } :: _) _ _; refine wpList_new_var rfl 30 rfl Z HA.out ?_; intro g10 wa HM10; try simp only [Act.put, List.setIfInBounds_toArray, List.set_cons_zero, List.set_cons_succ])
      | (show wpList _ _ _ ({ dst := some 11, op := _, type := _, pos := _, after := _, guard := _ } :: _) _ _; refine wpList_new_var rfl 30 rfl Z HA.out ?_; intro g11 wb HM11; try simp only [Act.put, List.setIfInBounds_toArray, List.set_cons_zero, List.set_cons_succ])
      | fail)
    have HBB := hidk (HM10.out.below.trans (HM11.out.below.mono HM10.out.below.size))
    have HK10 := hidk ((HM11.out.below.block _ (heap_lt HM10.out.row)).trans HM10.out.row)
    have h10 : w.heap.size ≤ g10 := Nat.le_of_eq HM10.out.new.symm
    have h11 : g10 < g11 := by rw [HM11.out.new]; exact heap_lt HM10.out.row
    refine (MU.out _).mono ?_
    rintro e wc ⟨rfl, rfl⟩
    have HLB := hidk ((HBB.out.block _ (heap_lt HL.out)).trans HL.out)
    have hgl : gl < w.heap.size := heap_lt HL.out
    have HBZ := HBB
    have HR11 := hidk HM11.out.row
    go_wp2
    refine wp_region_held_drew (S := (fun W => W.heap[gl]? = some (.cells M1 30 (0, 0)))) (by kernel_rfl) HLB.out (fun hHeld => ?_)
    refine wpAnyH_take (i := 0) (oi := { dst := some 27, op := Op.load 30 (Operand.tmp 4), type := 30, pos := "check.go:118", after := #[], guard := none }) (v := .agg M1) rfl (by kernel_rfl) (by kernel_rfl) (by kernel_rfl) (fun _ _ _ h => h) (yieldsIf_row (by rfl) 30 (.tmp 4) rfl gl rfl 30 M1 (0, 0) _ (fun _ h => h) Tryd.underlying30 rfl HSM1.out) hHeld ?_
    try simp only [Act.put, List.setIfInBounds_toArray, List.set_cons_zero, List.set_cons_succ]
    refine wpAnyH_take (i := 1) (oi := { dst := some 28, op := Op.load 30 (Operand.tmp 4), type := 30, pos := "check.go:118", after := #[{ on := 2, ground := Ground.gcOnly Departure.lateStores }], guard := none }) (v := .agg M1) rfl (by kernel_rfl) (by kernel_rfl) (by kernel_rfl) (fun _ _ _ h => h) (yieldsIf_row (by rfl) 30 (.tmp 4) rfl gl rfl 30 M1 (0, 0) _ (fun _ h => h) Tryd.underlying30 rfl HSM1.out) hHeld ?_
    try simp only [Act.put, List.setIfInBounds_toArray, List.set_cons_zero, List.set_cons_succ]
    refine wpAnyH_ready (rs := [2]) (by kernel_rfl) (by simp) ?_
    refine (AllReadyH.cons (o := { dst := none, op := Op.store 30 (Operand.tmp 10) (Operand.tmp 27), type := 0, pos := "check.go:118", after := #[{ on := 0, ground := Ground.data }, { on := 0, ground := Ground.phase }, { on := 1, ground := Ground.textOnly Departure.lateStores }], guard := none }) rfl (fun K hK => ?_) AllReadyH.nil)
    refine step_set_var (by rfl) 30 (.tmp 10) (.tmp 27) rfl g10 M1 rfl rfl 30 Z HK10.out HSM1.out HZM1.out H1M1.out ?_
    intro wx HW10
    refine hK.out _ _ ((HW10.out.other gl (by omega)).trans hHeld) (fun hHeld => ?_)
    clear hK K
    try simp only [Act.put, List.setIfInBounds_toArray, List.set_cons_zero, List.set_cons_succ]
    refine wpAnyH_ready (rs := [3]) (by kernel_rfl) (by simp) ?_
    refine (AllReadyH.cons (o := { dst := none, op := Op.store 30 (Operand.tmp 11) (Operand.tmp 28), type := 0, pos := "check.go:118", after := #[{ on := 1, ground := Ground.data }, { on := 2, ground := Ground.chain }, { on := 0, ground := Ground.phase }, { on := 1, ground := Ground.phase }, { on := 2, ground := Ground.phase }], guard := none }) rfl (fun K hK => ?_) AllReadyH.nil)
    refine step_set_var (by rfl) 30 (.tmp 11) (.tmp 28) rfl g11 M1 rfl rfl 30 Z ((HW10.out.other g11 (by omega)).trans HR11.out) HSM1.out HZM1.out H1M1.out ?_
    intro wy HW11
    refine hK.out _ _ ((HW11.out.other gl (by omega)).trans hHeld) (fun hHeld => ?_)
    clear hK K
    try simp only [Act.put, List.setIfInBounds_toArray, List.set_cons_zero, List.set_cons_succ]
    refine wpAnyH_done (by kernel_rfl) ?_ _
    go_wp2
    refine bodyPost_ret (v := .tuple #[.agg M1, .agg M1]) ?_ rfl ⟨rfl, HW11.out.below w.heap.size w (HW10.out.below w.heap.size w HBZ.out.drew (by omega)) (by omega)⟩
    exact results_row_row (p1 := 10) (p2 := 11) (ty := 30) rfl _ _ g10 g11 30 30 M1 M1 (0, 0) (0, 0) _ rfl rfl ((HW11.out.other g10 (by omega)).trans HW10.out.row) HW11.out.row Tryd.underlying30 rfl HSM1.out HSM1.out
  | cons d r ih =>
    intro M N x k a len cap gl gf w X HX hx hM1 hMN hN hR hF hL hK hm M1 HM1 M2 HM2
    obtain ⟨Z, HZ, HA, HS, H1, H32⟩ := noughts27
    have hlen : r.length + 1 = len := by have := hR.1; simpa using this
    obtain ⟨m, hmm⟩ : ∃ m, m = r.length := ⟨_, rfl⟩
    obtain rfl : len = m + 1 := by omega
    have hml := hR.2.2.2.1
    have hdr : Digs32 r := fun z hz => hR.2.1 z (by simp [hz])
    have hdr' : Digs32 (d :: r) := fun z hz => hR.2.1 z (List.mem_reverse.2 hz)
    by_cases hmn : M = N
    · subst hmn
      have cq : ((M : Int) == (M : Int)) = true := by simp
      cases k
      · rw [bothR_all] at hm HM1 HM2
        have hr0 : r = [] := by simpa using hm
        subst hr0
        obtain rfl : m = 0 := by simpa using hmm
        obtain ⟨g, o, rfl, hgl⟩ := hR.at (by omega)
        have hl1 : d.length = 32 := hdr' d (by simp)
        obtain rfl : M1 = M2 := by rw [HM1.out, HM2.out]
        have HSM1 : Hid ((Tryd.prog.info? 30).map (·.size) = some M1.size) := by show _ = _; rw [size23, HM1.out]; simp [cellsOf_length, hl1]
        have H1M1 : Hid (M1.all (·.oneCell') = true) := by show _ = _; rw [HM1.out]; exact cellsOf_all _
        have HZM1 : Hid (Z.size = M1.size) := by show _ = _; rw [H32.out, HM1.out]; simp [cellsOf_length, hl1]
        have HRG : Hid (w.rangeAt g o M1.toList) := by
          have := hR.range 0 (by simp)
          simp only [Nat.mul_zero, Nat.add_zero] at this
          rw [HM1.out]
          show w.rangeAt g o _
          simpa using this
        have hc1 : 1 ≤ cap := hR.2.2.1
        have idx : ∀ W, (Instr.indexAt 26 (.slice (some ⟨g, o, none⟩) 1 cap) (.int .i64 0)).run Tryd.prog W = .ok (.pointer (some ⟨g, o, none⟩)) W := fun W => by
          have := index_list W g o 1 cap 0 .i64 (by omega)
          simpa using this
        have MU : Hid (∀ W, Calls Tryd.prog 71 #[.int .i64 1, .slice (some ⟨g, o, none⟩) 1 cap] W fun e w' => e = .returned (.tuple #[]) ∧ w' = W) := fun W => must_ok 1 (some ⟨g, o, none⟩) 1 cap W rfl hml
        clear hm hF hR hK HX HM1 HM2 hL ih hmm
        go_enter Tryd.func74, Tryd.ntmps74
        go_wp2_with (first
          | (show wpList _ _ _ ({ dst := some 10, op := _, type := _, pos := _, after := _, guard := _ } :: _) _ _; refine wpList_new_var rfl 30 rfl Z HA.out ?_; intro g10 wa HM10; try simp only [Act.put, List.setIfInBounds_toArray, List.set_cons_zero, List.set_cons_succ])
          | (show wpList _ _ _ ({ dst := some 11, op := _, type := _, pos := _, after := _, guard := _ } :: _) _ _; refine wpList_new_var rfl 30 rfl Z HA.out ?_; intro g11 wb HM11; try simp only [Act.put, List.setIfInBounds_toArray, List.set_cons_zero, List.set_cons_succ])
          | fail)
        have HBB := hidk (HM10.out.below.trans (HM11.out.below.mono HM10.out.below.size))
        have HK10 := hidk ((HM11.out.below.block _ (heap_lt HM10.out.row)).trans HM10.out.row)
        have h10 : w.heap.size ≤ g10 := Nat.le_of_eq HM10.out.new.symm
        have h11 : g10 < g11 := by rw [HM11.out.new]; exact heap_lt HM10.out.row
        refine (MU.out _).mono ?_
        rintro e wc ⟨rfl, rfl⟩
        have HBZ := HBB
        have HR11 := hidk HM11.out.row
        go_wp2
        refine wp_region_held_drew (S := (fun W => W.rangeAt g o M1.toList)) (by kernel_rfl) (range_keep HBB.out.drew HRG.out) (fun hHeld => ?_)
        refine wpAnyH_take (i := 0) (oi := { dst := some 34, op := Op.move (Operand.tmp 3), type := 26, pos := "check.go:122", after := #[], guard := none }) (v := .slice (some ⟨g, o, none⟩) 1 cap) rfl (by kernel_rfl) (by kernel_rfl) (by kernel_rfl) (fun _ _ _ h => h) (Or.inl ⟨by rfl, by intro W hSw; go_simp⟩) hHeld ?_
        try simp only [Act.put, List.setIfInBounds_toArray, List.set_cons_zero, List.set_cons_succ]
        refine wpAnyH_take (i := 1) (oi := { dst := some 35, op := Op.indexAddr 26 (Operand.tmp 34) (Operand.const (Value.int IntKind.i64 0)), type := 0, pos := "check.go:122", after := #[{ on := 0, ground := Ground.data }], guard := none }) (v := .pointer (some ⟨g, o, none⟩)) rfl (by kernel_rfl) (by kernel_rfl) (by kernel_rfl) (fun _ _ _ h => h) (Or.inl ⟨by rfl, by intro W hSw; have := idx W; go_simp⟩) hHeld ?_
        try simp only [Act.put, List.setIfInBounds_toArray, List.set_cons_zero, List.set_cons_succ]
        refine wpAnyH_take (i := 2) (oi := { dst := some 36, op := Op.load 30 (Operand.tmp 35), type := 30, pos := "check.go:122", after := #[{ on := 1, ground := Ground.data }], guard := none }) (v := .agg M1) rfl (by kernel_rfl) (by kernel_rfl) (by kernel_rfl) (fun _ _ _ h => h) (yieldsIf_mid (by rfl) 30 (.tmp 35) rfl g o rfl M1 _ (fun _ h => h) Tryd.underlying30 rfl HSM1.out) hHeld ?_
        try simp only [Act.put, List.setIfInBounds_toArray, List.set_cons_zero, List.set_cons_succ]
        refine wpAnyH_take (i := 3) (oi := { dst := some 37, op := Op.move (Operand.tmp 3), type := 26, pos := "check.go:122", after := #[{ on := 6, ground := Ground.gcOnly Departure.lateStores }], guard := none }) (v := .slice (some ⟨g, o, none⟩) 1 cap) rfl (by kernel_rfl) (by kernel_rfl) (by kernel_rfl) (fun _ _ _ h => h) (Or.inl ⟨by rfl, by intro W hSw; go_simp⟩) hHeld ?_
        try simp only [Act.put, List.setIfInBounds_toArray, List.set_cons_zero, List.set_cons_succ]
        refine wpAnyH_take (i := 4) (oi := { dst := some 38, op := Op.indexAddr 26 (Operand.tmp 37) (Operand.const (Value.int IntKind.i64 0)), type := 0, pos := "check.go:122", after := #[{ on := 3, ground := Ground.data }, { on := 6, ground := Ground.gcOnly Departure.lateStores }], guard := none }) (v := .pointer (some ⟨g, o, none⟩)) rfl (by kernel_rfl) (by kernel_rfl) (by kernel_rfl) (fun _ _ _ h => h) (Or.inl ⟨by rfl, by intro W hSw; have := idx W; go_simp⟩) hHeld ?_
        try simp only [Act.put, List.setIfInBounds_toArray, List.set_cons_zero, List.set_cons_succ]
        refine wpAnyH_take (i := 5) (oi := { dst := some 39, op := Op.load 30 (Operand.tmp 38), type := 30, pos := "check.go:122", after := #[{ on := 4, ground := Ground.data }, { on := 6, ground := Ground.gcOnly Departure.lateStores }], guard := none }) (v := .agg M1) rfl (by kernel_rfl) (by kernel_rfl) (by kernel_rfl) (fun _ _ _ h => h) (yieldsIf_mid (by rfl) 30 (.tmp 38) rfl g o rfl M1 _ (fun _ h => h) Tryd.underlying30 rfl HSM1.out) hHeld ?_
        try simp only [Act.put, List.setIfInBounds_toArray, List.set_cons_zero, List.set_cons_succ]
        refine wpAnyH_ready (rs := [6]) (by kernel_rfl) (by simp) ?_
        refine (AllReadyH.cons (o := { dst := none, op := Op.store 30 (Operand.tmp 10) (Operand.tmp 36), type := 0, pos := "check.go:122", after := #[{ on := 2, ground := Ground.data }, { on := 0, ground := Ground.phase }, { on := 1, ground := Ground.phase }, { on := 2, ground := Ground.phase }, { on := 3, ground := Ground.textOnly Departure.lateStores }, { on := 4, ground := Ground.textOnly Departure.lateStores }, { on := 5, ground := Ground.textOnly Departure.lateStores }], guard := none }) rfl (fun K hK => ?_) AllReadyH.nil)
        refine step_set_var (by rfl) 30 (.tmp 10) (.tmp 36) rfl g10 M1 rfl rfl 30 Z HK10.out HSM1.out HZM1.out H1M1.out ?_
        intro wx HW10
        refine hK.out _ _ (fun j v hj => (World.cell?_of_block (a := ⟨g, o + j, none⟩) (HW10.out.other g (by omega))).trans (hHeld j v hj)) (fun hHeld => ?_)
        clear hK K
        try simp only [Act.put, List.setIfInBounds_toArray, List.set_cons_zero, List.set_cons_succ]
        refine wpAnyH_ready (rs := [7]) (by kernel_rfl) (by simp) ?_
        refine (AllReadyH.cons (o := { dst := none, op := Op.store 30 (Operand.tmp 11) (Operand.tmp 39), type := 0, pos := "check.go:122", after := #[{ on := 5, ground := Ground.data }, { on := 6, ground := Ground.chain }, { on := 0, ground := Ground.phase }, { on := 1, ground := Ground.phase }, { on := 2, ground := Ground.phase }, { on := 3, ground := Ground.phase }, { on := 4, ground := Ground.phase }, { on := 5, ground := Ground.phase }, { on := 6, ground := Ground.phase }], guard := none }) rfl (fun K hK => ?_) AllReadyH.nil)
        refine step_set_var (by rfl) 30 (.tmp 11) (.tmp 39) rfl g11 M1 rfl rfl 30 Z ((HW10.out.other g11 (by omega)).trans HR11.out) HSM1.out HZM1.out H1M1.out ?_
        intro wy HW11
        refine hK.out _ _ (fun j v hj => (World.cell?_of_block (a := ⟨g, o + j, none⟩) (HW11.out.other g (by omega))).trans (hHeld j v hj)) (fun hHeld => ?_)
        clear hK K
        try simp only [Act.put, List.setIfInBounds_toArray, List.set_cons_zero, List.set_cons_succ]
        refine wpAnyH_done (by kernel_rfl) ?_ _
        go_wp2
        refine bodyPost_ret (v := .tuple #[.agg M1, .agg M1]) ?_ rfl ⟨rfl, HW11.out.below w.heap.size w (HW10.out.below w.heap.size w HBZ.out.drew (by omega)) (by omega)⟩
        exact results_row_row (p1 := 10) (p2 := 11) (ty := 30) rfl _ _ g10 g11 30 30 M1 M1 (0, 0) (0, 0) _ rfl rfl ((HW11.out.other g10 (by omega)).trans HW10.out.row) HW11.out.row Tryd.underlying30 rfl HSM1.out HSM1.out
      · rw [bothR_known] at hm
        cases hm
    · have cq : ((M : Int) == (N : Int)) = false := by rw [beq_eq_false_iff_ne]; omega
      have hlt0 := bothR_length sumD_length (d :: r) M N x k hx hdr'
      have hl1 := hlt0.1
      have hl2 := hlt0.2
      have HSM1 : Hid ((Tryd.prog.info? 30).map (·.size) = some M1.size) := by show _ = _; rw [size23, HM1.out]; simp [cellsOf_length, hl1]
      have H1M1 : Hid (M1.all (·.oneCell') = true) := by show _ = _; rw [HM1.out]; exact cellsOf_all _
      have HZM1 : Hid (Z.size = M1.size) := by show _ = _; rw [H32.out, HM1.out]; simp [cellsOf_length, hl1]
      have HSM2 : Hid ((Tryd.prog.info? 30).map (·.size) = some M2.size) := by show _ = _; rw [size23, HM2.out]; simp [cellsOf_length, hl2]
      have H1M2 : Hid (M2.all (·.oneCell') = true) := by show _ = _; rw [HM2.out]; exact cellsOf_all _
      have HZM2 : Hid (Z.size = M2.size) := by show _ = _; rw [H32.out, HM2.out]; simp [cellsOf_length, hl2]
      clear hl1 hl2 hlt0
      obtain ⟨s, hs⟩ : ∃ s, s = split N := ⟨_, rfl⟩
      have hsl := split_lt N (by omega)
      have hsp := split_pos N (by omega)
      rw [← hs] at hsl hsp
      have SP : Hid (∀ W, Calls Tryd.prog 68 #[.int .i64 (N : Int)] W fun e w' => e = .returned (.int .i64 (s : Nat)) ∧ W = w') := fun W => by
        have := split_any (N : Int) W (by omega)
        rw [Int.toNat_natCast, ← hs] at this
        exact this
      obtain ⟨g, o, rfl, hgl⟩ := hR.at (by omega)
      have hRr : (d :: r).reverse = r.reverse ++ [d] := by simp
      have hd : d.length = 32 := hR.2.1 d (by simp)
      obtain ⟨D, HD, HSD, H1D, H32D⟩ := dig_row' d hd
      have HZD : Hid (Z.size = D.size) := by show _ = _; rw [H32.out, H32D.out]
      rw [hRr] at hR
      have CU : Hid (∀ W, Below w.heap.size w W → Calls Tryd.prog 72 #[.slice (some ⟨g, o, none⟩) (m + 1) cap] W fun e w' => e = .returned (.tuple #[.slice (some ⟨g, o, none⟩) m cap, .agg D]) ∧ Below W.heap.size W w') := fun W hb =>
        cut_ok g o m cap r.reverse d W (hR.keep hb) D HD
      have RR : ∀ W, Below w.heap.size w W → LReads W (some ⟨g, o, none⟩) m cap r.reverse := fun W hb => by
        have := (hR.keep hb).take m (by omega)
        rwa [List.take_left' (by simp [hmm])] at this
      have FN : Hid (∀ W, Below w.heap.size w W → W.cell? ⟨gf, 0, none⟩ = some (.func (.func 74) #[] #[.pointer (some ⟨gl, 0, none⟩), .pointer (some ⟨gf, 0, none⟩)])) := fun W hb => cell_of_one ((hb.block _ (heap_lt hF)).trans hF)
      have FH : ∀ W, Below w.heap.size w W → W.heap[gf]? = some (.cells #[.func (.func 74) #[] #[.pointer (some ⟨gl, 0, none⟩), .pointer (some ⟨gf, 0, none⟩)]] 136 (0, 0)) := fun W hb => (hb.block _ (heap_lt hF)).trans hF
      by_cases hle : M ≤ s
      · -- the left part
        cases k
        · skip
          have hlt := bothR_length sumD_length r M s x false hx hdr
          obtain ⟨A1, HA1, HSA1, H1A1, H32A1⟩ := dig_row' (bothR r M s x false).1 hlt.1
          obtain ⟨A2, HA2, HSA2, H1A2, H32A2⟩ := dig_row' (bothR r M s x false).2.1 hlt.2
          have HZA1 : Hid (Z.size = A1.size) := by show _ = _; rw [H32.out, H32A1.out]
          have HZA2 : Hid (Z.size = A2.size) := by show _ = _; rw [H32.out, H32A2.out]
          have hE := bothR_left d r M N x false hmn (by rw [← hs]; exact hle)
          rw [← hs] at hE
          rw [hE] at hm HM1 HM2
          have IH : Hid (∀ W, Below w.heap.size w W → Calls Tryd.prog 74 #[.int .i64 (M : Int), .int .i64 (s : Int), .bool false, .slice (some ⟨g, o, none⟩) m cap, .pointer (some ⟨gl, 0, none⟩), .pointer (some ⟨gf, 0, none⟩)] W fun e w' => e = .returned (.tuple #[.agg A1, .agg A2]) ∧ Below W.heap.size W w') := fun W hb => ih M s x false (some ⟨g, o, none⟩) m cap gl gf W X HX hx (by omega) (by omega) (by omega) (RR W hb) (FH W hb) ((hb.block _ (heap_lt hL)).trans hL) (hK.keep hb) hm A1 HA1 A2 HA2
          have dl : (decide ((M : Int) ≤ (s : Int))) = true := by rw [decide_eq_true_eq]; omega
          have dl' : (decide (M ≤ s)) = true := by rw [decide_eq_true_eq]; omega
          obtain rfl : A1 = M1 := by rw [HM1.out, HA1.out]
          obtain ⟨KK, HKK, HSK, H1K, H64K⟩ := knot_row ((bothR r M s x false).2.1 ++ d) (by rw [List.length_append, hlt.2, hd])
          have BK : Hid (∀ W, (Instr.build 135 #[(0, .agg A2), (1, .agg D)]).run Tryd.prog W = .ok (.agg KK) W) := fun W => build_knot W A2 D KK H32A2.out H32D.out (by rw [HKK.out, HA2.out, HD.out]; simp [cellsOf_append])
          have SU : Hid (∀ W, Below w.heap.size w W → Calls Tryd.prog 73 #[.agg KK] W fun e w' => e = .returned (.agg M2) ∧ Below W.heap.size W w') := fun W hb => sum_any (bothR r M s x false).2.1 d hlt.2 hd W (hK.keep hb) KK HKK M2 HM2
          clear hm hE hF hR ih FH RR hs hmm hRr hK hL HM1 HM2 HKK hlt HD
          go_enter Tryd.func74, Tryd.ntmps74
          go_wp2_with (first
            | (show wpList _ _ _ ({ dst := some 10, op := _, type := _, pos := _, after := _, guard := _ } :: _) _ _; refine wpList_new_var rfl 30 rfl Z HA.out ?_; intro g10 wa HM10; try simp only [Act.put, List.setIfInBounds_toArray, List.set_cons_zero, List.set_cons_succ])
            | (show wpList _ _ _ ({ dst := some 11, op := _, type := _, pos := _, after := _, guard := _ } :: _) _ _; refine wpList_new_var rfl 30 rfl Z HA.out ?_; intro g11 wb HM11; try simp only [Act.put, List.setIfInBounds_toArray, List.set_cons_zero, List.set_cons_succ])
            | fail)
          have HBB := hidk (HM10.out.below.trans (HM11.out.below.mono HM10.out.below.size))
          have HK10 := hidk ((HM11.out.below.block _ (heap_lt HM10.out.row)).trans HM10.out.row)
          have h10 : w.heap.size ≤ g10 := Nat.le_of_eq HM10.out.new.symm
          have h11 : g10 < g11 := by rw [HM11.out.new]; exact heap_lt HM10.out.row
          refine (SP.out _).mono ?_
          rintro e wc ⟨rfl, rfl⟩
          go_wp2_with fail
          refine (CU.out _ HBB.out).mono ?_
          rintro e wd ⟨rfl, hb3⟩
          have HB3 := hidk (HBB.out.trans (hb3.mono HBB.out.size))
          have HR10 := hidk ((hb3.block _ (heap_lt (HK10.out))).trans HK10.out)
          have HR11 := hidk ((hb3.block _ (heap_lt HM11.out.row)).trans HM11.out.row)
          clear hb3 SP CU HBB
          go_wp2_with (first
            | (show wpList _ _ _ ({ dst := some 14, op := _, type := _, pos := _, after := _, guard := _ } :: _) _ _; refine wpList_new_var rfl 30 rfl Z HA.out ?_; intro g14 we HM14; try simp only [Act.put, List.setIfInBounds_toArray, List.set_cons_zero, List.set_cons_succ])
            | (refine wpList_set_var rfl 30 (.tmp 14) (.tmp 46) rfl g14 D rfl rfl 30 Z HM14.out.row HSD.out HZD.out H1D.out ?_; intro wf HW14; have hcf := FN.out _ (HW14.out.below w.heap.size w (HB3.out.trans (HM14.out.below.mono HB3.out.size)) (by rw [HM14.out.new]; exact HB3.out.size)); try simp only [Act.put, List.setIfInBounds_toArray, List.set_cons_zero, List.set_cons_succ])
            | fail)
          have hg14 : w.heap.size ≤ g14 := by rw [HM14.out.new]; exact HB3.out.size
          have HB5 := hidk (HW14.out.below w.heap.size w (HB3.out.trans (HM14.out.below.mono HB3.out.size)) hg14)

          have HR10w := hidk ((HW14.out.other g10 (by have := heap_lt HR10.out; have := HM14.out.new; omega)).trans ((HM14.out.below.block _ (heap_lt HR10.out)).trans HR10.out))
          have HR11w := hidk ((HW14.out.other g11 (by have := heap_lt HR11.out; have := HM14.out.new; omega)).trans ((HM14.out.below.block _ (heap_lt HR11.out)).trans HR11.out))
          have h14 : g11 < g14 := by rw [HM14.out.new]; exact heap_lt HR11.out
          have HR14 := hidk HW14.out.row
          clear HR10 HR11 HM14 HW14 HB3 HK10 HM10 HM11
          refine (IH.out _ HB5.out).mono ?_
          rintro e wg ⟨rfl, hb7⟩
          have HB7 := hidk (HB5.out.trans (hb7.mono HB5.out.size))
          have HR10g := hidk ((hb7.block _ (heap_lt HR10w.out)).trans HR10w.out)
          have HR11g := hidk ((hb7.block _ (heap_lt HR11w.out)).trans HR11w.out)
          have HR14g := hidk ((hb7.block _ (heap_lt HR14.out)).trans HR14.out)
          clear hb7 hcf IH FN HR10w HR11w HR14 HB5
          go_wp2_with (first
            | (show wpList _ _ _ ({ dst := some 15, op := _, type := _, pos := _, after := _, guard := _ } :: _) _ _; refine wpList_new_var rfl 30 rfl Z HA.out ?_; intro ga wh HMa; try simp only [Act.put, List.setIfInBounds_toArray, List.set_cons_zero, List.set_cons_succ])
            | (show wpList _ _ _ ({ dst := some 16, op := _, type := _, pos := _, after := _, guard := _ } :: _) _ _; refine wpList_new_var rfl 30 rfl Z HA.out ?_; intro gb wi HMb; have HKa := hidk ((HMb.out.below.block _ (heap_lt HMa.out.row)).trans HMa.out.row); have hab : ga < gb := by { rw [HMb.out.new]; exact heap_lt HMa.out.row }; try simp only [Act.put, List.setIfInBounds_toArray, List.set_cons_zero, List.set_cons_succ])
            | (refine wpList_set_var rfl 30 (.tmp 15) (.tmp 57) rfl ga A1 rfl rfl 30 Z HKa.out HSA1.out HZA1.out H1A1.out ?_; intro wj HWa; have HKb := hidk ((HWa.out.other gb (by omega)).trans HMb.out.row); try simp only [Act.put, List.setIfInBounds_toArray, List.set_cons_zero, List.set_cons_succ])
            | (refine wpList_set_var rfl 30 (.tmp 16) (.tmp 58) rfl gb A2 rfl rfl 30 Z HKb.out HSA2.out HZA2.out H1A2.out ?_; intro wk HWb; try simp only [Act.put, List.setIfInBounds_toArray, List.set_cons_zero, List.set_cons_succ])
            | fail)
          have hga : wg.heap.size = ga := HMa.out.new.symm
          have hl14 := heap_lt HR14g.out
          have hl10 := heap_lt HR10g.out
          have hl11 := heap_lt HR11g.out
          have HBk := hidk (HWb.out.below wg.heap.size wg (HWa.out.below wg.heap.size wg (HMa.out.below.trans (HMb.out.below.mono HMa.out.below.size)) (by omega)) (by omega))
          have HBX := hidk (HB7.out.trans (HBk.out.mono HB7.out.size))
          have HR10k := hidk ((HBk.out.block _ hl10).trans HR10g.out)
          have HR11k := hidk ((HBk.out.block _ hl11).trans HR11g.out)
          have HR14k := hidk ((HBk.out.block _ hl14).trans HR14g.out)
          have HRa := hidk ((HWb.out.other ga (by omega)).trans HWa.out.row)
          have HRb := hidk HWb.out.row
          have hgb : gb < wk.heap.size := heap_lt HRb.out
          clear HMa HMb HKa HKb HWa HWb HBk HR10g HR11g HR14g HB7
          refine wp_region_held_drew (S := (fun W => W.heap[ga]? = some (.cells A1 30 (0, 0)) ∧ W.heap[gb]? = some (.cells A2 30 (0, 0)) ∧ W.heap[g14]? = some (.cells D 30 (0, 0)))) (by kernel_rfl) ⟨HRa.out, HRb.out, HR14k.out⟩ (fun hHeld => ?_)
          refine wpAnyH_take (i := 0) (oi := { dst := some 59, op := Op.load 30 (Operand.tmp 15), type := 30, pos := "check.go:128", after := #[], guard := none }) (v := .agg A1) rfl (by kernel_rfl) (by kernel_rfl) (by kernel_rfl) (fun _ _ _ h => h) (yieldsIf_row (by rfl) 30 (.tmp 15) rfl ga rfl 30 A1 (0, 0) _ (fun _ h => h.1) Tryd.underlying30 rfl HSA1.out) hHeld ?_
          try simp only [Act.put, List.setIfInBounds_toArray, List.set_cons_zero, List.set_cons_succ]
          refine wpAnyH_take (i := 1) (oi := { dst := some 60, op := Op.load 30 (Operand.tmp 16), type := 30, pos := "check.go:128", after := #[], guard := none }) (v := .agg A2) rfl (by kernel_rfl) (by kernel_rfl) (by kernel_rfl) (fun _ _ _ h => h) (yieldsIf_row (by rfl) 30 (.tmp 16) rfl gb rfl 30 A2 (0, 0) _ (fun _ h => h.2.1) Tryd.underlying30 rfl HSA2.out) hHeld ?_
          try simp only [Act.put, List.setIfInBounds_toArray, List.set_cons_zero, List.set_cons_succ]
          refine wpAnyH_take (i := 2) (oi := { dst := some 61, op := Op.load 30 (Operand.tmp 14), type := 30, pos := "check.go:128", after := #[], guard := none }) (v := .agg D) rfl (by kernel_rfl) (by kernel_rfl) (by kernel_rfl) (fun _ _ _ h => h) (yieldsIf_row (by rfl) 30 (.tmp 14) rfl g14 rfl 30 D (0, 0) _ (fun _ h => h.2.2) Tryd.underlying30 rfl HSD.out) hHeld ?_
          try simp only [Act.put, List.setIfInBounds_toArray, List.set_cons_zero, List.set_cons_succ]
          refine wpAnyH_take (i := 3) (oi := { dst := some 62, op := Op.build 135 #[(0, Operand.tmp 60), (1, Operand.tmp 61)], type := 135, pos := "check.go:128", after := #[{ on := 1, ground := Ground.data }, { on := 2, ground := Ground.data }], guard := none }) (v := .agg KK) rfl (by kernel_rfl) (by kernel_rfl) (by kernel_rfl) (fun _ _ _ h => h) (yieldsIf_build (by rfl) 135 _ rfl #[(0, .agg A2), (1, .agg D)] rfl (.agg KK) BK.out) hHeld ?_
          try simp only [Act.put, List.setIfInBounds_toArray, List.set_cons_zero, List.set_cons_succ]
          refine wpAnyH_ready (rs := [4]) (by kernel_rfl) (by simp) ?_
          refine (AllReadyH.cons (o := { dst := some 63, op := Op.call { callee := Callee.value (Operand.func 73), args := #[Operand.tmp 62], argTypes := #[135] }, type := 30, pos := "check.go:128", after := #[{ on := 3, ground := Ground.data }], guard := none }) rfl (fun K hK => ?_) AllReadyH.nil)
          go_simp
          refine (SU.out _ HBX.out.drew).mono ?_
          rintro e w4 ⟨rfl, hb4⟩
          have HBS := hidk (HBX.out.drew.trans (hb4.mono HBX.out.size))
          have HR10s := hidk ((hb4.block _ (heap_lt HR10k.out)).trans HR10k.out)
          have HR11s := hidk ((hb4.block _ (heap_lt HR11k.out)).trans HR11k.out)
          go_wp2_with fail
          refine hK.out _ _ ⟨(hb4.block _ (heap_lt hHeld.1)).trans hHeld.1, (hb4.block _ (heap_lt hHeld.2.1)).trans hHeld.2.1, (hb4.block _ (heap_lt hHeld.2.2)).trans hHeld.2.2⟩ (fun hHeld => ?_)
          clear hK K
          try simp only [Act.put, List.setIfInBounds_toArray, List.set_cons_zero, List.set_cons_succ]
          refine wpAnyH_ready (rs := [5]) (by kernel_rfl) (by simp) ?_
          refine (AllReadyH.cons (o := { dst := none, op := Op.store 30 (Operand.tmp 10) (Operand.tmp 59), type := 0, pos := "check.go:128", after := #[{ on := 0, ground := Ground.data }, { on := 4, ground := Ground.chain }, { on := 0, ground := Ground.phase }, { on := 1, ground := Ground.textOnly Departure.lateStores }, { on := 2, ground := Ground.textOnly Departure.lateStores }, { on := 3, ground := Ground.textOnly Departure.lateStores }, { on := 4, ground := Ground.textOnly Departure.lateStoresUnsure }], guard := none }) rfl (fun K hK => ?_) AllReadyH.nil)
          refine step_set_var (by rfl) 30 (.tmp 10) (.tmp 59) rfl g10 A1 rfl rfl 30 Z HR10s.out HSA1.out HZA1.out H1A1.out ?_
          intro wx HW10
          refine hK.out _ _ ⟨(HW10.out.other ga (by omega)).trans hHeld.1, (HW10.out.other gb (by omega)).trans hHeld.2.1, (HW10.out.other g14 (by omega)).trans hHeld.2.2⟩ (fun hHeld => ?_)
          clear hK K
          try simp only [Act.put, List.setIfInBounds_toArray, List.set_cons_zero, List.set_cons_succ]
          refine wpAnyH_ready (rs := [6]) (by kernel_rfl) (by simp) ?_
          refine (AllReadyH.cons (o := { dst := none, op := Op.store 30 (Operand.tmp 11) (Operand.tmp 63), type := 0, pos := "check.go:128", after := #[{ on := 4, ground := Ground.data }, { on := 5, ground := Ground.chain }, { on := 0, ground := Ground.phase }, { on := 1, ground := Ground.phase }, { on := 2, ground := Ground.phase }, { on := 3, ground := Ground.phase }, { on := 4, ground := Ground.phase }, { on := 5, ground := Ground.phase }], guard := none }) rfl (fun K hK => ?_) AllReadyH.nil)
          refine step_set_var (by rfl) 30 (.tmp 11) (.tmp 63) rfl g11 M2 rfl rfl 30 Z ((HW10.out.other g11 (by omega)).trans HR11s.out) HSM2.out HZM2.out H1M2.out ?_
          intro wy HW11
          refine hK.out _ _ ⟨(HW11.out.other ga (by omega)).trans hHeld.1, (HW11.out.other gb (by omega)).trans hHeld.2.1, (HW11.out.other g14 (by omega)).trans hHeld.2.2⟩ (fun hHeld => ?_)
          clear hK K
          try simp only [Act.put, List.setIfInBounds_toArray, List.set_cons_zero, List.set_cons_succ]
          refine wpAnyH_done (by kernel_rfl) ?_ _
          go_wp2
          refine bodyPost_ret (v := .tuple #[.agg A1, .agg M2]) ?_ rfl ⟨rfl, HW11.out.below w.heap.size w (HW10.out.below w.heap.size w HBS.out (by omega)) (by omega)⟩
          exact results_row_row (p1 := 10) (p2 := 11) (ty := 30) rfl _ _ g10 g11 30 30 A1 M2 (0, 0) (0, 0) _ rfl rfl ((HW11.out.other g10 (by omega)).trans HW10.out.row) HW11.out.row Tryd.underlying30 rfl HSA1.out HSM2.out
        · skip
          have hlt := bothR_length sumD_length r M s x true hx hdr
          obtain ⟨A1, HA1, HSA1, H1A1, H32A1⟩ := dig_row' (bothR r M s x true).1 hlt.1
          obtain ⟨A2, HA2, HSA2, H1A2, H32A2⟩ := dig_row' (bothR r M s x true).2.1 hlt.2
          have HZA1 : Hid (Z.size = A1.size) := by show _ = _; rw [H32.out, H32A1.out]
          have HZA2 : Hid (Z.size = A2.size) := by show _ = _; rw [H32.out, H32A2.out]
          have hE := bothR_left d r M N x true hmn (by rw [← hs]; exact hle)
          rw [← hs] at hE
          rw [hE] at hm HM1 HM2
          have IH : Hid (∀ W, Below w.heap.size w W → Calls Tryd.prog 74 #[.int .i64 (M : Int), .int .i64 (s : Int), .bool true, .slice (some ⟨g, o, none⟩) m cap, .pointer (some ⟨gl, 0, none⟩), .pointer (some ⟨gf, 0, none⟩)] W fun e w' => e = .returned (.tuple #[.agg A1, .agg A2]) ∧ Below W.heap.size W w') := fun W hb => ih M s x true (some ⟨g, o, none⟩) m cap gl gf W X HX hx (by omega) (by omega) (by omega) (RR W hb) (FH W hb) ((hb.block _ (heap_lt hL)).trans hL) (hK.keep hb) hm A1 HA1 A2 HA2
          have dl : (decide ((M : Int) ≤ (s : Int))) = true := by rw [decide_eq_true_eq]; omega
          have dl' : (decide (M ≤ s)) = true := by rw [decide_eq_true_eq]; omega
          obtain rfl : A1 = M1 := by rw [HM1.out, HA1.out]
          obtain ⟨KK, HKK, HSK, H1K, H64K⟩ := knot_row ((bothR r M s x true).2.1 ++ d) (by rw [List.length_append, hlt.2, hd])
          have BK : Hid (∀ W, (Instr.build 135 #[(0, .agg A2), (1, .agg D)]).run Tryd.prog W = .ok (.agg KK) W) := fun W => build_knot W A2 D KK H32A2.out H32D.out (by rw [HKK.out, HA2.out, HD.out]; simp [cellsOf_append])
          have SU : Hid (∀ W, Below w.heap.size w W → Calls Tryd.prog 73 #[.agg KK] W fun e w' => e = .returned (.agg M2) ∧ Below W.heap.size W w') := fun W hb => sum_any (bothR r M s x true).2.1 d hlt.2 hd W (hK.keep hb) KK HKK M2 HM2
          clear hm hE hF hR ih FH RR hs hmm hRr hK hL HM1 HM2 HKK hlt HD
          go_enter Tryd.func74, Tryd.ntmps74
          go_wp2_with (first
            | (show wpList _ _ _ ({ dst := some 10, op := _, type := _, pos := _, after := _, guard := _ } :: _) _ _; refine wpList_new_var rfl 30 rfl Z HA.out ?_; intro g10 wa HM10; try simp only [Act.put, List.setIfInBounds_toArray, List.set_cons_zero, List.set_cons_succ])
            | (show wpList _ _ _ ({ dst := some 11, op := _, type := _, pos := _, after := _, guard := _ } :: _) _ _; refine wpList_new_var rfl 30 rfl Z HA.out ?_; intro g11 wb HM11; try simp only [Act.put, List.setIfInBounds_toArray, List.set_cons_zero, List.set_cons_succ])
            | fail)
          have HBB := hidk (HM10.out.below.trans (HM11.out.below.mono HM10.out.below.size))
          have HK10 := hidk ((HM11.out.below.block _ (heap_lt HM10.out.row)).trans HM10.out.row)
          have h10 : w.heap.size ≤ g10 := Nat.le_of_eq HM10.out.new.symm
          have h11 : g10 < g11 := by rw [HM11.out.new]; exact heap_lt HM10.out.row
          refine (SP.out _).mono ?_
          rintro e wc ⟨rfl, rfl⟩
          go_wp2_with fail
          refine (CU.out _ HBB.out).mono ?_
          rintro e wd ⟨rfl, hb3⟩
          have HB3 := hidk (HBB.out.trans (hb3.mono HBB.out.size))
          have HR10 := hidk ((hb3.block _ (heap_lt (HK10.out))).trans HK10.out)
          have HR11 := hidk ((hb3.block _ (heap_lt HM11.out.row)).trans HM11.out.row)
          clear hb3 SP CU HBB
          go_wp2_with (first
            | (show wpList _ _ _ ({ dst := some 14, op := _, type := _, pos := _, after := _, guard := _ } :: _) _ _; refine wpList_new_var rfl 30 rfl Z HA.out ?_; intro g14 we HM14; try simp only [Act.put, List.setIfInBounds_toArray, List.set_cons_zero, List.set_cons_succ])
            | (refine wpList_set_var rfl 30 (.tmp 14) (.tmp 46) rfl g14 D rfl rfl 30 Z HM14.out.row HSD.out HZD.out H1D.out ?_; intro wf HW14; have hcf := FN.out _ (HW14.out.below w.heap.size w (HB3.out.trans (HM14.out.below.mono HB3.out.size)) (by rw [HM14.out.new]; exact HB3.out.size)); try simp only [Act.put, List.setIfInBounds_toArray, List.set_cons_zero, List.set_cons_succ])
            | fail)
          have hg14 : w.heap.size ≤ g14 := by rw [HM14.out.new]; exact HB3.out.size
          have HB5 := hidk (HW14.out.below w.heap.size w (HB3.out.trans (HM14.out.below.mono HB3.out.size)) hg14)

          have HR10w := hidk ((HW14.out.other g10 (by have := heap_lt HR10.out; have := HM14.out.new; omega)).trans ((HM14.out.below.block _ (heap_lt HR10.out)).trans HR10.out))
          have HR11w := hidk ((HW14.out.other g11 (by have := heap_lt HR11.out; have := HM14.out.new; omega)).trans ((HM14.out.below.block _ (heap_lt HR11.out)).trans HR11.out))
          have h14 : g11 < g14 := by rw [HM14.out.new]; exact heap_lt HR11.out
          have HR14 := hidk HW14.out.row
          clear HR10 HR11 HM14 HW14 HB3 HK10 HM10 HM11
          refine (IH.out _ HB5.out).mono ?_
          rintro e wg ⟨rfl, hb7⟩
          have HB7 := hidk (HB5.out.trans (hb7.mono HB5.out.size))
          have HR10g := hidk ((hb7.block _ (heap_lt HR10w.out)).trans HR10w.out)
          have HR11g := hidk ((hb7.block _ (heap_lt HR11w.out)).trans HR11w.out)
          have HR14g := hidk ((hb7.block _ (heap_lt HR14.out)).trans HR14.out)
          clear hb7 hcf IH FN HR10w HR11w HR14 HB5
          go_wp2_with (first
            | (show wpList _ _ _ ({ dst := some 15, op := _, type := _, pos := _, after := _, guard := _ } :: _) _ _; refine wpList_new_var rfl 30 rfl Z HA.out ?_; intro ga wh HMa; try simp only [Act.put, List.setIfInBounds_toArray, List.set_cons_zero, List.set_cons_succ])
            | (show wpList _ _ _ ({ dst := some 16, op := _, type := _, pos := _, after := _, guard := _ } :: _) _ _; refine wpList_new_var rfl 30 rfl Z HA.out ?_; intro gb wi HMb; have HKa := hidk ((HMb.out.below.block _ (heap_lt HMa.out.row)).trans HMa.out.row); have hab : ga < gb := by { rw [HMb.out.new]; exact heap_lt HMa.out.row }; try simp only [Act.put, List.setIfInBounds_toArray, List.set_cons_zero, List.set_cons_succ])
            | (refine wpList_set_var rfl 30 (.tmp 15) (.tmp 57) rfl ga A1 rfl rfl 30 Z HKa.out HSA1.out HZA1.out H1A1.out ?_; intro wj HWa; have HKb := hidk ((HWa.out.other gb (by omega)).trans HMb.out.row); try simp only [Act.put, List.setIfInBounds_toArray, List.set_cons_zero, List.set_cons_succ])
            | (refine wpList_set_var rfl 30 (.tmp 16) (.tmp 58) rfl gb A2 rfl rfl 30 Z HKb.out HSA2.out HZA2.out H1A2.out ?_; intro wk HWb; try simp only [Act.put, List.setIfInBounds_toArray, List.set_cons_zero, List.set_cons_succ])
            | fail)
          have hga : wg.heap.size = ga := HMa.out.new.symm
          have hl14 := heap_lt HR14g.out
          have hl10 := heap_lt HR10g.out
          have hl11 := heap_lt HR11g.out
          have HBk := hidk (HWb.out.below wg.heap.size wg (HWa.out.below wg.heap.size wg (HMa.out.below.trans (HMb.out.below.mono HMa.out.below.size)) (by omega)) (by omega))
          have HBX := hidk (HB7.out.trans (HBk.out.mono HB7.out.size))
          have HR10k := hidk ((HBk.out.block _ hl10).trans HR10g.out)
          have HR11k := hidk ((HBk.out.block _ hl11).trans HR11g.out)
          have HR14k := hidk ((HBk.out.block _ hl14).trans HR14g.out)
          have HRa := hidk ((HWb.out.other ga (by omega)).trans HWa.out.row)
          have HRb := hidk HWb.out.row
          have hgb : gb < wk.heap.size := heap_lt HRb.out
          clear HMa HMb HKa HKb HWa HWb HBk HR10g HR11g HR14g HB7
          refine wp_region_held_drew (S := (fun W => W.heap[ga]? = some (.cells A1 30 (0, 0)) ∧ W.heap[gb]? = some (.cells A2 30 (0, 0)) ∧ W.heap[g14]? = some (.cells D 30 (0, 0)))) (by kernel_rfl) ⟨HRa.out, HRb.out, HR14k.out⟩ (fun hHeld => ?_)
          refine wpAnyH_take (i := 0) (oi := { dst := some 59, op := Op.load 30 (Operand.tmp 15), type := 30, pos := "check.go:128", after := #[], guard := none }) (v := .agg A1) rfl (by kernel_rfl) (by kernel_rfl) (by kernel_rfl) (fun _ _ _ h => h) (yieldsIf_row (by rfl) 30 (.tmp 15) rfl ga rfl 30 A1 (0, 0) _ (fun _ h => h.1) Tryd.underlying30 rfl HSA1.out) hHeld ?_
          try simp only [Act.put, List.setIfInBounds_toArray, List.set_cons_zero, List.set_cons_succ]
          refine wpAnyH_take (i := 1) (oi := { dst := some 60, op := Op.load 30 (Operand.tmp 16), type := 30, pos := "check.go:128", after := #[], guard := none }) (v := .agg A2) rfl (by kernel_rfl) (by kernel_rfl) (by kernel_rfl) (fun _ _ _ h => h) (yieldsIf_row (by rfl) 30 (.tmp 16) rfl gb rfl 30 A2 (0, 0) _ (fun _ h => h.2.1) Tryd.underlying30 rfl HSA2.out) hHeld ?_
          try simp only [Act.put, List.setIfInBounds_toArray, List.set_cons_zero, List.set_cons_succ]
          refine wpAnyH_take (i := 2) (oi := { dst := some 61, op := Op.load 30 (Operand.tmp 14), type := 30, pos := "check.go:128", after := #[], guard := none }) (v := .agg D) rfl (by kernel_rfl) (by kernel_rfl) (by kernel_rfl) (fun _ _ _ h => h) (yieldsIf_row (by rfl) 30 (.tmp 14) rfl g14 rfl 30 D (0, 0) _ (fun _ h => h.2.2) Tryd.underlying30 rfl HSD.out) hHeld ?_
          try simp only [Act.put, List.setIfInBounds_toArray, List.set_cons_zero, List.set_cons_succ]
          refine wpAnyH_take (i := 3) (oi := { dst := some 62, op := Op.build 135 #[(0, Operand.tmp 60), (1, Operand.tmp 61)], type := 135, pos := "check.go:128", after := #[{ on := 1, ground := Ground.data }, { on := 2, ground := Ground.data }], guard := none }) (v := .agg KK) rfl (by kernel_rfl) (by kernel_rfl) (by kernel_rfl) (fun _ _ _ h => h) (yieldsIf_build (by rfl) 135 _ rfl #[(0, .agg A2), (1, .agg D)] rfl (.agg KK) BK.out) hHeld ?_
          try simp only [Act.put, List.setIfInBounds_toArray, List.set_cons_zero, List.set_cons_succ]
          refine wpAnyH_ready (rs := [4]) (by kernel_rfl) (by simp) ?_
          refine (AllReadyH.cons (o := { dst := some 63, op := Op.call { callee := Callee.value (Operand.func 73), args := #[Operand.tmp 62], argTypes := #[135] }, type := 30, pos := "check.go:128", after := #[{ on := 3, ground := Ground.data }], guard := none }) rfl (fun K hK => ?_) AllReadyH.nil)
          go_simp
          refine (SU.out _ HBX.out.drew).mono ?_
          rintro e w4 ⟨rfl, hb4⟩
          have HBS := hidk (HBX.out.drew.trans (hb4.mono HBX.out.size))
          have HR10s := hidk ((hb4.block _ (heap_lt HR10k.out)).trans HR10k.out)
          have HR11s := hidk ((hb4.block _ (heap_lt HR11k.out)).trans HR11k.out)
          go_wp2_with fail
          refine hK.out _ _ ⟨(hb4.block _ (heap_lt hHeld.1)).trans hHeld.1, (hb4.block _ (heap_lt hHeld.2.1)).trans hHeld.2.1, (hb4.block _ (heap_lt hHeld.2.2)).trans hHeld.2.2⟩ (fun hHeld => ?_)
          clear hK K
          try simp only [Act.put, List.setIfInBounds_toArray, List.set_cons_zero, List.set_cons_succ]
          refine wpAnyH_ready (rs := [5]) (by kernel_rfl) (by simp) ?_
          refine (AllReadyH.cons (o := { dst := none, op := Op.store 30 (Operand.tmp 10) (Operand.tmp 59), type := 0, pos := "check.go:128", after := #[{ on := 0, ground := Ground.data }, { on := 4, ground := Ground.chain }, { on := 0, ground := Ground.phase }, { on := 1, ground := Ground.textOnly Departure.lateStores }, { on := 2, ground := Ground.textOnly Departure.lateStores }, { on := 3, ground := Ground.textOnly Departure.lateStores }, { on := 4, ground := Ground.textOnly Departure.lateStoresUnsure }], guard := none }) rfl (fun K hK => ?_) AllReadyH.nil)
          refine step_set_var (by rfl) 30 (.tmp 10) (.tmp 59) rfl g10 A1 rfl rfl 30 Z HR10s.out HSA1.out HZA1.out H1A1.out ?_
          intro wx HW10
          refine hK.out _ _ ⟨(HW10.out.other ga (by omega)).trans hHeld.1, (HW10.out.other gb (by omega)).trans hHeld.2.1, (HW10.out.other g14 (by omega)).trans hHeld.2.2⟩ (fun hHeld => ?_)
          clear hK K
          try simp only [Act.put, List.setIfInBounds_toArray, List.set_cons_zero, List.set_cons_succ]
          refine wpAnyH_ready (rs := [6]) (by kernel_rfl) (by simp) ?_
          refine (AllReadyH.cons (o := { dst := none, op := Op.store 30 (Operand.tmp 11) (Operand.tmp 63), type := 0, pos := "check.go:128", after := #[{ on := 4, ground := Ground.data }, { on := 5, ground := Ground.chain }, { on := 0, ground := Ground.phase }, { on := 1, ground := Ground.phase }, { on := 2, ground := Ground.phase }, { on := 3, ground := Ground.phase }, { on := 4, ground := Ground.phase }, { on := 5, ground := Ground.phase }], guard := none }) rfl (fun K hK => ?_) AllReadyH.nil)
          refine step_set_var (by rfl) 30 (.tmp 11) (.tmp 63) rfl g11 M2 rfl rfl 30 Z ((HW10.out.other g11 (by omega)).trans HR11s.out) HSM2.out HZM2.out H1M2.out ?_
          intro wy HW11
          refine hK.out _ _ ⟨(HW11.out.other ga (by omega)).trans hHeld.1, (HW11.out.other gb (by omega)).trans hHeld.2.1, (HW11.out.other g14 (by omega)).trans hHeld.2.2⟩ (fun hHeld => ?_)
          clear hK K
          try simp only [Act.put, List.setIfInBounds_toArray, List.set_cons_zero, List.set_cons_succ]
          refine wpAnyH_done (by kernel_rfl) ?_ _
          go_wp2
          refine bodyPost_ret (v := .tuple #[.agg A1, .agg M2]) ?_ rfl ⟨rfl, HW11.out.below w.heap.size w (HW10.out.below w.heap.size w HBS.out (by omega)) (by omega)⟩
          exact results_row_row (p1 := 10) (p2 := 11) (ty := 30) rfl _ _ g10 g11 30 30 A1 M2 (0, 0) (0, 0) _ rfl rfl ((HW11.out.other g10 (by omega)).trans HW10.out.row) HW11.out.row Tryd.underlying30 rfl HSA1.out HSM2.out
      · -- the right part
        have hlt := bothR_length sumD_length r (M - s) (N - s) x false hx hdr
        obtain ⟨A1, HA1, HSA1, H1A1, H32A1⟩ := dig_row' (bothR r (M - s) (N - s) x false).1 hlt.1
        obtain ⟨A2, HA2, HSA2, H1A2, H32A2⟩ := dig_row' (bothR r (M - s) (N - s) x false).2.1 hlt.2
        have HZA1 : Hid (Z.size = A1.size) := by show _ = _; rw [H32.out, H32A1.out]
        have HZA2 : Hid (Z.size = A2.size) := by show _ = _; rw [H32.out, H32A2.out]
        have hE := bothR_right d r M N x k hmn (by rw [← hs]; exact hle)
        rw [← hs] at hE
        rw [hE] at hm HM1 HM2
        have IH : Hid (∀ W, Below w.heap.size w W → Calls Tryd.prog 74 #[.int .i64 ((M : Int) - (s : Int)), .int .i64 ((N : Int) - (s : Int)), .bool false, .slice (some ⟨g, o, none⟩) m cap, .pointer (some ⟨gl, 0, none⟩), .pointer (some ⟨gf, 0, none⟩)] W fun e w' => e = .returned (.tuple #[.agg A1, .agg A2]) ∧ Below W.heap.size W w') := fun W hb => by
          rw [show ((M : Int) - (s : Int)) = ((M - s : Nat) : Int) by omega, show ((N : Int) - (s : Int)) = ((N - s : Nat) : Int) by omega]
          exact ih (M - s) (N - s) x false (some ⟨g, o, none⟩) m cap gl gf W X HX hx (by omega) (by omega) (by omega) (RR W hb) (FH W hb) ((hb.block _ (heap_lt hL)).trans hL) (hK.keep hb) hm A1 HA1 A2 HA2
        have dl : (decide ((M : Int) ≤ (s : Int))) = false := by rw [decide_eq_false_iff_not]; omega
        have dl' : (decide (M ≤ s)) = false := by rw [decide_eq_false_iff_not]; omega
        have wr1 := wrap_int ((M : Int) - (s : Int)) (by omega) (by omega)
        have wr2 := wrap_int ((N : Int) - (s : Int)) (by omega) (by omega)
        obtain ⟨KK1, HKK1, HSK1, H1K1, H64K1⟩ := knot_row (d ++ (bothR r (M - s) (N - s) x false).1) (by rw [List.length_append, hlt.1, hd])
        obtain ⟨KK, HKK, HSK, H1K, H64K⟩ := knot_row (d ++ (bothR r (M - s) (N - s) x false).2.1) (by rw [List.length_append, hlt.2, hd])
        have BK1 : Hid (∀ W, (Instr.build 135 #[(0, .agg D), (1, .agg A1)]).run Tryd.prog W = .ok (.agg KK1) W) := fun W => build_knot W D A1 KK1 H32D.out H32A1.out (by rw [HKK1.out, HA1.out, HD.out]; simp [cellsOf_append])
        have BK : Hid (∀ W, (Instr.build 135 #[(0, .agg D), (1, .agg A2)]).run Tryd.prog W = .ok (.agg KK) W) := fun W => build_knot W D A2 KK H32D.out H32A2.out (by rw [HKK.out, HA2.out, HD.out]; simp [cellsOf_append])
        have SU1 : Hid (∀ W, Below w.heap.size w W → Calls Tryd.prog 73 #[.agg KK1] W fun e w' => e = .returned (.agg M1) ∧ Below W.heap.size W w') := fun W hb => sum_any d (bothR r (M - s) (N - s) x false).1 hd hlt.1 W (hK.keep hb) KK1 HKK1 M1 HM1
        have SU : Hid (∀ W, Below w.heap.size w W → Calls Tryd.prog 73 #[.agg KK] W fun e w' => e = .returned (.agg M2) ∧ Below W.heap.size W w') := fun W hb => sum_any d (bothR r (M - s) (N - s) x false).2.1 hd hlt.2 W (hK.keep hb) KK HKK M2 HM2
        clear hm hE hF hR ih FH RR hs hmm hRr hK hL HM1 HM2 HKK hlt HD HKK1
        go_enter Tryd.func74, Tryd.ntmps74
        go_wp2_with (first
          | (show wpList _ _ _ ({ dst := some 10, op := _, type := _, pos := _, after := _, guard := _ } :: _) _ _; refine wpList_new_var rfl 30 rfl Z HA.out ?_; intro g10 wa HM10; try simp only [Act.put, List.setIfInBounds_toArray, List.set_cons_zero, List.set_cons_succ])
          | (show wpList _ _ _ ({ dst := some 11, op := _, type := _, pos := _, after := _, guard := _ } :: _) _ _; refine wpList_new_var rfl 30 rfl Z HA.out ?_; intro g11 wb HM11; try simp only [Act.put, List.setIfInBounds_toArray, List.set_cons_zero, List.set_cons_succ])
          | fail)
        have HBB := hidk (HM10.out.below.trans (HM11.out.below.mono HM10.out.below.size))
        have HK10 := hidk ((HM11.out.below.block _ (heap_lt HM10.out.row)).trans HM10.out.row)
        have h10 : w.heap.size ≤ g10 := Nat.le_of_eq HM10.out.new.symm
        have h11 : g10 < g11 := by rw [HM11.out.new]; exact heap_lt HM10.out.row
        refine (SP.out _).mono ?_
        rintro e wc ⟨rfl, rfl⟩
        go_wp2_with fail
        refine (CU.out _ HBB.out).mono ?_
        rintro e wd ⟨rfl, hb3⟩
        have HB3 := hidk (HBB.out.trans (hb3.mono HBB.out.size))
        have HR10 := hidk ((hb3.block _ (heap_lt (HK10.out))).trans HK10.out)
        have HR11 := hidk ((hb3.block _ (heap_lt HM11.out.row)).trans HM11.out.row)
        clear hb3 SP CU HBB
        go_wp2_with (first
          | (show wpList _ _ _ ({ dst := some 14, op := _, type := _, pos := _, after := _, guard := _ } :: _) _ _; refine wpList_new_var rfl 30 rfl Z HA.out ?_; intro g14 we HM14; try simp only [Act.put, List.setIfInBounds_toArray, List.set_cons_zero, List.set_cons_succ])
          | (refine wpList_set_var rfl 30 (.tmp 14) (.tmp 46) rfl g14 D rfl rfl 30 Z HM14.out.row HSD.out HZD.out H1D.out ?_; intro wf HW14; have hcf := FN.out _ (HW14.out.below w.heap.size w (HB3.out.trans (HM14.out.below.mono HB3.out.size)) (by rw [HM14.out.new]; exact HB3.out.size)); try simp only [Act.put, List.setIfInBounds_toArray, List.set_cons_zero, List.set_cons_succ])
          | fail)
        have hg14 : w.heap.size ≤ g14 := by rw [HM14.out.new]; exact HB3.out.size
        have HB5 := hidk (HW14.out.below w.heap.size w (HB3.out.trans (HM14.out.below.mono HB3.out.size)) hg14)

        have HR10w := hidk ((HW14.out.other g10 (by have := heap_lt HR10.out; have := HM14.out.new; omega)).trans ((HM14.out.below.block _ (heap_lt HR10.out)).trans HR10.out))
        have HR11w := hidk ((HW14.out.other g11 (by have := heap_lt HR11.out; have := HM14.out.new; omega)).trans ((HM14.out.below.block _ (heap_lt HR11.out)).trans HR11.out))
        have h14 : g11 < g14 := by rw [HM14.out.new]; exact heap_lt HR11.out
        have HR14 := hidk HW14.out.row
        clear HR10 HR11 HM14 HW14 HB3 HK10 HM10 HM11
        refine (IH.out _ HB5.out).mono ?_
        rintro e wg ⟨rfl, hb7⟩
        have HB7 := hidk (HB5.out.trans (hb7.mono HB5.out.size))
        have HR10g := hidk ((hb7.block _ (heap_lt HR10w.out)).trans HR10w.out)
        have HR11g := hidk ((hb7.block _ (heap_lt HR11w.out)).trans HR11w.out)
        have HR14g := hidk ((hb7.block _ (heap_lt HR14.out)).trans HR14.out)
        clear hb7 hcf IH FN HR10w HR11w HR14 HB5
        go_wp2_with (first
          | (show wpList _ _ _ ({ dst := some 17, op := _, type := _, pos := _, after := _, guard := _ } :: _) _ _; refine wpList_new_var rfl 30 rfl Z HA.out ?_; intro ga wh HMa; try simp only [Act.put, List.setIfInBounds_toArray, List.set_cons_zero, List.set_cons_succ])
          | (show wpList _ _ _ ({ dst := some 18, op := _, type := _, pos := _, after := _, guard := _ } :: _) _ _; refine wpList_new_var rfl 30 rfl Z HA.out ?_; intro gb wi HMb; have HKa := hidk ((HMb.out.below.block _ (heap_lt HMa.out.row)).trans HMa.out.row); have hab : ga < gb := by { rw [HMb.out.new]; exact heap_lt HMa.out.row }; try simp only [Act.put, List.setIfInBounds_toArray, List.set_cons_zero, List.set_cons_succ])
          | (refine wpList_set_var rfl 30 (.tmp 17) (.tmp 74) rfl ga A1 rfl rfl 30 Z HKa.out HSA1.out HZA1.out H1A1.out ?_; intro wj HWa; have HKb := hidk ((HWa.out.other gb (by omega)).trans HMb.out.row); try simp only [Act.put, List.setIfInBounds_toArray, List.set_cons_zero, List.set_cons_succ])
          | (refine wpList_set_var rfl 30 (.tmp 18) (.tmp 75) rfl gb A2 rfl rfl 30 Z HKb.out HSA2.out HZA2.out H1A2.out ?_; intro wk HWb; try simp only [Act.put, List.setIfInBounds_toArray, List.set_cons_zero, List.set_cons_succ])
          | fail)
        have hga : wg.heap.size = ga := HMa.out.new.symm
        have hl14 := heap_lt HR14g.out
        have hl10 := heap_lt HR10g.out
        have hl11 := heap_lt HR11g.out
        have HBk := hidk (HWb.out.below wg.heap.size wg (HWa.out.below wg.heap.size wg (HMa.out.below.trans (HMb.out.below.mono HMa.out.below.size)) (by omega)) (by omega))
        have HBX := hidk (HB7.out.trans (HBk.out.mono HB7.out.size))
        have HR10k := hidk ((HBk.out.block _ hl10).trans HR10g.out)
        have HR11k := hidk ((HBk.out.block _ hl11).trans HR11g.out)
        have HR14k := hidk ((HBk.out.block _ hl14).trans HR14g.out)
        have HRa := hidk ((HWb.out.other ga (by omega)).trans HWa.out.row)
        have HRb := hidk HWb.out.row
        have hgb : gb < wk.heap.size := heap_lt HRb.out
        clear HMa HMb HKa HKb HWa HWb HBk HR10g HR11g HR14g HB7
        refine wp_region_held_drew (S := (fun W => W.heap[ga]? = some (.cells A1 30 (0, 0)) ∧ W.heap[gb]? = some (.cells A2 30 (0, 0)) ∧ W.heap[g14]? = some (.cells D 30 (0, 0)))) (by kernel_rfl) ⟨HRa.out, HRb.out, HR14k.out⟩ (fun hHeld => ?_)
        refine wpAnyH_take (i := 0) (oi := { dst := some 76, op := Op.load 30 (Operand.tmp 14), type := 30, pos := "check.go:131", after := #[], guard := none }) (v := .agg D) rfl (by kernel_rfl) (by kernel_rfl) (by kernel_rfl) (fun _ _ _ h => h) (yieldsIf_row (by rfl) 30 (.tmp 14) rfl g14 rfl 30 D (0, 0) _ (fun _ h => h.2.2) Tryd.underlying30 rfl HSD.out) hHeld ?_
        try simp only [Act.put, List.setIfInBounds_toArray, List.set_cons_zero, List.set_cons_succ]
        refine wpAnyH_take (i := 1) (oi := { dst := some 77, op := Op.load 30 (Operand.tmp 17), type := 30, pos := "check.go:131", after := #[], guard := none }) (v := .agg A1) rfl (by kernel_rfl) (by kernel_rfl) (by kernel_rfl) (fun _ _ _ h => h) (yieldsIf_row (by rfl) 30 (.tmp 17) rfl ga rfl 30 A1 (0, 0) _ (fun _ h => h.1) Tryd.underlying30 rfl HSA1.out) hHeld ?_
        try simp only [Act.put, List.setIfInBounds_toArray, List.set_cons_zero, List.set_cons_succ]
        refine wpAnyH_take (i := 2) (oi := { dst := some 78, op := Op.build 135 #[(0, Operand.tmp 76), (1, Operand.tmp 77)], type := 135, pos := "check.go:131", after := #[{ on := 0, ground := Ground.data }, { on := 1, ground := Ground.data }], guard := none }) (v := .agg KK1) rfl (by kernel_rfl) (by kernel_rfl) (by kernel_rfl) (fun _ _ _ h => h) (yieldsIf_build (by rfl) 135 _ rfl #[(0, .agg D), (1, .agg A1)] rfl (.agg KK1) BK1.out) hHeld ?_
        try simp only [Act.put, List.setIfInBounds_toArray, List.set_cons_zero, List.set_cons_succ]
        refine wpAnyH_take (i := 4) (oi := { dst := some 80, op := Op.load 30 (Operand.tmp 14), type := 30, pos := "check.go:131", after := #[], guard := none }) (v := .agg D) rfl (by kernel_rfl) (by kernel_rfl) (by kernel_rfl) (fun _ _ _ h => h) (yieldsIf_row (by rfl) 30 (.tmp 14) rfl g14 rfl 30 D (0, 0) _ (fun _ h => h.2.2) Tryd.underlying30 rfl HSD.out) hHeld ?_
        try simp only [Act.put, List.setIfInBounds_toArray, List.set_cons_zero, List.set_cons_succ]
        refine wpAnyH_take (i := 5) (oi := { dst := some 81, op := Op.load 30 (Operand.tmp 18), type := 30, pos := "check.go:131", after := #[], guard := none }) (v := .agg A2) rfl (by kernel_rfl) (by kernel_rfl) (by kernel_rfl) (fun _ _ _ h => h) (yieldsIf_row (by rfl) 30 (.tmp 18) rfl gb rfl 30 A2 (0, 0) _ (fun _ h => h.2.1) Tryd.underlying30 rfl HSA2.out) hHeld ?_
        try simp only [Act.put, List.setIfInBounds_toArray, List.set_cons_zero, List.set_cons_succ]
        refine wpAnyH_take (i := 6) (oi := { dst := some 82, op := Op.build 135 #[(0, Operand.tmp 80), (1, Operand.tmp 81)], type := 135, pos := "check.go:131", after := #[{ on := 4, ground := Ground.data }, { on := 5, ground := Ground.data }], guard := none }) (v := .agg KK) rfl (by kernel_rfl) (by kernel_rfl) (by kernel_rfl) (fun _ _ _ h => h) (yieldsIf_build (by rfl) 135 _ rfl #[(0, .agg D), (1, .agg A2)] rfl (.agg KK) BK.out) hHeld ?_
        try simp only [Act.put, List.setIfInBounds_toArray, List.set_cons_zero, List.set_cons_succ]
        refine wpAnyH_ready (rs := [3]) (by kernel_rfl) (by simp) ?_
        refine (AllReadyH.cons (o := { dst := some 79, op := Op.call { callee := Callee.value (Operand.func 73), args := #[Operand.tmp 78], argTypes := #[135] }, type := 30, pos := "check.go:131", after := #[{ on := 2, ground := Ground.data }], guard := none }) rfl (fun K hK => ?_) AllReadyH.nil)
        go_simp
        refine (SU1.out _ HBX.out.drew).mono ?_
        rintro e w3 ⟨rfl, hb4⟩
        have HBS1 := hidk (HBX.out.drew.trans (hb4.mono HBX.out.size))
        have HR10t := hidk ((hb4.block _ (heap_lt HR10k.out)).trans HR10k.out)
        have HR11t := hidk ((hb4.block _ (heap_lt HR11k.out)).trans HR11k.out)
        go_wp2_with fail
        refine hK.out _ _ ⟨(hb4.block _ (heap_lt hHeld.1)).trans hHeld.1, (hb4.block _ (heap_lt hHeld.2.1)).trans hHeld.2.1, (hb4.block _ (heap_lt hHeld.2.2)).trans hHeld.2.2⟩ (fun hHeld => ?_)
        clear hK K
        try simp only [Act.put, List.setIfInBounds_toArray, List.set_cons_zero, List.set_cons_succ]
        refine wpAnyH_ready (rs := [7]) (by kernel_rfl) (by simp) ?_
        refine (AllReadyH.cons (o := { dst := some 83, op := Op.call { callee := Callee.value (Operand.func 73), args := #[Operand.tmp 82], argTypes := #[135] }, type := 30, pos := "check.go:131", after := #[{ on := 6, ground := Ground.data }, { on := 3, ground := Ground.chain }], guard := none }) rfl (fun K hK => ?_) AllReadyH.nil)
        go_simp
        refine (SU.out _ HBS1.out).mono ?_
        rintro e w7 ⟨rfl, hb5⟩
        have HBS := hidk (HBS1.out.trans (hb5.mono HBS1.out.size))
        have HR10s := hidk ((hb5.block _ (heap_lt HR10t.out)).trans HR10t.out)
        have HR11s := hidk ((hb5.block _ (heap_lt HR11t.out)).trans HR11t.out)
        go_wp2_with fail
        refine hK.out _ _ ⟨(hb5.block _ (heap_lt hHeld.1)).trans hHeld.1, (hb5.block _ (heap_lt hHeld.2.1)).trans hHeld.2.1, (hb5.block _ (heap_lt hHeld.2.2)).trans hHeld.2.2⟩ (fun hHeld => ?_)
        clear hK K
        try simp only [Act.put, List.setIfInBounds_toArray, List.set_cons_zero, List.set_cons_succ]
        refine wpAnyH_ready (rs := [8]) (by kernel_rfl) (by simp) ?_
        refine (AllReadyH.cons (o := { dst := none, op := Op.store 30 (Operand.tmp 10) (Operand.tmp 79), type := 0, pos := "check.go:131", after := #[{ on := 3, ground := Ground.data }, { on := 7, ground := Ground.chain }, { on := 0, ground := Ground.phase }, { on := 1, ground := Ground.phase }, { on := 2, ground := Ground.phase }, { on := 3, ground := Ground.phase }, { on := 4, ground := Ground.textOnly Departure.lateStores }, { on := 5, ground := Ground.textOnly Departure.lateStores }, { on := 6, ground := Ground.textOnly Departure.lateStores }, { on := 7, ground := Ground.textOnly Departure.lateStoresUnsure }], guard := none }) rfl (fun K hK => ?_) AllReadyH.nil)
        refine step_set_var (by rfl) 30 (.tmp 10) (.tmp 79) rfl g10 M1 rfl rfl 30 Z HR10s.out HSM1.out HZM1.out H1M1.out ?_
        intro wx HW10
        refine hK.out _ _ ⟨(HW10.out.other ga (by omega)).trans hHeld.1, (HW10.out.other gb (by omega)).trans hHeld.2.1, (HW10.out.other g14 (by omega)).trans hHeld.2.2⟩ (fun hHeld => ?_)
        clear hK K
        try simp only [Act.put, List.setIfInBounds_toArray, List.set_cons_zero, List.set_cons_succ]
        refine wpAnyH_ready (rs := [9]) (by kernel_rfl) (by simp) ?_
        refine (AllReadyH.cons (o := { dst := none, op := Op.store 30 (Operand.tmp 11) (Operand.tmp 83), type := 0, pos := "check.go:131", after := #[{ on := 7, ground := Ground.data }, { on := 8, ground := Ground.chain }, { on := 0, ground := Ground.phase }, { on := 1, ground := Ground.phase }, { on := 2, ground := Ground.phase }, { on := 3, ground := Ground.phase }, { on := 4, ground := Ground.phase }, { on := 5, ground := Ground.phase }, { on := 6, ground := Ground.phase }, { on := 7, ground := Ground.phase }, { on := 8, ground := Ground.phase }], guard := none }) rfl (fun K hK => ?_) AllReadyH.nil)
        refine step_set_var (by rfl) 30 (.tmp 11) (.tmp 83) rfl g11 M2 rfl rfl 30 Z ((HW10.out.other g11 (by omega)).trans HR11s.out) HSM2.out HZM2.out H1M2.out ?_
        intro wy HW11
        refine hK.out _ _ ⟨(HW11.out.other ga (by omega)).trans hHeld.1, (HW11.out.other gb (by omega)).trans hHeld.2.1, (HW11.out.other g14 (by omega)).trans hHeld.2.2⟩ (fun hHeld => ?_)
        clear hK K
        try simp only [Act.put, List.setIfInBounds_toArray, List.set_cons_zero, List.set_cons_succ]
        refine wpAnyH_done (by kernel_rfl) ?_ _
        go_wp2
        refine bodyPost_ret (v := .tuple #[.agg M1, .agg M2]) ?_ rfl ⟨rfl, HW11.out.below w.heap.size w (HW10.out.below w.heap.size w HBS.out (by omega)) (by omega)⟩
        exact results_row_row (p1 := 10) (p2 := 11) (ty := 30) rfl _ _ g10 g11 30 30 M1 M2 (0, 0) (0, 0) _ rfl rfl ((HW11.out.other g10 (by omega)).trans HW10.out.row) HW11.out.row Tryd.underlying30 rfl HSM1.out HSM2.out
end Go.Proofs.YtdnhnjimhbbababDoor
