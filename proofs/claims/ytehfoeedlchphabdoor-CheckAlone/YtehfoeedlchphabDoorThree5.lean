/- The statements' own example of check: three leaves. -/
import Derived.Test.YtehfoeedlchphabDoorCheckC
import Derived.Test.YtehfoeedlchphabDoorLaws5
import Derived.Test.YtehfoeedlchphabDoorRoots
namespace Go.Proofs.YtehfoeedlchphabDoor
open Go.RowKit Sums
set_option linter.unusedVariables false
set_option linter.unusedSimpArgs false

/-- A literal of digests, made: the new world a letter. -/
theorem step_new_list {ops : Array Oper} {o : Oper} {a : Act} {w : World} {K : Act → World → Prop} {Q : Exit → Act → World → Prop} {E : Prop} (hw : Region.wanted o (yielded ops a.tmps) = true) (n : Nat) (parts : Array (Nat × Operand)) (ho : o.op = .buildSlice 24 n parts) (ds : List (List UInt8)) (hd : Digs32 ds) (hn : ds.length = n) (h1 : 0 < n) (h2 : n ≤ 100)
    (vals : Array (Nat × Value)) (hv : (parts.toList.map fun p => (p.1, a.eval p.2)) = vals.toList) (hp : vals.toList = ((ds.map cellsOf).zipIdx 0).map fun x => (x.2, Value.agg x.1.toArray))
    (h : ∀ g w', Hid (LReads w' (some ⟨g, 0, none⟩) n n ds ∧ Below w.heap.size w w') → K (a.put o.dst (.slice (some ⟨g, 0, none⟩) n n)) w') : if Region.wanted o (yielded ops a.tmps) = true then Oper.wp Tryd.prog o a w K Q else E :=
  step_build_run hw 24 n parts ho vals hv _ _ (run_build_digs w n ds hd hn h1 h2 vals hp) (h _ _ ⟨LReads.new w ds n hn hd h2 _ (rfl : _ = _), (Below.refl _ _).alloc (Nat.le_refl _) _⟩)
theorem wpList_new_list {ops : Array Oper} {rest : List Oper} {o : Oper} {a : Act} {w : World} {Q : Exit → Act → World → Prop} (hg : o.guard = none) (n : Nat) (parts : Array (Nat × Operand)) (ho : o.op = .buildSlice 24 n parts) (ds : List (List UInt8)) (hd : Digs32 ds) (hn : ds.length = n) (h1 : 0 < n) (h2 : n ≤ 100)
    (vals : Array (Nat × Value)) (hv : (parts.toList.map fun p => (p.1, a.eval p.2)) = vals.toList) (hp : vals.toList = ((ds.map cellsOf).zipIdx 0).map fun x => (x.2, Value.agg x.1.toArray))
    (h : ∀ g w', Hid (LReads w' (some ⟨g, 0, none⟩) n n ds ∧ Below w.heap.size w w') → wpList Tryd.prog ops Q rest (a.put o.dst (.slice (some ⟨g, 0, none⟩) n n)) w') : wpList Tryd.prog ops Q (o :: rest) a w :=
  wpList_build_run hg 24 n parts ho vals hv _ _ (run_build_digs w n ds hd hn h1 h2 vals hp) (h _ _ ⟨LReads.new w ds n hn hd h2 _ (rfl : _ = _), (Below.refl _ _).alloc (Nat.le_refl _) _⟩)

theorem split1 : split 1 = 0 := by decide +kernel
theorem split2 : split 2 = 1 := by decide +kernel
theorem split3 : split 3 = 2 := by decide +kernel
theorem root_ab (a b : List UInt8) : root [a, b] = knotD a b := by
  rw [root_more [a, b] (by simp), show [a, b].length = 2 from rfl, split2]
  rw [root_one _ (by simp), root_one _ (by simp)]
  rfl
theorem root_abc (a b c : List UInt8) : root [a, b, c] = knotD (knotD a b) c := by
  rw [root_more [a, b, c] (by simp), show [a, b, c].length = 3 from rfl, split3]
  rw [show List.take 2 [a, b, c] = [a, b] from rfl, root_ab, root_one _ (by simp)]
  rfl
theorem mk_abc (a b c : List UInt8) : mkR [c, b] 3 0 a = (knotD (knotD a b) c, true) := by simp [mkR, split3, split2]
theorem inc_1 (a b c : List UInt8) : incE (knotD (knotD a b) c) 3 0 a [b, c] = 0 := by
  have := incE_in (knotD (knotD a b) c) 3 0 a [b, c] (by omega) (by omega) (by omega)
  refine this.trans ?_
  rw [show [b, c].reverse = [c, b] from rfl, mk_abc]
  simp
theorem inc_2 (a b c : List UInt8) : incE (knotD (knotD a b) c) 3 2 c [knotD a b] = 0 := by
  have := incE_in (knotD (knotD a b) c) 3 2 c [knotD a b] (by omega) (by omega) (by omega)
  refine this.trans ?_
  have e : mkR [knotD a b] 3 2 c = (knotD (knotD a b) c, true) := by simp [mkR, split3]
  rw [show [knotD a b].reverse = [knotD a b] from rfl, e]
  simp
theorem inc_3 (a b c : List UInt8) (h : knotD (knotD b b) c ≠ knotD (knotD a b) c) : incE (knotD (knotD a b) c) 3 0 b [b, c] = 41 := by
  have := incE_in (knotD (knotD a b) c) 3 0 b [b, c] (by omega) (by omega) (by omega)
  refine this.trans ?_
  rw [show [b, c].reverse = [c, b] from rfl, mk_abc]
  simp [h]
theorem inc_4 (a b c : List UInt8) : incE (knotD (knotD a b) c) 3 0 a [b] = 40 := by
  have := incE_in (knotD (knotD a b) c) 3 0 a [b] (by omega) (by omega) (by omega)
  refine this.trans ?_
  have e : (mkR [b] 3 0 a).2 = false := by simp [mkR, split3]
  rw [show [b].reverse = [b] from rfl, e]
  simp
theorem con_1 (a b c : List UInt8) : conE 1 a 3 (knotD (knotD a b) c) [b, c] = 0 := by
  have := conE_in 1 a 3 (knotD (knotD a b) c) [b, c] (by omega) (by omega) (by omega)
  refine this.trans ?_
  have e : bothR [c, b] 1 3 a true = (a, knotD (knotD a b) c, true) := by simp [bothR, split3, split2]
  rw [show [b, c].reverse = [c, b] from rfl, e]
  simp
theorem con_2 (r : List UInt8) : conE 0 (sumD []) 3 r [] = 0 := by
  rw [conE_none _ 3 r [] (by omega)]
  simp
theorem con_3 (r : List UInt8) : conE 3 r 3 r [] = 0 := by
  have := conE_in 3 r 3 r [] (by omega) (by omega) (by omega)
  refine this.trans ?_
  simp [bothR]
theorem con_4 (r : List UInt8) : conE 2 r 1 r [] = 40 := conE_out 2 r 1 r [] (by omega)
theorem three_ne : (knotD (knotD (dig1 2) (dig1 2)) (dig1 3) == knotD (knotD (dig1 1) (dig1 2)) (dig1 3)) = false := by decide +kernel
theorem built1 : Tryd.prog.built 23 [(0, .int .u8 1)] = some (cellsOf (dig1 1)).toArray := by kernel_rfl
theorem built2 : Tryd.prog.built 23 [(0, .int .u8 2)] = some (cellsOf (dig1 2)).toArray := by kernel_rfl
theorem built3 : Tryd.prog.built 23 [(0, .int .u8 3)] = some (cellsOf (dig1 3)).toArray := by kernel_rfl

/-- What three's variables hold. -/
structure Abr (A B C R : Array Value) (gA gB gC gR : Nat) (w W : World) : Prop where
  ra : W.heap[gA]? = some (.cells A 23 (0, 0))
  rb : W.heap[gB]? = some (.cells B 23 (0, 0))
  rc : W.heap[gC]? = some (.cells C 23 (0, 0))
  rr : W.heap[gR]? = some (.cells R 23 (0, 0))
  low : Below w.heap.size w W
theorem Abr.keep {A B C R : Array Value} {gA gB gC gR : Nat} {w W W' : World} (h : Abr A B C R gA gB gC gR w W) (hb : Below W.heap.size W W') : Abr A B C R gA gB gC gR w W' :=
  ⟨(hb.block _ (heap_lt h.ra)).trans h.ra, (hb.block _ (heap_lt h.rb)).trans h.rb, (hb.block _ (heap_lt h.rc)).trans h.rc, (hb.block _ (heap_lt h.rr)).trans h.rr, h.low.trans (hb.mono h.low.size)⟩
theorem LReads.nothing (W : World) : LReads W none 0 0 [] := ⟨rfl, (fun d hd => by cases hd), Nat.le_refl _, Nat.zero_le _, .inl rfl⟩

set_option maxHeartbeats 8000000 in
set_option maxRecDepth 100000 in
theorem three5_true (ck : CheckC) (w : World) (hK : TabC w) : Calls Tryd.prog 6 #[] w fun e w' => e = .returned (.bool true) ∧ Below w.heap.size w w' := by
  obtain ⟨Z, HZ, HAZ, HSZ, H1Z, H32Z⟩ := noughts27
  have TH : ∃ a b c : List UInt8, a.length = 32 ∧ b.length = 32 ∧ c.length = 32 ∧ Hid (knotD (knotD b b) c ≠ knotD (knotD a b) c) ∧ ∃ A B C : Array Value, (Hid (A = (cellsOf a).toArray) ∧ Hid (Tryd.prog.built 23 [(0, .int .u8 1)] = some A)) ∧ (Hid (B = (cellsOf b).toArray) ∧ Hid (Tryd.prog.built 23 [(0, .int .u8 2)] = some B)) ∧ (Hid (C = (cellsOf c).toArray) ∧ Hid (Tryd.prog.built 23 [(0, .int .u8 3)] = some C)) :=
    ⟨dig1 1, dig1 2, dig1 3, rfl, rfl, rfl, (fun e => by have := three_ne; rw [e] at this; simp at this), _, _, _, ⟨(rfl : _ = _), built1⟩, ⟨(rfl : _ = _), built2⟩, ⟨(rfl : _ = _), built3⟩⟩
  obtain ⟨a, b, c, ha, hb, hc, HNE, A, B, C, ⟨HA, hbA⟩, ⟨HB, hbB⟩, ⟨HC, hbC⟩⟩ := TH
  have sz : ∀ (l : List UInt8) (D : Array Value), l.length = 32 → Hid (D = (cellsOf l).toArray) → Hid ((Tryd.prog.info? 23).map (·.size) = some D.size) ∧ Hid (D.all (·.oneCell') = true) ∧ Hid (Z.size = D.size) := fun l D hl HD => ⟨by show _ = _; rw [size23, HD.out]; simp [cellsOf_length, hl], by show _ = _; rw [HD.out]; exact cellsOf_all _, by show _ = _; rw [H32Z.out, HD.out]; simp [cellsOf_length, hl]⟩
  obtain ⟨HSA, H1A, HZA⟩ := sz a A ha HA
  obtain ⟨HSB, H1B, HZB⟩ := sz b B hb HB
  obtain ⟨HSC, H1C, HZC⟩ := sz c C hc HC
  obtain ⟨k, Hk⟩ : ∃ k, Hid (k = knotD a b) := ⟨_, (rfl : _ = _)⟩
  have hk : k.length = 32 := by rw [Hk.out]; exact sumD_length _
  obtain ⟨r, Hr⟩ : ∃ r, Hid (r = knotD (knotD a b) c) := ⟨_, (rfl : _ = _)⟩
  have hr : r.length = 32 := by rw [Hr.out]; exact sumD_length _
  obtain ⟨KT, HKT⟩ : ∃ D, Hid (D = (cellsOf k).toArray) := ⟨_, (rfl : _ = _)⟩
  obtain ⟨R, HR⟩ : ∃ D, Hid (D = (cellsOf r).toArray) := ⟨_, (rfl : _ = _)⟩
  obtain ⟨E, HE⟩ : ∃ D, Hid (D = (cellsOf (sumD [])).toArray) := ⟨_, (rfl : _ = _)⟩
  obtain ⟨HSR, H1R, HZR⟩ := sz r R hr HR
  have dig2 : ∀ x y : List UInt8, x.length = 32 → y.length = 32 → Digs32 [x, y] := fun x y h1 h2 d hd => by
    simp only [List.mem_cons, List.not_mem_nil, or_false] at hd
    rcases hd with rfl | rfl <;> assumption
  have dabc : Hid (Digs32 [a, b, c]) := fun d hd => by
    simp only [List.mem_cons, List.not_mem_nil, or_false] at hd
    rcases hd with rfl | rfl | rfl <;> assumption
  have dbc := hidk (dig2 b c hb hc)
  have dk := hidk (Digs32.one hk)
  have db := hidk (Digs32.one hb)
  have vabc : Hid ((#[(0, .agg A), (1, .agg B), (2, .agg C)] : Array (Nat × Value)).toList = (([a, b, c].map cellsOf).zipIdx 0).map fun x => (x.2, Value.agg x.1.toArray)) := by show _ = _; rw [HA.out, HB.out, HC.out]; rfl
  have vbc : Hid ((#[(0, .agg B), (1, .agg C)] : Array (Nat × Value)).toList = (([b, c].map cellsOf).zipIdx 0).map fun x => (x.2, Value.agg x.1.toArray)) := by show _ = _; rw [HB.out, HC.out]; rfl
  have vk : Hid ((#[(0, .agg KT)] : Array (Nat × Value)).toList = (([k].map cellsOf).zipIdx 0).map fun x => (x.2, Value.agg x.1.toArray)) := by show _ = _; rw [HKT.out]; rfl
  have vb : Hid ((#[(0, .agg B)] : Array (Nat × Value)).toList = (([b].map cellsOf).zipIdx 0).map fun x => (x.2, Value.agg x.1.toArray)) := by show _ = _; rw [HB.out]; rfl
  have RT : Hid (∀ (W : World) g, Below w.heap.size w W → LReads W (some ⟨g, 0, none⟩) 3 3 [a, b, c] → Calls Tryd.prog 13 #[.slice (some ⟨g, 0, none⟩) 3 3] W fun e w' => e = .returned (.agg R) ∧ Below W.heap.size W w') := fun W g hl hL => root_any 3 _ 3 3 [a, b, c] W rfl hL (hK.keep hl).sha R (by show _ = _; rw [HR.out, Hr.out, root_abc])
  have KN : Hid (∀ W, Below w.heap.size w W → Calls Tryd.prog 14 #[.agg A, .agg B] W fun e w' => e = .returned (.agg KT) ∧ Below W.heap.size W w') := fun W hl => by
    rw [HA.out, HB.out]
    exact knot_any a b ha hb W (hK.keep hl).sha KT (by show _ = _; rw [HKT.out, Hk.out]; rfl)
  have EM : Hid (∀ W, Below w.heap.size w W → Calls Tryd.prog 15 #[] W fun e w' => e = .returned (.agg E) ∧ Below W.heap.size W w') := fun W hl => empty_any W (hK.keep hl).sha E HE
  have i3 : (-9223372036854775808 : Int) ≤ 3 ∧ (3 : Int) ≤ 9223372036854775807 := by omega
  have i0 : (-9223372036854775808 : Int) ≤ 0 ∧ (0 : Int) ≤ 9223372036854775807 := by omega
  have i1 : (-9223372036854775808 : Int) ≤ 1 ∧ (1 : Int) ≤ 9223372036854775807 := by omega
  have i2 : (-9223372036854775808 : Int) ≤ 2 ∧ (2 : Int) ≤ 9223372036854775807 := by omega
  have N1 : Hid (∀ (W : World) g, Below w.heap.size w W → LReads W (some ⟨g, 0, none⟩) 2 2 [b, c] → Calls Tryd.prog 4 #[.agg R, .int .i64 3, .int .i64 0, .agg A, .slice (some ⟨g, 0, none⟩) 2 2] W fun e w' => e = .returned (.int .i64 0) ∧ Below W.heap.size W w') := fun W g hl hL => by
    have := ck.included r 3 0 a [b, c] _ 2 2 W R A HR HA hr ha i3 i0 hL (hK.keep hl)
    rwa [show incE r 3 0 a [b, c] = 0 by rw [Hr.out]; exact inc_1 a b c] at this
  have N2 : Hid (∀ (W : World) g, Below w.heap.size w W → LReads W (some ⟨g, 0, none⟩) 1 1 [k] → Calls Tryd.prog 4 #[.agg R, .int .i64 3, .int .i64 2, .agg C, .slice (some ⟨g, 0, none⟩) 1 1] W fun e w' => e = .returned (.int .i64 0) ∧ Below W.heap.size W w') := fun W g hl hL => by
    have := ck.included r 3 2 c [k] _ 1 1 W R C HR HC hr hc i3 i2 hL (hK.keep hl)
    rwa [show incE r 3 2 c [k] = 0 by rw [Hr.out, Hk.out]; exact inc_2 a b c] at this
  have N3 : Hid (∀ (W : World) g, Below w.heap.size w W → LReads W (some ⟨g, 0, none⟩) 2 2 [b, c] → Calls Tryd.prog 4 #[.agg R, .int .i64 3, .int .i64 0, .agg B, .slice (some ⟨g, 0, none⟩) 2 2] W fun e w' => e = .returned (.int .i64 41) ∧ Below W.heap.size W w') := fun W g hl hL => by
    have := ck.included r 3 0 b [b, c] _ 2 2 W R B HR HB hr hb i3 i0 hL (hK.keep hl)
    rwa [show incE r 3 0 b [b, c] = 41 by rw [Hr.out]; exact inc_3 a b c HNE.out] at this
  have N4 : Hid (∀ (W : World) g, Below w.heap.size w W → LReads W (some ⟨g, 0, none⟩) 1 1 [b] → Calls Tryd.prog 4 #[.agg R, .int .i64 3, .int .i64 0, .agg A, .slice (some ⟨g, 0, none⟩) 1 1] W fun e w' => e = .returned (.int .i64 40) ∧ Below W.heap.size W w') := fun W g hl hL => by
    have := ck.included r 3 0 a [b] _ 1 1 W R A HR HA hr ha i3 i0 hL (hK.keep hl)
    rwa [show incE r 3 0 a [b] = 40 by rw [Hr.out]; exact inc_4 a b c] at this
  have G1 : Hid (∀ (W : World) g, Below w.heap.size w W → LReads W (some ⟨g, 0, none⟩) 2 2 [b, c] → Calls Tryd.prog 5 #[.int .i64 1, .agg A, .int .i64 3, .agg R, .slice (some ⟨g, 0, none⟩) 2 2] W fun e w' => e = .returned (.int .i64 0) ∧ Below W.heap.size W w') := fun W g hl hL => by
    have := ck.consistent 1 a 3 r [b, c] _ 2 2 W A R HA HR ha hr i1 i3 hL (hK.keep hl)
    rwa [show conE 1 a 3 r [b, c] = 0 by rw [Hr.out]; exact con_1 a b c] at this
  have G2 : Hid (∀ W : World, Below w.heap.size w W → Calls Tryd.prog 5 #[.int .i64 0, .agg E, .int .i64 3, .agg R, .slice none 0 0] W fun e w' => e = .returned (.int .i64 0) ∧ Below W.heap.size W w') := fun W hl => by
    have := ck.consistent 0 (sumD []) 3 r [] none 0 0 W E R HE HR (sumD_length _) hr i0 i3 (LReads.nothing W) (hK.keep hl)
    rwa [con_2 r] at this
  have G3 : Hid (∀ W : World, Below w.heap.size w W → Calls Tryd.prog 5 #[.int .i64 3, .agg R, .int .i64 3, .agg R, .slice none 0 0] W fun e w' => e = .returned (.int .i64 0) ∧ Below W.heap.size W w') := fun W hl => by
    have := ck.consistent 3 r 3 r [] none 0 0 W R R HR HR hr hr i3 i3 (LReads.nothing W) (hK.keep hl)
    rwa [con_3 r] at this
  have G4 : Hid (∀ W : World, Below w.heap.size w W → Calls Tryd.prog 5 #[.int .i64 2, .agg R, .int .i64 1, .agg R, .slice none 0 0] W fun e w' => e = .returned (.int .i64 40) ∧ Below W.heap.size W w') := fun W hl => by
    have := ck.consistent 2 r 1 r [] none 0 0 W R R HR HR hr hr i2 i1 (LReads.nothing W) (hK.keep hl)
    rwa [con_4 r] at this
  have CL : Hid (∀ (W : World) g g', Below w.heap.size w W → LReads W (some ⟨g, 0, none⟩) 2 2 [b, c] → LReads W (some ⟨g', 0, none⟩) 2 2 [b, c] → Calls Tryd.prog 16 #[.agg R, .int .i64 3, .int .i64 0, .agg A, .slice (some ⟨g, 0, none⟩) 2 2, .agg A, .slice (some ⟨g', 0, none⟩) 2 2] W fun e w' => e = .returned (.tuple #[.string ⟨#[]⟩, .string ⟨#[]⟩, .bool false]) ∧ Below W.heap.size W w') := fun W g g' hl h1 h2 => by
    have := ck.clash r 3 0 a [b, c] a [b, c] _ _ 2 2 2 2 W R A A HR HA HA hr ha ha i3 i0 h1 h2 (hK.keep hl)
    rwa [show claE r 3 0 a [b, c] a [b, c] = none by unfold claE; rw [if_neg]; exact fun h => h.2.2 rfl] at this
  clear ck hK HNE dig2 sz Hk Hr HE HKT HR HA HB HC i0 i1 i2 i3
  go_enter Tryd.func6, Tryd.ntmps6
  go_wp2_with (first
    | (show wpList _ _ _ ({ dst := some 10, op := _, type := _, pos := _, after := _, guard := _ } :: _) _ _; refine wpList_build_one rfl 23 0 (.const (.int .u8 1)) rfl A _ rfl hbA.out ?_; try simp only [Act.put, List.setIfInBounds_toArray, List.set_cons_zero, List.set_cons_succ])
    | (show wpList _ _ _ ({ dst := some 11, op := _, type := _, pos := _, after := _, guard := _ } :: _) _ _; refine wpList_build_one rfl 23 0 (.const (.int .u8 2)) rfl B _ rfl hbB.out ?_; try simp only [Act.put, List.setIfInBounds_toArray, List.set_cons_zero, List.set_cons_succ])
    | (show wpList _ _ _ ({ dst := some 12, op := _, type := _, pos := _, after := _, guard := _ } :: _) _ _; refine wpList_build_one rfl 23 0 (.const (.int .u8 3)) rfl C _ rfl hbC.out ?_; try simp only [Act.put, List.setIfInBounds_toArray, List.set_cons_zero, List.set_cons_succ])
    | (show wpList _ _ _ ({ dst := some 1, op := _, type := _, pos := _, after := _, guard := _ } :: _) _ _; refine wpList_new_row rfl rfl 23 rfl (.tmp 1) (.tmp 10) rfl Z A HAZ.out (fun _ => by simp [Act.put, Act.eval]) (fun _ => by simp [Act.put, Act.eval]) HSA.out HZA.out H1A.out ?_; intro gA w1 F1; try simp only [Act.put, List.setIfInBounds_toArray, List.set_cons_zero, List.set_cons_succ])
    | (show wpList _ _ _ ({ dst := some 2, op := _, type := _, pos := _, after := _, guard := _ } :: _) _ _; refine wpList_new_row rfl rfl 23 rfl (.tmp 2) (.tmp 11) rfl Z B HAZ.out (fun _ => by simp [Act.put, Act.eval]) (fun _ => by simp [Act.put, Act.eval]) HSB.out HZB.out H1B.out ?_; intro gB w2 F2; try simp only [Act.put, List.setIfInBounds_toArray, List.set_cons_zero, List.set_cons_succ])
    | (show wpList _ _ _ ({ dst := some 3, op := _, type := _, pos := _, after := _, guard := _ } :: _) _ _; refine wpList_new_row rfl rfl 23 rfl (.tmp 3) (.tmp 12) rfl Z C HAZ.out (fun _ => by simp [Act.put, Act.eval]) (fun _ => by simp [Act.put, Act.eval]) HSC.out HZC.out H1C.out ?_; intro gC w3 F3; have H3 : Hid (w3.heap[gA]? = some (.cells A 23 (0, 0)) ∧ w3.heap[gB]? = some (.cells B 23 (0, 0)) ∧ w3.heap[gC]? = some (.cells C 23 (0, 0)) ∧ Below w.heap.size w w3) := ⟨(F3.out.2.2.block _ (heap_lt ((F2.out.2.2.block _ (heap_lt F1.out.2.1)).trans F1.out.2.1))).trans ((F2.out.2.2.block _ (heap_lt F1.out.2.1)).trans F1.out.2.1), (F3.out.2.2.block _ (heap_lt F2.out.2.1)).trans F2.out.2.1, F3.out.2.1, (F1.out.2.2.trans (F2.out.2.2.mono F1.out.2.2.size)).trans (F3.out.2.2.mono (Nat.le_trans F1.out.2.2.size F2.out.2.2.size))⟩; clear F1 F2 F3; try simp only [Act.put, List.setIfInBounds_toArray, List.set_cons_zero, List.set_cons_succ])
    | (show wpList _ _ _ ({ dst := some 13, op := _, type := _, pos := _, after := _, guard := _ } :: _) _ _; refine wpList_load_row rfl 23 (.tmp 1) rfl gA rfl 23 A (0, 0) _ H3.out.1 Tryd.underlying23 rfl HSA.out ?_; try simp only [Act.put, List.setIfInBounds_toArray, List.set_cons_zero, List.set_cons_succ])
    | (show wpList _ _ _ ({ dst := some 14, op := _, type := _, pos := _, after := _, guard := _ } :: _) _ _; refine wpList_load_row rfl 23 (.tmp 2) rfl gB rfl 23 B (0, 0) _ H3.out.2.1 Tryd.underlying23 rfl HSB.out ?_; try simp only [Act.put, List.setIfInBounds_toArray, List.set_cons_zero, List.set_cons_succ])
    | (show wpList _ _ _ ({ dst := some 15, op := _, type := _, pos := _, after := _, guard := _ } :: _) _ _; refine wpList_load_row rfl 23 (.tmp 3) rfl gC rfl 23 C (0, 0) _ H3.out.2.2.1 Tryd.underlying23 rfl HSC.out ?_; try simp only [Act.put, List.setIfInBounds_toArray, List.set_cons_zero, List.set_cons_succ])
    | (show wpList _ _ _ ({ dst := some 16, op := _, type := _, pos := _, after := _, guard := _ } :: _) _ _; refine wpList_new_list rfl 3 _ rfl [a, b, c] dabc.out rfl (by omega) (by omega) #[(0, .agg A), (1, .agg B), (2, .agg C)] (by simp [Act.eval]) vabc.out ?_; intro gl w3b F3b; have HL3 := hidk F3b.out.1; replace H3 := hidk (And.intro ((F3b.out.2.block _ (heap_lt H3.out.1)).trans H3.out.1) (And.intro ((F3b.out.2.block _ (heap_lt H3.out.2.1)).trans H3.out.2.1) (And.intro ((F3b.out.2.block _ (heap_lt H3.out.2.2.1)).trans H3.out.2.2.1) (H3.out.2.2.2.trans (F3b.out.2.mono H3.out.2.2.2.size))))); clear F3b; try simp only [Act.put, List.setIfInBounds_toArray, List.set_cons_zero, List.set_cons_succ])
    | fail)
  refine (RT.out _ _ H3.out.2.2.2 HL3.out).mono ?_
  rintro e w4 ⟨rfl, hb4⟩
  have H4 : Hid (w4.heap[gA]? = some (.cells A 23 (0, 0)) ∧ w4.heap[gB]? = some (.cells B 23 (0, 0)) ∧ w4.heap[gC]? = some (.cells C 23 (0, 0)) ∧ Below w.heap.size w w4) := ⟨(hb4.block _ (heap_lt H3.out.1)).trans H3.out.1, (hb4.block _ (heap_lt H3.out.2.1)).trans H3.out.2.1, (hb4.block _ (heap_lt H3.out.2.2.1)).trans H3.out.2.2.1, H3.out.2.2.2.trans (hb4.mono H3.out.2.2.2.size)⟩
  clear H3 HL3 hb4 RT hbA hbB hbC
  go_wp2_with (first
    | (show wpList _ _ _ ({ dst := some 4, op := _, type := _, pos := _, after := _, guard := _ } :: _) _ _; refine wpList_new_row rfl rfl 23 rfl (.tmp 4) (.tmp 17) rfl Z R HAZ.out (fun _ => by simp [Act.put, Act.eval]) (fun _ => by simp [Act.put, Act.eval]) HSR.out HZR.out H1R.out ?_; intro gR w5 F5; try simp only [Act.put, List.setIfInBounds_toArray, List.set_cons_zero, List.set_cons_succ])
    | fail)
  have H5 : Hid (Abr A B C R gA gB gC gR w w5) := ⟨(F5.out.2.2.block _ (heap_lt H4.out.1)).trans H4.out.1, (F5.out.2.2.block _ (heap_lt H4.out.2.1)).trans H4.out.2.1, (F5.out.2.2.block _ (heap_lt H4.out.2.2.1)).trans H4.out.2.2.1, F5.out.2.1, H4.out.2.2.2.trans (F5.out.2.2.mono H4.out.2.2.2.size)⟩
  clear H4 F5
  refine wp_region_held_drew (S := (fun W => Abr A B C R gA gB gC gR w W)) (by kernel_rfl) (H5.out.keep (Below.refl _ _).drew) (fun hHeld => ?_)
  refine wpAnyH_take (i := 0) (oi := { dst := some 18, op := Op.load 23 (Operand.tmp 4), type := 23, pos := "law.go:22", after := #[], guard := none }) (v := .agg R) rfl (by kernel_rfl) (by kernel_rfl) (by kernel_rfl) (fun _ _ _ h => h) (yieldsIf_row (by rfl) 23 (.tmp 4) rfl gR rfl 23 R (0, 0) _ (fun _ h => h.rr) Tryd.underlying23 rfl HSR.out) hHeld ?_
  try simp only [Act.put, List.setIfInBounds_toArray, List.set_cons_zero, List.set_cons_succ]
  refine wpAnyH_take (i := 1) (oi := { dst := some 19, op := Op.load 23 (Operand.tmp 1), type := 23, pos := "law.go:22", after := #[], guard := none }) (v := .agg A) rfl (by kernel_rfl) (by kernel_rfl) (by kernel_rfl) (fun _ _ _ h => h) (yieldsIf_row (by rfl) 23 (.tmp 1) rfl gA rfl 23 A (0, 0) _ (fun _ h => h.ra) Tryd.underlying23 rfl HSA.out) hHeld ?_
  try simp only [Act.put, List.setIfInBounds_toArray, List.set_cons_zero, List.set_cons_succ]
  refine wpAnyH_take (i := 2) (oi := { dst := some 20, op := Op.load 23 (Operand.tmp 2), type := 23, pos := "law.go:22", after := #[], guard := none }) (v := .agg B) rfl (by kernel_rfl) (by kernel_rfl) (by kernel_rfl) (fun _ _ _ h => h) (yieldsIf_row (by rfl) 23 (.tmp 2) rfl gB rfl 23 B (0, 0) _ (fun _ h => h.rb) Tryd.underlying23 rfl HSB.out) hHeld ?_
  try simp only [Act.put, List.setIfInBounds_toArray, List.set_cons_zero, List.set_cons_succ]
  refine wpAnyH_take (i := 3) (oi := { dst := some 21, op := Op.load 23 (Operand.tmp 3), type := 23, pos := "law.go:22", after := #[], guard := none }) (v := .agg C) rfl (by kernel_rfl) (by kernel_rfl) (by kernel_rfl) (fun _ _ _ h => h) (yieldsIf_row (by rfl) 23 (.tmp 3) rfl gC rfl 23 C (0, 0) _ (fun _ h => h.rc) Tryd.underlying23 rfl HSC.out) hHeld ?_
  try simp only [Act.put, List.setIfInBounds_toArray, List.set_cons_zero, List.set_cons_succ]
  refine wpAnyH_ready (rs := [4]) (by kernel_rfl) (by simp) ?_
  refine AllReadyH.cons (o := { dst := some 22, op := Op.buildSlice 24 2 #[(0, Operand.tmp 20), (1, Operand.tmp 21)], type := 24, pos := "law.go:22", after := #[{ on := 2, ground := Ground.data }, { on := 3, ground := Ground.data }], guard := none }) rfl (fun K hK => ?_) AllReadyH.nil
  refine step_new_list (by rfl) 2 _ rfl [b, c] dbc.out rfl (by omega) (by omega) #[(0, .agg B), (1, .agg C)] (by simp [Act.eval]) vbc.out ?_
  intro gb1 wb1 Fb1
  refine hK.out _ _ (hHeld.keep Fb1.out.2) (fun hHeld => ?_)
  clear hK K
  try simp only [Act.put, List.setIfInBounds_toArray, List.set_cons_zero, List.set_cons_succ]
  refine wpAnyH_ready (rs := [5]) (by kernel_rfl) (by simp) ?_
  refine AllReadyH.cons (o := { dst := some 23, op := Op.call { callee := Callee.value (Operand.func 4), args := #[Operand.tmp 18, Operand.const (Value.int IntKind.i64 3), Operand.const (Value.int IntKind.i64 0), Operand.tmp 19, Operand.tmp 22], argTypes := #[23, 3, 3, 23, 24] }, type := 25, pos := "law.go:22", after := #[{ on := 0, ground := Ground.data }, { on := 1, ground := Ground.data }, { on := 4, ground := Ground.data }], guard := none }) rfl (fun K hK => ?_) AllReadyH.nil
  go_simp
  refine (N1.out _ _ hHeld.low Fb1.out.1).mono ?_
  rintro e wN1 ⟨rfl, hbwN1⟩
  go_wp2_with fail
  refine hK.out _ _ (hHeld.keep hbwN1) (fun hHeld => ?_)
  clear hK K
  try simp only [Act.put, List.setIfInBounds_toArray, List.set_cons_zero, List.set_cons_succ]
  refine wpAnyH_take (i := 6) (oi := { dst := some 24, op := Op.binOp BinOp.eql 25 (Operand.tmp 23) (Operand.const (Value.int IntKind.i64 0)) 25, type := 4, pos := "law.go:22", after := #[{ on := 5, ground := Ground.data }], guard := none }) (v := .bool true) rfl (by kernel_rfl) (by kernel_rfl) (by kernel_rfl) (fun _ _ _ h => h) (Or.inl ⟨by rfl, by intro w hSw; go_simp⟩) hHeld ?_
  try simp only [Act.put, List.setIfInBounds_toArray, List.set_cons_zero, List.set_cons_succ]
  refine wpAnyH_take (i := 7) (oi := { dst := some 25, op := Op.move (Operand.tmp 24), type := 4, pos := "law.go:22", after := #[{ on := 6, ground := Ground.data }, { on := 5, ground := Ground.chain }], guard := none }) (v := .bool true) rfl (by kernel_rfl) (by kernel_rfl) (by kernel_rfl) (fun _ _ _ h => h) (Or.inl ⟨by rfl, by intro w hSw; go_simp⟩) hHeld ?_
  try simp only [Act.put, List.setIfInBounds_toArray, List.set_cons_zero, List.set_cons_succ]
  refine wpAnyH_take (i := 8) (oi := { dst := some 26, op := Op.load 23 (Operand.tmp 4), type := 23, pos := "law.go:22", after := #[{ on := 7, ground := Ground.guard }], guard := some (7, true) }) (v := .agg R) rfl (by kernel_rfl) (by kernel_rfl) (by kernel_rfl) (fun _ _ _ h => h) (yieldsIf_row (by rfl) 23 (.tmp 4) rfl gR rfl 23 R (0, 0) _ (fun _ h => h.rr) Tryd.underlying23 rfl HSR.out) hHeld ?_
  try simp only [Act.put, List.setIfInBounds_toArray, List.set_cons_zero, List.set_cons_succ]
  refine wpAnyH_take (i := 9) (oi := { dst := some 27, op := Op.load 23 (Operand.tmp 3), type := 23, pos := "law.go:22", after := #[{ on := 7, ground := Ground.guard }], guard := some (7, true) }) (v := .agg C) rfl (by kernel_rfl) (by kernel_rfl) (by kernel_rfl) (fun _ _ _ h => h) (yieldsIf_row (by rfl) 23 (.tmp 3) rfl gC rfl 23 C (0, 0) _ (fun _ h => h.rc) Tryd.underlying23 rfl HSC.out) hHeld ?_
  try simp only [Act.put, List.setIfInBounds_toArray, List.set_cons_zero, List.set_cons_succ]
  refine wpAnyH_take (i := 10) (oi := { dst := some 28, op := Op.load 23 (Operand.tmp 1), type := 23, pos := "law.go:22", after := #[{ on := 7, ground := Ground.guard }], guard := some (7, true) }) (v := .agg A) rfl (by kernel_rfl) (by kernel_rfl) (by kernel_rfl) (fun _ _ _ h => h) (yieldsIf_row (by rfl) 23 (.tmp 1) rfl gA rfl 23 A (0, 0) _ (fun _ h => h.ra) Tryd.underlying23 rfl HSA.out) hHeld ?_
  try simp only [Act.put, List.setIfInBounds_toArray, List.set_cons_zero, List.set_cons_succ]
  refine wpAnyH_take (i := 11) (oi := { dst := some 29, op := Op.load 23 (Operand.tmp 2), type := 23, pos := "law.go:22", after := #[{ on := 7, ground := Ground.guard }], guard := some (7, true) }) (v := .agg B) rfl (by kernel_rfl) (by kernel_rfl) (by kernel_rfl) (fun _ _ _ h => h) (yieldsIf_row (by rfl) 23 (.tmp 2) rfl gB rfl 23 B (0, 0) _ (fun _ h => h.rb) Tryd.underlying23 rfl HSB.out) hHeld ?_
  try simp only [Act.put, List.setIfInBounds_toArray, List.set_cons_zero, List.set_cons_succ]
  refine wpAnyH_ready (rs := [12]) (by kernel_rfl) (by simp) ?_
  refine AllReadyH.cons (o := { dst := some 30, op := Op.call { callee := Callee.value (Operand.func 14), args := #[Operand.tmp 28, Operand.tmp 29], argTypes := #[23, 23] }, type := 23, pos := "law.go:22", after := #[{ on := 10, ground := Ground.data }, { on := 11, ground := Ground.data }, { on := 7, ground := Ground.chain }, { on := 7, ground := Ground.guard }], guard := some (7, true) }) rfl (fun K hK => ?_) AllReadyH.nil
  go_simp
  refine (KN.out _ hHeld.low).mono ?_
  rintro e wK ⟨rfl, hbwK⟩
  go_wp2_with fail
  refine hK.out _ _ (hHeld.keep hbwK) (fun hHeld => ?_)
  clear hK K
  try simp only [Act.put, List.setIfInBounds_toArray, List.set_cons_zero, List.set_cons_succ]
  refine wpAnyH_ready (rs := [13]) (by kernel_rfl) (by simp) ?_
  refine AllReadyH.cons (o := { dst := some 31, op := Op.buildSlice 24 1 #[(0, Operand.tmp 30)], type := 24, pos := "law.go:22", after := #[{ on := 12, ground := Ground.data }, { on := 7, ground := Ground.guard }], guard := some (7, true) }) rfl (fun K hK => ?_) AllReadyH.nil
  refine step_new_list (by rfl) 1 _ rfl [k] dk.out rfl (by omega) (by omega) #[(0, .agg KT)] (by simp [Act.eval]) vk.out ?_
  intro gb2 wb2 Fb2
  refine hK.out _ _ (hHeld.keep Fb2.out.2) (fun hHeld => ?_)
  clear hK K
  try simp only [Act.put, List.setIfInBounds_toArray, List.set_cons_zero, List.set_cons_succ]
  refine wpAnyH_ready (rs := [14]) (by kernel_rfl) (by simp) ?_
  refine AllReadyH.cons (o := { dst := some 32, op := Op.call { callee := Callee.value (Operand.func 4), args := #[Operand.tmp 26, Operand.const (Value.int IntKind.i64 3), Operand.const (Value.int IntKind.i64 2), Operand.tmp 27, Operand.tmp 31], argTypes := #[23, 3, 3, 23, 24] }, type := 25, pos := "law.go:22", after := #[{ on := 8, ground := Ground.data }, { on := 9, ground := Ground.data }, { on := 13, ground := Ground.data }, { on := 12, ground := Ground.chain }, { on := 7, ground := Ground.guard }], guard := some (7, true) }) rfl (fun K hK => ?_) AllReadyH.nil
  go_simp
  refine (N2.out _ _ hHeld.low Fb2.out.1).mono ?_
  rintro e wN2 ⟨rfl, hbwN2⟩
  go_wp2_with fail
  refine hK.out _ _ (hHeld.keep hbwN2) (fun hHeld => ?_)
  clear hK K
  try simp only [Act.put, List.setIfInBounds_toArray, List.set_cons_zero, List.set_cons_succ]
  refine wpAnyH_take (i := 15) (oi := { dst := some 33, op := Op.binOp BinOp.eql 25 (Operand.tmp 32) (Operand.const (Value.int IntKind.i64 0)) 25, type := 4, pos := "law.go:22", after := #[{ on := 14, ground := Ground.data }, { on := 7, ground := Ground.guard }], guard := some (7, true) }) (v := .bool true) rfl (by kernel_rfl) (by kernel_rfl) (by kernel_rfl) (fun _ _ _ h => h) (Or.inl ⟨by rfl, by intro w hSw; go_simp⟩) hHeld ?_
  try simp only [Act.put, List.setIfInBounds_toArray, List.set_cons_zero, List.set_cons_succ]
  refine wpAnyH_take (i := 16) (oi := { dst := some 34, op := Op.pick (Operand.tmp 25) (Operand.tmp 33) (Operand.const (Value.bool false)), type := 4, pos := "law.go:22", after := #[{ on := 7, ground := Ground.data }, { on := 15, ground := Ground.data }], guard := none }) (v := .bool true) rfl (by kernel_rfl) (by kernel_rfl) (by kernel_rfl) (fun _ _ _ h => h) (Or.inl ⟨by rfl, by intro w hSw; go_simp⟩) hHeld ?_
  try simp only [Act.put, List.setIfInBounds_toArray, List.set_cons_zero, List.set_cons_succ]
  refine wpAnyH_take (i := 17) (oi := { dst := some 35, op := Op.move (Operand.tmp 34), type := 4, pos := "law.go:22", after := #[{ on := 16, ground := Ground.data }, { on := 14, ground := Ground.chain }], guard := none }) (v := .bool true) rfl (by kernel_rfl) (by kernel_rfl) (by kernel_rfl) (fun _ _ _ h => h) (Or.inl ⟨by rfl, by intro w hSw; go_simp⟩) hHeld ?_
  try simp only [Act.put, List.setIfInBounds_toArray, List.set_cons_zero, List.set_cons_succ]
  refine wpAnyH_take (i := 18) (oi := { dst := some 36, op := Op.load 23 (Operand.tmp 4), type := 23, pos := "law.go:22", after := #[{ on := 17, ground := Ground.guard }], guard := some (17, true) }) (v := .agg R) rfl (by kernel_rfl) (by kernel_rfl) (by kernel_rfl) (fun _ _ _ h => h) (yieldsIf_row (by rfl) 23 (.tmp 4) rfl gR rfl 23 R (0, 0) _ (fun _ h => h.rr) Tryd.underlying23 rfl HSR.out) hHeld ?_
  try simp only [Act.put, List.setIfInBounds_toArray, List.set_cons_zero, List.set_cons_succ]
  refine wpAnyH_take (i := 19) (oi := { dst := some 37, op := Op.load 23 (Operand.tmp 2), type := 23, pos := "law.go:22", after := #[{ on := 17, ground := Ground.guard }], guard := some (17, true) }) (v := .agg B) rfl (by kernel_rfl) (by kernel_rfl) (by kernel_rfl) (fun _ _ _ h => h) (yieldsIf_row (by rfl) 23 (.tmp 2) rfl gB rfl 23 B (0, 0) _ (fun _ h => h.rb) Tryd.underlying23 rfl HSB.out) hHeld ?_
  try simp only [Act.put, List.setIfInBounds_toArray, List.set_cons_zero, List.set_cons_succ]
  refine wpAnyH_take (i := 20) (oi := { dst := some 38, op := Op.load 23 (Operand.tmp 2), type := 23, pos := "law.go:22", after := #[{ on := 17, ground := Ground.guard }], guard := some (17, true) }) (v := .agg B) rfl (by kernel_rfl) (by kernel_rfl) (by kernel_rfl) (fun _ _ _ h => h) (yieldsIf_row (by rfl) 23 (.tmp 2) rfl gB rfl 23 B (0, 0) _ (fun _ h => h.rb) Tryd.underlying23 rfl HSB.out) hHeld ?_
  try simp only [Act.put, List.setIfInBounds_toArray, List.set_cons_zero, List.set_cons_succ]
  refine wpAnyH_take (i := 21) (oi := { dst := some 39, op := Op.load 23 (Operand.tmp 3), type := 23, pos := "law.go:22", after := #[{ on := 17, ground := Ground.guard }], guard := some (17, true) }) (v := .agg C) rfl (by kernel_rfl) (by kernel_rfl) (by kernel_rfl) (fun _ _ _ h => h) (yieldsIf_row (by rfl) 23 (.tmp 3) rfl gC rfl 23 C (0, 0) _ (fun _ h => h.rc) Tryd.underlying23 rfl HSC.out) hHeld ?_
  try simp only [Act.put, List.setIfInBounds_toArray, List.set_cons_zero, List.set_cons_succ]
  refine wpAnyH_ready (rs := [22]) (by kernel_rfl) (by simp) ?_
  refine AllReadyH.cons (o := { dst := some 40, op := Op.buildSlice 24 2 #[(0, Operand.tmp 38), (1, Operand.tmp 39)], type := 24, pos := "law.go:22", after := #[{ on := 20, ground := Ground.data }, { on := 21, ground := Ground.data }, { on := 17, ground := Ground.guard }], guard := some (17, true) }) rfl (fun K hK => ?_) AllReadyH.nil
  refine step_new_list (by rfl) 2 _ rfl [b, c] dbc.out rfl (by omega) (by omega) #[(0, .agg B), (1, .agg C)] (by simp [Act.eval]) vbc.out ?_
  intro gb3 wb3 Fb3
  refine hK.out _ _ (hHeld.keep Fb3.out.2) (fun hHeld => ?_)
  clear hK K
  try simp only [Act.put, List.setIfInBounds_toArray, List.set_cons_zero, List.set_cons_succ]
  refine wpAnyH_ready (rs := [23]) (by kernel_rfl) (by simp) ?_
  refine AllReadyH.cons (o := { dst := some 41, op := Op.call { callee := Callee.value (Operand.func 4), args := #[Operand.tmp 36, Operand.const (Value.int IntKind.i64 3), Operand.const (Value.int IntKind.i64 0), Operand.tmp 37, Operand.tmp 40], argTypes := #[23, 3, 3, 23, 24] }, type := 25, pos := "law.go:22", after := #[{ on := 18, ground := Ground.data }, { on := 19, ground := Ground.data }, { on := 22, ground := Ground.data }, { on := 17, ground := Ground.chain }, { on := 17, ground := Ground.guard }], guard := some (17, true) }) rfl (fun K hK => ?_) AllReadyH.nil
  go_simp
  refine (N3.out _ _ hHeld.low Fb3.out.1).mono ?_
  rintro e wN3 ⟨rfl, hbwN3⟩
  go_wp2_with fail
  refine hK.out _ _ (hHeld.keep hbwN3) (fun hHeld => ?_)
  clear hK K
  try simp only [Act.put, List.setIfInBounds_toArray, List.set_cons_zero, List.set_cons_succ]
  refine wpAnyH_take (i := 24) (oi := { dst := some 42, op := Op.binOp BinOp.eql 25 (Operand.tmp 41) (Operand.const (Value.int IntKind.i64 41)) 25, type := 4, pos := "law.go:22", after := #[{ on := 23, ground := Ground.data }, { on := 17, ground := Ground.guard }], guard := some (17, true) }) (v := .bool true) rfl (by kernel_rfl) (by kernel_rfl) (by kernel_rfl) (fun _ _ _ h => h) (Or.inl ⟨by rfl, by intro w hSw; go_simp⟩) hHeld ?_
  try simp only [Act.put, List.setIfInBounds_toArray, List.set_cons_zero, List.set_cons_succ]
  refine wpAnyH_take (i := 25) (oi := { dst := some 43, op := Op.pick (Operand.tmp 35) (Operand.tmp 42) (Operand.const (Value.bool false)), type := 4, pos := "law.go:22", after := #[{ on := 17, ground := Ground.data }, { on := 24, ground := Ground.data }], guard := none }) (v := .bool true) rfl (by kernel_rfl) (by kernel_rfl) (by kernel_rfl) (fun _ _ _ h => h) (Or.inl ⟨by rfl, by intro w hSw; go_simp⟩) hHeld ?_
  try simp only [Act.put, List.setIfInBounds_toArray, List.set_cons_zero, List.set_cons_succ]
  refine wpAnyH_take (i := 26) (oi := { dst := some 44, op := Op.move (Operand.tmp 43), type := 4, pos := "law.go:22", after := #[{ on := 25, ground := Ground.data }, { on := 23, ground := Ground.chain }], guard := none }) (v := .bool true) rfl (by kernel_rfl) (by kernel_rfl) (by kernel_rfl) (fun _ _ _ h => h) (Or.inl ⟨by rfl, by intro w hSw; go_simp⟩) hHeld ?_
  try simp only [Act.put, List.setIfInBounds_toArray, List.set_cons_zero, List.set_cons_succ]
  refine wpAnyH_take (i := 27) (oi := { dst := some 45, op := Op.load 23 (Operand.tmp 4), type := 23, pos := "law.go:22", after := #[{ on := 26, ground := Ground.guard }], guard := some (26, true) }) (v := .agg R) rfl (by kernel_rfl) (by kernel_rfl) (by kernel_rfl) (fun _ _ _ h => h) (yieldsIf_row (by rfl) 23 (.tmp 4) rfl gR rfl 23 R (0, 0) _ (fun _ h => h.rr) Tryd.underlying23 rfl HSR.out) hHeld ?_
  try simp only [Act.put, List.setIfInBounds_toArray, List.set_cons_zero, List.set_cons_succ]
  refine wpAnyH_take (i := 28) (oi := { dst := some 46, op := Op.load 23 (Operand.tmp 1), type := 23, pos := "law.go:22", after := #[{ on := 26, ground := Ground.guard }], guard := some (26, true) }) (v := .agg A) rfl (by kernel_rfl) (by kernel_rfl) (by kernel_rfl) (fun _ _ _ h => h) (yieldsIf_row (by rfl) 23 (.tmp 1) rfl gA rfl 23 A (0, 0) _ (fun _ h => h.ra) Tryd.underlying23 rfl HSA.out) hHeld ?_
  try simp only [Act.put, List.setIfInBounds_toArray, List.set_cons_zero, List.set_cons_succ]
  refine wpAnyH_take (i := 29) (oi := { dst := some 47, op := Op.load 23 (Operand.tmp 2), type := 23, pos := "law.go:22", after := #[{ on := 26, ground := Ground.guard }], guard := some (26, true) }) (v := .agg B) rfl (by kernel_rfl) (by kernel_rfl) (by kernel_rfl) (fun _ _ _ h => h) (yieldsIf_row (by rfl) 23 (.tmp 2) rfl gB rfl 23 B (0, 0) _ (fun _ h => h.rb) Tryd.underlying23 rfl HSB.out) hHeld ?_
  try simp only [Act.put, List.setIfInBounds_toArray, List.set_cons_zero, List.set_cons_succ]
  refine wpAnyH_ready (rs := [30]) (by kernel_rfl) (by simp) ?_
  refine AllReadyH.cons (o := { dst := some 48, op := Op.buildSlice 24 1 #[(0, Operand.tmp 47)], type := 24, pos := "law.go:22", after := #[{ on := 29, ground := Ground.data }, { on := 26, ground := Ground.guard }], guard := some (26, true) }) rfl (fun K hK => ?_) AllReadyH.nil
  refine step_new_list (by rfl) 1 _ rfl [b] db.out rfl (by omega) (by omega) #[(0, .agg B)] (by simp [Act.eval]) vb.out ?_
  intro gb4 wb4 Fb4
  refine hK.out _ _ (hHeld.keep Fb4.out.2) (fun hHeld => ?_)
  clear hK K
  try simp only [Act.put, List.setIfInBounds_toArray, List.set_cons_zero, List.set_cons_succ]
  refine wpAnyH_ready (rs := [31]) (by kernel_rfl) (by simp) ?_
  refine AllReadyH.cons (o := { dst := some 49, op := Op.call { callee := Callee.value (Operand.func 4), args := #[Operand.tmp 45, Operand.const (Value.int IntKind.i64 3), Operand.const (Value.int IntKind.i64 0), Operand.tmp 46, Operand.tmp 48], argTypes := #[23, 3, 3, 23, 24] }, type := 25, pos := "law.go:22", after := #[{ on := 27, ground := Ground.data }, { on := 28, ground := Ground.data }, { on := 30, ground := Ground.data }, { on := 26, ground := Ground.chain }, { on := 26, ground := Ground.guard }], guard := some (26, true) }) rfl (fun K hK => ?_) AllReadyH.nil
  go_simp
  refine (N4.out _ _ hHeld.low Fb4.out.1).mono ?_
  rintro e wN4 ⟨rfl, hbwN4⟩
  go_wp2_with fail
  refine hK.out _ _ (hHeld.keep hbwN4) (fun hHeld => ?_)
  clear hK K
  try simp only [Act.put, List.setIfInBounds_toArray, List.set_cons_zero, List.set_cons_succ]
  refine wpAnyH_take (i := 32) (oi := { dst := some 50, op := Op.binOp BinOp.eql 25 (Operand.tmp 49) (Operand.const (Value.int IntKind.i64 40)) 25, type := 4, pos := "law.go:22", after := #[{ on := 31, ground := Ground.data }, { on := 26, ground := Ground.guard }], guard := some (26, true) }) (v := .bool true) rfl (by kernel_rfl) (by kernel_rfl) (by kernel_rfl) (fun _ _ _ h => h) (Or.inl ⟨by rfl, by intro w hSw; go_simp⟩) hHeld ?_
  try simp only [Act.put, List.setIfInBounds_toArray, List.set_cons_zero, List.set_cons_succ]
  refine wpAnyH_take (i := 33) (oi := { dst := some 51, op := Op.pick (Operand.tmp 44) (Operand.tmp 50) (Operand.const (Value.bool false)), type := 4, pos := "law.go:22", after := #[{ on := 26, ground := Ground.data }, { on := 32, ground := Ground.data }], guard := none }) (v := .bool true) rfl (by kernel_rfl) (by kernel_rfl) (by kernel_rfl) (fun _ _ _ h => h) (Or.inl ⟨by rfl, by intro w hSw; go_simp⟩) hHeld ?_
  try simp only [Act.put, List.setIfInBounds_toArray, List.set_cons_zero, List.set_cons_succ]
  refine wpAnyH_take (i := 34) (oi := { dst := some 5, op := Op.assign (Operand.tmp 51), type := 4, pos := "law.go:22", after := #[{ on := 33, ground := Ground.data }, { on := 31, ground := Ground.chain }, { on := 0, ground := Ground.phase }, { on := 1, ground := Ground.phase }, { on := 2, ground := Ground.phase }, { on := 3, ground := Ground.phase }, { on := 4, ground := Ground.phase }, { on := 5, ground := Ground.phase }, { on := 6, ground := Ground.phase }, { on := 7, ground := Ground.phase }, { on := 8, ground := Ground.phase }, { on := 9, ground := Ground.phase }, { on := 10, ground := Ground.phase }, { on := 11, ground := Ground.phase }, { on := 12, ground := Ground.phase }, { on := 13, ground := Ground.phase }, { on := 14, ground := Ground.phase }, { on := 15, ground := Ground.phase }, { on := 16, ground := Ground.phase }, { on := 17, ground := Ground.phase }, { on := 18, ground := Ground.phase }, { on := 19, ground := Ground.phase }, { on := 20, ground := Ground.phase }, { on := 21, ground := Ground.phase }, { on := 22, ground := Ground.phase }, { on := 23, ground := Ground.phase }, { on := 24, ground := Ground.phase }, { on := 25, ground := Ground.phase }, { on := 26, ground := Ground.phase }, { on := 27, ground := Ground.phase }, { on := 28, ground := Ground.phase }, { on := 29, ground := Ground.phase }, { on := 30, ground := Ground.phase }, { on := 31, ground := Ground.phase }, { on := 32, ground := Ground.phase }, { on := 33, ground := Ground.phase }], guard := none }) (v := .bool true) rfl (by kernel_rfl) (by kernel_rfl) (by kernel_rfl) (fun _ _ _ h => h) (Or.inl ⟨by rfl, by intro w hSw; go_simp⟩) hHeld ?_
  try simp only [Act.put, List.setIfInBounds_toArray, List.set_cons_zero, List.set_cons_succ]
  refine wpAnyH_done (by kernel_rfl) ?_ _
  have H6 : Hid (Abr A B C R gA gB gC gR w wN4) := hHeld
  clear hHeld H5 N1 N2 N3 N4 KN
  go_wp2
  refine wp_region_held_drew (S := (fun W => Abr A B C R gA gB gC gR w W)) (by kernel_rfl) (H6.out.keep (Below.refl _ _).drew) (fun hHeld => ?_)
  refine wpAnyH_take (i := 0) (oi := { dst := some 52, op := Op.load 23 (Operand.tmp 1), type := 23, pos := "law.go:23", after := #[], guard := none }) (v := .agg A) rfl (by kernel_rfl) (by kernel_rfl) (by kernel_rfl) (fun _ _ _ h => h) (yieldsIf_row (by rfl) 23 (.tmp 1) rfl gA rfl 23 A (0, 0) _ (fun _ h => h.ra) Tryd.underlying23 rfl HSA.out) hHeld ?_
  try simp only [Act.put, List.setIfInBounds_toArray, List.set_cons_zero, List.set_cons_succ]
  refine wpAnyH_take (i := 1) (oi := { dst := some 53, op := Op.load 23 (Operand.tmp 4), type := 23, pos := "law.go:23", after := #[], guard := none }) (v := .agg R) rfl (by kernel_rfl) (by kernel_rfl) (by kernel_rfl) (fun _ _ _ h => h) (yieldsIf_row (by rfl) 23 (.tmp 4) rfl gR rfl 23 R (0, 0) _ (fun _ h => h.rr) Tryd.underlying23 rfl HSR.out) hHeld ?_
  try simp only [Act.put, List.setIfInBounds_toArray, List.set_cons_zero, List.set_cons_succ]
  refine wpAnyH_take (i := 2) (oi := { dst := some 54, op := Op.load 23 (Operand.tmp 2), type := 23, pos := "law.go:23", after := #[], guard := none }) (v := .agg B) rfl (by kernel_rfl) (by kernel_rfl) (by kernel_rfl) (fun _ _ _ h => h) (yieldsIf_row (by rfl) 23 (.tmp 2) rfl gB rfl 23 B (0, 0) _ (fun _ h => h.rb) Tryd.underlying23 rfl HSB.out) hHeld ?_
  try simp only [Act.put, List.setIfInBounds_toArray, List.set_cons_zero, List.set_cons_succ]
  refine wpAnyH_take (i := 3) (oi := { dst := some 55, op := Op.load 23 (Operand.tmp 3), type := 23, pos := "law.go:23", after := #[], guard := none }) (v := .agg C) rfl (by kernel_rfl) (by kernel_rfl) (by kernel_rfl) (fun _ _ _ h => h) (yieldsIf_row (by rfl) 23 (.tmp 3) rfl gC rfl 23 C (0, 0) _ (fun _ h => h.rc) Tryd.underlying23 rfl HSC.out) hHeld ?_
  try simp only [Act.put, List.setIfInBounds_toArray, List.set_cons_zero, List.set_cons_succ]
  refine wpAnyH_ready (rs := [4]) (by kernel_rfl) (by simp) ?_
  refine AllReadyH.cons (o := { dst := some 56, op := Op.buildSlice 24 2 #[(0, Operand.tmp 54), (1, Operand.tmp 55)], type := 24, pos := "law.go:23", after := #[{ on := 2, ground := Ground.data }, { on := 3, ground := Ground.data }], guard := none }) rfl (fun K hK => ?_) AllReadyH.nil
  refine step_new_list (by rfl) 2 _ rfl [b, c] dbc.out rfl (by omega) (by omega) #[(0, .agg B), (1, .agg C)] (by simp [Act.eval]) vbc.out ?_
  intro gc1 wc1 Fc1
  refine hK.out _ _ (hHeld.keep Fc1.out.2) (fun hHeld => ?_)
  clear hK K
  try simp only [Act.put, List.setIfInBounds_toArray, List.set_cons_zero, List.set_cons_succ]
  refine wpAnyH_ready (rs := [5]) (by kernel_rfl) (by simp) ?_
  refine AllReadyH.cons (o := { dst := some 57, op := Op.call { callee := Callee.value (Operand.func 5), args := #[Operand.const (Value.int IntKind.i64 1), Operand.tmp 52, Operand.const (Value.int IntKind.i64 3), Operand.tmp 53, Operand.tmp 56], argTypes := #[3, 23, 3, 23, 24] }, type := 25, pos := "law.go:23", after := #[{ on := 0, ground := Ground.data }, { on := 1, ground := Ground.data }, { on := 4, ground := Ground.data }], guard := none }) rfl (fun K hK => ?_) AllReadyH.nil
  go_simp
  refine (G1.out _ _ hHeld.low Fc1.out.1).mono ?_
  rintro e wG1 ⟨rfl, hbwG1⟩
  go_wp2_with fail
  refine hK.out _ _ (hHeld.keep hbwG1) (fun hHeld => ?_)
  clear hK K
  try simp only [Act.put, List.setIfInBounds_toArray, List.set_cons_zero, List.set_cons_succ]
  refine wpAnyH_take (i := 6) (oi := { dst := some 58, op := Op.binOp BinOp.eql 25 (Operand.tmp 57) (Operand.const (Value.int IntKind.i64 0)) 25, type := 4, pos := "law.go:23", after := #[{ on := 5, ground := Ground.data }], guard := none }) (v := .bool true) rfl (by kernel_rfl) (by kernel_rfl) (by kernel_rfl) (fun _ _ _ h => h) (Or.inl ⟨by rfl, by intro w hSw; go_simp⟩) hHeld ?_
  try simp only [Act.put, List.setIfInBounds_toArray, List.set_cons_zero, List.set_cons_succ]
  refine wpAnyH_take (i := 7) (oi := { dst := some 59, op := Op.move (Operand.tmp 58), type := 4, pos := "law.go:23", after := #[{ on := 6, ground := Ground.data }, { on := 5, ground := Ground.chain }], guard := none }) (v := .bool true) rfl (by kernel_rfl) (by kernel_rfl) (by kernel_rfl) (fun _ _ _ h => h) (Or.inl ⟨by rfl, by intro w hSw; go_simp⟩) hHeld ?_
  try simp only [Act.put, List.setIfInBounds_toArray, List.set_cons_zero, List.set_cons_succ]
  refine wpAnyH_take (i := 9) (oi := { dst := some 61, op := Op.load 23 (Operand.tmp 4), type := 23, pos := "law.go:23", after := #[{ on := 7, ground := Ground.guard }], guard := some (7, true) }) (v := .agg R) rfl (by kernel_rfl) (by kernel_rfl) (by kernel_rfl) (fun _ _ _ h => h) (yieldsIf_row (by rfl) 23 (.tmp 4) rfl gR rfl 23 R (0, 0) _ (fun _ h => h.rr) Tryd.underlying23 rfl HSR.out) hHeld ?_
  try simp only [Act.put, List.setIfInBounds_toArray, List.set_cons_zero, List.set_cons_succ]
  refine wpAnyH_ready (rs := [8]) (by kernel_rfl) (by simp) ?_
  refine AllReadyH.cons (o := { dst := some 60, op := Op.call { callee := Callee.value (Operand.func 15), args := #[], argTypes := #[] }, type := 23, pos := "law.go:23", after := #[{ on := 7, ground := Ground.chain }, { on := 7, ground := Ground.guard }], guard := some (7, true) }) rfl (fun K hK => ?_) AllReadyH.nil
  go_simp
  refine (EM.out _ hHeld.low).mono ?_
  rintro e wE ⟨rfl, hbwE⟩
  go_wp2_with fail
  refine hK.out _ _ (hHeld.keep hbwE) (fun hHeld => ?_)
  clear hK K
  try simp only [Act.put, List.setIfInBounds_toArray, List.set_cons_zero, List.set_cons_succ]
  refine wpAnyH_ready (rs := [10]) (by kernel_rfl) (by simp) ?_
  refine AllReadyH.cons (o := { dst := some 62, op := Op.call { callee := Callee.value (Operand.func 5), args := #[Operand.const (Value.int IntKind.i64 0), Operand.tmp 60, Operand.const (Value.int IntKind.i64 3), Operand.tmp 61, Operand.const (Value.slice none 0 0)], argTypes := #[3, 23, 3, 23, 24] }, type := 25, pos := "law.go:23", after := #[{ on := 8, ground := Ground.data }, { on := 9, ground := Ground.data }, { on := 8, ground := Ground.chain }, { on := 7, ground := Ground.guard }], guard := some (7, true) }) rfl (fun K hK => ?_) AllReadyH.nil
  go_simp
  refine (G2.out _ hHeld.low).mono ?_
  rintro e wG2 ⟨rfl, hbwG2⟩
  go_wp2_with fail
  refine hK.out _ _ (hHeld.keep hbwG2) (fun hHeld => ?_)
  clear hK K
  try simp only [Act.put, List.setIfInBounds_toArray, List.set_cons_zero, List.set_cons_succ]
  refine wpAnyH_take (i := 11) (oi := { dst := some 63, op := Op.binOp BinOp.eql 25 (Operand.tmp 62) (Operand.const (Value.int IntKind.i64 0)) 25, type := 4, pos := "law.go:23", after := #[{ on := 10, ground := Ground.data }, { on := 7, ground := Ground.guard }], guard := some (7, true) }) (v := .bool true) rfl (by kernel_rfl) (by kernel_rfl) (by kernel_rfl) (fun _ _ _ h => h) (Or.inl ⟨by rfl, by intro w hSw; go_simp⟩) hHeld ?_
  try simp only [Act.put, List.setIfInBounds_toArray, List.set_cons_zero, List.set_cons_succ]
  refine wpAnyH_take (i := 12) (oi := { dst := some 64, op := Op.pick (Operand.tmp 59) (Operand.tmp 63) (Operand.const (Value.bool false)), type := 4, pos := "law.go:23", after := #[{ on := 7, ground := Ground.data }, { on := 11, ground := Ground.data }], guard := none }) (v := .bool true) rfl (by kernel_rfl) (by kernel_rfl) (by kernel_rfl) (fun _ _ _ h => h) (Or.inl ⟨by rfl, by intro w hSw; go_simp⟩) hHeld ?_
  try simp only [Act.put, List.setIfInBounds_toArray, List.set_cons_zero, List.set_cons_succ]
  refine wpAnyH_take (i := 13) (oi := { dst := some 65, op := Op.move (Operand.tmp 64), type := 4, pos := "law.go:23", after := #[{ on := 12, ground := Ground.data }, { on := 10, ground := Ground.chain }], guard := none }) (v := .bool true) rfl (by kernel_rfl) (by kernel_rfl) (by kernel_rfl) (fun _ _ _ h => h) (Or.inl ⟨by rfl, by intro w hSw; go_simp⟩) hHeld ?_
  try simp only [Act.put, List.setIfInBounds_toArray, List.set_cons_zero, List.set_cons_succ]
  refine wpAnyH_take (i := 14) (oi := { dst := some 66, op := Op.load 23 (Operand.tmp 4), type := 23, pos := "law.go:23", after := #[{ on := 13, ground := Ground.guard }], guard := some (13, true) }) (v := .agg R) rfl (by kernel_rfl) (by kernel_rfl) (by kernel_rfl) (fun _ _ _ h => h) (yieldsIf_row (by rfl) 23 (.tmp 4) rfl gR rfl 23 R (0, 0) _ (fun _ h => h.rr) Tryd.underlying23 rfl HSR.out) hHeld ?_
  try simp only [Act.put, List.setIfInBounds_toArray, List.set_cons_zero, List.set_cons_succ]
  refine wpAnyH_take (i := 15) (oi := { dst := some 67, op := Op.load 23 (Operand.tmp 4), type := 23, pos := "law.go:23", after := #[{ on := 13, ground := Ground.guard }], guard := some (13, true) }) (v := .agg R) rfl (by kernel_rfl) (by kernel_rfl) (by kernel_rfl) (fun _ _ _ h => h) (yieldsIf_row (by rfl) 23 (.tmp 4) rfl gR rfl 23 R (0, 0) _ (fun _ h => h.rr) Tryd.underlying23 rfl HSR.out) hHeld ?_
  try simp only [Act.put, List.setIfInBounds_toArray, List.set_cons_zero, List.set_cons_succ]
  refine wpAnyH_ready (rs := [16]) (by kernel_rfl) (by simp) ?_
  refine AllReadyH.cons (o := { dst := some 68, op := Op.call { callee := Callee.value (Operand.func 5), args := #[Operand.const (Value.int IntKind.i64 3), Operand.tmp 66, Operand.const (Value.int IntKind.i64 3), Operand.tmp 67, Operand.const (Value.slice none 0 0)], argTypes := #[3, 23, 3, 23, 24] }, type := 25, pos := "law.go:23", after := #[{ on := 14, ground := Ground.data }, { on := 15, ground := Ground.data }, { on := 13, ground := Ground.chain }, { on := 13, ground := Ground.guard }], guard := some (13, true) }) rfl (fun K hK => ?_) AllReadyH.nil
  go_simp
  refine (G3.out _ hHeld.low).mono ?_
  rintro e wG3 ⟨rfl, hbwG3⟩
  go_wp2_with fail
  refine hK.out _ _ (hHeld.keep hbwG3) (fun hHeld => ?_)
  clear hK K
  try simp only [Act.put, List.setIfInBounds_toArray, List.set_cons_zero, List.set_cons_succ]
  refine wpAnyH_take (i := 17) (oi := { dst := some 69, op := Op.binOp BinOp.eql 25 (Operand.tmp 68) (Operand.const (Value.int IntKind.i64 0)) 25, type := 4, pos := "law.go:23", after := #[{ on := 16, ground := Ground.data }, { on := 13, ground := Ground.guard }], guard := some (13, true) }) (v := .bool true) rfl (by kernel_rfl) (by kernel_rfl) (by kernel_rfl) (fun _ _ _ h => h) (Or.inl ⟨by rfl, by intro w hSw; go_simp⟩) hHeld ?_
  try simp only [Act.put, List.setIfInBounds_toArray, List.set_cons_zero, List.set_cons_succ]
  refine wpAnyH_take (i := 18) (oi := { dst := some 70, op := Op.pick (Operand.tmp 65) (Operand.tmp 69) (Operand.const (Value.bool false)), type := 4, pos := "law.go:23", after := #[{ on := 13, ground := Ground.data }, { on := 17, ground := Ground.data }], guard := none }) (v := .bool true) rfl (by kernel_rfl) (by kernel_rfl) (by kernel_rfl) (fun _ _ _ h => h) (Or.inl ⟨by rfl, by intro w hSw; go_simp⟩) hHeld ?_
  try simp only [Act.put, List.setIfInBounds_toArray, List.set_cons_zero, List.set_cons_succ]
  refine wpAnyH_take (i := 19) (oi := { dst := some 71, op := Op.move (Operand.tmp 70), type := 4, pos := "law.go:23", after := #[{ on := 18, ground := Ground.data }, { on := 16, ground := Ground.chain }], guard := none }) (v := .bool true) rfl (by kernel_rfl) (by kernel_rfl) (by kernel_rfl) (fun _ _ _ h => h) (Or.inl ⟨by rfl, by intro w hSw; go_simp⟩) hHeld ?_
  try simp only [Act.put, List.setIfInBounds_toArray, List.set_cons_zero, List.set_cons_succ]
  refine wpAnyH_take (i := 20) (oi := { dst := some 72, op := Op.load 23 (Operand.tmp 4), type := 23, pos := "law.go:23", after := #[{ on := 19, ground := Ground.guard }], guard := some (19, true) }) (v := .agg R) rfl (by kernel_rfl) (by kernel_rfl) (by kernel_rfl) (fun _ _ _ h => h) (yieldsIf_row (by rfl) 23 (.tmp 4) rfl gR rfl 23 R (0, 0) _ (fun _ h => h.rr) Tryd.underlying23 rfl HSR.out) hHeld ?_
  try simp only [Act.put, List.setIfInBounds_toArray, List.set_cons_zero, List.set_cons_succ]
  refine wpAnyH_take (i := 21) (oi := { dst := some 73, op := Op.load 23 (Operand.tmp 4), type := 23, pos := "law.go:23", after := #[{ on := 19, ground := Ground.guard }], guard := some (19, true) }) (v := .agg R) rfl (by kernel_rfl) (by kernel_rfl) (by kernel_rfl) (fun _ _ _ h => h) (yieldsIf_row (by rfl) 23 (.tmp 4) rfl gR rfl 23 R (0, 0) _ (fun _ h => h.rr) Tryd.underlying23 rfl HSR.out) hHeld ?_
  try simp only [Act.put, List.setIfInBounds_toArray, List.set_cons_zero, List.set_cons_succ]
  refine wpAnyH_ready (rs := [22]) (by kernel_rfl) (by simp) ?_
  refine AllReadyH.cons (o := { dst := some 74, op := Op.call { callee := Callee.value (Operand.func 5), args := #[Operand.const (Value.int IntKind.i64 2), Operand.tmp 72, Operand.const (Value.int IntKind.i64 1), Operand.tmp 73, Operand.const (Value.slice none 0 0)], argTypes := #[3, 23, 3, 23, 24] }, type := 25, pos := "law.go:23", after := #[{ on := 20, ground := Ground.data }, { on := 21, ground := Ground.data }, { on := 19, ground := Ground.chain }, { on := 19, ground := Ground.guard }], guard := some (19, true) }) rfl (fun K hK => ?_) AllReadyH.nil
  go_simp
  refine (G4.out _ hHeld.low).mono ?_
  rintro e wG4 ⟨rfl, hbwG4⟩
  go_wp2_with fail
  refine hK.out _ _ (hHeld.keep hbwG4) (fun hHeld => ?_)
  clear hK K
  try simp only [Act.put, List.setIfInBounds_toArray, List.set_cons_zero, List.set_cons_succ]
  refine wpAnyH_take (i := 23) (oi := { dst := some 75, op := Op.binOp BinOp.eql 25 (Operand.tmp 74) (Operand.const (Value.int IntKind.i64 40)) 25, type := 4, pos := "law.go:23", after := #[{ on := 22, ground := Ground.data }, { on := 19, ground := Ground.guard }], guard := some (19, true) }) (v := .bool true) rfl (by kernel_rfl) (by kernel_rfl) (by kernel_rfl) (fun _ _ _ h => h) (Or.inl ⟨by rfl, by intro w hSw; go_simp⟩) hHeld ?_
  try simp only [Act.put, List.setIfInBounds_toArray, List.set_cons_zero, List.set_cons_succ]
  refine wpAnyH_take (i := 24) (oi := { dst := some 76, op := Op.pick (Operand.tmp 71) (Operand.tmp 75) (Operand.const (Value.bool false)), type := 4, pos := "law.go:23", after := #[{ on := 19, ground := Ground.data }, { on := 23, ground := Ground.data }], guard := none }) (v := .bool true) rfl (by kernel_rfl) (by kernel_rfl) (by kernel_rfl) (fun _ _ _ h => h) (Or.inl ⟨by rfl, by intro w hSw; go_simp⟩) hHeld ?_
  try simp only [Act.put, List.setIfInBounds_toArray, List.set_cons_zero, List.set_cons_succ]
  refine wpAnyH_take (i := 25) (oi := { dst := some 6, op := Op.assign (Operand.tmp 76), type := 4, pos := "law.go:23", after := #[{ on := 24, ground := Ground.data }, { on := 22, ground := Ground.chain }, { on := 0, ground := Ground.phase }, { on := 1, ground := Ground.phase }, { on := 2, ground := Ground.phase }, { on := 3, ground := Ground.phase }, { on := 4, ground := Ground.phase }, { on := 5, ground := Ground.phase }, { on := 6, ground := Ground.phase }, { on := 7, ground := Ground.phase }, { on := 8, ground := Ground.phase }, { on := 9, ground := Ground.phase }, { on := 10, ground := Ground.phase }, { on := 11, ground := Ground.phase }, { on := 12, ground := Ground.phase }, { on := 13, ground := Ground.phase }, { on := 14, ground := Ground.phase }, { on := 15, ground := Ground.phase }, { on := 16, ground := Ground.phase }, { on := 17, ground := Ground.phase }, { on := 18, ground := Ground.phase }, { on := 19, ground := Ground.phase }, { on := 20, ground := Ground.phase }, { on := 21, ground := Ground.phase }, { on := 22, ground := Ground.phase }, { on := 23, ground := Ground.phase }, { on := 24, ground := Ground.phase }], guard := none }) (v := .bool true) rfl (by kernel_rfl) (by kernel_rfl) (by kernel_rfl) (fun _ _ _ h => h) (Or.inl ⟨by rfl, by intro w hSw; go_simp⟩) hHeld ?_
  try simp only [Act.put, List.setIfInBounds_toArray, List.set_cons_zero, List.set_cons_succ]
  refine wpAnyH_done (by kernel_rfl) ?_ _
  have H7 : Hid (Abr A B C R gA gB gC gR w wG4) := hHeld
  clear hHeld H6 G1 G2 G3 G4 EM
  go_wp2_with (first
    | (show wpList _ _ _ ({ dst := some 78, op := _, type := _, pos := _, after := _, guard := _ } :: _) _ _; refine wpList_load_row rfl 23 (.tmp 4) rfl gR rfl 23 R (0, 0) _ H7.out.rr Tryd.underlying23 rfl HSR.out ?_; try simp only [Act.put, List.setIfInBounds_toArray, List.set_cons_zero, List.set_cons_succ])
    | (show wpList _ _ _ ({ dst := some 79, op := _, type := _, pos := _, after := _, guard := _ } :: _) _ _; refine wpList_load_row rfl 23 (.tmp 1) rfl gA rfl 23 A (0, 0) _ H7.out.ra Tryd.underlying23 rfl HSA.out ?_; try simp only [Act.put, List.setIfInBounds_toArray, List.set_cons_zero, List.set_cons_succ])
    | (show wpList _ _ _ ({ dst := some 80, op := _, type := _, pos := _, after := _, guard := _ } :: _) _ _; refine wpList_load_row rfl 23 (.tmp 2) rfl gB rfl 23 B (0, 0) _ H7.out.rb Tryd.underlying23 rfl HSB.out ?_; try simp only [Act.put, List.setIfInBounds_toArray, List.set_cons_zero, List.set_cons_succ])
    | (show wpList _ _ _ ({ dst := some 81, op := _, type := _, pos := _, after := _, guard := _ } :: _) _ _; refine wpList_load_row rfl 23 (.tmp 3) rfl gC rfl 23 C (0, 0) _ H7.out.rc Tryd.underlying23 rfl HSC.out ?_; try simp only [Act.put, List.setIfInBounds_toArray, List.set_cons_zero, List.set_cons_succ])
    | (show wpList _ _ _ ({ dst := some 82, op := _, type := _, pos := _, after := _, guard := _ } :: _) _ _; refine wpList_new_list rfl 2 _ rfl [b, c] dbc.out rfl (by omega) (by omega) #[(0, .agg B), (1, .agg C)] (by simp [Act.eval]) vbc.out ?_; intro g8 w8 F8; have H8 := hidk (H7.out.keep F8.out.2); try simp only [Act.put, List.setIfInBounds_toArray, List.set_cons_zero, List.set_cons_succ])
    | (show wpList _ _ _ ({ dst := some 83, op := _, type := _, pos := _, after := _, guard := _ } :: _) _ _; refine wpList_load_row rfl 23 (.tmp 1) rfl gA rfl 23 A (0, 0) _ H8.out.ra Tryd.underlying23 rfl HSA.out ?_; try simp only [Act.put, List.setIfInBounds_toArray, List.set_cons_zero, List.set_cons_succ])
    | (show wpList _ _ _ ({ dst := some 84, op := _, type := _, pos := _, after := _, guard := _ } :: _) _ _; refine wpList_load_row rfl 23 (.tmp 2) rfl gB rfl 23 B (0, 0) _ H8.out.rb Tryd.underlying23 rfl HSB.out ?_; try simp only [Act.put, List.setIfInBounds_toArray, List.set_cons_zero, List.set_cons_succ])
    | (show wpList _ _ _ ({ dst := some 85, op := _, type := _, pos := _, after := _, guard := _ } :: _) _ _; refine wpList_load_row rfl 23 (.tmp 3) rfl gC rfl 23 C (0, 0) _ H8.out.rc Tryd.underlying23 rfl HSC.out ?_; try simp only [Act.put, List.setIfInBounds_toArray, List.set_cons_zero, List.set_cons_succ])
    | (show wpList _ _ _ ({ dst := some 86, op := _, type := _, pos := _, after := _, guard := _ } :: _) _ _; refine wpList_new_list rfl 2 _ rfl [b, c] dbc.out rfl (by omega) (by omega) #[(0, .agg B), (1, .agg C)] (by simp [Act.eval]) vbc.out ?_; intro g9 w9 F9; have H9 := hidk (H8.out.keep F9.out.2); have HL8 := hidk (F8.out.1.keep F9.out.2); have HL9 := hidk F9.out.1; clear F8 F9 H7 H8; try simp only [Act.put, List.setIfInBounds_toArray, List.set_cons_zero, List.set_cons_succ])
    | fail)
  refine (CL.out _ _ _ H9.out.low HL8.out HL9.out).mono ?_
  rintro e w10 ⟨rfl, hb10⟩
  have H10 : Hid (Below w.heap.size w w10) := H9.out.low.trans (hb10.mono H9.out.low.size)
  clear hb10 H9 HL8 HL9 CL
  go_wp2
  go_ret
  exact ⟨rfl, H10.out⟩
end Go.Proofs.YtehfoeedlchphabDoor
