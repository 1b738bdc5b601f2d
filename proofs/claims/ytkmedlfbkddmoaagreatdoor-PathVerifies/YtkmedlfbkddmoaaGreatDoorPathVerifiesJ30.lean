/- Texts of our own that the row of PathVerifies leans on, part 30. -/
import Derived.Test.YtkmedlfbkddmoaaGreatDoorPathVerifiesJ0
import Derived.Test.YtkmedlfbkddmoaaGreatDoorPathVerifiesJ11
import Derived.Test.YtkmedlfbkddmoaaGreatDoorPathVerifiesJ24
import Derived.Test.YtkmedlfbkddmoaaGreatDoorPathVerifiesJ29
/- The statements' paths() of chapter 14. -/
namespace Go.Proofs.YtkmedlfbkddmoaaGreatDoor
open Go.RowKit Nums Sums
set_option linter.unusedVariables false
set_option linter.unusedSimpArgs false
set_option maxRecDepth 100000
theorem stL_sing (v : StV) : stL [v] = stcells v := by rw [stL_cons, stL_nil, List.append_nil]
theorem InP.new {W : World} {l : List StV} {n : Nat} (hn : l.length = n) (h1 : n ≤ 100) (ok : ∀ v ∈ l, OkV v) (its : ∀ v ∈ l, In64 v.i ∧ InI v.x ∧ InS v.h) (prf : ∀ v ∈ l, LReads W v.a v.n v.c v.p) (pn : ∀ v ∈ l, v.a = none → v.c = 0) (L : Array Value) (HL : Hid (L = (stL l).toArray)) : InP (W.alloc (.cells L 40)) (some ⟨W.heap.size, 0, none⟩) n n l :=
  ⟨SReads.new W l n hn ok h1 L HL, (fun e => by cases e), its, fun v hv => (prf v hv).keep ((Below.refl _ _).alloc (Nat.le_refl _) _), pn, h1⟩
theorem inp_none (W : World) : InP W none 0 0 [] := ⟨sreads_none W, (fun _ => rfl), (fun v hv => by cases hv), (fun v hv => by cases hv), (fun v hv => by cases hv), by omega⟩
theorem inl_none (W : World) : InL W none 0 0 [] := ⟨ireads_none W, (fun _ => rfl), (fun x hx => by cases hx), by omega⟩
theorem mkV_in {l : List ItT} {i : Int} {s : SgT} (x : Option Addr) (cx : Nat) (hi : In64 i) (hl : ∀ y ∈ l, InI y) (hs : InS s) : OkV (mkV l i s x cx) ∧ In64 (mkV l i s x cx).i ∧ InI (mkV l i s x cx).x ∧ InS (mkV l i s x cx).h := by
  by_cases h : mkE l i s = 0
  · obtain ⟨q1, q2, q3, q4⟩ := mk_item h
    have e := mkT_eq h q3
    have hx := hl _ (List.getElem_mem q3)
    unfold mkV
    rw [e]
    exact ⟨⟨hx.e.ok, hs.h.d, hs.g⟩, hi, hx, hs⟩
  · have e : mkT l i s = zeroT := by unfold mkT; rw [if_neg h]
    unfold mkV
    rw [e]
    exact ⟨⟨zeroE_ok, rfl, rfl⟩, (by show In64 0; unfold In64; decide), zeroI_inI, zeroS_in⟩
structure Held14 (w : World) (S R : Array Value) (gl g2 g3 : Nat) (x : Option Addr) (n cx : Nat) (P : List (List UInt8)) (V : World) : Prop where
  b : Below w.heap.size w V
  t : TabH V
  i : InL V (some ⟨gl, 0, none⟩) 1 1 onl
  s : V.heap[g2]? = some (.cells S 28 (0, 0))
  r : V.heap[g3]? = some (.cells R 40 (0, 0))
  p : LReads V x n cx P
theorem Held14.keep {w : World} {S R : Array Value} {gl g2 g3 : Nat} {x : Option Addr} {n cx : Nat} {P : List (List UInt8)} {V V' : World} (h : Held14 w S R gl g2 g3 x n cx P V) (hb : Below V.heap.size V V') : Held14 w S R gl g2 g3 x n cx P V' :=
  ⟨h.b.trans (hb.mono h.b.size), h.t.keep hb, h.i.keep hb, (hb.block _ (heap_lt h.s)).trans h.s, (hb.block _ (heap_lt h.r)).trans h.r, h.p.keep hb⟩
structure Held15 (w : World) (S R I : Array Value) (gl g2 g3 g9 g10 : Nat) (x : Option Addr) (n cx : Nat) (P : List (List UInt8)) (V : World) : Prop where
  m : Held14 w S R gl g2 g3 x n cx P V
  y : V.heap[g9]? = some (.cells I 37 (0, 0))
  z : V.heap[g10]? = some (.cells S 28 (0, 0))
theorem Held15.keep {w : World} {S R I : Array Value} {gl g2 g3 g9 g10 : Nat} {x : Option Addr} {n cx : Nat} {P : List (List UInt8)} {V V' : World} (h : Held15 w S R I gl g2 g3 g9 g10 x n cx P V) (hb : Below V.heap.size V V') : Held15 w S R I gl g2 g3 g9 g10 x n cx P V' :=
  ⟨h.m.keep hb, (hb.block _ (heap_lt h.y)).trans h.y, (hb.block _ (heap_lt h.z)).trans h.z⟩
set_option maxHeartbeats 16000000 in
theorem paths_true (hc : HistoryC) (hd : HeadC) (pc : PathC) (w : World) (hT : TabH w) : Calls Tryz.prog 10 #[] w fun e w' => e = .returned (.bool true) ∧ Below w.heap.size w w' := by
  have i64 : ∀ z : Int, 0 ≤ z → z ≤ 10 → In64 z := fun z h0 h1 => by unfold In64; omega
  obtain ⟨S, HS, HSS, H1S, N69⟩ := sign_row sgO sgO_digs.1 sgO_digs.2
  obtain ⟨Z, HZ, HA, HBZ, H69⟩ := noughtsS
  obtain ⟨ZI, HZI, HAI, HBI, H110⟩ := noughtsI
  obtain ⟨ZT, HZT, HAT, HBT, H181⟩ := noughtsSt
  obtain ⟨I, HI, HSI, H1I, N110⟩ := item_row (userI 1 1) (userI_ok 1 1)
  obtain ⟨K, HK⟩ : ∃ K : Array Value, Hid (K = (cellsOf zeroK).toArray) := ⟨_, hidk rfl⟩
  have HZC : Hid ((#[.int .u8 0, .int .u8 0, .int .u8 0, .int .u8 0, .int .u8 0, .int .u8 0, .int .u8 0, .int .u8 0, .int .u8 0, .int .u8 0, .int .u8 0, .int .u8 0, .int .u8 0, .int .u8 0, .int .u8 0, .int .u8 0, .int .u8 0, .int .u8 0, .int .u8 0, .int .u8 0, .int .u8 0, .int .u8 0, .int .u8 0, .int .u8 0, .int .u8 0, .int .u8 0, .int .u8 0, .int .u8 0, .int .u8 0, .int .u8 0, .int .u8 0, .int .u8 0] : Array Value) = K) := by show _ = _; rw [HK.out]; rfl
  have HZS : Hid (Z.size = S.size) := by show _ = _; rw [H69.out, N69.out]
  have HZII : Hid (ZI.size = I.size) := by show _ = _; rw [H110.out, N110.out]
  have HSZ : Hid ((Tryz.prog.info? 28).map (·.size) = some Z.size) := by show _ = _; rw [sizeS, H69.out]
  have H1Z : Hid (Z.all (·.oneCell') = true) := by show _ = _; rw [HZ.out]; exact one_cellsS _
  have HSZI : Hid ((Tryz.prog.info? 37).map (·.size) = some ZI.size) := by show _ = _; rw [sizeI, H110.out]
  have H1ZI : Hid (ZI.all (·.oneCell') = true) := by show _ = _; rw [HZI.out]; exact one_cellsI _
  have ONL := hidk (only_any hc hd w hT S HS)
  have inO : ∀ y ∈ onl, InI y := by intro y hy; obtain rfl : y = userI 1 1 := (by simpa [onl] using hy); exact userI_inI
  -- what the calls answer
  have MK : Hid (∀ (a : Option Addr) (n : Nat) (l : List ItT) (i E : Int) W, (∀ y ∈ l, InI y) → InL W a n n l → mkE l i sgO = E → In64 i → TabH W → Calls Tryz.prog 7 #[.slice a n n, .int .i64 i, .agg S] W fun e w' => ∃ (x : Option Addr) (cx : Nat) (R : Array Value), e = .returned (.tuple #[.agg R, .int .i64 E]) ∧ (Hid (R = (stcells (mkV l i sgO x cx)).toArray) ∧ Hid ((Tryz.prog.info? 40).map (·.size) = some R.size) ∧ Hid (R.all (·.oneCell') = true) ∧ Hid (ZT.size = R.size)) ∧ LReads w' x (mkT l i sgO).p.length cx (mkT l i sgO).p ∧ (x = none → cx = 0) ∧ Below W.heap.size W w') := fun a n l i E W hl h hE hi ht => by
    refine (pc.make a n n l i sgO W h hi sgO_in S HS ht).mono ?_
    rintro e w' ⟨x, cx, rfl, h1, h2, h3, h4⟩
    obtain ⟨R, HR, HSR, H1R, NR⟩ := step_row (mkV l i sgO x cx) (mkV_in x cx hi hl sgO_in).1
    rw [hE]
    exact ⟨x, cx, R, by rw [← HR.out], ⟨HR, HSR, H1R, by show _ = _; rw [H181.out, NR.out]⟩, h1, h2, h4⟩
  have EN : Hid (∀ W, Calls Tryz.prog 15 #[.slice none 0 0] W fun e w' => e = .returned (.tuple #[.agg ZI, .agg Z, .int .i64 130]) ∧ Below W.heap.size W w') := fun W => pc.ends none 0 0 [] W (inp_none W) ZI Z HZI HZ
  have VN : Hid (∀ W, TabH W → Calls Tryz.prog 14 #[.agg K, .slice none 0 0] W fun e w' => e = .returned (.int .i64 130) ∧ Below W.heap.size W w') := fun W ht => by
    have := pc.verify zeroK none 0 0 [] W K HK rfl (inp_none W) ht
    rwa [show ([] : List StV).map StV.t = [] from rfl, path_nil] at this
  -- what the step's slices are
  have BU : Hid (∀ (x : Option Addr) (cx : Nat) (R : Array Value) (W : World), Hid (R = (stcells (mkV onl 0 sgO x cx)).toArray) → LReads W x (mkT onl 0 sgO).p.length cx (mkT onl 0 sgO).p → (x = none → cx = 0) → ∀ (l : List StV), (∀ v ∈ l, v = mkV onl 0 sgO x cx) → ∀ (n : Nat) (parts : Array (Nat × Value)), l.length = n → 0 < n → n ≤ 2 → parts.toList = ((l.map stcells).zipIdx 0).map (fun x => (x.2, Value.agg x.1.toArray)) →
      ∃ L : Array Value, (Instr.buildSlice 49 n parts).run Tryz.prog W = .ok (.slice (some ⟨W.heap.size, 0, none⟩) n n) (W.alloc (.cells L 40)) ∧ InP (W.alloc (.cells L 40)) (some ⟨W.heap.size, 0, none⟩) n n l) := fun x cx R W HR hp hn l hl n parts h1 h2 h3 h4 => by
    obtain ⟨q1, q2, q3, q4⟩ := mkV_in x cx (l := onl) (i := 0) (s := sgO) (i64 0 (by omega) (by omega)) inO sgO_in
    have ok : ∀ v ∈ l, OkV v := fun v hv => by rw [hl v hv]; exact q1
    refine ⟨(stL l).toArray, run_build_sts W n l ok h1 h2 (by omega) parts h4, InP.new h1 (by omega) ok (fun v hv => by rw [hl v hv]; exact ⟨q2, q3, q4⟩) (fun v hv => by rw [hl v hv]; exact hp) (fun v hv => by rw [hl v hv]; exact hn) _ (hidk rfl)⟩
  have E1 : Hid (∀ (x : Option Addr) (cx : Nat) W g, InP W (some ⟨g, 0, none⟩) 1 1 [mkV onl 0 sgO x cx] → Calls Tryz.prog 15 #[.slice (some ⟨g, 0, none⟩) 1 1] W fun e w' => e = .returned (.tuple #[.agg I, .agg S, .int .i64 0]) ∧ Below W.heap.size W w') := fun x cx W g h => by
    have ev : (mkV onl 0 sgO x cx).x = userI 1 1 ∧ (mkV onl 0 sgO x cx).h = sgO := by unfold mkV; rw [only_step]; exact ⟨rfl, rfl⟩
    refine pc.ends _ 1 1 _ W h I S ?_ ?_
    · show _ = _
      rw [HI.out, ← ev.1]
      rfl
    · show _ = _
      rw [HS.out]
      conv => lhs; rw [← ev.2]
      rfl
  have V1 : Hid (∀ (x : Option Addr) (cx : Nat) W g, InP W (some ⟨g, 0, none⟩) 1 1 [mkV onl 0 sgO x cx] → TabH W → Calls Tryz.prog 14 #[.agg K, .slice (some ⟨g, 0, none⟩) 1 1] W fun e w' => e = .returned (.int .i64 0) ∧ Below W.heap.size W w') := fun x cx W g h ht => by
    have := pc.verify zeroK _ 1 1 _ W K HK rfl h ht
    rwa [show ([mkV onl 0 sgO x cx] : List StV).map StV.t = [mkT onl 0 sgO] from rfl, only_one] at this
  have V2 : Hid (∀ (x : Option Addr) (cx : Nat) W g, InP W (some ⟨g, 0, none⟩) 2 2 [mkV onl 0 sgO x cx, mkV onl 0 sgO x cx] → TabH W → Calls Tryz.prog 14 #[.agg K, .slice (some ⟨g, 0, none⟩) 2 2] W fun e w' => e = .returned (.int .i64 130) ∧ Below W.heap.size W w') := fun x cx W g h ht => by
    have := pc.verify zeroK _ 2 2 _ W K HK rfl h ht
    rwa [show ([mkV onl 0 sgO x cx, mkV onl 0 sgO x cx] : List StV).map StV.t = [mkT onl 0 sgO, mkT onl 0 sgO] from rfl, only_two] at this
  have RNG : Hid (∀ V : World, ∀ gl, InL V (some ⟨gl, 0, none⟩) 1 1 onl → V.rangeAt gl 0 I.toList) := fun V gl h => by
    have h0 := h.rd.range 0 (by show 0 < 1; omega)
    have h1 : V.rangeAt gl 0 (icells onl[0]) := by simpa using h0
    rw [HI.out]
    exact h1
  have eqs : ∀ W, (binOp .eql 28 (.agg S) (.agg S)).run Tryz.prog W = .ok (.bool true) W := fun W => eqSigned _ _ sgO_digs.1 sgO_digs.1 sgO_digs.2 sgO_digs.2 S S HS HS true (by simp) W
  have eqi : ∀ W, (binOp .eql 37 (.agg I) (.agg I)).run Tryz.prog W = .ok (.bool true) W := fun W => eqItem _ _ (userI_ok 1 1) (userI_ok 1 1) I I HI HI true (by simp) W
  have HT := hidk hT
  have MKI := hidk (i64 0 (by omega) (by omega))
  have MKJ := hidk (i64 1 (by omega) (by omega))
  have ino := hidk inO
  clear hc hd pc hT HS HZ HZI HZT HK HI i64 inO HBZ HBI HBT H69 H110 H181 N69 N110
  go_enter Tryz.func10, Tryz.ntmps10
  go_wp2_with fail
  refine ONL.out.mono ?_
  rintro e w1 ⟨gl, rfl, hi1, hb1⟩
  have HI1 := hidk hi1
  have HB1 := hidk hb1
  clear hi1 hb1 ONL
  go_wp2_with (first
    | ((with_reducible show aD 2 _ _ _ _ _ _ _ _ _ _ _); refine wpList_new_var rfl 28 rfl Z HA.out ?_; intro g2 w2 HM2; have HN2 := hidk HM2.out.row; try simp only [Act.put, pS1, pS2, pS3])
    | (refine wpList_set_var rfl 28 (.tmp 2) (.tmp 18) rfl g2 S rfl rfl 28 Z HN2.out HSS.out HZS.out H1S.out ?_; intro w3 HW2; have hb3 : Below w1.heap.size w1 w3 := HW2.out.below _ _ HM2.out.below (by rw [HM2.out.new]; exact Nat.le_refl _); have HB3 := hidk (HB1.out.trans (hb3.mono HB1.out.size)); have HI3 := hidk (HI1.out.keep hb3); have HS3 := hidk HW2.out.row; clear hb3; try simp only [Act.put, pS1, pS2, pS3])
    | ((with_reducible show aD 21 _ _ _ _ _ _ _ _ _ _ _); refine wpList_load_row_w (by rfl) 28 (.tmp 2) rfl g2 rfl 28 S (0, 0) _ HS3.out Tryz.underlying28 rfl HSS.out ?_; try simp only [Act.put, pS1, pS2, pS3])
    | fail)
  clear HM2 HN2 HW2 HI1 HB1
  refine (MK.out _ 1 onl 0 0 w3 ino.out HI3.out only_mk0 MKI.out (HT.out.keep HB3.out)).mono ?_
  rintro e w4 ⟨x, cx, R, rfl, ⟨HR, HSR, H1R, HZR⟩, hp, hn, hb4⟩
  have HN := hidk hn
  have HP4 := hidk hp
  have HB4 := hidk (HB3.out.trans (hb4.mono HB3.out.size))
  have HI4 := hidk (HI3.out.keep hb4)
  have HS4 := hidk ((hb4.block _ (heap_lt HS3.out)).trans HS3.out)
  clear hn hp hb4 HB3 HI3 HS3
  obtain ⟨P, HP⟩ : ∃ P, Hid ((mkT onl 0 sgO).p = P) := ⟨_, hidk rfl⟩
  rw [HP.out] at HP4
  go_wp2_with (first
    | ((with_reducible show aD 3 _ _ _ _ _ _ _ _ _ _ _); refine wpList_new_var rfl 40 rfl ZT HAT.out ?_; intro g3 w5 HM3; have HN3 := hidk HM3.out.row; try simp only [Act.put, pS1, pS2, pS3])
    | (refine wpList_set_var rfl 40 (.tmp 3) (.tmp 23) rfl g3 R rfl rfl 40 ZT HN3.out HSR.out HZR.out H1R.out ?_; intro w6 HW3; have hb6 : Below w4.heap.size w4 w6 := HW3.out.below _ _ HM3.out.below (by rw [HM3.out.new]; exact Nat.le_refl _); have H6 : Hid (Held14 w S R gl g2 g3 x P.length cx P w6) := ⟨HB4.out.trans (hb6.mono HB4.out.size), HT.out.keep (HB4.out.trans (hb6.mono HB4.out.size)), HI4.out.keep hb6, (hb6.block _ (heap_lt HS4.out)).trans HS4.out, HW3.out.row, HP4.out.keep hb6⟩; clear hb6; try simp only [Act.put, pS1, pS2, pS3])
    | ((with_reducible show aD 27 _ _ _ _ _ _ _ _ _ _ _); refine wpList_load_row_w (by rfl) 28 (.tmp 2) rfl g2 rfl 28 S (0, 0) _ H6.out.s Tryz.underlying28 rfl HSS.out ?_; try simp only [Act.put, pS1, pS2, pS3])
    | fail)
  clear HM3 HN3 HW3 HI4 HB4 HS4 HP4
  refine (MK.out _ 1 onl 1 131 w6 ino.out H6.out.i only_mk1 MKJ.out H6.out.t).mono ?_
  rintro e w7 ⟨x5, cx5, R5, rfl, ⟨HR5, HSR5, H1R5, HZR5⟩, _, _, hb7⟩
  have H7 := hidk (H6.out.keep hb7)
  clear hb7 H6
  go_wp2_with (first
    | ((with_reducible show aD 5 _ _ _ _ _ _ _ _ _ _ _); refine wpList_new_var rfl 40 rfl ZT HAT.out ?_; intro g5 w8 HM5; have HN5 := hidk HM5.out.row; try simp only [Act.put, pS1, pS2, pS3])
    | (refine wpList_set_var rfl 40 (.tmp 5) (.tmp 29) rfl g5 R5 rfl rfl 40 ZT HN5.out HSR5.out HZR5.out H1R5.out ?_; intro w9 HW5; have hb5 : Below w7.heap.size w7 w9 := HW5.out.below _ _ HM5.out.below (by rw [HM5.out.new]; exact Nat.le_refl _); have H9 := hidk (H7.out.keep hb5); clear hb5; try simp only [Act.put, pS1, pS2, pS3])
    | ((with_reducible show aD 32 _ _ _ _ _ _ _ _ _ _ _); refine wpList_load_row_w (by rfl) 28 (.tmp 2) rfl g2 rfl 28 S (0, 0) _ H9.out.s Tryz.underlying28 rfl HSS.out ?_; try simp only [Act.put, pS1, pS2, pS3])
    | fail)
  clear HM5 HN5 HW5 H7 HR5
  refine (MK.out none 0 [] 0 130 w9 (fun y hy => by cases hy) (inl_none _) none_mk MKI.out H9.out.t).mono ?_
  rintro e w10 ⟨x7, cx7, R7, rfl, ⟨HR7, HSR7, H1R7, HZR7⟩, _, _, hb10⟩
  have H10 := hidk (H9.out.keep hb10)
  clear hb10 H9 HR7 MK
  go_wp2_with (first
    | ((with_reducible show aD 7 _ _ _ _ _ _ _ _ _ _ _); refine wpList_new_var rfl 40 rfl ZT HAT.out ?_; intro g7 w11 HM7; have HN7 := hidk HM7.out.row; try simp only [Act.put, pS1, pS2, pS3])
    | (refine wpList_set_var rfl 40 (.tmp 7) (.tmp 34) rfl g7 R7 rfl rfl 40 ZT HN7.out HSR7.out HZR7.out H1R7.out ?_; intro w12 HW7; have hb7 : Below w10.heap.size w10 w12 := HW7.out.below _ _ HM7.out.below (by rw [HM7.out.new]; exact Nat.le_refl _); have H12 := hidk (H10.out.keep hb7); clear hb7; try simp only [Act.put, pS1, pS2, pS3])
    | ((with_reducible show aD 37 _ _ _ _ _ _ _ _ _ _ _); refine wpList_load_row_w (by rfl) 40 (.tmp 3) rfl g3 rfl 40 R (0, 0) _ H12.out.r Tryz.underlying40 rfl HSR.out ?_; try simp only [Act.put, pS1, pS2, pS3])
    | ((with_reducible show aD 38 _ _ _ _ _ _ _ _ _ _ _); obtain ⟨L, hL, hIn⟩ := BU.out x cx R w12 HR (by rw [HP.out]; exact H12.out.p) HN.out [mkV onl 0 sgO x cx] (fun v hv => by simpa using hv) 1 #[(0, .agg R)] rfl (by omega) (by omega) (by rw [HR.out]; rfl); have HIN := hidk hIn; have hbl : Below w12.heap.size w12 (w12.alloc (.cells L 40)) := (Below.refl _ _).alloc (Nat.le_refl _) _; have H13 := hidk (H12.out.keep hbl); refine wpList_build_run rfl 49 1 _ rfl #[(0, .agg R)] rfl _ _ hL ?_; clear hIn hbl; try simp only [Act.put, pS1, pS2, pS3])
    | fail)
  clear HM7 HN7 HW7 H10 hL
  obtain ⟨gs, HGS⟩ : ∃ gl, Hid (w12.heap.size = gl) := ⟨_, hidk rfl⟩
  obtain ⟨w13, HW13⟩ : ∃ v, Hid (w12.alloc (.cells L 40) = v) := ⟨_, hidk rfl⟩
  rw [HGS.out, HW13.out] at HIN
  rw [HW13.out] at H13
  rw [HGS.out, HW13.out]
  clear HGS HW13 H12
  refine (E1.out x cx w13 _ HIN.out).mono ?_
  rintro e w14 ⟨rfl, hb14⟩
  have H14 := hidk (H13.out.keep hb14)
  clear hb14 H13 HIN E1
  go_wp2_with (first
    | ((with_reducible show aD 9 _ _ _ _ _ _ _ _ _ _ _); refine wpList_new_var rfl 37 rfl ZI HAI.out ?_; intro g9 w15 HM9; skip; try simp only [Act.put, pS1, pS2, pS3])
    | ((with_reducible show aD 10 _ _ _ _ _ _ _ _ _ _ _); refine wpList_new_var rfl 28 rfl Z HA.out ?_; intro g10 w16 HM10; have hb16 : Below w14.heap.size w14 w16 := HM9.out.below.trans (HM10.out.below.mono HM9.out.below.size); have hr9 : w16.heap[g9]? = some (.cells ZI 37 (0, 0)) := (HM10.out.below.block _ (heap_lt HM9.out.row)).trans HM9.out.row; have HR9 := hidk hr9; have HR10 := hidk HM10.out.row; have ne910 : g9 ≠ g10 := (by have := heap_lt HM9.out.row; rw [HM10.out.new]; omega); have l9 : w14.heap.size ≤ g9 := (by rw [HM9.out.new]; exact Nat.le_refl _); have l10 : w14.heap.size ≤ g10 := (by rw [HM10.out.new]; exact HM9.out.below.size); have HB16 := hidk hb16; clear hb16 hr9; try simp only [Act.put, pS1, pS2, pS3])
    | (refine wpList_set_var rfl 37 (.tmp 9) (.tmp 40) rfl g9 I rfl rfl 37 ZI HR9.out HSI.out HZII.out H1I.out ?_; intro w17 HW9; have HR9b := hidk HW9.out.row; have HR10b := hidk ((HW9.out.other _ ne910.symm).trans HR10.out); have HB17 := hidk (HW9.out.below _ _ HB16.out l9); try simp only [Act.put, pS1, pS2, pS3])
    | (refine wpList_set_var rfl 28 (.tmp 10) (.tmp 41) rfl g10 S rfl rfl 28 Z HR10b.out HSS.out HZS.out H1S.out ?_; intro w18 HW10; have H18 : Hid (Held15 w S R I gl g2 g3 g9 g10 x P.length cx P w18) := ⟨H14.out.keep (HW10.out.below _ _ HB17.out l10), (HW10.out.other _ ne910).trans HR9b.out, HW10.out.row⟩; try simp only [Act.put, pS1, pS2, pS3])
    | fail)
  clear HM9 HM10 HW9 HW10 HR9 HR10 HR9b HR10b HB16 HB17 H14 l9 l10 ne910
  refine (EN.out _).mono ?_
  rintro e w19 ⟨rfl, hb19⟩
  have H19 := hidk (H18.out.keep hb19)
  clear hb19 H18 EN
  go_wp2_with (first
    | ((with_reducible show aD 12 _ _ _ _ _ _ _ _ _ _ _); refine wpList_new_var rfl 37 rfl ZI HAI.out ?_; intro g12 w20 HM12; skip; try simp only [Act.put, pS1, pS2, pS3])
    | ((with_reducible show aD 13 _ _ _ _ _ _ _ _ _ _ _); refine wpList_new_var rfl 28 rfl Z HA.out ?_; intro g13 w21 HM13; have hb21 : Below w19.heap.size w19 w21 := HM12.out.below.trans (HM13.out.below.mono HM12.out.below.size); have hr12 : w21.heap[g12]? = some (.cells ZI 37 (0, 0)) := (HM13.out.below.block _ (heap_lt HM12.out.row)).trans HM12.out.row; have HR12 := hidk hr12; have HR13 := hidk HM13.out.row; have ne : g12 ≠ g13 := (by have := heap_lt HM12.out.row; rw [HM13.out.new]; omega); have l12 : w19.heap.size ≤ g12 := (by rw [HM12.out.new]; exact Nat.le_refl _); have l13 : w19.heap.size ≤ g13 := (by rw [HM13.out.new]; exact HM12.out.below.size); have HB21 := hidk hb21; clear hb21 hr12; try simp only [Act.put, pS1, pS2, pS3])
    | (refine wpList_set_var rfl 37 (.tmp 12) (.tmp 45) rfl g12 ZI rfl rfl 37 ZI HR12.out HSZI.out rfl H1ZI.out ?_; intro w22 HW12; have HR13b := hidk ((HW12.out.other _ ne.symm).trans HR13.out); have HB22 := hidk (HW12.out.below _ _ HB21.out l12); try simp only [Act.put, pS1, pS2, pS3])
    | (refine wpList_set_var rfl 28 (.tmp 13) (.tmp 46) rfl g13 Z rfl rfl 28 Z HR13b.out HSZ.out rfl H1Z.out ?_; intro w23 HW13; have H23 := hidk (H19.out.keep (HW13.out.below _ _ HB22.out l13)); try simp only [Act.put, pS1, pS2, pS3])
    | fail)
  clear HM12 HM13 HW12 HW13 HR12 HR13 HR13b HB21 HB22 H19 l12 l13 ne HT HSZ H1Z HSZI H1ZI HZR HZII HZS ino MKI MKJ HA HAI HAT H1S H1R H1I
  refine wp_region_held_drew (S := (Held15 w S R I gl g2 g3 g9 g10 x P.length cx P)) (by kernel_rfl) (H23.out.keep (Below.refl _ _).drew) (fun hHeld => ?_)
  refine zX 0 (.int .i64 0) rfl hHeld ?_
  try simp only [Act.put, pS1, pS2, pS3]
  refine zX 1 (.bool true) rfl hHeld ?_
  try simp only [Act.put, pS1, pS2, pS3]
  refine zX 2 (.bool true) rfl hHeld ?_
  try simp only [Act.put, pS1, pS2, pS3]
  refine zX 3 (.int .i64 131) rfl hHeld ?_
  try simp only [Act.put, pS1, pS2, pS3]
  refine zX 4 (.bool true) rfl hHeld ?_
  try simp only [Act.put, pS1, pS2, pS3]
  refine zX 5 (.bool true) rfl hHeld ?_
  try simp only [Act.put, pS1, pS2, pS3]
  refine zX 6 (.bool true) rfl hHeld ?_
  try simp only [Act.put, pS1, pS2, pS3]
  refine zX 7 (.int .i64 130) rfl hHeld ?_
  try simp only [Act.put, pS1, pS2, pS3]
  refine zX 8 (.bool true) rfl hHeld ?_
  try simp only [Act.put, pS1, pS2, pS3]
  refine zX 9 (.bool true) rfl hHeld ?_
  try simp only [Act.put, pS1, pS2, pS3]
  refine zX 10 (.bool true) rfl hHeld ?_
  try simp only [Act.put, pS1, pS2, pS3]
  refine zW 11 (.agg K) rfl (Or.inl ⟨by rfl, by intro W hSw; go_simp; exact HZC.out⟩) hHeld ?_
  try simp only [Act.put, pS1, pS2, pS3]
  refine zW 12 (.agg R) rfl (yieldsIf_mid (by rfl) 40 (.tmp 3) rfl g3 0 rfl R _ (fun V hv => range_row (l := R.toList) (W := V) (g := g3) (by simpa using hv.m.r)) Tryz.underlying40 rfl HSR.out) hHeld ?_
  try simp only [Act.put, pS1, pS2, pS3]
  refine wpAnyH_ready (rs := [13]) (by kernel_rfl) (by simp) ?_
  refine (AllReadyH.cons (o := { dst := some 61, op := .buildSlice 49 1 #[(0, .tmp 60)], type := 49, pos := "law.go:32", after := #[zD 12, zG 10], guard := some (10, true) }) rfl (fun K hK => ?_) AllReadyH.nil)
  obtain ⟨L1, hL1, hIn1⟩ := BU.out x cx R (w23.drew) HR (by rw [HP.out]; exact hHeld.m.p) HN.out [mkV onl 0 sgO x cx] (fun v hv => by simpa using hv) 1 #[(0, .agg R)] rfl (by omega) (by omega) (by rw [HR.out]; rfl)
  have HIN1 := hidk hIn1
  clear hIn1
  refine step_build_run (by rfl) 49 1 _ rfl #[(0, .agg R)] rfl _ _ hL1 ?_
  refine hK.out _ _ (hHeld.keep ((Below.refl _ _).alloc (Nat.le_refl _) _)) (fun hHeld => ?_)
  clear hK K
  try simp only [Act.put, pS1, pS2, pS3]
  refine wpAnyH_ready (rs := [14]) (by kernel_rfl) (by simp) ?_
  refine (AllReadyH.cons (o := { dst := some 62, op := .call { callee := .value (.func 14), args := #[.tmp 59, .tmp 61], argTypes := #[48, 49] }, type := 41, pos := "law.go:32", after := #[zD 11, zD 13, zC 10, zG 10], guard := some (10, true) }) rfl (fun K hK => ?_) AllReadyH.nil)
  go_simp
  refine (V1.out x cx _ _ HIN1.out hHeld.m.t).mono ?_
  rintro e w14 ⟨rfl, hb214⟩
  go_wp2_with fail
  refine hK.out _ _ (hHeld.keep hb214) (fun hHeld => ?_)
  clear hK K
  try simp only [Act.put, pS1, pS2, pS3]
  refine zX 15 (.bool true) rfl hHeld ?_
  try simp only [Act.put, pS1, pS2, pS3]
  refine zX 16 (.bool true) rfl hHeld ?_
  try simp only [Act.put, pS1, pS2, pS3]
  refine zX 17 (.bool true) rfl hHeld ?_
  try simp only [Act.put, pS1, pS2, pS3]
  refine zW 18 (.agg K) rfl (Or.inl ⟨by rfl, by intro W hSw; go_simp; exact HZC.out⟩) hHeld ?_
  try simp only [Act.put, pS1, pS2, pS3]
  refine wpAnyH_ready (rs := [19]) (by kernel_rfl) (by simp) ?_
  refine (AllReadyH.cons (o := { dst := some 67, op := .call { callee := .value (.func 14), args := #[.tmp 66, .const (.slice none 0 0)], argTypes := #[48, 49] }, type := 41, pos := "law.go:32", after := #[zD 18, zC 17, zG 17], guard := some (17, true) }) rfl (fun K hK => ?_) AllReadyH.nil)
  go_simp
  refine (VN.out _ hHeld.m.t).mono ?_
  rintro e w19 ⟨rfl, hb219⟩
  go_wp2_with fail
  refine hK.out _ _ (hHeld.keep hb219) (fun hHeld => ?_)
  clear hK K
  try simp only [Act.put, pS1, pS2, pS3]
  refine zX 20 (.bool true) rfl hHeld ?_
  try simp only [Act.put, pS1, pS2, pS3]
  refine zX 21 (.bool true) rfl hHeld ?_
  try simp only [Act.put, pS1, pS2, pS3]
  refine zX 22 (.bool true) rfl hHeld ?_
  try simp only [Act.put, pS1, pS2, pS3]
  refine zW 23 (.agg K) rfl (Or.inl ⟨by rfl, by intro W hSw; go_simp; exact HZC.out⟩) hHeld ?_
  try simp only [Act.put, pS1, pS2, pS3]
  refine zW 24 (.agg R) rfl (yieldsIf_mid (by rfl) 40 (.tmp 3) rfl g3 0 rfl R _ (fun V hv => range_row (l := R.toList) (W := V) (g := g3) (by simpa using hv.m.r)) Tryz.underlying40 rfl HSR.out) hHeld ?_
  try simp only [Act.put, pS1, pS2, pS3]
  refine zW 25 (.agg R) rfl (yieldsIf_mid (by rfl) 40 (.tmp 3) rfl g3 0 rfl R _ (fun V hv => range_row (l := R.toList) (W := V) (g := g3) (by simpa using hv.m.r)) Tryz.underlying40 rfl HSR.out) hHeld ?_
  try simp only [Act.put, pS1, pS2, pS3]
  refine wpAnyH_ready (rs := [26]) (by kernel_rfl) (by simp) ?_
  refine (AllReadyH.cons (o := { dst := some 74, op := .buildSlice 49 2 #[(0, .tmp 72), (1, .tmp 73)], type := 49, pos := "law.go:32", after := #[zD 24, zD 25, zG 22], guard := some (22, true) }) rfl (fun K hK => ?_) AllReadyH.nil)
  obtain ⟨L2, hL2, hIn2⟩ := BU.out x cx R (w19) HR (by rw [HP.out]; exact hHeld.m.p) HN.out [mkV onl 0 sgO x cx, mkV onl 0 sgO x cx] (fun v hv => by simpa using hv) 2 #[(0, .agg R), (1, .agg R)] rfl (by omega) (by omega) (by rw [HR.out]; rfl)
  have HIN2 := hidk hIn2
  clear hIn2
  refine step_build_run (by rfl) 49 2 _ rfl #[(0, .agg R), (1, .agg R)] rfl _ _ hL2 ?_
  refine hK.out _ _ (hHeld.keep ((Below.refl _ _).alloc (Nat.le_refl _) _)) (fun hHeld => ?_)
  clear hK K
  try simp only [Act.put, pS1, pS2, pS3]
  refine wpAnyH_ready (rs := [27]) (by kernel_rfl) (by simp) ?_
  refine (AllReadyH.cons (o := { dst := some 75, op := .call { callee := .value (.func 14), args := #[.tmp 71, .tmp 74], argTypes := #[48, 49] }, type := 41, pos := "law.go:32", after := #[zD 23, zD 26, zC 22, zG 22], guard := some (22, true) }) rfl (fun K hK => ?_) AllReadyH.nil)
  go_simp
  refine (V2.out x cx _ _ HIN2.out hHeld.m.t).mono ?_
  rintro e w27 ⟨rfl, hb227⟩
  go_wp2_with fail
  refine hK.out _ _ (hHeld.keep hb227) (fun hHeld => ?_)
  clear hK K
  try simp only [Act.put, pS1, pS2, pS3]
  refine zX 28 (.bool true) rfl hHeld ?_
  try simp only [Act.put, pS1, pS2, pS3]
  refine zX 29 (.bool true) rfl hHeld ?_
  try simp only [Act.put, pS1, pS2, pS3]
  refine zX 30 (.bool true) rfl hHeld ?_
  try simp only [Act.put, pS1, pS2, pS3]
  refine zX 31 (.int .i64 0) rfl hHeld ?_
  try simp only [Act.put, pS1, pS2, pS3]
  refine zX 32 (.bool true) rfl hHeld ?_
  try simp only [Act.put, pS1, pS2, pS3]
  refine zX 33 (.bool true) rfl hHeld ?_
  try simp only [Act.put, pS1, pS2, pS3]
  refine zX 34 (.bool true) rfl hHeld ?_
  try simp only [Act.put, pS1, pS2, pS3]
  refine zW 35 (.agg I) rfl (yieldsIf_mid (by rfl) 37 (.tmp 9) rfl g9 0 rfl I _ (fun V hv => range_row (l := I.toList) (W := V) (g := g9) (by simpa using hv.y)) Tryz.underlying37 rfl HSI.out) hHeld ?_
  try simp only [Act.put, pS1, pS2, pS3]
  refine zX 36 (.slice (some ⟨gl, 0, none⟩) 1 1) rfl hHeld ?_
  try simp only [Act.put, pS1, pS2, pS3]
  refine zW 37 (.pointer (some ⟨gl, 0, none⟩)) rfl (Or.inl ⟨by rfl, by intro W hSw; have := index_item W gl 0 1 1 0 .i64 (by omega); simp only [Nat.mul_zero, Nat.add_zero, Int.cast_ofNat_Int] at this; go_simp⟩) hHeld ?_
  try simp only [Act.put, pS1, pS2, pS3]
  refine zW 38 (.agg I) rfl (yieldsIf_mid (by rfl) 37 (.tmp 85) rfl gl 0 rfl I _ (fun V hv => RNG.out V gl hv.m.i) Tryz.underlying37 rfl HSI.out) hHeld ?_
  try simp only [Act.put, pS1, pS2, pS3]
  refine zW 39 (.bool true) rfl (Or.inl ⟨by rfl, by intro W hSw; have := eqi W; go_simp⟩) hHeld ?_
  try simp only [Act.put, pS1, pS2, pS3]
  refine zX 40 (.bool true) rfl hHeld ?_
  try simp only [Act.put, pS1, pS2, pS3]
  refine zX 41 (.bool true) rfl hHeld ?_
  try simp only [Act.put, pS1, pS2, pS3]
  refine zW 42 (.agg S) rfl (yieldsIf_mid (by rfl) 28 (.tmp 10) rfl g10 0 rfl S _ (fun V hv => range_row (l := S.toList) (W := V) (g := g10) (by simpa using hv.z)) Tryz.underlying28 rfl HSS.out) hHeld ?_
  try simp only [Act.put, pS1, pS2, pS3]
  refine zW 43 (.agg S) rfl (yieldsIf_mid (by rfl) 28 (.tmp 2) rfl g2 0 rfl S _ (fun V hv => range_row (l := S.toList) (W := V) (g := g2) (by simpa using hv.m.s)) Tryz.underlying28 rfl HSS.out) hHeld ?_
  try simp only [Act.put, pS1, pS2, pS3]
  refine zW 44 (.bool true) rfl (Or.inl ⟨by rfl, by intro W hSw; have := eqs W; go_simp⟩) hHeld ?_
  try simp only [Act.put, pS1, pS2, pS3]
  refine zX 45 (.bool true) rfl hHeld ?_
  try simp only [Act.put, pS1, pS2, pS3]
  refine zX 46 (.bool true) rfl hHeld ?_
  try simp only [Act.put, pS1, pS2, pS3]
  refine zX 47 (.int .i64 130) rfl hHeld ?_
  try simp only [Act.put, pS1, pS2, pS3]
  refine zX 48 (.bool true) rfl hHeld ?_
  try simp only [Act.put, pS1, pS2, pS3]
  refine zX 49 (.bool true) rfl hHeld ?_
  try simp only [Act.put, pS1, pS2, pS3]
  refine zX 50 (.bool true) rfl hHeld ?_
  try simp only [Act.put, pS1, pS2, pS3]
  refine wpAnyH_done (by kernel_rfl) ?_ _
  have HZ9 := hidk hHeld.m.b
  clear hHeld
  go_wp2
  go_ret
  exact ⟨rfl, HZ9.out⟩
structure HeldS (w : World) (X Y : Array Value) (V : World) : Prop where
  b : Below w.heap.size w V
  x : V.heap[w.heap.size]? = some (.cells X 40 (0, 0))
  y : V.heap[w.heap.size + 1]? = some (.cells Y 40 (0, 0))
theorem heldS14 (w : World) (X Y : Array Value) : HeldS w X Y ((w.alloc (.cells X 40)).alloc (.cells Y 40)) := by
  have h1 : (w.alloc (.cells X 40)).heap.size = w.heap.size + 1 := by show (w.heap.push _).size = _; simp
  refine ⟨((Below.refl _ _).alloc (Nat.le_refl _) _).alloc (by omega) _, heap_keep (heap_alloc_new w _), ?_⟩
  have := heap_alloc_new (w.alloc (.cells X 40)) (.cells Y 40)
  rw [h1] at this
  exact this
set_option maxHeartbeats 8000000 in
theorem rSame (u v : StV) (w : World) (ok : OkV u) (okv : OkV v) (hn : u.n = v.n) (hs : u.t = v.t) (pu : LReads w u.a u.n u.c u.p) (pv : LReads w v.a v.n v.c v.p) (X Y : Array Value) (HX : Hid (X = (stcells u).toArray)) (HY : Hid (Y = (stcells v).toArray)) :
    Calls Tryz.prog 9 #[.agg X, .agg Y] w fun e w' => e = .returned (.bool true) ∧ Below w.heap.size w w' := by
  have H0 := hidk (heldS14 w X Y)
  have ei : u.i = v.i := congrArg StT.i hs
  have ex : u.x = v.x := congrArg StT.x hs
  have eh : u.h = v.h := congrArg StT.h hs
  have ep : u.p = v.p := congrArg StT.p hs
  obtain ⟨S, HS, HSS, H1S, N69⟩ := sign_row u.h ok.d ok.g
  obtain ⟨I, HI, HSI, H1I, N110⟩ := item_row u.x ok.x
  have eqs : ∀ W, (binOp .eql 28 (.agg S) (.agg S)).run Tryz.prog W = .ok (.bool true) W := fun W => eqSigned _ _ ok.d ok.d ok.g ok.g S S HS HS true (by simp) W
  have eqi : ∀ W, (binOp .eql 37 (.agg I) (.agg I)).run Tryz.prog W = .ok (.bool true) W := fun W => eqItem _ _ ok.x ok.x I I HI HI true (by simp) W
  obtain ⟨ix, Hix⟩ : ∃ k, Hid (u.i = k) := ⟨_, hidk rfl⟩
  obtain ⟨n, Hn⟩ : ∃ k, Hid (u.n = k) := ⟨_, hidk rfl⟩
  obtain ⟨a1, Ha1⟩ : ∃ k, Hid (u.a = k) := ⟨_, hidk rfl⟩
  obtain ⟨c1, Hc1⟩ : ∃ k, Hid (u.c = k) := ⟨_, hidk rfl⟩
  obtain ⟨a2, Ha2⟩ : ∃ k, Hid (v.a = k) := ⟨_, hidk rfl⟩
  obtain ⟨c2, Hc2⟩ : ∃ k, Hid (v.c = k) := ⟨_, hidk rfl⟩
  have SD : Hid (∀ W, Below w.heap.size w W → Calls Tryz.prog 23 #[.slice a1 n c1, .slice a2 n c2] W fun e w' => e = .returned (.bool true) ∧ Below W.heap.size W w') := fun W hb => by
    have h1 := pu.keep hb
    have h2 := pv.keep hb
    rw [Ha1.out, Hn.out, Hc1.out] at h1
    rw [Ha2.out, ← hn, Hn.out, Hc2.out, ← ep] at h2
    exact same_digs a1 a2 n c1 c2 u.p W h1 h2
  have HCX : Hid (((w.alloc (.cells X 40)).alloc (.cells Y 40)).cell? ⟨w.heap.size, 0, none⟩ = some (.int .i64 ix) ∧ ((w.alloc (.cells X 40)).alloc (.cells Y 40)).cell? ⟨w.heap.size, 111, none⟩ = some (.slice a1 n c1) ∧ ((w.alloc (.cells X 40)).alloc (.cells Y 40)).rangeAt w.heap.size 112 S.toList ∧ ((w.alloc (.cells X 40)).alloc (.cells Y 40)).rangeAt w.heap.size 1 I.toList) := by
    have r0 := st_row HX H0.out.x
    refine ⟨?_, ?_, ?_, ?_⟩
    · have := r0 0 _ (st_i u); rw [Hix.out] at this; simpa using this
    · have := range_stp ok r0; rw [Ha1.out, Hn.out, Hc1.out] at this; simpa using this
    · have := range_sth ok r0; rw [HS.out]; simpa using this
    · have := range_stx r0; rw [HI.out]; simpa using this
  have HCY : Hid (((w.alloc (.cells X 40)).alloc (.cells Y 40)).cell? ⟨w.heap.size + 1, 0, none⟩ = some (.int .i64 ix) ∧ ((w.alloc (.cells X 40)).alloc (.cells Y 40)).cell? ⟨w.heap.size + 1, 111, none⟩ = some (.slice a2 n c2) ∧ ((w.alloc (.cells X 40)).alloc (.cells Y 40)).rangeAt (w.heap.size + 1) 112 S.toList ∧ ((w.alloc (.cells X 40)).alloc (.cells Y 40)).rangeAt (w.heap.size + 1) 1 I.toList) := by
    have r0 := st_row HY H0.out.y
    refine ⟨?_, ?_, ?_, ?_⟩
    · have := r0 0 _ (st_i v); rw [← ei, Hix.out] at this; simpa using this
    · have := range_stp okv r0; rw [Ha2.out, ← hn, Hn.out, Hc2.out] at this; simpa using this
    · have := range_sth okv r0; rw [HS.out, eh]; simpa using this
    · have := range_stx r0; rw [HI.out, ex]; simpa using this
  obtain ⟨x0, x1, x2, x3⟩ := HCX.out
  obtain ⟨y0, y1, y2, y3⟩ := HCY.out
  have RX2 := hidk x2
  have RX3 := hidk x3
  have RY2 := hidk y2
  have RY3 := hidk y3
  clear HCX HCY x2 x3 y2 y3 HX HY HS HI pu pv ok okv hs hn ei ex eh ep N69 N110 Hix Hn Ha1 Hc1 Ha2 Hc2 H1S H1I
  go_enter Tryz.func9, Tryz.ntmps9
  go_wp2_with (first
    | ((with_reducible show aD 12 _ _ _ _ _ _ _ _ _ _ _); refine wpList_mid_w (by rfl) 37 (.tmp 11) rfl w.heap.size 1 rfl I _ RX3.out Tryz.underlying37 rfl HSI.out ?_; try simp only [Act.put, pS1, pS2, pS3])
    | ((with_reducible show aD 14 _ _ _ _ _ _ _ _ _ _ _); refine wpList_mid_w (by rfl) 37 (.tmp 13) rfl (w.heap.size + 1) 1 rfl I _ RY3.out Tryz.underlying37 rfl HSI.out ?_; try simp only [Act.put, pS1, pS2, pS3])
    | ((with_reducible show aD 19 _ _ _ _ _ _ _ _ _ _ _); refine wpList_mid_w (by rfl) 28 (.tmp 18) rfl w.heap.size 112 rfl S _ RX2.out Tryz.underlying28 rfl HSS.out ?_; try simp only [Act.put, pS1, pS2, pS3])
    | ((with_reducible show aD 21 _ _ _ _ _ _ _ _ _ _ _); refine wpList_mid_w (by rfl) 28 (.tmp 20) rfl (w.heap.size + 1) 112 rfl S _ RY2.out Tryz.underlying28 rfl HSS.out ?_; try simp only [Act.put, pS1, pS2, pS3])
    | fail)
  refine (SD.out _ H0.out.b).mono ?_
  rintro e w1 ⟨rfl, hb1⟩
  have HB1 := hidk (H0.out.b.trans (hb1.mono H0.out.b.size))
  clear hb1
  go_wp2
  go_ret
  exact ⟨rfl, HB1.out⟩
theorem st_set (v : StV) (ok : OkV v) (x : Option Addr) (cx : Nat) : (stcells v).toArray.setIfInBounds 111 (.slice x v.n cx) = (stcells ⟨v.i, v.x, x, v.n, cx, v.h, v.p⟩).toArray := by
  have h := icells_length _ ok.x
  unfold stcells
  rw [List.setIfInBounds_toArray]
  congr 1
  rw [List.append_assoc, List.set_append_right _ _ (by simp [h])]
  simp [h]
def DRow (V : World) (a : Option Addr) (n : Nat) : Prop := n = 0 ∨ ∃ gp cur, a = some ⟨gp, 0, none⟩ ∧ V.heap[gp]? = some (.cells cur 24 (0, 0))
structure StGood (V : World) (v : StV) : Prop where
  ok : OkV v
  p : LReads V v.a v.n v.c v.p
  n : v.a = none → v.c = 0
  d : DRow V v.a v.n
theorem StGood.keep {V V' : World} {v : StV} (h : StGood V v) (hs : ∀ (q : Nat) (cur : Array Value), V.heap[q]? = some (Obj.cells cur 24 (0, 0)) → V'.heap[q]? = V.heap[q]?) : StGood V' v := by
  rcases h.d with h0 | ⟨gp, cur, e, hr⟩
  · exact ⟨h.ok, h.p.same14 (fun g o _ hn => by omega), h.n, .inl h0⟩
  · refine ⟨h.ok, h.p.same14 (fun g o ea _ => ?_), h.n, .inr ⟨gp, cur, e, (hs gp cur hr).trans hr⟩⟩
    rw [e] at ea
    cases ea
    exact hs gp cur hr
theorem grown_keep {W W' : World} {v : Value} {B n : Nat} {xs : List Value} (ho : W.ownsRow B 40 181 v n xs) (hg : W.grownBy W' v.ownBlock) (q : Nat) (cur : Array Value) (hq : W.heap[q]? = some (.cells cur 24 (0, 0))) : W'.heap[q]? = W.heap[q]? := by
  refine hg.block q (heap_lt hq) fun e => ?_
  rcases ho.2 with ⟨rfl, _⟩ | ⟨g, cap, cu, rfl, _, h2, _⟩
  · cases e
  · have : q = g := by
      have e' : some q = some g := e
      exact Option.some.inj e'
    subst this
    rw [hq] at h2
    have := Option.some.inj h2
    injection this with _ h3 _
    revert h3
    decide
def keyV (v : StV) : StT × Nat := (v.t, v.n)
set_option maxHeartbeats 16000000 in
theorem rOwn (a : Option Addr) (len cap : Nat) (l : List StV) (w : World) (h : InP w a len cap l) (hbn : ∀ v ∈ l, v.n ≤ 60) :
    Calls Tryz.prog 13 #[.slice a len cap] w fun e w' => ∃ aa ca l', e = .returned (.slice aa len ca) ∧ InP w' aa len ca l' ∧ l'.map keyV = l.map keyV ∧ Below w.heap.size w w' := by
  have H := hidk h
  have hln := h.rd.ln
  have hle := h.le
  have hmx : len ≤ 9223372036854775807 := by omega
  obtain ⟨Z, HZ, HA, HBZ, Z181⟩ := noughtsSt
  have HLN := hidk hln
  have HBN := hidk hbn
  clear h HZ HBZ hln hbn
  go_enter Tryz.func13, Tryz.ntmps13
  go_wp2
  go_loopw [3, 4] (fun v u wr => ∃ (k : Nat) (lk : List StV), k ≤ len ∧ u = .int .i64 k ∧ Hid (wr.ownsRow w.heap.size 40 181 v k (stL lk)) ∧ Hid (Below w.heap.size w wr) ∧ Hid (∀ x ∈ lk, StGood wr x) ∧ Hid (lk.map keyV = (l.take k).map keyV)) (fun _ u _ => len - (intOf u).toNat)
  case atStart => exact ⟨0, [], by omega, rfl, World.ownsRow_nil _ _ _ _, Below.refl _ _, (fun x hx => by cases hx), rfl⟩
  case round =>
    obtain ⟨k, lk, hk, rfl, HO, HB, HGD, HKY⟩ := hrel
    by_cases hlt : k < len
    · have hkl : k < l.length := by rw [HLN.out]; exact hlt
      obtain ⟨g, o, rfl, hg⟩ := H.out.rd.at (by omega)
      have okv := H.out.rd.ok _ (List.getElem_mem hkl)
      obtain ⟨R, HR, HSR, H1R, N181⟩ := step_row l[k] okv
      have HZR : Hid (Z.size = R.size) := by show _ = _; rw [Z181.out, N181.out]
      have HRG : Hid (wr.rangeAt g (o + 181 * k) R.toList) := by
        show World.rangeAt _ _ _ _
        rw [HR.out]
        exact range_below (H.out.rd.range k hkl) HB.out hg
      have ic := fun W => index_st W g o len cap k .i64 hlt
      have hd : decide ((k : Int) < (len : Int)) = true := by rw [decide_eq_true_eq]; omega
      have hw1 := wrap_int ((k : Int) + 1) (by omega) (by omega)
      obtain ⟨pa, Hpa⟩ : ∃ x, Hid (l[k].a = x) := ⟨_, hidk rfl⟩
      obtain ⟨pn, Hpn⟩ : ∃ x, Hid (l[k].n = x) := ⟨_, hidk rfl⟩
      obtain ⟨pc, Hpc⟩ : ∃ x, Hid (l[k].c = x) := ⟨_, hidk rfl⟩
      obtain ⟨pp, Hpp⟩ : ∃ x, Hid (l[k].p = x) := ⟨_, hidk rfl⟩
      have lrd := H.out.prf _ (List.getElem_mem hkl)
      rw [Hpa.out, Hpn.out, Hpc.out, Hpp.out] at lrd
      have hpl : pp.length = pn := lrd.1
      have HPL := hidk hpl
      have HOWN : Hid (∀ W, Below w.heap.size w W → pn ≤ 100000 → Calls Tryz.prog 25 #[.slice pa pn pc] W fun e w' => ∃ x cx, e = .returned (.slice x pn cx) ∧ LReads w' x pn cx pp ∧ (x = none → cx = 0) ∧ DRow w' x pn ∧ (∀ q o, x = some ⟨q, o, none⟩ → 0 < pn → W.heap.size ≤ q) ∧ Below W.heap.size W w') := fun W hb hle => by
        refine (own_any pa pn pc pp W (lrd.keep hb) hle).mono ?_
        rintro e w' ⟨v, rfl, ho, hb'⟩
        obtain ⟨x, cx, rfl, hx, hf⟩ := LReads.own ho lrd.2.1
        rw [HPL.out] at hx ho
        refine ⟨x, cx, by rw [HPL.out], hx, ?_, ?_, fun q o e _ => hf q o e, hb'⟩
        · rintro rfl
          rcases ho.2 with ⟨hv, _⟩ | ⟨q, cap, cur, hv, _⟩
          · injection hv
          · injection hv with h1 _ _
            cases h1
        · rcases ho.2 with ⟨_, h0⟩ | ⟨q, cap, cur, hv, _, hh, _⟩
          · exact .inl h0
          · injection hv with h1 _ _
            exact .inr ⟨q, cur, h1, hh⟩
      have hpn : pn ≤ 100000 := by have := HBN.out _ (List.getElem_mem hkl); rw [Hpn.out] at this; omega
      have HCR : Hid (∀ (V : World) (q : Nat), V.heap[q]? = some (.cells R 40 (0, 0)) → V.cell? ⟨q, 111, none⟩ = some (.slice pa pn pc)) := fun V q hv => by
        have := range_stp okv (st_row HR hv)
        rw [Hpa.out, Hpn.out, Hpc.out] at this
        simpa using this
      have HSET : Hid (∀ x cx, ∃ (v' : StV) (R' : Array Value), Hid (R.setIfInBounds 111 (.slice x pn cx) = R') ∧ Hid (R' = (stcells v').toArray) ∧ OkV v' ∧ v'.a = x ∧ v'.n = pn ∧ v'.c = cx ∧ v'.p = pp ∧ keyV v' = keyV l[k] ∧ Hid ((Tryz.prog.info? 40).map (·.size) = some R'.size)) := fun x cx => by
        have ok' : OkV ⟨l[k].i, l[k].x, x, l[k].n, cx, l[k].h, l[k].p⟩ := ⟨okv.x, okv.d, okv.g⟩
        obtain ⟨R', HR', HSR', _, _⟩ := step_row _ ok'
        refine ⟨⟨l[k].i, l[k].x, x, l[k].n, cx, l[k].h, l[k].p⟩, R', ?_, HR', ok', rfl, Hpn.out, rfl, Hpp.out, rfl, HSR'⟩
        show _ = _
        rw [HR.out, HR'.out, ← Hpn.out]
        exact st_set l[k] okv x cx
      have HKS : Hid (∀ v', keyV v' = keyV l[k] → (lk ++ [v']).map keyV = (l.take (k + 1)).map keyV) := fun v' hv => by
        rw [List.map_append, HKY.out, List.take_succ_eq_append_getElem hkl, List.map_append, List.map_singleton, List.map_singleton, hv]
      clear HR N181 Hpa Hpn Hpc Hpp lrd hpl HPL HKY hg
      go_wp2_with (first
        | ((with_reducible show aD 15 _ _ _ _ _ _ _ _ _ _ _); refine wpList_mid_w (by rfl) 40 (.tmp 14) rfl g (o + 181 * k) rfl R _ HRG.out Tryz.underlying40 rfl HSR.out ?_; try simp only [Act.put, pS1, pS2, pS3])
        | ((with_reducible show aD 5 _ _ _ _ _ _ _ _ _ _ _); refine wpList_new_var rfl 40 rfl Z HA.out ?_; intro g5 w2 HM5; have HN5 := hidk HM5.out.row; try simp only [Act.put, pS1, pS2, pS3])
        | (refine wpList_set_var rfl 40 (.tmp 5) (.tmp 15) rfl g5 R rfl rfl 40 Z HN5.out HSR.out HZR.out H1R.out ?_; intro w3 HW5; have hb5 : Below wr.heap.size wr w3 := HW5.out.below _ _ HM5.out.below (by rw [HM5.out.new]; exact Nat.le_refl _); have HB3 := hidk (HB.out.trans (hb5.mono HB.out.size)); have HG3 := hidk HW5.out.row; have hc3 := HCR.out _ _ HW5.out.row; have HBR3 := hidk hb5; have l5 : wr.heap.size ≤ g5 := (by rw [HM5.out.new]; exact Nat.le_refl _); clear hb5; try simp only [Act.put, pS1, pS2, pS3])
        | fail)
      refine (HOWN.out _ HB3.out hpn).mono ?_
      rintro e w4 ⟨x, cx, rfl, hx, hn, hdr, hf, hb4⟩
      have HBR4 := hidk (HBR3.out.trans (hb4.mono HBR3.out.size))
      have HG4 := hidk ((hb4.block _ (heap_lt HG3.out)).trans HG3.out)
      have hg5 := heap_lt HG3.out
      have hc4 := HCR.out _ _ HG4.out
      have f4 : w4.frozen? ⟨g5, 111, none⟩ = false := frozen_of_row w4 g5 111 _ _ HG4.out
      obtain ⟨v', R', HR1, HR', ok', e1, e2, e3, e4, ek, HSR'⟩ := HSET.out x cx
      obtain ⟨w5, HW5'⟩ : ∃ v, Hid (w4.setCell ⟨g5, 111, none⟩ (.slice x pn cx) = v) := ⟨_, hidk rfl⟩
      have HBR5 : Hid (Below wr.heap.size wr w5) := by
        show Below _ _ _
        rw [← HW5'.out]
        exact HBR4.out.setCell l5 _
      have HG5 : Hid (w5.heap[g5]? = some (.cells R' 40 (0, 0))) := by
        show _ = _
        rw [← HW5'.out, ← HR1.out]
        exact Go.heap_setCell_same w4 g5 111 _ _ _ HG4.out
      have oth : ∀ q, q ≠ g5 → w5.heap[q]? = w4.heap[q]? := fun q hq => by rw [← HW5'.out]; exact Go.heap_setCell_other w4 ⟨g5, 111, none⟩ q _ hq
      have gd : StGood w5 v' := by
        have dlt : ∀ q o, x = some ⟨q, o, none⟩ → 0 < pn → q ≠ g5 := fun q o e h0 => by have := hf q o e h0; omega
        refine ⟨ok', ?_, by rw [e1, e3]; exact hn, ?_⟩
        · rw [e1, e2, e3, e4]
          exact hx.same14 fun q o e h0 => oth q (dlt q o e h0)
        · rw [e1, e2]
          rcases hdr with h0 | ⟨gp, cur, e, hr⟩
          · exact .inl h0
          · by_cases h0 : pn = 0
            · exact .inl h0
            · exact .inr ⟨gp, cur, e, (oth gp (dlt gp 0 e (by omega))).trans hr⟩
      have old : ∀ y ∈ lk, StGood w5 y := fun y hy => (HGD.out y hy).keep fun q cur hq => HBR5.out.block q (heap_lt hq)
      have HB5 := hidk (HB.out.trans (HBR5.out.mono HB.out.size))
      have own5 : w5.ownsRow w.heap.size 40 181 u3 k (stL lk) := own_below HO.out HBR5.out
      have hbl : Below w5.heap.size w5 (w5.alloc (.cells R' 40)) := (Below.refl _ _).alloc (Nat.le_refl _) _
      have own6 := own_below own5 hbl
      have eL : R' = (stL [v']).toArray := by rw [HR'.out, stL_sing]
      have HLIT : Hid ((Instr.buildSlice 49 1 #[(0, .agg R')]).run Tryz.prog w5 = .ok (.slice (some ⟨w5.heap.size, 0, none⟩) 1 1) (w5.alloc (.cells R' 40))) := by
        have := run_build_sts w5 1 [v'] (fun u hu => by rw [List.mem_singleton] at hu; rw [hu]; exact ok') rfl (by omega) (by omega) #[(0, .agg R')] (by rw [HR'.out]; rfl)
        rw [← eL] at this
        exact this
      obtain ⟨v6, w6, hr6, ho6, hg6⟩ := run_append_sts (SReads.new w5 [v'] 1 rfl (fun u hu => by rw [List.mem_singleton] at hu; rw [hu]; exact ok') (by omega) R' eL) (fun e => by cases e) w.heap.size k u3 lk own6 (by have := HB5.out.size; have := hbl.size; omega) (by omega)
      have HO6 := hidk ho6
      have HB6 : Hid (Below w.heap.size w w6) := (HB5.out.trans (hbl.mono HB5.out.size)).grown hg6 (by have := HB5.out.size; have := hbl.size; omega) (fun q e => (own6.lt q e).1)
      have HGD6 : Hid (∀ y ∈ lk ++ [v'], StGood w6 y) := fun y hy => by
        have h5 : StGood w5 y := by
          rcases List.mem_append.1 hy with hy | hy
          · exact old y hy
          · rw [List.mem_singleton] at hy; rw [hy]; exact gd
        refine (h5.keep (V' := w5.alloc (.cells R' 40)) fun q cur hq => hbl.block q (heap_lt hq)).keep fun q cur hq => grown_keep own6 hg6 q cur hq
      have HR6 := hidk hr6
      have HK6 := hidk (HKS.out v' ek)
      clear hb4 hx hn hdr hf HBR3 HBR4 HG3 HOWN HSET HKS HGD HO HB HB3 HRG gd old own5 own6 eL ho6 hg6 hr6 ok' e1 e2 e3 e4 ek oth hbl HR1 HR' HM5 HN5 HW5 HCR hc3 HBR5 HB5
      have HRA : Hid (w5.heap[g5]? = some (.cells R' 40 (0, 0))) := HG5
      go_wp2_with (first
        | ((with_reducible show aD 21 _ _ _ _ _ _ _ _ _ _ _); rw [HW5'.out]; refine wpList_load_row_w (by rfl) 40 (.tmp 5) rfl g5 rfl 40 R' (0, 0) _ HRA.out Tryz.underlying40 rfl HSR'.out ?_; try simp only [Act.put, pS1, pS2, pS3])
        | ((with_reducible show aD 22 _ _ _ _ _ _ _ _ _ _ _); refine wpList_build_run rfl 49 1 _ rfl #[(0, .agg R')] rfl _ _ HLIT.out ?_; try simp only [Act.put, pS1, pS2, pS3])
        | ((with_reducible show aD 23 _ _ _ _ _ _ _ _ _ _ _); refine wpList_append_runD rfl (.tmp 20) (.tmp 22) 49 49 rfl _ _ _ _ rfl rfl HR6.out ?_; try simp only [Act.put, pS1, pS2, pS3])
        | fail)
      go_roundw
      case rel => exact ⟨k + 1, lk ++ [v'], by omega, by go_num, HO6, HB6, HGD6, HK6⟩
      case measure => simp [intOf]; omega
    · obtain rfl : k = len := by omega
      have hd : decide ((k : Int) < (k : Int)) = false := by rw [decide_eq_false_iff_not]; omega
      have HFIN : Hid (∃ aa ca l', u3 = .slice aa k ca ∧ InP wr aa k ca l' ∧ l'.map keyV = l.map keyV) := by
        have hky := HKY.out
        rw [List.take_of_length_le (by rw [HLN.out]; exact Nat.le_refl _)] at hky
        obtain ⟨aa, ca, e, rd, hn, _⟩ := SReads.own HO.out (fun y hy => (HGD.out y hy).ok)
        refine ⟨aa, ca, lk, e, ⟨rd, hn, fun y hy => ?_, fun y hy => (HGD.out y hy).p, fun y hy => (HGD.out y hy).n, by omega⟩, hky⟩
        have hmem : keyV y ∈ l.map keyV := by rw [← hky]; exact List.mem_map_of_mem hy
        obtain ⟨z, hz, e⟩ := List.mem_map.1 hmem
        have et : z.t = y.t := congrArg Prod.fst e
        have := H.out.its z hz
        have e1 : z.i = y.i := congrArg StT.i et
        have e2 : z.x = y.x := congrArg StT.x et
        have e3 : z.h = y.h := congrArg StT.h et
        rw [e1, e2, e3] at this
        exact this
      clear HO HGD HKY
      obtain ⟨aa, ca, l', e, hi, hm⟩ := HFIN.out
      subst e
      have HI := hidk hi
      have HM := hidk hm
      clear hi hm HFIN
      go_wp2
      go_ret
      exact ⟨aa, ca, l', rfl, HI.out, HM.out, HB.out⟩
set_option maxHeartbeats 8000000 in
theorem rAll (a1 : Option Addr) (len c1 : Nat) (l1 : List StV) (a2 : Option Addr) (c2 : Nat) (l2 : List StV) (w : World) (h1 : InP w a1 len c1 l1) (h2 : InP w a2 len c2 l2) (hk : l2.map keyV = l1.map keyV) :
    Calls Tryz.prog 17 #[.slice a1 len c1, .slice a2 len c2] w fun e w' => e = .returned (.bool true) ∧ Below w.heap.size w w' := by
  have q1 := h1.rd.ln
  have q2 := h2.rd.ln
  have hle := h1.le
  have hmx : len ≤ 9223372036854775807 := by omega
  have hdn : (!((len : Int) == (len : Int))) = false := by simp
  have HRD : Hid (∀ k, k < len → ∃ (g1 o1 g2 o2 : Nat) (X Y : Array Value), a1 = some ⟨g1, o1, none⟩ ∧ a2 = some ⟨g2, o2, none⟩ ∧ Hid ((Tryz.prog.info? 40).map (·.size) = some X.size) ∧ Hid ((Tryz.prog.info? 40).map (·.size) = some Y.size) ∧
      Hid (∀ V, Below w.heap.size w V → V.rangeAt g1 (o1 + 181 * k) X.toList) ∧ Hid (∀ V, Below w.heap.size w V → V.rangeAt g2 (o2 + 181 * k) Y.toList) ∧
      Hid (∀ V, Below w.heap.size w V → Calls Tryz.prog 9 #[.agg X, .agg Y] V fun e w' => e = .returned (.bool true) ∧ Below V.heap.size V w')) := fun k hk' => by
    have k1 : k < l1.length := by omega
    have k2 : k < l2.length := by omega
    obtain ⟨g1, o1, rfl, hg1⟩ := h1.rd.at (by omega)
    obtain ⟨g2, o2, rfl, hg2⟩ := h2.rd.at (by omega)
    have ok1 := h1.rd.ok _ (List.getElem_mem k1)
    have ok2 := h2.rd.ok _ (List.getElem_mem k2)
    obtain ⟨X, HX, HSX, _, _⟩ := step_row l1[k] ok1
    obtain ⟨Y, HY, HSY, _, _⟩ := step_row l2[k] ok2
    have key : keyV l2[k] = keyV l1[k] := by
      have e1 : (l2.map keyV)[k]? = (l1.map keyV)[k]? := by rw [hk]
      rw [List.getElem?_map, List.getElem?_map, List.getElem?_eq_getElem k1, List.getElem?_eq_getElem k2] at e1
      exact Option.some.inj e1
    refine ⟨g1, o1, g2, o2, X, Y, rfl, rfl, HSX, HSY, fun V hb => ?_, fun V hb => ?_, fun V hb => ?_⟩
    · rw [HX.out]; exact range_below (h1.rd.range k k1) hb hg1
    · rw [HY.out]; exact range_below (h2.rd.range k k2) hb hg2
    · exact rSame l1[k] l2[k] V ok1 ok2 (congrArg Prod.snd key).symm (congrArg Prod.fst key).symm ((h1.prf _ (List.getElem_mem k1)).keep hb) ((h2.prf _ (List.getElem_mem k2)).keep hb) X Y HX HY
  have HB0 := hidk (Below.refl w.heap.size w)
  clear h1 h2 hk q1 q2 hle
  go_enter Tryz.func17, Tryz.ntmps17
  go_wp2
  go_loopw [5] (fun u wr => ∃ k : Nat, k ≤ len ∧ u = .int .i64 k ∧ Hid (Below w.heap.size w wr)) (fun u _ => len - (intOf u).toNat)
  case atStart => exact ⟨0, by omega, rfl, HB0⟩
  case round =>
    obtain ⟨k, hk, rfl, HB⟩ := hrel
    by_cases hlt : k < len
    · obtain ⟨g1, o1, g2, o2, X, Y, ea, eb, HSX, HSY, HRX, HRY, HSM⟩ := HRD.out k hlt
      subst ea
      subst eb
      have ic1 := fun W => index_st W g1 o1 len c1 k .i64 hlt
      have ic2 := fun W => index_st W g2 o2 len c2 k .i64 hlt
      have hd : decide ((k : Int) < (len : Int)) = true := by rw [decide_eq_true_eq]; omega
      have hw1 := wrap_int ((k : Int) + 1) (by omega) (by omega)
      go_wp2_with fail
      refine wp_region_held_drew (S := (Below w.heap.size w)) (by kernel_rfl) HB.out.drew (fun hHeld => ?_)
      refine zX 0 (.slice (some ⟨g1, o1, none⟩) len c1) rfl hHeld ?_
      try simp only [Act.put, pS1, pS2, pS3]
      refine zX 1 (.int .i64 (k : Int)) rfl hHeld ?_
      try simp only [Act.put, pS1, pS2, pS3]
      refine zW 2 (.pointer (some ⟨g1, o1 + 181 * k, none⟩)) rfl (Or.inl ⟨by rfl, by intro W hSw; have := ic1 W; go_simp⟩) hHeld ?_
      try simp only [Act.put, pS1, pS2, pS3]
      refine zW 3 (.agg X) rfl (yieldsIf_mid (by rfl) 40 (.tmp 19) rfl g1 (o1 + 181 * k) rfl X _ (fun V hv => HRX.out V hv) Tryz.underlying40 rfl HSX.out) hHeld ?_
      try simp only [Act.put, pS1, pS2, pS3]
      refine zX 4 (.slice (some ⟨g2, o2, none⟩) len c2) rfl hHeld ?_
      try simp only [Act.put, pS1, pS2, pS3]
      refine zX 5 (.int .i64 (k : Int)) rfl hHeld ?_
      try simp only [Act.put, pS1, pS2, pS3]
      refine zW 6 (.pointer (some ⟨g2, o2 + 181 * k, none⟩)) rfl (Or.inl ⟨by rfl, by intro W hSw; have := ic2 W; go_simp⟩) hHeld ?_
      try simp only [Act.put, pS1, pS2, pS3]
      refine zW 7 (.agg Y) rfl (yieldsIf_mid (by rfl) 40 (.tmp 23) rfl g2 (o2 + 181 * k) rfl Y _ (fun V hv => HRY.out V hv) Tryz.underlying40 rfl HSY.out) hHeld ?_
      try simp only [Act.put, pS1, pS2, pS3]
      refine wpAnyH_ready (rs := [8]) (by kernel_rfl) (by simp) ?_
      refine (AllReadyH.cons (o := { dst := some 25, op := .call { callee := .value (.func 9), args := #[.tmp 20, .tmp 24], argTypes := #[40, 40] }, type := 4, pos := "ref.go:77", after := #[zD 3, zD 7], guard := none }) rfl (fun K hK => ?_) AllReadyH.nil)
      go_simp
      refine (HSM.out _ hHeld).mono ?_
      rintro e w8 ⟨rfl, hb8⟩
      go_wp2_with fail
      refine hK.out _ _ (hHeld.trans (hb8.mono hHeld.size)) (fun hHeld => ?_)
      clear hK K
      try simp only [Act.put, pS1, pS2, pS3]
      refine zX 9 (.bool false) rfl hHeld ?_
      try simp only [Act.put, pS1, pS2, pS3]
      refine wpAnyH_done (by kernel_rfl) ?_ _
      have HX := hidk hHeld
      clear hHeld
      go_wp2
      go_roundw
      case rel => exact ⟨k + 1, by omega, by go_num, HX⟩
      case measure => simp [intOf]; omega
    · obtain rfl : k = len := by omega
      have hd : decide ((k : Int) < (k : Int)) = false := by rw [decide_eq_false_iff_not]; omega
      go_wp2
      go_ret
      exact ⟨rfl, HB.out⟩
theorem results_rrt {P : Program} {fn : Func} {p1 p2 q : Tmp} {ty1 ty2 : TypeId} (h : fn.results = #[.cell p1 ty1, .cell p2 ty2, .tmp q]) (tmps : Array Value) (w : World) (g1 g2 : Nat) (t1 t2 : TypeId) (c1 c2 : Array Value) (f1 f2 : Nat × Nat) (d1 d2 : TypeDesc)
    (hp1 : tmps.getD p1 undef = .pointer (some ⟨g1, 0, none⟩)) (hp2 : tmps.getD p2 undef = .pointer (some ⟨g2, 0, none⟩)) (h1 : w.heap[g1]? = some (.cells c1 t1 f1)) (h2 : w.heap[g2]? = some (.cells c2 t2 f2))
    (hu1 : P.underlying ty1 = some d1) (hd1 : (match d1 with | .struct _ | .array _ _ => true | _ => false) = true) (hu2 : P.underlying ty2 = some d2) (hd2 : (match d2 with | .struct _ | .array _ _ => true | _ => false) = true) (hi1 : (P.info? ty1).map (·.size) = some c1.size) (hi2 : (P.info? ty2).map (·.size) = some c2.size) :
    (results fn tmps).run P w = .ok (.tuple #[.agg c1, .agg c2, tmps.getD q undef]) w := by
  have hp1' : tmps[p1]?.getD undef = .pointer (some ⟨g1, 0, none⟩) := by simpa using hp1
  have hp2' : tmps[p2]?.getD undef = .pointer (some ⟨g2, 0, none⟩) := by simpa using hp2
  simp [results, h, hp1', hp2', asAddr, run_loadVar_row w g1 t1 ty1 c1 f1 d1 h1 hu1 hd1 hi1, run_loadVar_row w g2 t2 ty2 c2 f2 d2 h2 hu2 hd2 hi2]
structure HeldE (w : World) (g2 g3 : Nat) (V : World) : Prop where
  b : Below w.heap.size w V
  x : ∃ Y : Array Value, V.heap[g2]? = some (.cells Y 37 (0, 0)) ∧ Y.size = 110
  s : ∃ Y : Array Value, V.heap[g3]? = some (.cells Y 28 (0, 0)) ∧ Y.size = 69
  l2 : w.heap.size ≤ g2
  l3 : w.heap.size ≤ g3
  ne : g2 ≠ g3
theorem HeldE.keep {w : World} {g2 g3 : Nat} {V V' : World} (h : HeldE w g2 g3 V) (hb : Below V.heap.size V V') : HeldE w g2 g3 V' where
  b := h.b.trans (hb.mono h.b.size)
  x := by obtain ⟨Y, h1, h2⟩ := h.x; exact ⟨Y, (hb.block _ (heap_lt h1)).trans h1, h2⟩
  s := by obtain ⟨Y, h1, h2⟩ := h.s; exact ⟨Y, (hb.block _ (heap_lt h1)).trans h1, h2⟩
  l2 := h.l2
  l3 := h.l3
  ne := h.ne
theorem HeldE.wrote2 {w : World} {g2 g3 : Nat} {V V' : World} {R : Array Value} (h : HeldE w g2 g3 V) (hw : Wrote g2 R 37 V V') (hR : R.size = 110) : HeldE w g2 g3 V' where
  b := hw.below _ _ h.b h.l2
  x := ⟨R, hw.row, hR⟩
  s := by obtain ⟨Y, h1, h2⟩ := h.s; exact ⟨Y, (hw.other _ h.ne.symm).trans h1, h2⟩
  l2 := h.l2
  l3 := h.l3
  ne := h.ne
theorem HeldE.wrote3 {w : World} {g2 g3 : Nat} {V V' : World} {R : Array Value} (h : HeldE w g2 g3 V) (hw : Wrote g3 R 28 V V') (hR : R.size = 69) : HeldE w g2 g3 V' where
  b := hw.below _ _ h.b h.l3
  x := by obtain ⟨Y, h1, h2⟩ := h.x; exact ⟨Y, (hw.other _ h.ne).trans h1, h2⟩
  s := ⟨R, hw.row, hR⟩
  l2 := h.l2
  l3 := h.l3
  ne := h.ne
theorem HeldE.rng {w : World} {g2 g3 : Nat} {V : World} (h : HeldE w g2 g3 V) {g o : Nat} {l : List Value} (hr : w.rangeAt g o l) (hg : g < w.heap.size) : V.rangeAt g o l := range_below hr h.b hg
set_option maxHeartbeats 8000000 in
theorem pEnds (a : Option Addr) (len cap : Nat) (l : List StV) (w : World) (h : InP w a len cap l) (X S : Array Value) (HX : Hid (X = (icells (endX l)).toArray)) (HS : Hid (S = (scells (endS l)).toArray)) :
    Calls Tryz.prog 15 #[.slice a len cap] w fun e w' => e = .returned (.tuple #[.agg X, .agg S, .int .i64 (endE l)]) ∧ Below w.heap.size w w' := by
  obtain ⟨ZI, HZI, HAI, HBI, Z110⟩ := noughtsI
  obtain ⟨ZS, HZS, HAS, HBS, Z69⟩ := noughtsS
  have hln := h.rd.ln
  have hle := h.le
  by_cases hc : 1 ≤ len ∧ len ≤ 5
  · obtain ⟨m, hm⟩ : ∃ m, len = m + 1 := ⟨len - 1, by omega⟩
    have hc' : 1 ≤ l.length ∧ l.length ≤ 5 := by omega
    have eE : endE l = 0 := by unfold endE; rw [if_pos hc']
    have eX : endX l = (l[0]'(by omega)).x := by
      unfold endX
      rw [if_pos hc', List.headD_eq_head?_getD, List.head?_eq_getElem?, List.getElem?_eq_getElem (by omega)]
      rfl
    have eS : endS l = (l[m]'(by omega)).h := by
      unfold endS
      rw [if_pos hc', List.getLastD_eq_getLast?, List.getLast?_eq_getElem?, show l.length - 1 = m by omega, List.getElem?_eq_getElem (by omega)]
      rfl
    rw [eE]
    have ok0 := h.rd.ok _ (List.getElem_mem (show 0 < l.length by omega))
    have okm := h.rd.ok _ (List.getElem_mem (show m < l.length by omega))
    have N110 : Hid (X.size = 110) := by show _ = _; rw [HX.out, eX]; simp [icells_length _ ok0.x]
    have N69 : Hid (S.size = 69) := by show _ = _; rw [HS.out, eS]; simp [scells_length _ okm.d okm.g]
    have HSX : Hid ((Tryz.prog.info? 37).map (·.size) = some X.size) := by show _ = _; rw [sizeI, N110.out]
    have HSS : Hid ((Tryz.prog.info? 28).map (·.size) = some S.size) := by show _ = _; rw [sizeS, N69.out]
    have H1X : Hid (X.all (·.oneCell') = true) := by show _ = _; rw [HX.out]; exact one_cellsI _
    have H1S : Hid (S.all (·.oneCell') = true) := by show _ = _; rw [HS.out]; exact one_cellsS _
    obtain ⟨g, o, rfl, hg⟩ := h.rd.at (by omega)
    have RX : Hid (w.rangeAt g (o + 1) X.toList) := by
      have := range_stx (h.rd.range 0 (by omega))
      show World.rangeAt _ _ _ _
      rw [HX.out, eX]
      simpa using this
    have RS : Hid (w.rangeAt g (o + 181 * m + 112) S.toList) := by
      have := range_sth okm (h.rd.range m (by omega))
      show World.rangeAt _ _ _ _
      rw [HS.out, eS]
      simpa using this
    have ic0 : ∀ W, (Instr.indexAt 49 (.slice (some ⟨g, o, none⟩) len cap) (.int .i64 0)).run Tryz.prog W = .ok (.pointer (some ⟨g, o, none⟩)) W := fun W => by
      have := index_st W g o len cap 0 .i64 (by omega)
      simpa using this
    have icm : ∀ W, (Instr.indexAt 49 (.slice (some ⟨g, o, none⟩) len cap) (.int .i64 (m : Int))).run Tryz.prog W = .ok (.pointer (some ⟨g, o + 181 * m, none⟩)) W := fun W => index_st W g o len cap m .i64 (by omega)
    have hsub : IntKind.i64.wrap ((len : Int) - 1) = (m : Int) := by rw [wrap_int _ (by omega) (by omega)]; omega
    have RI := hidk (pRight (some ⟨g, o, none⟩) len cap)
    have er : decide (1 ≤ len ∧ len ≤ 5) = true := decide_eq_true hc
    have HRI : Hid (∀ W, Calls Tryz.prog 26 #[.slice (some ⟨g, o, none⟩) len cap] W fun e w' => e = .returned (.bool true) ∧ W = w') := fun W => by
      have := pRight (some ⟨g, o, none⟩) len cap W (by omega)
      rwa [er] at this
    have HZX : Hid (ZI.size = 110) := Z110
    clear h hc hc' HX HS eX eS eE ok0 okm HZI HZS HBI HBS RI er hm hln
    go_enter Tryz.func15, Tryz.ntmps15
    go_wp2_with (first
      | ((with_reducible show aD 2 _ _ _ _ _ _ _ _ _ _ _); refine wpList_new_var rfl 37 rfl ZI HAI.out ?_; intro g2 w1 HM2; skip; try simp only [Act.put, pS1, pS2, pS3])
      | ((with_reducible show aD 3 _ _ _ _ _ _ _ _ _ _ _); refine wpList_new_var rfl 28 rfl ZS HAS.out ?_; intro g3 w2 HM3; have h0 : HeldE w g2 g3 w2 := ⟨HM2.out.below.trans (HM3.out.below.mono HM2.out.below.size), ⟨ZI, (HM3.out.below.block _ (heap_lt HM2.out.row)).trans HM2.out.row, Z110.out⟩, ⟨ZS, HM3.out.row, Z69.out⟩, by rw [HM2.out.new]; exact Nat.le_refl _, by rw [HM3.out.new]; exact HM2.out.below.size, by have := heap_lt HM2.out.row; rw [HM3.out.new]; omega⟩; have H0 := hidk h0; clear h0; try simp only [Act.put, pS1, pS2, pS3])
      | fail)
    refine (HRI.out _).mono ?_
    rintro e w3 ⟨rfl, rfl⟩
    clear HRI HM2 HM3
    go_wp2_with fail
    refine wp_region_held_drew (S := (HeldE w g2 g3)) (by kernel_rfl) (H0.out.keep (Below.refl _ _).drew) (fun hHeld => ?_)
    refine zX 0 (.slice (some ⟨g, o, none⟩) len cap) rfl hHeld ?_
    try simp only [Act.put, pS1, pS2, pS3]
    refine zW 1 (.pointer (some ⟨g, o, none⟩)) rfl (Or.inl ⟨by rfl, by intro W hSw; have := ic0 W; go_simp⟩) hHeld ?_
    try simp only [Act.put, pS1, pS2, pS3]
    refine zX 2 (.pointer (some ⟨g, o + 1, none⟩)) rfl hHeld ?_
    try simp only [Act.put, pS1, pS2, pS3]
    refine zW 3 (.agg X) rfl (yieldsIf_mid (by rfl) 37 (.tmp 12) rfl g (o + 1) rfl X _ (fun V hv => hv.rng RX.out hg) Tryz.underlying37 rfl HSX.out) hHeld ?_
    try simp only [Act.put, pS1, pS2, pS3]
    refine zX 4 (.slice (some ⟨g, o, none⟩) len cap) rfl hHeld ?_
    try simp only [Act.put, pS1, pS2, pS3]
    refine zX 5 (.slice (some ⟨g, o, none⟩) len cap) rfl hHeld ?_
    try simp only [Act.put, pS1, pS2, pS3]
    refine zX 6 (.int .i64 (len : Int)) rfl hHeld ?_
    try simp only [Act.put, pS1, pS2, pS3]
    refine zX 7 (.int .i64 (m : Int)) rfl hHeld ?_
    try simp only [Act.put, pS1, pS2, pS3]
    refine zW 8 (.pointer (some ⟨g, o + 181 * m, none⟩)) rfl (Or.inl ⟨by rfl, by intro W hSw; have := icm W; go_simp⟩) hHeld ?_
    try simp only [Act.put, pS1, pS2, pS3]
    refine zX 9 (.pointer (some ⟨g, o + 181 * m + 112, none⟩)) rfl hHeld ?_
    try simp only [Act.put, pS1, pS2, pS3]
    refine zW 10 (.agg S) rfl (yieldsIf_mid (by rfl) 28 (.tmp 19) rfl g (o + 181 * m + 112) rfl S _ (fun V hv => hv.rng RS.out hg) Tryz.underlying28 rfl HSS.out) hHeld ?_
    try simp only [Act.put, pS1, pS2, pS3]
    refine wpAnyH_ready (rs := [11]) (by kernel_rfl) (by simp) ?_
    refine (AllReadyH.cons (o := { dst := none, op := .store 37 (.tmp 2) (.tmp 13), type := 0, pos := "path.go:54", after := #[zD 3, zP 0, zP 1, zP 2, zP 3, { on := 4, ground := Ground.textOnly Departure.lateStores }, { on := 5, ground := Ground.textOnly Departure.lateStores }, { on := 6, ground := Ground.textOnly Departure.lateStoresUnsure }, { on := 7, ground := Ground.textOnly Departure.lateStores }, { on := 8, ground := Ground.textOnly Departure.lateStores }, { on := 9, ground := Ground.textOnly Departure.lateStores }, { on := 10, ground := Ground.textOnly Departure.lateStores }], guard := none }) rfl (fun K hK => ?_) AllReadyH.nil)
    obtain ⟨Y2, hY2, hY2s⟩ := hHeld.x
    have HY2 := hidk (hY2s.trans N110.out.symm)
    refine step_set_var (by rfl) 37 (.tmp 2) (.tmp 13) rfl g2 X rfl rfl 37 Y2 hY2 HSX.out HY2.out H1X.out ?_
    intro w11 HW2
    have HR2 := hidk HW2.out.row
    refine hK.out _ _ (hHeld.wrote2 HW2.out N110.out) (fun hHeld => ?_)
    clear hK K
    try simp only [Act.put, pS1, pS2, pS3]
    refine wpAnyH_ready (rs := [12]) (by kernel_rfl) (by simp) ?_
    refine (AllReadyH.cons (o := { dst := none, op := .store 28 (.tmp 3) (.tmp 20), type := 0, pos := "path.go:54", after := #[zD 10, zC 11, zP 0, zP 1, zP 2, zP 3, zP 4, zP 5, zP 6, zP 7, zP 8, zP 9, zP 10, zP 11], guard := none }) rfl (fun K hK => ?_) AllReadyH.nil)
    obtain ⟨Y3, hY3, hY3s⟩ := hHeld.s
    have HY3 := hidk (hY3s.trans N69.out.symm)
    refine step_set_var (by rfl) 28 (.tmp 3) (.tmp 20) rfl g3 S rfl rfl 28 Y3 hY3 HSS.out HY3.out H1S.out ?_
    intro w12 HW3
    have HR3 := hidk HW3.out.row
    replace HR2 := hidk ((HW3.out.other g2 hHeld.ne).trans HR2.out)
    have HB12 := hidk (hHeld.wrote3 HW3.out N69.out).b
    refine hK.out _ _ (hHeld.wrote3 HW3.out N69.out) (fun hHeld => ?_)
    clear hK K
    try simp only [Act.put, pS1, pS2, pS3]
    refine zX 13 (.int .i64 0) rfl hHeld ?_
    try simp only [Act.put, pS1, pS2, pS3]
    refine wpAnyH_done (by kernel_rfl) ?_ _
    go_wp2
    refine bodyPost_ret (v := .tuple #[.agg X, .agg S, .int .i64 0]) ?_ rfl ⟨rfl, HB12.out⟩
    exact results_rrt (p1 := 2) (p2 := 3) (q := 4) (ty1 := 37) (ty2 := 28) rfl _ _ g2 g3 37 28 X S (0, 0) (0, 0) _ _ rfl rfl HR2.out HR3.out Tryz.underlying37 rfl Tryz.underlying28 rfl HSX.out HSS.out
  · have hc' : ¬ (1 ≤ l.length ∧ l.length ≤ 5) := by omega
    have eE : endE l = 130 := by unfold endE; rw [if_neg hc']
    have eX : X = ZI := by rw [HX.out, HZI.out]; unfold endX; rw [if_neg hc']
    have eS : S = ZS := by rw [HS.out, HZS.out]; unfold endS; rw [if_neg hc']
    rw [eE]
    clear HX HS
    subst eX
    subst eS
    have HSX : Hid ((Tryz.prog.info? 37).map (·.size) = some X.size) := by show _ = _; rw [sizeI, Z110.out]
    have HSS : Hid ((Tryz.prog.info? 28).map (·.size) = some S.size) := by show _ = _; rw [sizeS, Z69.out]
    have H1X : Hid (X.all (·.oneCell') = true) := by show _ = _; rw [HZI.out]; exact one_cellsI _
    have H1S : Hid (S.all (·.oneCell') = true) := by show _ = _; rw [HZS.out]; exact one_cellsS _
    have er : decide (1 ≤ len ∧ len ≤ 5) = false := decide_eq_false hc
    have HRI : Hid (∀ W, Calls Tryz.prog 26 #[.slice a len cap] W fun e w' => e = .returned (.bool false) ∧ W = w') := fun W => by
      have := pRight a len cap W (by omega)
      rwa [er] at this
    clear h hc hc' eE HZI HZS er hln hle
    go_enter Tryz.func15, Tryz.ntmps15
    go_wp2_with (first
      | ((with_reducible show aD 2 _ _ _ _ _ _ _ _ _ _ _); refine wpList_new_var rfl 37 rfl X HAI.out ?_; intro g2 w1 HM2; skip; try simp only [Act.put, pS1, pS2, pS3])
      | ((with_reducible show aD 3 _ _ _ _ _ _ _ _ _ _ _); refine wpList_new_var rfl 28 rfl S HAS.out ?_; intro g3 w2 HM3; have h0 : HeldE w g2 g3 w2 := ⟨HM2.out.below.trans (HM3.out.below.mono HM2.out.below.size), ⟨X, (HM3.out.below.block _ (heap_lt HM2.out.row)).trans HM2.out.row, Z110.out⟩, ⟨S, HM3.out.row, Z69.out⟩, by rw [HM2.out.new]; exact Nat.le_refl _, by rw [HM3.out.new]; exact HM2.out.below.size, by have := heap_lt HM2.out.row; rw [HM3.out.new]; omega⟩; have H0 := hidk h0; clear h0; try simp only [Act.put, pS1, pS2, pS3])
      | fail)
    refine (HRI.out _).mono ?_
    rintro e w3 ⟨rfl, rfl⟩
    have HR2 := hidk ((HM3.out.below.block _ (heap_lt HM2.out.row)).trans HM2.out.row)
    have HR3 := hidk HM3.out.row
    clear HRI HM2 HM3
    go_wp2_with (first
      | ((with_reducible show aD 8 _ _ _ _ _ _ _ _ _ _ _); refine wpList_build_none rfl 37 rfl X HBI.out ?_; try simp only [Act.put, pS1, pS2, pS3])
      | ((with_reducible show aD 9 _ _ _ _ _ _ _ _ _ _ _); refine wpList_build_none rfl 28 rfl S HBS.out ?_; try simp only [Act.put, pS1, pS2, pS3])
      | (refine wpList_set_var rfl 37 (.tmp 2) (.tmp 8) rfl g2 X rfl rfl 37 X HR2.out HSX.out rfl H1X.out ?_; intro w4 HW2; have HR34 := hidk ((HW2.out.other g3 H0.out.ne.symm).trans HR3.out); have HR24 := hidk HW2.out.row; have HB4 := hidk (HW2.out.below _ _ H0.out.b H0.out.l2); try simp only [Act.put, pS1, pS2, pS3])
      | (refine wpList_set_var rfl 28 (.tmp 3) (.tmp 9) rfl g3 S rfl rfl 28 S HR34.out HSS.out rfl H1S.out ?_; intro w5 HW3; have HR25 := hidk ((HW3.out.other g2 H0.out.ne).trans HR24.out); have HR35 := hidk HW3.out.row; have HB5 := hidk (HW3.out.below _ _ HB4.out H0.out.l3); try simp only [Act.put, pS1, pS2, pS3])
      | fail)
    refine bodyPost_ret (v := .tuple #[.agg X, .agg S, .int .i64 130]) ?_ rfl ⟨rfl, HB5.out⟩
    exact results_rrt (p1 := 2) (p2 := 3) (q := 4) (ty1 := 37) (ty2 := 28) rfl _ _ g2 g3 37 28 X S (0, 0) (0, 0) _ _ rfl rfl HR25.out HR35.out Tryz.underlying37 rfl Tryz.underlying28 rfl HSX.out HSS.out
end Go.Proofs.YtkmedlfbkddmoaaGreatDoor
/- What the calls of package path answer, at this commit of the code. -/
namespace Go.Proofs.YtkmedlfbkddmoaaGreatDoor
open Go.RowKit Nums Sums
set_option linter.unusedVariables false
set_option maxRecDepth 100000
theorem pathC (hc : HistoryC) (en : EntryC) (hd : HeadC) (ck : P5.CheckC) : PathC where
  make := fun a len cap l i s w h hi hs S HS hT => pMake hc en hd a len cap l i s w h hi hs S HS hT
  verify := fun master a len cap l w M HM hm h hT => pVerify hd en ck master a len cap l w M HM hm h hT
  ends := fun a len cap l w h X S HX HS => pEnds a len cap l w h X S HX HS
end Go.Proofs.YtkmedlfbkddmoaaGreatDoor
