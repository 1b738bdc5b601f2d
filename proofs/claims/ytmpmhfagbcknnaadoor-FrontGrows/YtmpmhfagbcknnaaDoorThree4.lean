/- The statements' own example of fronts: three leaves. -/
import Derived.Test.YtmpmhfagbcknnaaDoorFrontC
namespace Go.Proofs.YtmpmhfagbcknnaaDoor
open Go.RowKit Sums
set_option linter.unusedVariables false
set_option linter.unusedSimpArgs false

theorem split1 : split 1 = 0 := by decide +kernel
theorem split2 : split 2 = 1 := by decide +kernel
theorem split3 : split 3 = 2 := by decide +kernel
theorem split5 : split 5 = 4 := by decide +kernel
theorem split8 : split 8 = 4 := by decide +kernel
theorem root_ab (a b : List UInt8) : root [a, b] = knotD a b := by
  rw [root_more [a, b] (by simp), show [a, b].length = 2 from rfl, split2]
  rw [root_one _ (by simp), root_one _ (by simp)]
  rfl
theorem root_abc (a b c : List UInt8) : root [a, b, c] = knotD (knotD a b) c := by
  rw [root_more [a, b, c] (by simp), show [a, b, c].length = 3 from rfl, split3]
  rw [show List.take 2 [a, b, c] = [a, b] from rfl, root_ab, root_one _ (by simp)]
  rfl
/-- What three's variables hold. -/
structure Abc (a b c : List UInt8) (gA gB gC gl : Nat) (w W : World) : Prop where
  ra : W.rangeAt gA 0 (cellsOf a)
  rb : W.rangeAt gB 0 (cellsOf b)
  rc : W.rangeAt gC 0 (cellsOf c)
  rl : LReads W (some ⟨gl, 0, none⟩) 3 3 [a, b, c]
  low : Below w.heap.size w W
theorem Abc.keep {a b c : List UInt8} {gA gB gC gl : Nat} {w W W' : World} (h : Abc a b c gA gB gC gl w W) (hb : Below W.heap.size W W') : Abc a b c gA gB gC gl w W' :=
  ⟨range_keep hb h.ra, range_keep hb h.rb, range_keep hb h.rc, h.rl.keep hb, h.low.trans (hb.mono h.low.size)⟩

theorem built1 : Tryd.prog.built 29 [(0, .int .u8 1)] = some (cellsOf (dig1 1)).toArray := by kernel_rfl
theorem built2 : Tryd.prog.built 29 [(0, .int .u8 2)] = some (cellsOf (dig1 2)).toArray := by kernel_rfl
theorem built3 : Tryd.prog.built 29 [(0, .int .u8 3)] = some (cellsOf (dig1 3)).toArray := by kernel_rfl
theorem Abc.new {a b c : List UInt8} {A B C L : Array Value} {gA gB gC : Nat} {w wA wB wC : World} (ha : a.length = 32) (hb : b.length = 32) (hc : c.length = 32) (HA : Hid (A = (cellsOf a).toArray)) (HB : Hid (B = (cellsOf b).toArray)) (HC : Hid (C = (cellsOf c).toArray)) (HL : Hid (L = (cellsOf [a, b, c].flatten).toArray))
    (h1 : Hid (gA = w.heap.size ∧ wA.heap[gA]? = some (.cells A 29 (0, 0)) ∧ Below w.heap.size w wA)) (h2 : Hid (gB = wA.heap.size ∧ wB.heap[gB]? = some (.cells B 29 (0, 0)) ∧ Below wA.heap.size wA wB)) (h3 : Hid (gC = wB.heap.size ∧ wC.heap[gC]? = some (.cells C 29 (0, 0)) ∧ Below wB.heap.size wB wC)) :
    Abc a b c gA gB gC wC.heap.size w (wC.alloc (.cells L 29)) ∧ wC.heap[gA]? = some (.cells A 29 (0, 0)) ∧ wC.heap[gB]? = some (.cells B 29 (0, 0)) := by
  obtain ⟨_, a1, l1⟩ := h1.out
  obtain ⟨_, b1, l2⟩ := h2.out
  obtain ⟨_, c1, l3⟩ := h3.out
  have a2 := (l2.block _ (heap_lt a1)).trans a1
  have a3 := (l3.block _ (heap_lt a2)).trans a2
  have b2 := (l3.block _ (heap_lt b1)).trans b1
  rw [HA.out] at a3
  rw [HB.out] at b2
  rw [HC.out] at c1
  refine ⟨⟨range_row (heap_keep a3), range_row (heap_keep b2), range_row (heap_keep c1), LReads.new wC _ 3 rfl (fun d hd => ?_) (by omega) L HL, ?_⟩, by rw [HA.out]; exact a3, by rw [HB.out]; exact b2⟩
  · simp only [List.mem_cons, List.not_mem_nil, or_false] at hd
    rcases hd with rfl | rfl | rfl <;> assumption
  · have t1 := l1.trans (l2.mono l1.size)
    have t2 := t1.trans (l3.mono t1.size)
    exact t2.alloc t2.size _

theorem hi3 : hiP 3 = 2 := by decide +kernel
theorem hi1 : hiP 1 = 1 := by decide +kernel
theorem peaks_abc (a b c : List UInt8) : peaks [a, b, c] = [knotD a b, c] := by
  rw [peaks_more [a, b, c] (by simp), show hiP [a, b, c].length = 2 from hi3, show List.take 2 [a, b, c] = [a, b] from rfl, root_ab, show List.drop 2 [a, b, c] = [c] from rfl, peaks_more [c] (by simp), show hiP [c].length = 1 from hi1, show List.take 1 [c] = [c] from rfl, root_one [c] rfl, peaks_none _ rfl]
  rfl
theorem many3 : many 3 = 2 := by decide +kernel

/-- What three's variables and answers hold. -/
structure Abf (a b c : List UInt8) (gA gB gC gf gR gE : Nat) (ay : Option Addr) (cy : Nat) (LR LE : List Value) (w W : World) : Prop where
  ra : W.rangeAt gA 0 (cellsOf a)
  rb : W.rangeAt gB 0 (cellsOf b)
  rc : W.rangeAt gC 0 (cellsOf c)
  rf : W.rangeAt gf 0 [.int .i64 3, .slice ay 2 cy]
  rR : W.rangeAt gR 0 LR
  rE : W.rangeAt gE 0 LE
  p : LReads W ay 2 cy [knotD a b, c]
  low : Below w.heap.size w W
theorem Abf.keep {a b c : List UInt8} {gA gB gC gf gR gE : Nat} {ay : Option Addr} {cy : Nat} {LR LE : List Value} {w W W' : World} (h : Abf a b c gA gB gC gf gR gE ay cy LR LE w W) (hb : Below W.heap.size W W') : Abf a b c gA gB gC gf gR gE ay cy LR LE w W' :=
  ⟨range_keep hb h.ra, range_keep hb h.rb, range_keep hb h.rc, range_keep hb h.rf, range_keep hb h.rR, range_keep hb h.rE, h.p.keep hb, h.low.trans (hb.mono h.low.size)⟩

theorem zeroF : (Tryd.prog.info? 25).map (fun i => (i.zero, i.size)) = some (some (.agg #[.int .i64 0, .slice none 0 0]), 2) := by kernel_rfl
theorem sizeF : (Tryd.prog.info? 25).map (·.size) = some 2 := by kernel_rfl

set_option maxHeartbeats 4000000 in
set_option maxRecDepth 100000 in
theorem three4_true (fr : FrontC) (w : World) (hK : TabF w) : Calls Tryd.prog 13 #[] w fun e w' => e = .returned (.bool true) ∧ Below w.heap.size w w' := by
  obtain ⟨Z, HZ, HAZ, HSZ, H1Z, H32Z⟩ := noughts27
  obtain ⟨a, Ha, ha, A, HA, HSA, H1A, H32A, hbA⟩ : ∃ a, Hid (a = dig1 1) ∧ a.length = 32 ∧ ∃ A : Array Value, Hid (A = (cellsOf a).toArray) ∧ Hid ((Tryd.prog.info? 29).map (·.size) = some A.size) ∧ Hid (A.all (·.oneCell') = true) ∧ Hid (A.size = 32) ∧ Hid (Tryd.prog.built 29 [(0, .int .u8 1)] = some A) := by
    obtain ⟨A, h1, h2, h3, h4⟩ := dig_row' (dig1 1) rfl
    exact ⟨dig1 1, (rfl : _ = _), rfl, A, h1, h2, h3, h4, by show _ = _; rw [h1.out]; exact built1⟩
  obtain ⟨b, Hb, hb, B, HB, HSB, H1B, H32B, hbB⟩ : ∃ a, Hid (a = dig1 2) ∧ a.length = 32 ∧ ∃ A : Array Value, Hid (A = (cellsOf a).toArray) ∧ Hid ((Tryd.prog.info? 29).map (·.size) = some A.size) ∧ Hid (A.all (·.oneCell') = true) ∧ Hid (A.size = 32) ∧ Hid (Tryd.prog.built 29 [(0, .int .u8 2)] = some A) := by
    obtain ⟨A, h1, h2, h3, h4⟩ := dig_row' (dig1 2) rfl
    exact ⟨dig1 2, (rfl : _ = _), rfl, A, h1, h2, h3, h4, by show _ = _; rw [h1.out]; exact built2⟩
  obtain ⟨c, Hc, hc, C, HC, HSC, H1C, H32C, hbC⟩ : ∃ a, Hid (a = dig1 3) ∧ a.length = 32 ∧ ∃ A : Array Value, Hid (A = (cellsOf a).toArray) ∧ Hid ((Tryd.prog.info? 29).map (·.size) = some A.size) ∧ Hid (A.all (·.oneCell') = true) ∧ Hid (A.size = 32) ∧ Hid (Tryd.prog.built 29 [(0, .int .u8 3)] = some A) := by
    obtain ⟨A, h1, h2, h3, h4⟩ := dig_row' (dig1 3) rfl
    exact ⟨dig1 3, (rfl : _ = _), rfl, A, h1, h2, h3, h4, by show _ = _; rw [h1.out]; exact built3⟩
  have HZA : Hid (Z.size = A.size) := by show _ = _; rw [H32Z.out, H32A.out]
  have HZB : Hid (Z.size = B.size) := by show _ = _; rw [H32Z.out, H32B.out]
  have HZC : Hid (Z.size = C.size) := by show _ = _; rw [H32Z.out, H32C.out]
  have habc : Digs32 [a, b, c] := fun d hd => by
    simp only [List.mem_cons, List.not_mem_nil, or_false] at hd
    rcases hd with rfl | rfl | rfl <;> assumption
  obtain ⟨L, HL⟩ : ∃ L, Hid (L = (cellsOf [a, b, c].flatten).toArray) := ⟨_, (rfl : (cellsOf [a, b, c].flatten).toArray = _)⟩
  have hb3 : Hid (∀ W, (Instr.buildSlice 22 3 #[(0, .agg A), (1, .agg B), (2, .agg C)]).run Tryd.prog W = .ok (.slice (some ⟨W.heap.size, 0, none⟩) 3 3) (W.alloc (.cells L 29))) := fun W => by
    rw [HL.out]
    exact run_build_digs W 3 [a, b, c] habc rfl (by omega) (by omega) _ (by rw [HA.out, HB.out, HC.out]; rfl)
  obtain ⟨LA, rfl⟩ : ∃ LA : List Value, A = LA.toArray := ⟨A.toList, by simp⟩
  obtain ⟨LB, rfl⟩ : ∃ LB : List Value, B = LB.toArray := ⟨B.toList, by simp⟩
  obtain ⟨LC, rfl⟩ : ∃ LC : List Value, C = LC.toArray := ⟨C.toList, by simp⟩
  have EA : Hid (LA = cellsOf a) := List.toArray_inj HA.out
  have EB : Hid (LB = cellsOf b) := List.toArray_inj HB.out
  have EC : Hid (LC = cellsOf c) := List.toArray_inj HC.out
  obtain ⟨KT, HKk⟩ : ∃ KT, Hid (KT = (cellsOf (knotD a b)).toArray) := ⟨_, (rfl : (cellsOf (knotD a b)).toArray = _)⟩
  obtain ⟨R, HR⟩ : ∃ R, Hid (R = (cellsOf (knotD (knotD a b) c)).toArray) := ⟨_, (rfl : (cellsOf (knotD (knotD a b) c)).toArray = _)⟩
  have hk32 : (knotD a b).length = 32 := sumD_length _
  have eR := eqSelf R (knotD (knotD a b) c) (sumD_length _) HR
  have HT : Hid (∀ W, Below w.heap.size w W → TabF W) := fun W hb => hK.keep hb
  obtain ⟨E, HE, HSE, H1E, H32E⟩ := dig_row' (sumD []) (sumD_length _)
  obtain ⟨LE, rfl⟩ : ∃ LE : List Value, E = LE.toArray := ⟨E.toList, by simp⟩
  obtain ⟨LR, rfl⟩ : ∃ LR : List Value, R = LR.toArray := ⟨R.toList, by simp⟩
  have HSR : Hid ((Tryd.prog.info? 29).map (·.size) = some LR.toArray.size) := by show _ = _; rw [size23, HR.out]; simp [cellsOf_length, knotD, sumD_length]
  have H1R : Hid (LR.toArray.all (·.oneCell') = true) := by show _ = _; rw [HR.out]; exact cellsOf_all _
  have HZR : Hid (Z.size = LR.toArray.size) := by show _ = _; rw [H32Z.out, HR.out]; simp [cellsOf_length, knotD, sumD_length]
  have HZE : Hid (Z.size = LE.toArray.size) := by show _ = _; rw [H32Z.out, H32E.out]
  have zR : (Tryd.prog.info? 29).map (·.size) = some LR.length := by have := HSR.out; simpa using this
  have zE : (Tryd.prog.info? 29).map (·.size) = some LE.length := by have := HSE.out; simpa using this
  have eE := eqSelf LE.toArray (sumD []) (sumD_length _) HE
  have OF : Hid (∀ W gl, LReads W (some ⟨gl, 0, none⟩) 3 3 [a, b, c] → Below w.heap.size w W → Calls Tryd.prog 17 #[.slice (some ⟨gl, 0, none⟩) 3 3] W fun e w' => ∃ y cy, e = .returned (.tuple #[.agg #[.int .i64 3, .slice y 2 cy], .int .i64 0]) ∧ LReads w' y 2 cy [knotD a b, c] ∧ Below W.heap.size W w') := fun W gl hl hb => by
    have := fr.of_ok (some ⟨gl, 0, none⟩) 3 3 [a, b, c] W hl (by omega) (HT.out W hb)
    rw [peaks_abc] at this
    exact this
  have RT : Hid (∀ W y cy, LReads W y 2 cy [knotD a b, c] → Below w.heap.size w W → Calls Tryd.prog 10 #[.agg #[.int .i64 3, .slice y 2 cy]] W fun e w' => e = .returned (.tuple #[.agg LR.toArray, .int .i64 0]) ∧ Below W.heap.size W w') := fun W y cy hl hb =>
    fr.frontRoot_ok 3 y 2 cy [knotD a b, c] W ⟨by omega, by omega, many3.symm⟩ hl (HT.out W hb) LR.toArray (by show _ = _; rw [HR.out]; rfl)
  have RZ : Hid (∀ W, Below w.heap.size w W → Calls Tryd.prog 10 #[.agg #[.int .i64 0, .slice none 0 0]] W fun e w' => e = .returned (.tuple #[.agg LE.toArray, .int .i64 0]) ∧ Below W.heap.size W w') := fun W hb =>
    fr.frontRoot_ok 0 none 0 0 [] W ⟨by omega, by omega, rfl⟩ ⟨rfl, (fun d hd => by cases hd), Nat.le_refl _, Nat.zero_le _, .inl rfl⟩ (HT.out W hb) LE.toArray (by show _ = _; rw [HE.out]; rfl)
  have EM : Hid (∀ W, Below w.heap.size w W → Calls Tryd.prog 21 #[] W fun e w' => e = .returned (.agg LE.toArray) ∧ Below W.heap.size W w') := fun W hb => empty_any W (HT.out W hb).1 LE.toArray HE
  have hK1 : Hid (∀ W, Below w.heap.size w W → Calls Tryd.prog 22 #[.agg LA.toArray, .agg LB.toArray] W fun e w' => e = .returned (.agg KT) ∧ Below W.heap.size W w') := fun W h => by
    rw [HA.out, HB.out]
    exact knot_any a b ha hb W (HT.out W h).1 KT HKk
  have hK2 : Hid (∀ W, Below w.heap.size w W → Calls Tryd.prog 22 #[.agg KT, .agg LC.toArray] W fun e w' => e = .returned (.agg LR.toArray) ∧ Below W.heap.size W w') := fun W h => by
    rw [HC.out, HKk.out]
    exact knot_any (knotD a b) c hk32 hc W (HT.out W h).1 LR.toArray HR
  have zA : (Tryd.prog.info? 29).map (·.size) = some LA.length := by rw [size23, EA.out, cellsOf_length, ha]
  have zB : (Tryd.prog.info? 29).map (·.size) = some LB.length := by rw [size23, EB.out, cellsOf_length, hb]
  have zC : (Tryd.prog.info? 29).map (·.size) = some LC.length := by rw [size23, EC.out, cellsOf_length, hc]
  have CY : Hid (∀ W y cy, Calls Tryd.prog 9 #[.agg #[.int .i64 3, .slice y 2 cy]] W fun e w' => e = .returned (.int .i64 0) ∧ Below W.heap.size W w') := fun W y cy => fr.check_ok 3 y 2 cy W ⟨by omega, by omega, many3.symm⟩
  have CN : Hid (∀ W y cy, Calls Tryd.prog 9 #[.agg #[.int .i64 3, .slice y 1 cy]] W fun e w' => e = .returned (.int .i64 30) ∧ Below W.heap.size W w') := fun W y cy => fr.check_no 3 y 1 cy W (by unfold maxLen; omega) ⟨by omega, by omega⟩ (fun h => by have := h.2.2; rw [show (3 : Int).toNat = 3 from rfl, many3] at this; omega)
  clear Ha Hb Hc hK
  go_enter Tryd.func13, Tryd.ntmps13
  go_wp2_with (first
    | (refine wpList_build_one rfl 29 0 (.const (.int .u8 1)) rfl LA.toArray _ rfl hbA.out ?_; try simp only [Act.put, List.setIfInBounds_toArray, List.set_cons_zero, List.set_cons_succ])
    | (refine wpList_build_one rfl 29 0 (.const (.int .u8 2)) rfl LB.toArray _ rfl hbB.out ?_; try simp only [Act.put, List.setIfInBounds_toArray, List.set_cons_zero, List.set_cons_succ])
    | (refine wpList_build_one rfl 29 0 (.const (.int .u8 3)) rfl LC.toArray _ rfl hbC.out ?_; try simp only [Act.put, List.setIfInBounds_toArray, List.set_cons_zero, List.set_cons_succ])
    | (refine wpList_new_row rfl rfl 29 rfl (.tmp 1) (.tmp 10) rfl Z LA.toArray HAZ.out (fun _ => rfl) (fun _ => rfl) HSA.out HZA.out H1A.out ?_; intro gA wA FA; try simp only [Act.put, List.setIfInBounds_toArray, List.set_cons_zero, List.set_cons_succ])
    | (refine wpList_new_row rfl rfl 29 rfl (.tmp 2) (.tmp 11) rfl Z LB.toArray HAZ.out (fun _ => rfl) (fun _ => rfl) HSB.out HZB.out H1B.out ?_; intro gB wB FB; try simp only [Act.put, List.setIfInBounds_toArray, List.set_cons_zero, List.set_cons_succ])
    | (refine wpList_new_row rfl rfl 29 rfl (.tmp 3) (.tmp 12) rfl Z LC.toArray HAZ.out (fun _ => rfl) (fun _ => rfl) HSC.out HZC.out H1C.out ?_; intro gC wC FC; try simp only [Act.put, List.setIfInBounds_toArray, List.set_cons_zero, List.set_cons_succ])
    | (refine wpList_load_row rfl 29 (.tmp 1) rfl gA rfl 29 LA.toArray (0, 0) _ (Abc.new ha hb hc HA HB HC HL FA FB FC).2.1 Tryd.underlying29 rfl HSA.out ?_; try simp only [Act.put, List.setIfInBounds_toArray, List.set_cons_zero, List.set_cons_succ])
    | (refine wpList_load_row rfl 29 (.tmp 2) rfl gB rfl 29 LB.toArray (0, 0) _ (Abc.new ha hb hc HA HB HC HL FA FB FC).2.2 Tryd.underlying29 rfl HSB.out ?_; try simp only [Act.put, List.setIfInBounds_toArray, List.set_cons_zero, List.set_cons_succ])
    | (refine wpList_load_row rfl 29 (.tmp 3) rfl gC rfl 29 LC.toArray (0, 0) _ FC.out.2.1 Tryd.underlying29 rfl HSC.out ?_; try simp only [Act.put, List.setIfInBounds_toArray, List.set_cons_zero, List.set_cons_succ])
    | (refine wpList_build_run rfl 22 3 _ rfl #[(0, .agg LA.toArray), (1, .agg LB.toArray), (2, .agg LC.toArray)] rfl _ _ (hb3.out wC) ?_; try simp only [Act.put, List.setIfInBounds_toArray, List.set_cons_zero, List.set_cons_succ])
    | fail)
  have H0 : Hid (Abc a b c gA gB gC wC.heap.size w (wC.alloc (.cells L 29))) := (Abc.new ha hb hc HA HB HC HL FA FB FC).1
  clear FA FB FC hb3 hbA hbB hbC
  generalize wC.heap.size = gl at H0 ⊢
  generalize wC.alloc (.cells L 29) = W0 at H0 ⊢
  refine (OF.out _ _ H0.out.rl H0.out.low).mono ?_
  rintro e w1 ⟨ay, cy, rfl, hp, hb1⟩
  have H1 : Hid (Abc a b c gA gB gC gl w w1 ∧ LReads w1 ay 2 cy [knotD a b, c]) := ⟨H0.out.keep hb1, hp⟩
  clear hp hb1 H0 OF
  go_wp2_with fail
  have H2 : Hid (Abc a b c gA gB gC gl w (w1.alloc (.cells #[.int .i64 3, .slice ay 2 cy] 25)) ∧ LReads (w1.alloc (.cells #[.int .i64 3, .slice ay 2 cy] 25)) ay 2 cy [knotD a b, c] ∧ (w1.alloc (.cells #[.int .i64 3, .slice ay 2 cy] 25)).rangeAt w1.heap.size 0 [.int .i64 3, .slice ay 2 cy]) :=
    ⟨H1.out.1.keep ((Below.refl _ _).alloc (Nat.le_refl _) _), H1.out.2.keep ((Below.refl _ _).alloc (Nat.le_refl _) _), range_row (heap_alloc_new w1 _)⟩
  clear H1
  generalize w1.heap.size = gf at H2 ⊢
  generalize w1.alloc (.cells #[.int .i64 3, .slice ay 2 cy] 25) = w2 at H2 ⊢
  refine (RT.out _ _ _ H2.out.2.1 H2.out.1.low).mono ?_
  rintro e w3 ⟨rfl, hb3⟩
  have H3 : Hid (Abc a b c gA gB gC gl w w3 ∧ LReads w3 ay 2 cy [knotD a b, c] ∧ w3.rangeAt gf 0 [.int .i64 3, .slice ay 2 cy]) := ⟨H2.out.1.keep hb3, H2.out.2.1.keep hb3, range_keep hb3 H2.out.2.2⟩
  clear H2 hb3 RT
  go_wp2_with (first
    | (refine wpList_new_row rfl rfl 29 rfl (.tmp 6) (.tmp 24) rfl Z LR.toArray HAZ.out (fun _ => rfl) (fun _ => rfl) HSR.out HZR.out H1R.out ?_; intro gR w4 F4; try simp only [Act.put, List.setIfInBounds_toArray, List.set_cons_zero, List.set_cons_succ])
    | fail)
  have H4 : Hid (Abc a b c gA gB gC gl w w4 ∧ LReads w4 ay 2 cy [knotD a b, c] ∧ w4.rangeAt gf 0 [.int .i64 3, .slice ay 2 cy] ∧ w4.rangeAt gR 0 LR) := ⟨H3.out.1.keep F4.out.2.2, H3.out.2.1.keep F4.out.2.2, range_keep F4.out.2.2 H3.out.2.2, range_row F4.out.2.1⟩
  clear H3 F4
  refine (RZ.out _ H4.out.1.low).mono ?_
  rintro e w5 ⟨rfl, hb5⟩
  have H5 : Hid (Abc a b c gA gB gC gl w w5 ∧ LReads w5 ay 2 cy [knotD a b, c] ∧ w5.rangeAt gf 0 [.int .i64 3, .slice ay 2 cy] ∧ w5.rangeAt gR 0 LR) := ⟨H4.out.1.keep hb5, H4.out.2.1.keep hb5, range_keep hb5 H4.out.2.2.1, range_keep hb5 H4.out.2.2.2⟩
  clear H4 hb5 RZ
  go_wp2_with (first
    | (refine wpList_new_row rfl rfl 29 rfl (.tmp 8) (.tmp 29) rfl Z LE.toArray HAZ.out (fun _ => rfl) (fun _ => rfl) HSE.out HZE.out H1E.out ?_; intro gE w6 F6; try simp only [Act.put, List.setIfInBounds_toArray, List.set_cons_zero, List.set_cons_succ])
    | fail)
  have H6 : Hid (Abf a b c gA gB gC gf gR gE ay cy LR LE w w6) :=
    ⟨range_keep F6.out.2.2 H5.out.1.ra, range_keep F6.out.2.2 H5.out.1.rb, range_keep F6.out.2.2 H5.out.1.rc, range_keep F6.out.2.2 H5.out.2.2.1, range_keep F6.out.2.2 H5.out.2.2.2, range_row F6.out.2.1, H5.out.2.1.keep F6.out.2.2, H5.out.1.low.trans (F6.out.2.2.mono H5.out.1.low.size)⟩
  clear H5 F6
  obtain ⟨L2, HL2⟩ : ∃ L, Hid (L = (cellsOf [knotD a b, c].flatten).toArray) := ⟨_, (rfl : (cellsOf [knotD a b, c].flatten).toArray = _)⟩
  have hbc : Digs32 [knotD a b, c] := fun d hd => by
    simp only [List.mem_cons, List.not_mem_nil, or_false] at hd
    rcases hd with rfl | rfl <;> assumption
  have hb2 : Hid (∀ W, (Instr.buildSlice 22 2 #[(0, .agg KT), (1, .agg LC.toArray)]).run Tryd.prog W = .ok (.slice (some ⟨W.heap.size, 0, none⟩) 2 2) (W.alloc (.cells L2 29))) := fun W => by
    rw [HL2.out]
    exact run_build_digs W 2 [knotD a b, c] hbc rfl (by omega) (by omega) _ (by rw [HKk.out, HC.out]; rfl)
  have hb1a : Hid (∀ W, (Instr.buildSlice 22 1 #[(0, .agg LA.toArray)]).run Tryd.prog W = .ok (.slice (some ⟨W.heap.size, 0, none⟩) 1 1) (W.alloc (.cells LA.toArray 29))) := fun W => build_one W _ ha _ HA
  have D1 : Hid (∀ W : World, Abf a b c gA gB gC gf gR gE ay cy LR LE w (W.alloc (.cells L2 29)) → Calls Tryd.prog 14 #[.slice ay 2 cy, .slice (some ⟨W.heap.size, 0, none⟩) 2 2] (W.alloc (.cells L2 29)) fun e w' => e = .returned (.bool true) ∧ Below (W.alloc (.cells L2 29)).heap.size (W.alloc (.cells L2 29)) w') := fun W h =>
    same_digs ay _ 2 cy 2 [knotD a b, c] _ h.p (LReads.new W [knotD a b, c] 2 rfl hbc (by omega) L2 HL2)
  clear hbc
  go_wp2
  refine wp_region_held_drew (S := (fun W => Abf a b c gA gB gC gf gR gE ay cy LR LE w W)) (by kernel_rfl) (H6.out.keep (Below.refl _ _).drew) (fun hHeld => ?_)
  refine wpAnyH_take (i := 0) (oi := { dst := some 31, op := Op.move (Operand.tmp 5), type := 26, pos := "law.go:24", after := #[], guard := none }) (v := .int .i64 0) rfl (by kernel_rfl) (by kernel_rfl) (by kernel_rfl) (fun _ _ _ h => h) (Or.inl ⟨by rfl, by intro w hSw; go_simp⟩) hHeld ?_
  try simp only [Act.put, List.setIfInBounds_toArray, List.set_cons_zero, List.set_cons_succ]
  refine wpAnyH_take (i := 1) (oi := { dst := some 32, op := Op.binOp BinOp.eql 26 (Operand.tmp 31) (Operand.const (Value.int IntKind.i64 0)) 26, type := 4, pos := "law.go:24", after := #[{ on := 0, ground := Ground.data }], guard := none }) (v := .bool true) rfl (by kernel_rfl) (by kernel_rfl) (by kernel_rfl) (fun _ _ _ h => h) (Or.inl ⟨by rfl, by intro w hSw; go_simp⟩) hHeld ?_
  try simp only [Act.put, List.setIfInBounds_toArray, List.set_cons_zero, List.set_cons_succ]
  refine wpAnyH_take (i := 2) (oi := { dst := some 33, op := Op.move (Operand.tmp 32), type := 4, pos := "law.go:24", after := #[{ on := 1, ground := Ground.data }], guard := none }) (v := .bool true) rfl (by kernel_rfl) (by kernel_rfl) (by kernel_rfl) (fun _ _ _ h => h) (Or.inl ⟨by rfl, by intro w hSw; go_simp⟩) hHeld ?_
  try simp only [Act.put, List.setIfInBounds_toArray, List.set_cons_zero, List.set_cons_succ]
  refine wpAnyH_take (i := 3) (oi := { dst := some 34, op := Op.fieldAddr 25 (Operand.tmp 4) 0, type := 0, pos := "law.go:24", after := #[{ on := 2, ground := Ground.guard }], guard := some (2, true) }) (v := .pointer (some ⟨gf, 0, none⟩)) rfl (by kernel_rfl) (by kernel_rfl) (by kernel_rfl) (fun _ _ _ h => h) (Or.inl ⟨by rfl, by intro w hSw; go_simp⟩) hHeld ?_
  try simp only [Act.put, List.setIfInBounds_toArray, List.set_cons_zero, List.set_cons_succ]
  refine wpAnyH_take (i := 4) (oi := { dst := some 35, op := Op.load 3 (Operand.tmp 34), type := 3, pos := "law.go:24", after := #[{ on := 3, ground := Ground.data }, { on := 2, ground := Ground.guard }], guard := some (2, true) }) (v := .int .i64 3) rfl (by kernel_rfl) (by kernel_rfl) (by kernel_rfl) (fun _ _ _ h => h) (Or.inl ⟨by rfl, by intro W hSw; have hc0 := hSw.rf 0 _ rfl; simp only [Nat.add_zero] at hc0; go_simp⟩) hHeld ?_
  try simp only [Act.put, List.setIfInBounds_toArray, List.set_cons_zero, List.set_cons_succ]
  refine wpAnyH_take (i := 5) (oi := { dst := some 36, op := Op.binOp BinOp.eql 3 (Operand.tmp 35) (Operand.const (Value.int IntKind.i64 3)) 3, type := 4, pos := "law.go:24", after := #[{ on := 4, ground := Ground.data }, { on := 2, ground := Ground.guard }], guard := some (2, true) }) (v := .bool true) rfl (by kernel_rfl) (by kernel_rfl) (by kernel_rfl) (fun _ _ _ h => h) (Or.inl ⟨by rfl, by intro w hSw; go_simp⟩) hHeld ?_
  try simp only [Act.put, List.setIfInBounds_toArray, List.set_cons_zero, List.set_cons_succ]
  refine wpAnyH_take (i := 6) (oi := { dst := some 37, op := Op.pick (Operand.tmp 33) (Operand.tmp 36) (Operand.const (Value.bool false)), type := 4, pos := "law.go:24", after := #[{ on := 2, ground := Ground.data }, { on := 5, ground := Ground.data }], guard := none }) (v := .bool true) rfl (by kernel_rfl) (by kernel_rfl) (by kernel_rfl) (fun _ _ _ h => h) (Or.inl ⟨by rfl, by intro w hSw; go_simp⟩) hHeld ?_
  try simp only [Act.put, List.setIfInBounds_toArray, List.set_cons_zero, List.set_cons_succ]
  refine wpAnyH_take (i := 7) (oi := { dst := some 38, op := Op.move (Operand.tmp 37), type := 4, pos := "law.go:24", after := #[{ on := 6, ground := Ground.data }, { on := 2, ground := Ground.chain }], guard := none }) (v := .bool true) rfl (by kernel_rfl) (by kernel_rfl) (by kernel_rfl) (fun _ _ _ h => h) (Or.inl ⟨by rfl, by intro w hSw; go_simp⟩) hHeld ?_
  try simp only [Act.put, List.setIfInBounds_toArray, List.set_cons_zero, List.set_cons_succ]
  refine wpAnyH_take (i := 8) (oi := { dst := some 39, op := Op.fieldAddr 25 (Operand.tmp 4) 1, type := 0, pos := "law.go:24", after := #[{ on := 7, ground := Ground.guard }], guard := some (7, true) }) (v := .pointer (some ⟨gf, 1, none⟩)) rfl (by kernel_rfl) (by kernel_rfl) (by kernel_rfl) (fun _ _ _ h => h) (Or.inl ⟨by rfl, by intro w hSw; go_simp⟩) hHeld ?_
  try simp only [Act.put, List.setIfInBounds_toArray, List.set_cons_zero, List.set_cons_succ]
  refine wpAnyH_take (i := 9) (oi := { dst := some 40, op := Op.load 22 (Operand.tmp 39), type := 22, pos := "law.go:24", after := #[{ on := 8, ground := Ground.data }, { on := 7, ground := Ground.guard }], guard := some (7, true) }) (v := .slice ay 2 cy) rfl (by kernel_rfl) (by kernel_rfl) (by kernel_rfl) (fun _ _ _ h => h) (Or.inl ⟨by rfl, by intro W hSw; have hc1 := hSw.rf 1 _ rfl; simp only [Nat.zero_add] at hc1; go_simp⟩) hHeld ?_
  try simp only [Act.put, List.setIfInBounds_toArray, List.set_cons_zero, List.set_cons_succ]
  refine wpAnyH_take (i := 10) (oi := { dst := some 41, op := Op.load 29 (Operand.tmp 1), type := 29, pos := "law.go:24", after := #[{ on := 7, ground := Ground.guard }], guard := some (7, true) }) (v := .agg LA.toArray) rfl (by kernel_rfl) (by kernel_rfl) (by kernel_rfl) (fun _ _ _ h => h) (yieldsIf_load_mid (by rfl) 29 (.tmp 1) rfl _ 0 rfl LA _ (fun _ h => EA.out ▸ h.ra) Tryd.underlying29 rfl zA) hHeld ?_
  try simp only [Act.put, List.setIfInBounds_toArray, List.set_cons_zero, List.set_cons_succ]
  refine wpAnyH_take (i := 11) (oi := { dst := some 42, op := Op.load 29 (Operand.tmp 2), type := 29, pos := "law.go:24", after := #[{ on := 7, ground := Ground.guard }], guard := some (7, true) }) (v := .agg LB.toArray) rfl (by kernel_rfl) (by kernel_rfl) (by kernel_rfl) (fun _ _ _ h => h) (yieldsIf_load_mid (by rfl) 29 (.tmp 2) rfl _ 0 rfl LB _ (fun _ h => EB.out ▸ h.rb) Tryd.underlying29 rfl zB) hHeld ?_
  try simp only [Act.put, List.setIfInBounds_toArray, List.set_cons_zero, List.set_cons_succ]
  refine wpAnyH_take (i := 13) (oi := { dst := some 44, op := Op.load 29 (Operand.tmp 3), type := 29, pos := "law.go:24", after := #[{ on := 7, ground := Ground.guard }], guard := some (7, true) }) (v := .agg LC.toArray) rfl (by kernel_rfl) (by kernel_rfl) (by kernel_rfl) (fun _ _ _ h => h) (yieldsIf_load_mid (by rfl) 29 (.tmp 3) rfl _ 0 rfl LC _ (fun _ h => EC.out ▸ h.rc) Tryd.underlying29 rfl zC) hHeld ?_
  try simp only [Act.put, List.setIfInBounds_toArray, List.set_cons_zero, List.set_cons_succ]
  refine wpAnyH_ready (rs := [12]) (by kernel_rfl) (by simp) ?_
  refine AllReadyH.cons (o := { dst := some 43, op := Op.call { callee := Callee.value (Operand.func 22), args := #[Operand.tmp 41, Operand.tmp 42], argTypes := #[29, 29] }, type := 29, pos := "law.go:24", after := #[{ on := 10, ground := Ground.data }, { on := 11, ground := Ground.data }, { on := 7, ground := Ground.chain }, { on := 7, ground := Ground.guard }], guard := some (7, true) }) rfl (fun K hK => ?_) AllReadyH.nil
  go_simp
  refine (hK1.out _ hHeld.low).mono ?_
  rintro e w7 ⟨rfl, hb7⟩
  go_wp2_with fail
  refine hK.out _ _ (hHeld.keep hb7) (fun hHeld => ?_)
  clear hK K
  try simp only [Act.put, List.setIfInBounds_toArray, List.set_cons_zero, List.set_cons_succ]
  refine wpAnyH_ready (rs := [14]) (by kernel_rfl) (by simp) ?_
  refine AllReadyH.cons (o := { dst := some 45, op := Op.buildSlice 22 2 #[(0, Operand.tmp 43), (1, Operand.tmp 44)], type := 22, pos := "law.go:24", after := #[{ on := 12, ground := Ground.data }, { on := 13, ground := Ground.data }, { on := 7, ground := Ground.guard }], guard := some (7, true) }) rfl (fun K hK => ?_) AllReadyH.nil
  refine step_build_run (by rfl) 22 2 _ rfl #[(0, .agg KT), (1, .agg LC.toArray)] rfl _ _ (hb2.out w7) ?_
  refine hK.out _ _ (hHeld.keep ((Below.refl _ _).alloc (Nat.le_refl _) _)) (fun hHeld => ?_)
  clear hK K
  try simp only [Act.put, List.setIfInBounds_toArray, List.set_cons_zero, List.set_cons_succ]
  refine wpAnyH_ready (rs := [15]) (by kernel_rfl) (by simp) ?_
  refine AllReadyH.cons (o := { dst := some 46, op := Op.call { callee := Callee.value (Operand.func 14), args := #[Operand.tmp 40, Operand.tmp 45], argTypes := #[22, 22] }, type := 4, pos := "law.go:24", after := #[{ on := 9, ground := Ground.data }, { on := 14, ground := Ground.data }, { on := 12, ground := Ground.chain }, { on := 7, ground := Ground.guard }], guard := some (7, true) }) rfl (fun K hK => ?_) AllReadyH.nil
  go_simp
  refine (D1.out w7 (by assumption)).mono ?_
  rintro e w8 ⟨rfl, hb8⟩
  go_wp2_with fail
  refine hK.out _ _ (Abf.keep (by assumption) hb8) (fun hHeld => ?_)
  clear hK K
  try simp only [Act.put, List.setIfInBounds_toArray, List.set_cons_zero, List.set_cons_succ]
  refine wpAnyH_take (i := 16) (oi := { dst := some 47, op := Op.pick (Operand.tmp 38) (Operand.tmp 46) (Operand.const (Value.bool false)), type := 4, pos := "law.go:24", after := #[{ on := 7, ground := Ground.data }, { on := 15, ground := Ground.data }], guard := none }) (v := .bool true) rfl (by kernel_rfl) (by kernel_rfl) (by kernel_rfl) (fun _ _ _ h => h) (Or.inl ⟨by rfl, by intro w hSw; go_simp⟩) hHeld ?_
  try simp only [Act.put, List.setIfInBounds_toArray, List.set_cons_zero, List.set_cons_succ]
  refine wpAnyH_take (i := 17) (oi := { dst := some 48, op := Op.move (Operand.tmp 47), type := 4, pos := "law.go:24", after := #[{ on := 16, ground := Ground.data }, { on := 15, ground := Ground.chain }], guard := none }) (v := .bool true) rfl (by kernel_rfl) (by kernel_rfl) (by kernel_rfl) (fun _ _ _ h => h) (Or.inl ⟨by rfl, by intro w hSw; go_simp⟩) hHeld ?_
  try simp only [Act.put, List.setIfInBounds_toArray, List.set_cons_zero, List.set_cons_succ]
  refine wpAnyH_take (i := 18) (oi := { dst := some 49, op := Op.move (Operand.tmp 7), type := 26, pos := "law.go:24", after := #[{ on := 17, ground := Ground.guard }], guard := some (17, true) }) (v := .int .i64 0) rfl (by kernel_rfl) (by kernel_rfl) (by kernel_rfl) (fun _ _ _ h => h) (Or.inl ⟨by rfl, by intro w hSw; go_simp⟩) hHeld ?_
  try simp only [Act.put, List.setIfInBounds_toArray, List.set_cons_zero, List.set_cons_succ]
  refine wpAnyH_take (i := 19) (oi := { dst := some 50, op := Op.binOp BinOp.eql 26 (Operand.tmp 49) (Operand.const (Value.int IntKind.i64 0)) 26, type := 4, pos := "law.go:24", after := #[{ on := 18, ground := Ground.data }, { on := 17, ground := Ground.guard }], guard := some (17, true) }) (v := .bool true) rfl (by kernel_rfl) (by kernel_rfl) (by kernel_rfl) (fun _ _ _ h => h) (Or.inl ⟨by rfl, by intro w hSw; go_simp⟩) hHeld ?_
  try simp only [Act.put, List.setIfInBounds_toArray, List.set_cons_zero, List.set_cons_succ]
  refine wpAnyH_take (i := 20) (oi := { dst := some 51, op := Op.pick (Operand.tmp 48) (Operand.tmp 50) (Operand.const (Value.bool false)), type := 4, pos := "law.go:24", after := #[{ on := 17, ground := Ground.data }, { on := 19, ground := Ground.data }], guard := none }) (v := .bool true) rfl (by kernel_rfl) (by kernel_rfl) (by kernel_rfl) (fun _ _ _ h => h) (Or.inl ⟨by rfl, by intro w hSw; go_simp⟩) hHeld ?_
  try simp only [Act.put, List.setIfInBounds_toArray, List.set_cons_zero, List.set_cons_succ]
  refine wpAnyH_take (i := 21) (oi := { dst := some 52, op := Op.move (Operand.tmp 51), type := 4, pos := "law.go:24", after := #[{ on := 20, ground := Ground.data }, { on := 17, ground := Ground.chain }], guard := none }) (v := .bool true) rfl (by kernel_rfl) (by kernel_rfl) (by kernel_rfl) (fun _ _ _ h => h) (Or.inl ⟨by rfl, by intro w hSw; go_simp⟩) hHeld ?_
  try simp only [Act.put, List.setIfInBounds_toArray, List.set_cons_zero, List.set_cons_succ]
  refine wpAnyH_take (i := 22) (oi := { dst := some 53, op := Op.load 29 (Operand.tmp 6), type := 29, pos := "law.go:24", after := #[{ on := 21, ground := Ground.guard }], guard := some (21, true) }) (v := .agg LR.toArray) rfl (by kernel_rfl) (by kernel_rfl) (by kernel_rfl) (fun _ _ _ h => h) (yieldsIf_load_mid (by rfl) 29 (.tmp 6) rfl _ 0 rfl LR _ (fun _ h => h.rR) Tryd.underlying29 rfl zR) hHeld ?_
  try simp only [Act.put, List.setIfInBounds_toArray, List.set_cons_zero, List.set_cons_succ]
  refine wpAnyH_take (i := 23) (oi := { dst := some 54, op := Op.load 29 (Operand.tmp 1), type := 29, pos := "law.go:24", after := #[{ on := 21, ground := Ground.guard }], guard := some (21, true) }) (v := .agg LA.toArray) rfl (by kernel_rfl) (by kernel_rfl) (by kernel_rfl) (fun _ _ _ h => h) (yieldsIf_load_mid (by rfl) 29 (.tmp 1) rfl _ 0 rfl LA _ (fun _ h => EA.out ▸ h.ra) Tryd.underlying29 rfl zA) hHeld ?_
  try simp only [Act.put, List.setIfInBounds_toArray, List.set_cons_zero, List.set_cons_succ]
  refine wpAnyH_take (i := 24) (oi := { dst := some 55, op := Op.load 29 (Operand.tmp 2), type := 29, pos := "law.go:24", after := #[{ on := 21, ground := Ground.guard }], guard := some (21, true) }) (v := .agg LB.toArray) rfl (by kernel_rfl) (by kernel_rfl) (by kernel_rfl) (fun _ _ _ h => h) (yieldsIf_load_mid (by rfl) 29 (.tmp 2) rfl _ 0 rfl LB _ (fun _ h => EB.out ▸ h.rb) Tryd.underlying29 rfl zB) hHeld ?_
  try simp only [Act.put, List.setIfInBounds_toArray, List.set_cons_zero, List.set_cons_succ]
  refine wpAnyH_take (i := 26) (oi := { dst := some 57, op := Op.load 29 (Operand.tmp 3), type := 29, pos := "law.go:24", after := #[{ on := 21, ground := Ground.guard }], guard := some (21, true) }) (v := .agg LC.toArray) rfl (by kernel_rfl) (by kernel_rfl) (by kernel_rfl) (fun _ _ _ h => h) (yieldsIf_load_mid (by rfl) 29 (.tmp 3) rfl _ 0 rfl LC _ (fun _ h => EC.out ▸ h.rc) Tryd.underlying29 rfl zC) hHeld ?_
  try simp only [Act.put, List.setIfInBounds_toArray, List.set_cons_zero, List.set_cons_succ]
  refine wpAnyH_ready (rs := [25]) (by kernel_rfl) (by simp) ?_
  refine AllReadyH.cons (o := { dst := some 56, op := Op.call { callee := Callee.value (Operand.func 22), args := #[Operand.tmp 54, Operand.tmp 55], argTypes := #[29, 29] }, type := 29, pos := "law.go:24", after := #[{ on := 23, ground := Ground.data }, { on := 24, ground := Ground.data }, { on := 21, ground := Ground.chain }, { on := 21, ground := Ground.guard }], guard := some (21, true) }) rfl (fun K hK => ?_) AllReadyH.nil
  go_simp
  refine (hK1.out _ hHeld.low).mono ?_
  rintro e w9 ⟨rfl, hb9⟩
  go_wp2_with fail
  refine hK.out _ _ (hHeld.keep hb9) (fun hHeld => ?_)
  clear hK K
  try simp only [Act.put, List.setIfInBounds_toArray, List.set_cons_zero, List.set_cons_succ]
  refine wpAnyH_ready (rs := [27]) (by kernel_rfl) (by simp) ?_
  refine AllReadyH.cons (o := { dst := some 58, op := Op.call { callee := Callee.value (Operand.func 22), args := #[Operand.tmp 56, Operand.tmp 57], argTypes := #[29, 29] }, type := 29, pos := "law.go:24", after := #[{ on := 25, ground := Ground.data }, { on := 26, ground := Ground.data }, { on := 25, ground := Ground.chain }, { on := 21, ground := Ground.guard }], guard := some (21, true) }) rfl (fun K hK => ?_) AllReadyH.nil
  go_simp
  refine (hK2.out _ hHeld.low).mono ?_
  rintro e w10 ⟨rfl, hb10⟩
  go_wp2_with fail
  refine hK.out _ _ (hHeld.keep hb10) (fun hHeld => ?_)
  clear hK K
  try simp only [Act.put, List.setIfInBounds_toArray, List.set_cons_zero, List.set_cons_succ]
  refine wpAnyH_take (i := 28) (oi := { dst := some 59, op := Op.binOp BinOp.eql 29 (Operand.tmp 53) (Operand.tmp 58) 29, type := 4, pos := "law.go:24", after := #[{ on := 22, ground := Ground.data }, { on := 27, ground := Ground.data }, { on := 21, ground := Ground.guard }], guard := some (21, true) }) (v := .bool true) rfl (by kernel_rfl) (by kernel_rfl) (by kernel_rfl) (fun _ _ _ h => h) (Or.inl ⟨by rfl, by intro W hSw; have := eR W; go_simp⟩) hHeld ?_
  try simp only [Act.put, List.setIfInBounds_toArray, List.set_cons_zero, List.set_cons_succ]
  refine wpAnyH_take (i := 29) (oi := { dst := some 60, op := Op.pick (Operand.tmp 52) (Operand.tmp 59) (Operand.const (Value.bool false)), type := 4, pos := "law.go:24", after := #[{ on := 21, ground := Ground.data }, { on := 28, ground := Ground.data }], guard := none }) (v := .bool true) rfl (by kernel_rfl) (by kernel_rfl) (by kernel_rfl) (fun _ _ _ h => h) (Or.inl ⟨by rfl, by intro w hSw; go_simp⟩) hHeld ?_
  try simp only [Act.put, List.setIfInBounds_toArray, List.set_cons_zero, List.set_cons_succ]
  refine wpAnyH_take (i := 30) (oi := { dst := some 61, op := Op.move (Operand.tmp 60), type := 4, pos := "law.go:24", after := #[{ on := 29, ground := Ground.data }, { on := 27, ground := Ground.chain }], guard := none }) (v := .bool true) rfl (by kernel_rfl) (by kernel_rfl) (by kernel_rfl) (fun _ _ _ h => h) (Or.inl ⟨by rfl, by intro w hSw; go_simp⟩) hHeld ?_
  try simp only [Act.put, List.setIfInBounds_toArray, List.set_cons_zero, List.set_cons_succ]
  refine wpAnyH_take (i := 31) (oi := { dst := some 62, op := Op.move (Operand.tmp 9), type := 26, pos := "law.go:24", after := #[{ on := 30, ground := Ground.guard }], guard := some (30, true) }) (v := .int .i64 0) rfl (by kernel_rfl) (by kernel_rfl) (by kernel_rfl) (fun _ _ _ h => h) (Or.inl ⟨by rfl, by intro w hSw; go_simp⟩) hHeld ?_
  try simp only [Act.put, List.setIfInBounds_toArray, List.set_cons_zero, List.set_cons_succ]
  refine wpAnyH_take (i := 32) (oi := { dst := some 63, op := Op.binOp BinOp.eql 26 (Operand.tmp 62) (Operand.const (Value.int IntKind.i64 0)) 26, type := 4, pos := "law.go:24", after := #[{ on := 31, ground := Ground.data }, { on := 30, ground := Ground.guard }], guard := some (30, true) }) (v := .bool true) rfl (by kernel_rfl) (by kernel_rfl) (by kernel_rfl) (fun _ _ _ h => h) (Or.inl ⟨by rfl, by intro w hSw; go_simp⟩) hHeld ?_
  try simp only [Act.put, List.setIfInBounds_toArray, List.set_cons_zero, List.set_cons_succ]
  refine wpAnyH_take (i := 33) (oi := { dst := some 64, op := Op.pick (Operand.tmp 61) (Operand.tmp 63) (Operand.const (Value.bool false)), type := 4, pos := "law.go:24", after := #[{ on := 30, ground := Ground.data }, { on := 32, ground := Ground.data }], guard := none }) (v := .bool true) rfl (by kernel_rfl) (by kernel_rfl) (by kernel_rfl) (fun _ _ _ h => h) (Or.inl ⟨by rfl, by intro w hSw; go_simp⟩) hHeld ?_
  try simp only [Act.put, List.setIfInBounds_toArray, List.set_cons_zero, List.set_cons_succ]
  refine wpAnyH_take (i := 34) (oi := { dst := some 65, op := Op.move (Operand.tmp 64), type := 4, pos := "law.go:24", after := #[{ on := 33, ground := Ground.data }, { on := 30, ground := Ground.chain }], guard := none }) (v := .bool true) rfl (by kernel_rfl) (by kernel_rfl) (by kernel_rfl) (fun _ _ _ h => h) (Or.inl ⟨by rfl, by intro w hSw; go_simp⟩) hHeld ?_
  try simp only [Act.put, List.setIfInBounds_toArray, List.set_cons_zero, List.set_cons_succ]
  refine wpAnyH_take (i := 35) (oi := { dst := some 66, op := Op.load 29 (Operand.tmp 8), type := 29, pos := "law.go:24", after := #[{ on := 34, ground := Ground.guard }], guard := some (34, true) }) (v := .agg LE.toArray) rfl (by kernel_rfl) (by kernel_rfl) (by kernel_rfl) (fun _ _ _ h => h) (yieldsIf_load_mid (by rfl) 29 (.tmp 8) rfl _ 0 rfl LE _ (fun _ h => h.rE) Tryd.underlying29 rfl zE) hHeld ?_
  try simp only [Act.put, List.setIfInBounds_toArray, List.set_cons_zero, List.set_cons_succ]
  refine wpAnyH_ready (rs := [36]) (by kernel_rfl) (by simp) ?_
  refine AllReadyH.cons (o := { dst := some 67, op := Op.call { callee := Callee.value (Operand.func 21), args := #[], argTypes := #[] }, type := 29, pos := "law.go:24", after := #[{ on := 34, ground := Ground.chain }, { on := 34, ground := Ground.guard }], guard := some (34, true) }) rfl (fun K hK => ?_) AllReadyH.nil
  go_simp
  refine (EM.out _ hHeld.low).mono ?_
  rintro e w11 ⟨rfl, hb11⟩
  go_wp2_with fail
  refine hK.out _ _ (hHeld.keep hb11) (fun hHeld => ?_)
  clear hK K
  try simp only [Act.put, List.setIfInBounds_toArray, List.set_cons_zero, List.set_cons_succ]
  refine wpAnyH_take (i := 37) (oi := { dst := some 68, op := Op.binOp BinOp.eql 29 (Operand.tmp 66) (Operand.tmp 67) 29, type := 4, pos := "law.go:24", after := #[{ on := 35, ground := Ground.data }, { on := 36, ground := Ground.data }, { on := 34, ground := Ground.guard }], guard := some (34, true) }) (v := .bool true) rfl (by kernel_rfl) (by kernel_rfl) (by kernel_rfl) (fun _ _ _ h => h) (Or.inl ⟨by rfl, by intro W hSw; have := eE W; go_simp⟩) hHeld ?_
  try simp only [Act.put, List.setIfInBounds_toArray, List.set_cons_zero, List.set_cons_succ]
  refine wpAnyH_take (i := 38) (oi := { dst := some 69, op := Op.pick (Operand.tmp 65) (Operand.tmp 68) (Operand.const (Value.bool false)), type := 4, pos := "law.go:24", after := #[{ on := 34, ground := Ground.data }, { on := 37, ground := Ground.data }], guard := none }) (v := .bool true) rfl (by kernel_rfl) (by kernel_rfl) (by kernel_rfl) (fun _ _ _ h => h) (Or.inl ⟨by rfl, by intro w hSw; go_simp⟩) hHeld ?_
  try simp only [Act.put, List.setIfInBounds_toArray, List.set_cons_zero, List.set_cons_succ]
  refine wpAnyH_take (i := 39) (oi := { dst := some 70, op := Op.move (Operand.tmp 69), type := 4, pos := "law.go:24", after := #[{ on := 38, ground := Ground.data }, { on := 36, ground := Ground.chain }], guard := none }) (v := .bool true) rfl (by kernel_rfl) (by kernel_rfl) (by kernel_rfl) (fun _ _ _ h => h) (Or.inl ⟨by rfl, by intro w hSw; go_simp⟩) hHeld ?_
  try simp only [Act.put, List.setIfInBounds_toArray, List.set_cons_zero, List.set_cons_succ]
  refine wpAnyH_take (i := 40) (oi := { dst := some 71, op := Op.load 25 (Operand.tmp 4), type := 25, pos := "law.go:24", after := #[{ on := 39, ground := Ground.guard }], guard := some (39, true) }) (v := .agg #[.int .i64 3, .slice ay 2 cy]) rfl (by kernel_rfl) (by kernel_rfl) (by kernel_rfl) (fun _ _ _ h => h) (yieldsIf_load_mid (by rfl) 25 (.tmp 4) rfl _ 0 rfl [.int .i64 3, .slice ay 2 cy] _ (fun _ h => h.rf) Tryd.underlying25 rfl sizeF) hHeld ?_
  try simp only [Act.put, List.setIfInBounds_toArray, List.set_cons_zero, List.set_cons_succ]
  refine wpAnyH_ready (rs := [41]) (by kernel_rfl) (by simp) ?_
  refine AllReadyH.cons (o := { dst := some 72, op := Op.call { callee := Callee.value (Operand.func 9), args := #[Operand.tmp 71], argTypes := #[25] }, type := 26, pos := "law.go:24", after := #[{ on := 40, ground := Ground.data }, { on := 39, ground := Ground.chain }, { on := 39, ground := Ground.guard }], guard := some (39, true) }) rfl (fun K hK => ?_) AllReadyH.nil
  go_simp
  refine (CY.out _ _ _).mono ?_
  rintro e w12 ⟨rfl, hb12⟩
  go_wp2_with fail
  refine hK.out _ _ (hHeld.keep hb12) (fun hHeld => ?_)
  clear hK K
  try simp only [Act.put, List.setIfInBounds_toArray, List.set_cons_zero, List.set_cons_succ]
  refine wpAnyH_take (i := 42) (oi := { dst := some 73, op := Op.binOp BinOp.eql 26 (Operand.tmp 72) (Operand.const (Value.int IntKind.i64 0)) 26, type := 4, pos := "law.go:24", after := #[{ on := 41, ground := Ground.data }, { on := 39, ground := Ground.guard }], guard := some (39, true) }) (v := .bool true) rfl (by kernel_rfl) (by kernel_rfl) (by kernel_rfl) (fun _ _ _ h => h) (Or.inl ⟨by rfl, by intro w hSw; go_simp⟩) hHeld ?_
  try simp only [Act.put, List.setIfInBounds_toArray, List.set_cons_zero, List.set_cons_succ]
  refine wpAnyH_take (i := 43) (oi := { dst := some 74, op := Op.pick (Operand.tmp 70) (Operand.tmp 73) (Operand.const (Value.bool false)), type := 4, pos := "law.go:24", after := #[{ on := 39, ground := Ground.data }, { on := 42, ground := Ground.data }], guard := none }) (v := .bool true) rfl (by kernel_rfl) (by kernel_rfl) (by kernel_rfl) (fun _ _ _ h => h) (Or.inl ⟨by rfl, by intro w hSw; go_simp⟩) hHeld ?_
  try simp only [Act.put, List.setIfInBounds_toArray, List.set_cons_zero, List.set_cons_succ]
  refine wpAnyH_take (i := 44) (oi := { dst := some 75, op := Op.move (Operand.tmp 74), type := 4, pos := "law.go:24", after := #[{ on := 43, ground := Ground.data }, { on := 41, ground := Ground.chain }], guard := none }) (v := .bool true) rfl (by kernel_rfl) (by kernel_rfl) (by kernel_rfl) (fun _ _ _ h => h) (Or.inl ⟨by rfl, by intro w hSw; go_simp⟩) hHeld ?_
  try simp only [Act.put, List.setIfInBounds_toArray, List.set_cons_zero, List.set_cons_succ]
  refine wpAnyH_take (i := 45) (oi := { dst := some 76, op := Op.load 29 (Operand.tmp 1), type := 29, pos := "law.go:24", after := #[{ on := 44, ground := Ground.guard }], guard := some (44, true) }) (v := .agg LA.toArray) rfl (by kernel_rfl) (by kernel_rfl) (by kernel_rfl) (fun _ _ _ h => h) (yieldsIf_load_mid (by rfl) 29 (.tmp 1) rfl _ 0 rfl LA _ (fun _ h => EA.out ▸ h.ra) Tryd.underlying29 rfl zA) hHeld ?_
  try simp only [Act.put, List.setIfInBounds_toArray, List.set_cons_zero, List.set_cons_succ]
  refine wpAnyH_ready (rs := [46]) (by kernel_rfl) (by simp) ?_
  refine AllReadyH.cons (o := { dst := some 77, op := Op.buildSlice 22 1 #[(0, Operand.tmp 76)], type := 22, pos := "law.go:24", after := #[{ on := 45, ground := Ground.data }, { on := 44, ground := Ground.guard }], guard := some (44, true) }) rfl (fun K hK => ?_) AllReadyH.nil
  refine step_build_run (by rfl) 22 1 _ rfl #[(0, .agg LA.toArray)] rfl _ _ (hb1a.out w12) ?_
  refine hK.out _ _ (hHeld.keep ((Below.refl _ _).alloc (Nat.le_refl _) _)) (fun hHeld => ?_)
  clear hK K
  try simp only [Act.put, List.setIfInBounds_toArray, List.set_cons_zero, List.set_cons_succ]
  refine wpAnyH_take (i := 47) (oi := { dst := some 78, op := Op.build 25 #[(0, Operand.const (Value.int IntKind.i64 3)), (1, Operand.tmp 77)], type := 25, pos := "law.go:24", after := #[{ on := 46, ground := Ground.data }, { on := 44, ground := Ground.guard }], guard := some (44, true) }) (v := .agg #[.int .i64 3, .slice (some ⟨w12.heap.size, 0, none⟩) 1 1]) rfl (by kernel_rfl) (by kernel_rfl) (by kernel_rfl) (fun _ _ _ h => h) (Or.inl ⟨by rfl, by intro w hSw; go_simp⟩) hHeld ?_
  try simp only [Act.put, List.setIfInBounds_toArray, List.set_cons_zero, List.set_cons_succ]
  refine wpAnyH_ready (rs := [48]) (by kernel_rfl) (by simp) ?_
  refine AllReadyH.cons (o := { dst := some 79, op := Op.call { callee := Callee.value (Operand.func 9), args := #[Operand.tmp 78], argTypes := #[25] }, type := 26, pos := "law.go:24", after := #[{ on := 47, ground := Ground.data }, { on := 44, ground := Ground.chain }, { on := 44, ground := Ground.guard }], guard := some (44, true) }) rfl (fun K hK => ?_) AllReadyH.nil
  go_simp
  refine (CN.out _ _ _).mono ?_
  rintro e w13 ⟨rfl, hb13⟩
  go_wp2_with fail
  refine hK.out _ _ (hHeld.keep hb13) (fun hHeld => ?_)
  clear hK K
  try simp only [Act.put, List.setIfInBounds_toArray, List.set_cons_zero, List.set_cons_succ]
  refine wpAnyH_take (i := 49) (oi := { dst := some 80, op := Op.binOp BinOp.eql 26 (Operand.tmp 79) (Operand.const (Value.int IntKind.i64 30)) 26, type := 4, pos := "law.go:24", after := #[{ on := 48, ground := Ground.data }, { on := 44, ground := Ground.guard }], guard := some (44, true) }) (v := .bool true) rfl (by kernel_rfl) (by kernel_rfl) (by kernel_rfl) (fun _ _ _ h => h) (Or.inl ⟨by rfl, by intro w hSw; go_simp⟩) hHeld ?_
  try simp only [Act.put, List.setIfInBounds_toArray, List.set_cons_zero, List.set_cons_succ]
  refine wpAnyH_take (i := 50) (oi := { dst := some 81, op := Op.pick (Operand.tmp 75) (Operand.tmp 80) (Operand.const (Value.bool false)), type := 4, pos := "law.go:24", after := #[{ on := 44, ground := Ground.data }, { on := 49, ground := Ground.data }], guard := none }) (v := .bool true) rfl (by kernel_rfl) (by kernel_rfl) (by kernel_rfl) (fun _ _ _ h => h) (Or.inl ⟨by rfl, by intro w hSw; go_simp⟩) hHeld ?_
  try simp only [Act.put, List.setIfInBounds_toArray, List.set_cons_zero, List.set_cons_succ]
  refine wpAnyH_take (i := 51) (oi := { dst := some 0, op := Op.assign (Operand.tmp 81), type := 4, pos := "law.go:24", after := #[{ on := 50, ground := Ground.data }, { on := 48, ground := Ground.chain }, { on := 0, ground := Ground.phase }, { on := 1, ground := Ground.phase }, { on := 2, ground := Ground.phase }, { on := 3, ground := Ground.phase }, { on := 4, ground := Ground.phase }, { on := 5, ground := Ground.phase }, { on := 6, ground := Ground.phase }, { on := 7, ground := Ground.phase }, { on := 8, ground := Ground.phase }, { on := 9, ground := Ground.phase }, { on := 10, ground := Ground.phase }, { on := 11, ground := Ground.phase }, { on := 12, ground := Ground.phase }, { on := 13, ground := Ground.phase }, { on := 14, ground := Ground.phase }, { on := 15, ground := Ground.phase }, { on := 16, ground := Ground.phase }, { on := 17, ground := Ground.phase }, { on := 18, ground := Ground.phase }, { on := 19, ground := Ground.phase }, { on := 20, ground := Ground.phase }, { on := 21, ground := Ground.phase }, { on := 22, ground := Ground.phase }, { on := 23, ground := Ground.phase }, { on := 24, ground := Ground.phase }, { on := 25, ground := Ground.phase }, { on := 26, ground := Ground.phase }, { on := 27, ground := Ground.phase }, { on := 28, ground := Ground.phase }, { on := 29, ground := Ground.phase }, { on := 30, ground := Ground.phase }, { on := 31, ground := Ground.phase }, { on := 32, ground := Ground.phase }, { on := 33, ground := Ground.phase }, { on := 34, ground := Ground.phase }, { on := 35, ground := Ground.phase }, { on := 36, ground := Ground.phase }, { on := 37, ground := Ground.phase }, { on := 38, ground := Ground.phase }, { on := 39, ground := Ground.phase }, { on := 40, ground := Ground.phase }, { on := 41, ground := Ground.phase }, { on := 42, ground := Ground.phase }, { on := 43, ground := Ground.phase }, { on := 44, ground := Ground.phase }, { on := 45, ground := Ground.phase }, { on := 46, ground := Ground.phase }, { on := 47, ground := Ground.phase }, { on := 48, ground := Ground.phase }, { on := 49, ground := Ground.phase }, { on := 50, ground := Ground.phase }], guard := none }) (v := .bool true) rfl (by kernel_rfl) (by kernel_rfl) (by kernel_rfl) (fun _ _ _ h => h) (Or.inl ⟨by rfl, by intro w hSw; go_simp⟩) hHeld ?_
  try simp only [Act.put, List.setIfInBounds_toArray, List.set_cons_zero, List.set_cons_succ]
  refine wpAnyH_done (by kernel_rfl) ?_ _
  go_wp2
  go_ret
  exact ⟨rfl, hHeld.low⟩
end Go.Proofs.YtmpmhfagbcknnaaDoor
