/- The statements' own example: three leaves. -/
import Derived.Test.YtpjchiihiclhiabDoorIncl
import Derived.Test.YtpjchiihiclhiabDoorGoes
import Derived.Test.YtpjchiihiclhiabDoorSame
namespace Go.Proofs.YtpjchiihiclhiabDoor
open Go.RowKit Sums
set_option linter.unusedVariables false
set_option linter.unusedSimpArgs false

theorem split1 : split 1 = 0 := by decide +kernel
theorem split2 : split 2 = 1 := by decide +kernel
theorem split3 : split 3 = 2 := by decide +kernel
theorem split5 : split 5 = 4 := by decide +kernel
theorem split8 : split 8 = 4 := by decide +kernel
theorem root_ab (a b : List UInt8) : root [a, b] = knotD a b := by
  rw [root_more [a, b] (by simp), show [a, b].length = 2 from rfl, split2]
  rw [root_one _ (by simp), root_one _ (by simp)]
  rfl
theorem root_abc (a b c : List UInt8) : root [a, b, c] = knotD (knotD a b) c := by
  rw [root_more [a, b, c] (by simp), show [a, b, c].length = 3 from rfl, split3]
  rw [show List.take 2 [a, b, c] = [a, b] from rfl, root_ab, root_one _ (by simp)]
  rfl
theorem incl_abc0 (a b c : List UInt8) : incl [a, b, c] 0 = [b, c] := by
  rw [incl_left [a, b, c] 0 (by simp) (by rw [show [a, b, c].length = 3 from rfl, split3]; omega), show [a, b, c].length = 3 from rfl, split3, show List.take 2 [a, b, c] = [a, b] from rfl]
  rw [incl_left [a, b] 0 (by simp) (by rw [show [a, b].length = 2 from rfl, split2]; omega), show [a, b].length = 2 from rfl, split2, incl_one _ _ (by simp), root_one _ (by simp), root_one _ (by simp)]
  rfl
theorem incl_abc2 (a b c : List UInt8) : incl [a, b, c] 2 = [knotD a b] := by
  rw [incl_right [a, b, c] 2 (by simp) (by rw [show [a, b, c].length = 3 from rfl, split3]; omega), show [a, b, c].length = 3 from rfl, split3, show List.take 2 [a, b, c] = [a, b] from rfl, root_ab, incl_one _ _ (by simp)]
  rfl
theorem goes_abc2 (a b c : List UInt8) : goes [a, b, c] 2 true = [c] := by
  rw [goes_left [a, b, c] 2 true (by simp) (by simp) (by rw [show [a, b, c].length = 3 from rfl, split3]; omega), show [a, b, c].length = 3 from rfl, split3, goes_known _ _ (by simp), root_one _ (by simp)]
  rfl

/-- A variable that is an array, made and filled. -/
theorem wpList_new_row {P : Program} {ops : Array Oper} {rest : List Oper} {o1 o2 : Oper} {a : Act} {w : World} {Q : Exit → Act → World → Prop} (hg1 : o1.guard = none) (hg2 : o2.guard = none) (t : TypeId) (ho1 : o1.op = .alloc t) (x y : Operand) (ho2 : o2.op = .store t x y)
    (Z D : Array Value) (hz : (P.info? t).map (fun i => (i.zero, i.size)) = some (some (.agg Z), Z.size)) (hx : ∀ v, (a.put o1.dst v).eval x = v) (hy : ∀ v, (a.put o1.dst v).eval y = .agg D)
    (hi : (P.info? t).map (·.size) = some D.size) (hold : Z.size = D.size) (h1 : D.all (·.oneCell') = true)
    (h : ∀ g w', Hid (g = w.heap.size ∧ w'.heap[g]? = some (.cells D t (0, 0)) ∧ Below w.heap.size w w') → wpList P ops Q rest ((a.put o1.dst (.pointer (some ⟨g, 0, none⟩))).put o2.dst undef) w') : wpList P ops Q (o1 :: o2 :: rest) a w := by
  refine wpList_alloc_row hg1 t ho1 Z hz ?_
  refine wpList_store_row hg2 t x y ho2 w.heap.size D (hx _) (hy _) t Z (heap_alloc_new w _) hi hold h1 ?_
  exact h w.heap.size _ ⟨rfl, new_var w Z D t, below_var (Below.refl _ _) (Nat.le_refl _) _ _⟩

/-- What three's variables hold. -/
structure Abc (a b c : List UInt8) (gA gB gC gl : Nat) (w W : World) : Prop where
  ra : W.rangeAt gA 0 (cellsOf a)
  rb : W.rangeAt gB 0 (cellsOf b)
  rc : W.rangeAt gC 0 (cellsOf c)
  rl : LReads W (some ⟨gl, 0, none⟩) 3 3 [a, b, c]
  low : Below w.heap.size w W
theorem Abc.keep {a b c : List UInt8} {gA gB gC gl : Nat} {w W W' : World} (h : Abc a b c gA gB gC gl w W) (hb : Below W.heap.size W W') : Abc a b c gA gB gC gl w W' :=
  ⟨range_keep hb h.ra, range_keep hb h.rb, range_keep hb h.rc, h.rl.keep hb, h.low.trans (hb.mono h.low.size)⟩

/-- What three's variables and answers hold. -/
structure Abcs (a b c : List UInt8) (gA gB gC gl : Nat) (ap : Option Addr) (cp : Nat) (aq : Option Addr) (cq : Nat) (ar : Option Addr) (cr : Nat) (w W : World) : Prop where
  abc : Abc a b c gA gB gC gl w W
  p : LReads W ap 2 cp [b, c]
  q : LReads W aq 1 cq [knotD a b]
  r : LReads W ar 1 cr [c]
theorem Abcs.keep {a b c : List UInt8} {gA gB gC gl : Nat} {ap aq ar : Option Addr} {cp cq cr : Nat} {w W W' : World} (h : Abcs a b c gA gB gC gl ap cp aq cq ar cr w W) (hb : Below W.heap.size W W') : Abcs a b c gA gB gC gl ap cp aq cq ar cr w W' :=
  ⟨h.abc.keep hb, h.p.keep hb, h.q.keep hb, h.r.keep hb⟩

/-- A whole array read out of the midst of a row, under a guard that says yes. -/
theorem wpList_load_mid_w {P : Program} {ops : Array Oper} {rest : List Oper} {op : Oper} {a : Act} {w : World} {Q : Exit → Act → World → Prop} (hw : Region.wanted op (yielded ops a.tmps) = true) (ty : TypeId) (x : Operand) (ho : op.op = .load ty x)
    (b o : Nat) (hx : a.eval x = .pointer (some ⟨b, o, none⟩)) (cs : List Value) (d : TypeDesc) (hc : w.rangeAt b o cs)
    (hu : P.underlying ty = some d) (hd : d.isRow = true) (hi : (P.info? ty).map (·.size) = some cs.length)
    (h : wpList P ops Q rest (a.put op.dst (.agg cs.toArray)) w) : wpList P ops Q (op :: rest) a w :=
  BigFrame.wpList_want hw fun _ hK => wp_load_mid ty x ho b o hx cs d hc hu hd hi (hK _ _ h)

/-- A digest whose first byte alone is not 0. -/
def dig1 (b : UInt8) : List UInt8 := b :: List.replicate 31 0
theorem dig1_length (b : UInt8) : (dig1 b).length = 32 := rfl
theorem built1 : Tryd.prog.built 29 [(0, .int .u8 1)] = some (cellsOf (dig1 1)).toArray := by kernel_rfl
theorem built2 : Tryd.prog.built 29 [(0, .int .u8 2)] = some (cellsOf (dig1 2)).toArray := by kernel_rfl
theorem built3 : Tryd.prog.built 29 [(0, .int .u8 3)] = some (cellsOf (dig1 3)).toArray := by kernel_rfl
/-- A literal of digests that has just been laid can be read. -/
theorem LReads.new (W : World) (ds : List (List UInt8)) (n : Nat) (hn : ds.length = n) (hd : Digs32 ds) (h1 : n ≤ 100) (L : Array Value) (HL : Hid (L = (cellsOf ds.flatten).toArray)) : LReads (W.alloc (.cells L 29)) (some ⟨W.heap.size, 0, none⟩) n n ds := by
  refine ⟨hn, hd, Nat.le_refl _, by unfold maxLen; omega, .inr ⟨_, _, rfl, fun i hi => ?_⟩⟩
  rw [Nat.zero_add, cell_of_row _ _ i _ 29 (0, 0) (heap_alloc_new W _), HL.out]
  simp [cellsOf_at _ i hi]

theorem Abc.new {a b c : List UInt8} {A B C L : Array Value} {gA gB gC : Nat} {w wA wB wC : World} (ha : a.length = 32) (hb : b.length = 32) (hc : c.length = 32) (HA : Hid (A = (cellsOf a).toArray)) (HB : Hid (B = (cellsOf b).toArray)) (HC : Hid (C = (cellsOf c).toArray)) (HL : Hid (L = (cellsOf [a, b, c].flatten).toArray))
    (h1 : Hid (gA = w.heap.size ∧ wA.heap[gA]? = some (.cells A 29 (0, 0)) ∧ Below w.heap.size w wA)) (h2 : Hid (gB = wA.heap.size ∧ wB.heap[gB]? = some (.cells B 29 (0, 0)) ∧ Below wA.heap.size wA wB)) (h3 : Hid (gC = wB.heap.size ∧ wC.heap[gC]? = some (.cells C 29 (0, 0)) ∧ Below wB.heap.size wB wC)) :
    Abc a b c gA gB gC wC.heap.size w (wC.alloc (.cells L 29)) ∧ wC.heap[gA]? = some (.cells A 29 (0, 0)) ∧ wC.heap[gB]? = some (.cells B 29 (0, 0)) := by
  obtain ⟨_, a1, l1⟩ := h1.out
  obtain ⟨_, b1, l2⟩ := h2.out
  obtain ⟨_, c1, l3⟩ := h3.out
  have a2 := (l2.block _ (heap_lt a1)).trans a1
  have a3 := (l3.block _ (heap_lt a2)).trans a2
  have b2 := (l3.block _ (heap_lt b1)).trans b1
  rw [HA.out] at a3
  rw [HB.out] at b2
  rw [HC.out] at c1
  refine ⟨⟨range_row (heap_keep a3), range_row (heap_keep b2), range_row (heap_keep c1), LReads.new wC _ 3 rfl (fun d hd => ?_) (by omega) L HL, ?_⟩, by rw [HA.out]; exact a3, by rw [HB.out]; exact b2⟩
  · simp only [List.mem_cons, List.not_mem_nil, or_false] at hd
    rcases hd with rfl | rfl | rfl <;> assumption
  · have t1 := l1.trans (l2.mono l1.size)
    have t2 := t1.trans (l3.mono t1.size)
    exact t2.alloc t2.size _

set_option maxHeartbeats 4000000 in
set_option maxRecDepth 100000 in
theorem three_true (w : World) (hK : Table 0 w) : Calls Tryd.prog 5 #[] w fun e w' => e = .returned (.bool true) ∧ Below w.heap.size w w' := by
  obtain ⟨Z, HZ, HAZ, HSZ, H1Z, H32Z⟩ := noughts27
  obtain ⟨a, Ha, ha, A, HA, HSA, H1A, H32A, hbA⟩ : ∃ a, Hid (a = dig1 1) ∧ a.length = 32 ∧ ∃ A : Array Value, Hid (A = (cellsOf a).toArray) ∧ Hid ((Tryd.prog.info? 29).map (·.size) = some A.size) ∧ Hid (A.all (·.oneCell') = true) ∧ Hid (A.size = 32) ∧ Hid (Tryd.prog.built 29 [(0, .int .u8 1)] = some A) := by
    obtain ⟨A, h1, h2, h3, h4⟩ := dig_row' (dig1 1) rfl
    exact ⟨dig1 1, (rfl : _ = _), rfl, A, h1, h2, h3, h4, by show _ = _; rw [h1.out]; exact built1⟩
  obtain ⟨b, Hb, hb, B, HB, HSB, H1B, H32B, hbB⟩ : ∃ a, Hid (a = dig1 2) ∧ a.length = 32 ∧ ∃ A : Array Value, Hid (A = (cellsOf a).toArray) ∧ Hid ((Tryd.prog.info? 29).map (·.size) = some A.size) ∧ Hid (A.all (·.oneCell') = true) ∧ Hid (A.size = 32) ∧ Hid (Tryd.prog.built 29 [(0, .int .u8 2)] = some A) := by
    obtain ⟨A, h1, h2, h3, h4⟩ := dig_row' (dig1 2) rfl
    exact ⟨dig1 2, (rfl : _ = _), rfl, A, h1, h2, h3, h4, by show _ = _; rw [h1.out]; exact built2⟩
  obtain ⟨c, Hc, hc, C, HC, HSC, H1C, H32C, hbC⟩ : ∃ a, Hid (a = dig1 3) ∧ a.length = 32 ∧ ∃ A : Array Value, Hid (A = (cellsOf a).toArray) ∧ Hid ((Tryd.prog.info? 29).map (·.size) = some A.size) ∧ Hid (A.all (·.oneCell') = true) ∧ Hid (A.size = 32) ∧ Hid (Tryd.prog.built 29 [(0, .int .u8 3)] = some A) := by
    obtain ⟨A, h1, h2, h3, h4⟩ := dig_row' (dig1 3) rfl
    exact ⟨dig1 3, (rfl : _ = _), rfl, A, h1, h2, h3, h4, by show _ = _; rw [h1.out]; exact built3⟩
  have HZA : Hid (Z.size = A.size) := by show _ = _; rw [H32Z.out, H32A.out]
  have HZB : Hid (Z.size = B.size) := by show _ = _; rw [H32Z.out, H32B.out]
  have HZC : Hid (Z.size = C.size) := by show _ = _; rw [H32Z.out, H32C.out]
  have habc : Digs32 [a, b, c] := fun d hd => by
    simp only [List.mem_cons, List.not_mem_nil, or_false] at hd
    rcases hd with rfl | rfl | rfl <;> assumption
  obtain ⟨L, HL⟩ : ∃ L, Hid (L = (cellsOf [a, b, c].flatten).toArray) := ⟨_, (rfl : (cellsOf [a, b, c].flatten).toArray = _)⟩
  have hb3 : Hid (∀ W, (Instr.buildSlice 22 3 #[(0, .agg A), (1, .agg B), (2, .agg C)]).run Tryd.prog W = .ok (.slice (some ⟨W.heap.size, 0, none⟩) 3 3) (W.alloc (.cells L 29))) := fun W => by
    rw [HL.out]
    exact run_build_digs W 3 [a, b, c] habc rfl (by omega) (by omega) _ (by rw [HA.out, HB.out, HC.out]; rfl)
  obtain ⟨LA, rfl⟩ : ∃ LA : List Value, A = LA.toArray := ⟨A.toList, by simp⟩
  obtain ⟨LB, rfl⟩ : ∃ LB : List Value, B = LB.toArray := ⟨B.toList, by simp⟩
  obtain ⟨LC, rfl⟩ : ∃ LC : List Value, C = LC.toArray := ⟨C.toList, by simp⟩
  have EA : Hid (LA = cellsOf a) := List.toArray_inj HA.out
  have EB : Hid (LB = cellsOf b) := List.toArray_inj HB.out
  have EC : Hid (LC = cellsOf c) := List.toArray_inj HC.out
  obtain ⟨K, HKk⟩ : ∃ K, Hid (K = (cellsOf (knotD a b)).toArray) := ⟨_, (rfl : (cellsOf (knotD a b)).toArray = _)⟩
  obtain ⟨R, HR⟩ : ∃ R, Hid (R = (cellsOf (knotD (knotD a b) c)).toArray) := ⟨_, (rfl : (cellsOf (knotD (knotD a b) c)).toArray = _)⟩
  have hk32 : (knotD a b).length = 32 := sumD_length _
  have eR := eqSelf R (knotD (knotD a b) c) (sumD_length _) HR
  have HT : Hid (∀ W, Below w.heap.size w W → Table 0 W) := fun W hb => hK.keep hb
  have S1 : Hid (∀ W, Calls Tryd.prog 4 #[.int .i64 1] W fun e w' => e = .returned (.int .i64 0) ∧ W = w') := fun W => split_any 1 W (by omega)
  have S5 : Hid (∀ W, Calls Tryd.prog 4 #[.int .i64 5] W fun e w' => e = .returned (.int .i64 4) ∧ W = w') := fun W => by
    have := split_any 5 W (by omega)
    rwa [show split (5 : Int).toNat = 4 from split5] at this
  have S8 : Hid (∀ W, Calls Tryd.prog 4 #[.int .i64 8] W fun e w' => e = .returned (.int .i64 4) ∧ W = w') := fun W => by
    have := split_any 8 W (by omega)
    rwa [show split (8 : Int).toNat = 4 from split8] at this
  have hK1 : Hid (∀ W, Below w.heap.size w W → Calls Tryd.prog 11 #[.agg LA.toArray, .agg LB.toArray] W fun e w' => e = .returned (.agg K) ∧ Below W.heap.size W w') := fun W h => by
    rw [HA.out, HB.out]
    exact knot_any a b ha hb W (HT.out W h) K HKk
  have hK2 : Hid (∀ W, Below w.heap.size w W → Calls Tryd.prog 11 #[.agg K, .agg LC.toArray] W fun e w' => e = .returned (.agg R) ∧ Below W.heap.size W w') := fun W h => by
    rw [HC.out, HKk.out]
    exact knot_any (knotD a b) c hk32 hc W (HT.out W h) R HR
  have zA : (Tryd.prog.info? 29).map (·.size) = some LA.length := by rw [size23, EA.out, cellsOf_length, ha]
  have zB : (Tryd.prog.info? 29).map (·.size) = some LB.length := by rw [size23, EB.out, cellsOf_length, hb]
  have zC : (Tryd.prog.info? 29).map (·.size) = some LC.length := by rw [size23, EC.out, cellsOf_length, hc]
  clear Ha Hb Hc hK
  go_enter Tryd.func5, Tryd.ntmps5
  go_wp2_with (first
    | (refine wpList_build_one rfl 29 0 (.const (.int .u8 1)) rfl LA.toArray _ rfl hbA.out ?_; try simp only [Act.put, List.setIfInBounds_toArray, List.set_cons_zero, List.set_cons_succ])
    | (refine wpList_build_one rfl 29 0 (.const (.int .u8 2)) rfl LB.toArray _ rfl hbB.out ?_; try simp only [Act.put, List.setIfInBounds_toArray, List.set_cons_zero, List.set_cons_succ])
    | (refine wpList_build_one rfl 29 0 (.const (.int .u8 3)) rfl LC.toArray _ rfl hbC.out ?_; try simp only [Act.put, List.setIfInBounds_toArray, List.set_cons_zero, List.set_cons_succ])
    | (refine wpList_new_row rfl rfl 29 rfl (.tmp 1) (.tmp 16) rfl Z LA.toArray HAZ.out (fun _ => rfl) (fun _ => rfl) HSA.out HZA.out H1A.out ?_; intro gA wA FA; try simp only [Act.put, List.setIfInBounds_toArray, List.set_cons_zero, List.set_cons_succ])
    | (refine wpList_new_row rfl rfl 29 rfl (.tmp 2) (.tmp 17) rfl Z LB.toArray HAZ.out (fun _ => rfl) (fun _ => rfl) HSB.out HZB.out H1B.out ?_; intro gB wB FB; try simp only [Act.put, List.setIfInBounds_toArray, List.set_cons_zero, List.set_cons_succ])
    | (refine wpList_new_row rfl rfl 29 rfl (.tmp 3) (.tmp 18) rfl Z LC.toArray HAZ.out (fun _ => rfl) (fun _ => rfl) HSC.out HZC.out H1C.out ?_; intro gC wC FC; try simp only [Act.put, List.setIfInBounds_toArray, List.set_cons_zero, List.set_cons_succ])
    | (refine wpList_load_row rfl 29 (.tmp 1) rfl gA rfl 29 LA.toArray (0, 0) _ (Abc.new ha hb hc HA HB HC HL FA FB FC).2.1 Tryd.underlying29 rfl HSA.out ?_; try simp only [Act.put, List.setIfInBounds_toArray, List.set_cons_zero, List.set_cons_succ])
    | (refine wpList_load_row rfl 29 (.tmp 2) rfl gB rfl 29 LB.toArray (0, 0) _ (Abc.new ha hb hc HA HB HC HL FA FB FC).2.2 Tryd.underlying29 rfl HSB.out ?_; try simp only [Act.put, List.setIfInBounds_toArray, List.set_cons_zero, List.set_cons_succ])
    | (refine wpList_load_row rfl 29 (.tmp 3) rfl gC rfl 29 LC.toArray (0, 0) _ FC.out.2.1 Tryd.underlying29 rfl HSC.out ?_; try simp only [Act.put, List.setIfInBounds_toArray, List.set_cons_zero, List.set_cons_succ])
    | (refine wpList_build_run rfl 22 3 _ rfl #[(0, .agg LA.toArray), (1, .agg LB.toArray), (2, .agg LC.toArray)] rfl _ _ (hb3.out wC) ?_; try simp only [Act.put, List.setIfInBounds_toArray, List.set_cons_zero, List.set_cons_succ])
    | fail)
  have H0 : Hid (Abc a b c gA gB gC wC.heap.size w (wC.alloc (.cells L 29))) := (Abc.new ha hb hc HA HB HC HL FA FB FC).1
  clear FA FB FC hb3 hbA hbB hbC
  generalize wC.heap.size = gl at H0 ⊢
  generalize wC.alloc (.cells L 29) = W0 at H0 ⊢
  have I1 : Hid (∀ W, Abc a b c gA gB gC gl w W → Calls Tryd.prog 6 #[.slice (some ⟨gl, 0, none⟩) 3 3, .int .i64 0] W fun e w' => ∃ x cx, e = .returned (.tuple #[.slice x 2 cx, .int .i64 0]) ∧ LReads w' x 2 cx [b, c] ∧ Below W.heap.size W w') := fun W h => by
    refine (inclusion_in (some ⟨gl, 0, none⟩) 3 3 [a, b, c] 0 W h.rl (by omega) (by omega) (HT.out W h.low)).mono ?_
    rintro e w' ⟨v, rfl, ho, hbl⟩
    rw [incl_abc0] at ho
    obtain ⟨x, cx, rfl, hl, _⟩ := LReads.own ho (habc.drop 1)
    exact ⟨x, cx, rfl, hl, hbl⟩
  have I2 : Hid (∀ W, Abc a b c gA gB gC gl w W → Calls Tryd.prog 6 #[.slice (some ⟨gl, 0, none⟩) 3 3, .int .i64 2] W fun e w' => ∃ x cx, e = .returned (.tuple #[.slice x 1 cx, .int .i64 0]) ∧ LReads w' x 1 cx [knotD a b] ∧ Below W.heap.size W w') := fun W h => by
    refine (inclusion_in (some ⟨gl, 0, none⟩) 3 3 [a, b, c] 2 W h.rl (by omega) (by omega) (HT.out W h.low)).mono ?_
    rintro e w' ⟨v, rfl, ho, hbl⟩
    rw [incl_abc2] at ho
    obtain ⟨x, cx, rfl, hl, _⟩ := LReads.own ho (.one hk32)
    exact ⟨x, cx, rfl, hl, hbl⟩
  have I3 : Hid (∀ W, Calls Tryd.prog 6 #[.slice (some ⟨gl, 0, none⟩) 3 3, .int .i64 3] W fun e w' => e = .returned (.tuple #[.slice none 0 0, .int .i64 20]) ∧ Below W.heap.size W w') := fun W =>
    inclusion_out _ 3 3 3 W (by unfold maxLen; omega) (.inr (by omega))
  have C1 : Hid (∀ W, Abc a b c gA gB gC gl w W → Calls Tryd.prog 10 #[.slice (some ⟨gl, 0, none⟩) 3 3, .int .i64 2] W fun e w' => ∃ x cx, e = .returned (.tuple #[.slice x 1 cx, .int .i64 0]) ∧ LReads w' x 1 cx [c] ∧ Below W.heap.size W w') := fun W h => by
    refine (consistency_in (some ⟨gl, 0, none⟩) 3 3 [a, b, c] 2 W h.rl (by omega) (by omega) (by omega) (HT.out W h.low)).mono ?_
    rintro e w' ⟨v, rfl, ho, hbl⟩
    rw [goes_abc2] at ho
    obtain ⟨x, cx, rfl, hl, _⟩ := LReads.own ho (.one hc)
    exact ⟨x, cx, rfl, hl, hbl⟩
  have C2 : Hid (∀ W, Calls Tryd.prog 10 #[.slice (some ⟨gl, 0, none⟩) 3 3, .int .i64 4] W fun e w' => e = .returned (.tuple #[.slice none 0 0, .int .i64 21]) ∧ Below W.heap.size W w') := fun W =>
    consistency_out _ 3 3 4 W (by unfold maxLen; omega) (.inr (by omega))
  have RT : Hid (∀ W, Abc a b c gA gB gC gl w W → Calls Tryd.prog 7 #[.slice (some ⟨gl, 0, none⟩) 3 3] W fun e w' => e = .returned (.agg R) ∧ Below W.heap.size W w') := fun W h =>
    root_any 3 _ 3 3 [a, b, c] W rfl h.rl (HT.out W h.low) R (by show _ = _; rw [HR.out, root_abc])
  clear habc
  refine (I1.out _ H0.out).mono ?_
  rintro e w1 ⟨ap, cp, rfl, hp, hb1⟩
  have H1 : Hid (Abc a b c gA gB gC gl w w1 ∧ LReads w1 ap 2 cp [b, c]) := ⟨H0.out.keep hb1, hp⟩
  clear hp hb1 H0 I1
  go_wp2_with fail
  refine (I2.out _ H1.out.1).mono ?_
  rintro e w2 ⟨aq, cq, rfl, hq, hb2⟩
  have H2 : Hid (Abc a b c gA gB gC gl w w2 ∧ LReads w2 ap 2 cp [b, c] ∧ LReads w2 aq 1 cq [knotD a b]) := ⟨H1.out.1.keep hb2, H1.out.2.keep hb2, hq⟩
  clear hq hb2 H1 I2
  go_wp2_with fail
  refine (I3.out _).mono ?_
  rintro e w3 ⟨rfl, hb3⟩
  replace H2 := hidk (And.intro (H2.out.1.keep hb3) (And.intro (H2.out.2.1.keep hb3) (H2.out.2.2.keep hb3)))
  clear hb3 I3
  go_wp2_with fail
  refine (C1.out _ H2.out.1).mono ?_
  rintro e w4 ⟨ar, cr, rfl, hr, hb4⟩
  have H4 : Hid (Abcs a b c gA gB gC gl ap cp aq cq ar cr w w4) := ⟨H2.out.1.keep hb4, H2.out.2.1.keep hb4, H2.out.2.2.keep hb4, hr⟩
  clear hr hb4 H2 C1
  go_wp2_with fail
  refine (C2.out _).mono ?_
  rintro e w5 ⟨rfl, hb5⟩
  have H5 : Hid (Abcs a b c gA gB gC gl ap cp aq cq ar cr w w5) := H4.out.keep hb5
  clear hb5 H4 C2
  go_wp2
  refine wp_region_held_drew (S := (fun W => Abcs a b c gA gB gC gl ap cp aq cq ar cr w W)) (by kernel_rfl) (H5.out.keep (Below.refl _ _).drew) (fun hHeld => ?_)
  refine wpAnyH_ready (rs := [0]) (by kernel_rfl) (by simp) ?_
  refine AllReadyH.cons (o := { dst := some 48, op := Op.call { callee := Callee.value (Operand.func 4), args := #[Operand.const (Value.int IntKind.i64 1)], argTypes := #[3] }, type := 3, pos := "law.go:26", after := #[], guard := none }) rfl (fun K hK => ?_) AllReadyH.nil
  go_simp
  refine (S1.out _).mono ?_
  rintro e w6 ⟨rfl, rfl⟩
  go_wp2_with fail
  refine hK.out _ _ hHeld (fun hHeld => ?_)
  clear hK K
  try simp only [Act.put, List.setIfInBounds_toArray, List.set_cons_zero, List.set_cons_succ]
  refine wpAnyH_take (i := 1) (oi := { dst := some 49, op := Op.binOp BinOp.eql 3 (Operand.tmp 48) (Operand.const (Value.int IntKind.i64 0)) 3, type := 4, pos := "law.go:26", after := #[{ on := 0, ground := Ground.data }], guard := none }) (v := .bool true) rfl (by kernel_rfl) (by kernel_rfl) (by kernel_rfl) (fun _ _ _ h => h) (Or.inl ⟨by rfl, by intro w hSw; go_simp⟩) hHeld ?_
  try simp only [Act.put, List.setIfInBounds_toArray, List.set_cons_zero, List.set_cons_succ]
  refine wpAnyH_take (i := 2) (oi := { dst := some 50, op := Op.move (Operand.tmp 49), type := 4, pos := "law.go:26", after := #[{ on := 1, ground := Ground.data }, { on := 0, ground := Ground.chain }], guard := none }) (v := .bool true) rfl (by kernel_rfl) (by kernel_rfl) (by kernel_rfl) (fun _ _ _ h => h) (Or.inl ⟨by rfl, by intro w hSw; go_simp⟩) hHeld ?_
  try simp only [Act.put, List.setIfInBounds_toArray, List.set_cons_zero, List.set_cons_succ]
  refine wpAnyH_ready (rs := [3]) (by kernel_rfl) (by simp) ?_
  refine AllReadyH.cons (o := { dst := some 51, op := Op.call { callee := Callee.value (Operand.func 4), args := #[Operand.const (Value.int IntKind.i64 5)], argTypes := #[3] }, type := 3, pos := "law.go:26", after := #[{ on := 2, ground := Ground.chain }, { on := 2, ground := Ground.guard }], guard := some (2, true) }) rfl (fun K hK => ?_) AllReadyH.nil
  go_simp
  refine (S5.out _).mono ?_
  rintro e w6 ⟨rfl, rfl⟩
  go_wp2_with fail
  refine hK.out _ _ hHeld (fun hHeld => ?_)
  clear hK K
  try simp only [Act.put, List.setIfInBounds_toArray, List.set_cons_zero, List.set_cons_succ]
  refine wpAnyH_take (i := 4) (oi := { dst := some 52, op := Op.binOp BinOp.eql 3 (Operand.tmp 51) (Operand.const (Value.int IntKind.i64 4)) 3, type := 4, pos := "law.go:26", after := #[{ on := 3, ground := Ground.data }, { on := 2, ground := Ground.guard }], guard := some (2, true) }) (v := .bool true) rfl (by kernel_rfl) (by kernel_rfl) (by kernel_rfl) (fun _ _ _ h => h) (Or.inl ⟨by rfl, by intro w hSw; go_simp⟩) hHeld ?_
  try simp only [Act.put, List.setIfInBounds_toArray, List.set_cons_zero, List.set_cons_succ]
  refine wpAnyH_take (i := 5) (oi := { dst := some 53, op := Op.pick (Operand.tmp 50) (Operand.tmp 52) (Operand.const (Value.bool false)), type := 4, pos := "law.go:26", after := #[{ on := 2, ground := Ground.data }, { on := 4, ground := Ground.data }], guard := none }) (v := .bool true) rfl (by kernel_rfl) (by kernel_rfl) (by kernel_rfl) (fun _ _ _ h => h) (Or.inl ⟨by rfl, by intro w hSw; go_simp⟩) hHeld ?_
  try simp only [Act.put, List.setIfInBounds_toArray, List.set_cons_zero, List.set_cons_succ]
  refine wpAnyH_take (i := 6) (oi := { dst := some 54, op := Op.move (Operand.tmp 53), type := 4, pos := "law.go:26", after := #[{ on := 5, ground := Ground.data }, { on := 3, ground := Ground.chain }], guard := none }) (v := .bool true) rfl (by kernel_rfl) (by kernel_rfl) (by kernel_rfl) (fun _ _ _ h => h) (Or.inl ⟨by rfl, by intro w hSw; go_simp⟩) hHeld ?_
  try simp only [Act.put, List.setIfInBounds_toArray, List.set_cons_zero, List.set_cons_succ]
  refine wpAnyH_ready (rs := [7]) (by kernel_rfl) (by simp) ?_
  refine AllReadyH.cons (o := { dst := some 55, op := Op.call { callee := Callee.value (Operand.func 4), args := #[Operand.const (Value.int IntKind.i64 8)], argTypes := #[3] }, type := 3, pos := "law.go:26", after := #[{ on := 6, ground := Ground.chain }, { on := 6, ground := Ground.guard }], guard := some (6, true) }) rfl (fun K hK => ?_) AllReadyH.nil
  go_simp
  refine (S8.out _).mono ?_
  rintro e w6 ⟨rfl, rfl⟩
  go_wp2_with fail
  refine hK.out _ _ hHeld (fun hHeld => ?_)
  clear hK K
  try simp only [Act.put, List.setIfInBounds_toArray, List.set_cons_zero, List.set_cons_succ]
  refine wpAnyH_take (i := 8) (oi := { dst := some 56, op := Op.binOp BinOp.eql 3 (Operand.tmp 55) (Operand.const (Value.int IntKind.i64 4)) 3, type := 4, pos := "law.go:26", after := #[{ on := 7, ground := Ground.data }, { on := 6, ground := Ground.guard }], guard := some (6, true) }) (v := .bool true) rfl (by kernel_rfl) (by kernel_rfl) (by kernel_rfl) (fun _ _ _ h => h) (Or.inl ⟨by rfl, by intro w hSw; go_simp⟩) hHeld ?_
  try simp only [Act.put, List.setIfInBounds_toArray, List.set_cons_zero, List.set_cons_succ]
  refine wpAnyH_take (i := 9) (oi := { dst := some 57, op := Op.pick (Operand.tmp 54) (Operand.tmp 56) (Operand.const (Value.bool false)), type := 4, pos := "law.go:26", after := #[{ on := 6, ground := Ground.data }, { on := 8, ground := Ground.data }], guard := none }) (v := .bool true) rfl (by kernel_rfl) (by kernel_rfl) (by kernel_rfl) (fun _ _ _ h => h) (Or.inl ⟨by rfl, by intro w hSw; go_simp⟩) hHeld ?_
  try simp only [Act.put, List.setIfInBounds_toArray, List.set_cons_zero, List.set_cons_succ]
  refine wpAnyH_take (i := 10) (oi := { dst := some 58, op := Op.move (Operand.tmp 57), type := 4, pos := "law.go:26", after := #[{ on := 9, ground := Ground.data }, { on := 7, ground := Ground.chain }], guard := none }) (v := .bool true) rfl (by kernel_rfl) (by kernel_rfl) (by kernel_rfl) (fun _ _ _ h => h) (Or.inl ⟨by rfl, by intro w hSw; go_simp⟩) hHeld ?_
  try simp only [Act.put, List.setIfInBounds_toArray, List.set_cons_zero, List.set_cons_succ]
  refine wpAnyH_take (i := 11) (oi := { dst := some 59, op := Op.move (Operand.tmp 4), type := 22, pos := "law.go:26", after := #[{ on := 10, ground := Ground.guard }], guard := some (10, true) }) (v := .slice (some ⟨gl, 0, none⟩) 3 3) rfl (by kernel_rfl) (by kernel_rfl) (by kernel_rfl) (fun _ _ _ h => h) (Or.inl ⟨by rfl, by intro w hSw; go_simp⟩) hHeld ?_
  try simp only [Act.put, List.setIfInBounds_toArray, List.set_cons_zero, List.set_cons_succ]
  refine wpAnyH_take (i := 13) (oi := { dst := some 61, op := Op.load 29 (Operand.tmp 1), type := 29, pos := "law.go:26", after := #[{ on := 10, ground := Ground.guard }], guard := some (10, true) }) (v := .agg LA.toArray) rfl (by kernel_rfl) (by kernel_rfl) (by kernel_rfl) (fun _ _ _ h => h) (yieldsIf_load_mid (by rfl) 29 (.tmp 1) rfl _ 0 rfl LA _ (fun _ h => EA.out ▸ h.abc.ra) Tryd.underlying29 rfl zA) hHeld ?_
  try simp only [Act.put, List.setIfInBounds_toArray, List.set_cons_zero, List.set_cons_succ]
  refine wpAnyH_take (i := 14) (oi := { dst := some 62, op := Op.load 29 (Operand.tmp 2), type := 29, pos := "law.go:26", after := #[{ on := 10, ground := Ground.guard }], guard := some (10, true) }) (v := .agg LB.toArray) rfl (by kernel_rfl) (by kernel_rfl) (by kernel_rfl) (fun _ _ _ h => h) (yieldsIf_load_mid (by rfl) 29 (.tmp 2) rfl _ 0 rfl LB _ (fun _ h => EB.out ▸ h.abc.rb) Tryd.underlying29 rfl zB) hHeld ?_
  try simp only [Act.put, List.setIfInBounds_toArray, List.set_cons_zero, List.set_cons_succ]
  refine wpAnyH_take (i := 16) (oi := { dst := some 64, op := Op.load 29 (Operand.tmp 3), type := 29, pos := "law.go:26", after := #[{ on := 10, ground := Ground.guard }], guard := some (10, true) }) (v := .agg LC.toArray) rfl (by kernel_rfl) (by kernel_rfl) (by kernel_rfl) (fun _ _ _ h => h) (yieldsIf_load_mid (by rfl) 29 (.tmp 3) rfl _ 0 rfl LC _ (fun _ h => EC.out ▸ h.abc.rc) Tryd.underlying29 rfl zC) hHeld ?_
  try simp only [Act.put, List.setIfInBounds_toArray, List.set_cons_zero, List.set_cons_succ]
  refine wpAnyH_ready (rs := [12]) (by kernel_rfl) (by simp) ?_
  refine AllReadyH.cons (o := { dst := some 60, op := Op.call { callee := Callee.value (Operand.func 7), args := #[Operand.tmp 59], argTypes := #[22] }, type := 29, pos := "law.go:26", after := #[{ on := 11, ground := Ground.data }, { on := 10, ground := Ground.chain }, { on := 10, ground := Ground.guard }], guard := some (10, true) }) rfl (fun K hK => ?_) AllReadyH.nil
  go_simp
  refine (RT.out _ hHeld.abc).mono ?_
  rintro e w7 ⟨rfl, hb7⟩
  go_wp2_with fail
  refine hK.out _ _ (hHeld.keep hb7) (fun hHeld => ?_)
  clear hK K
  try simp only [Act.put, List.setIfInBounds_toArray, List.set_cons_zero, List.set_cons_succ]
  refine wpAnyH_ready (rs := [15]) (by kernel_rfl) (by simp) ?_
  refine AllReadyH.cons (o := { dst := some 63, op := Op.call { callee := Callee.value (Operand.func 11), args := #[Operand.tmp 61, Operand.tmp 62], argTypes := #[29, 29] }, type := 29, pos := "law.go:26", after := #[{ on := 13, ground := Ground.data }, { on := 14, ground := Ground.data }, { on := 12, ground := Ground.chain }, { on := 10, ground := Ground.guard }], guard := some (10, true) }) rfl (fun K hK => ?_) AllReadyH.nil
  go_simp
  refine (hK1.out _ hHeld.abc.low).mono ?_
  rintro e w8 ⟨rfl, hb8⟩
  go_wp2_with fail
  refine hK.out _ _ (hHeld.keep hb8) (fun hHeld => ?_)
  clear hK K
  try simp only [Act.put, List.setIfInBounds_toArray, List.set_cons_zero, List.set_cons_succ]
  refine wpAnyH_ready (rs := [17]) (by kernel_rfl) (by simp) ?_
  refine AllReadyH.cons (o := { dst := some 65, op := Op.call { callee := Callee.value (Operand.func 11), args := #[Operand.tmp 63, Operand.tmp 64], argTypes := #[29, 29] }, type := 29, pos := "law.go:26", after := #[{ on := 15, ground := Ground.data }, { on := 16, ground := Ground.data }, { on := 15, ground := Ground.chain }, { on := 10, ground := Ground.guard }], guard := some (10, true) }) rfl (fun K hK => ?_) AllReadyH.nil
  go_simp
  refine (hK2.out _ hHeld.abc.low).mono ?_
  rintro e w9 ⟨rfl, hb9⟩
  go_wp2_with fail
  refine hK.out _ _ (hHeld.keep hb9) (fun hHeld => ?_)
  clear hK K
  try simp only [Act.put, List.setIfInBounds_toArray, List.set_cons_zero, List.set_cons_succ]
  refine wpAnyH_take (i := 18) (oi := { dst := some 66, op := Op.binOp BinOp.eql 29 (Operand.tmp 60) (Operand.tmp 65) 29, type := 4, pos := "law.go:26", after := #[{ on := 12, ground := Ground.data }, { on := 17, ground := Ground.data }, { on := 10, ground := Ground.guard }], guard := some (10, true) }) (v := .bool true) rfl (by kernel_rfl) (by kernel_rfl) (by kernel_rfl) (fun _ _ _ h => h) (Or.inl ⟨by rfl, by intro W hSw; have := eR W; go_simp⟩) hHeld ?_
  try simp only [Act.put, List.setIfInBounds_toArray, List.set_cons_zero, List.set_cons_succ]
  refine wpAnyH_take (i := 19) (oi := { dst := some 67, op := Op.pick (Operand.tmp 58) (Operand.tmp 66) (Operand.const (Value.bool false)), type := 4, pos := "law.go:26", after := #[{ on := 10, ground := Ground.data }, { on := 18, ground := Ground.data }], guard := none }) (v := .bool true) rfl (by kernel_rfl) (by kernel_rfl) (by kernel_rfl) (fun _ _ _ h => h) (Or.inl ⟨by rfl, by intro w hSw; go_simp⟩) hHeld ?_
  try simp only [Act.put, List.setIfInBounds_toArray, List.set_cons_zero, List.set_cons_succ]
  refine wpAnyH_take (i := 20) (oi := { dst := some 15, op := Op.assign (Operand.tmp 67), type := 4, pos := "law.go:26", after := #[{ on := 19, ground := Ground.data }, { on := 17, ground := Ground.chain }, { on := 0, ground := Ground.phase }, { on := 1, ground := Ground.phase }, { on := 2, ground := Ground.phase }, { on := 3, ground := Ground.phase }, { on := 4, ground := Ground.phase }, { on := 5, ground := Ground.phase }, { on := 6, ground := Ground.phase }, { on := 7, ground := Ground.phase }, { on := 8, ground := Ground.phase }, { on := 9, ground := Ground.phase }, { on := 10, ground := Ground.phase }, { on := 11, ground := Ground.phase }, { on := 12, ground := Ground.phase }, { on := 13, ground := Ground.phase }, { on := 14, ground := Ground.phase }, { on := 15, ground := Ground.phase }, { on := 16, ground := Ground.phase }, { on := 17, ground := Ground.phase }, { on := 18, ground := Ground.phase }, { on := 19, ground := Ground.phase }], guard := none }) (v := .bool true) rfl (by kernel_rfl) (by kernel_rfl) (by kernel_rfl) (fun _ _ _ h => h) (Or.inl ⟨by rfl, by intro w hSw; go_simp⟩) hHeld ?_
  try simp only [Act.put, List.setIfInBounds_toArray, List.set_cons_zero, List.set_cons_succ]
  refine wpAnyH_done (by kernel_rfl) ?_ _
  have H9 : Hid (Abcs a b c gA gB gC gl ap cp aq cq ar cr w w9) := hHeld
  clear hHeld RT S1 S5 S8 hK2
  obtain ⟨L2, HL2⟩ : ∃ L, Hid (L = (cellsOf [b, c].flatten).toArray) := ⟨_, (rfl : (cellsOf [b, c].flatten).toArray = _)⟩
  have hbc : Digs32 [b, c] := fun d hd => by
    simp only [List.mem_cons, List.not_mem_nil, or_false] at hd
    rcases hd with rfl | rfl <;> assumption
  have hb2 : Hid (∀ W, (Instr.buildSlice 22 2 #[(0, .agg LB.toArray), (1, .agg LC.toArray)]).run Tryd.prog W = .ok (.slice (some ⟨W.heap.size, 0, none⟩) 2 2) (W.alloc (.cells L2 29))) := fun W => by
    rw [HL2.out]
    exact run_build_digs W 2 [b, c] hbc rfl (by omega) (by omega) _ (by rw [HB.out, HC.out]; rfl)
  have hb1k : Hid (∀ W, (Instr.buildSlice 22 1 #[(0, .agg K)]).run Tryd.prog W = .ok (.slice (some ⟨W.heap.size, 0, none⟩) 1 1) (W.alloc (.cells K 29))) := fun W => build_one W _ hk32 K HKk
  have hb1c : Hid (∀ W, (Instr.buildSlice 22 1 #[(0, .agg LC.toArray)]).run Tryd.prog W = .ok (.slice (some ⟨W.heap.size, 0, none⟩) 1 1) (W.alloc (.cells LC.toArray 29))) := fun W => build_one W _ hc _ HC
  have D1 : Hid (∀ W, Abcs a b c gA gB gC gl ap cp aq cq ar cr w W → Calls Tryd.prog 8 #[.slice ap 2 cp, .slice (some ⟨W.heap.size, 0, none⟩) 2 2] (W.alloc (.cells L2 29)) fun e w' => e = .returned (.bool true) ∧ Below W.heap.size W w') := fun W h => by
    have hal : Below W.heap.size W (W.alloc (.cells L2 29)) := (Below.refl _ _).alloc (Nat.le_refl _) _
    refine (same_digs ap _ 2 cp 2 [b, c] _ (h.p.keep hal) (LReads.new W [b, c] 2 rfl hbc (by omega) L2 HL2)).mono ?_
    rintro e w' ⟨rfl, hb⟩
    exact ⟨rfl, hal.trans (hb.mono hal.size)⟩
  have D2 : Hid (∀ W, Abcs a b c gA gB gC gl ap cp aq cq ar cr w W → Calls Tryd.prog 8 #[.slice aq 1 cq, .slice (some ⟨W.heap.size, 0, none⟩) 1 1] (W.alloc (.cells K 29)) fun e w' => e = .returned (.bool true) ∧ Below W.heap.size W w') := fun W h => by
    have hal : Below W.heap.size W (W.alloc (.cells K 29)) := (Below.refl _ _).alloc (Nat.le_refl _) _
    refine (same_digs aq _ 1 cq 1 [knotD a b] _ (h.q.keep hal) (LReads.new W [knotD a b] 1 rfl (.one hk32) (by omega) K (by show _ = _; rw [HKk.out]; simp))).mono ?_
    rintro e w' ⟨rfl, hb⟩
    exact ⟨rfl, hal.trans (hb.mono hal.size)⟩
  have D3 : Hid (∀ W, Abcs a b c gA gB gC gl ap cp aq cq ar cr w W → Calls Tryd.prog 8 #[.slice ar 1 cr, .slice (some ⟨W.heap.size, 0, none⟩) 1 1] (W.alloc (.cells LC.toArray 29)) fun e w' => e = .returned (.bool true) ∧ Below W.heap.size W w') := fun W h => by
    have hal : Below W.heap.size W (W.alloc (.cells LC.toArray 29)) := (Below.refl _ _).alloc (Nat.le_refl _) _
    refine (same_digs ar _ 1 cr 1 [c] _ (h.r.keep hal) (LReads.new W [c] 1 rfl (.one hc) (by omega) LC.toArray (by show _ = _; rw [HC.out]; simp))).mono ?_
    rintro e w' ⟨rfl, hb⟩
    exact ⟨rfl, hal.trans (hb.mono hal.size)⟩
  clear hbc
  go_wp2_with (first
    | (refine wpList_load_mid_w (by rfl) 29 (.tmp 2) rfl gB 0 rfl LB _ (EB.out ▸ H9.out.abc.rb) Tryd.underlying29 rfl zB ?_; try simp only [Act.put, List.setIfInBounds_toArray, List.set_cons_zero, List.set_cons_succ])
    | (refine wpList_load_mid_w (by rfl) 29 (.tmp 3) rfl gC 0 rfl LC _ (EC.out ▸ H9.out.abc.rc) Tryd.underlying29 rfl zC ?_; try simp only [Act.put, List.setIfInBounds_toArray, List.set_cons_zero, List.set_cons_succ])
    | (refine wpList_build_run_w (by rfl) 22 2 _ rfl #[(0, .agg LB.toArray), (1, .agg LC.toArray)] rfl _ _ (hb2.out w9) ?_; try simp only [Act.put, List.setIfInBounds_toArray, List.set_cons_zero, List.set_cons_succ])
    | fail)
  refine (D1.out _ H9.out).mono ?_
  rintro e w10 ⟨rfl, hb10⟩
  have H10 : Hid (Abcs a b c gA gB gC gl ap cp aq cq ar cr w w10) := H9.out.keep hb10
  clear hb10 H9 D1 hb2
  go_wp2_with (first
    | (refine wpList_load_mid_w (by rfl) 29 (.tmp 1) rfl gA 0 rfl LA _ (EA.out ▸ H10.out.abc.ra) Tryd.underlying29 rfl zA ?_; try simp only [Act.put, List.setIfInBounds_toArray, List.set_cons_zero, List.set_cons_succ])
    | (refine wpList_load_mid_w (by rfl) 29 (.tmp 2) rfl gB 0 rfl LB _ (EB.out ▸ H10.out.abc.rb) Tryd.underlying29 rfl zB ?_; try simp only [Act.put, List.setIfInBounds_toArray, List.set_cons_zero, List.set_cons_succ])
    | fail)
  refine (hK1.out _ H10.out.abc.low).mono ?_
  rintro e w11 ⟨rfl, hb11⟩
  have H11 : Hid (Abcs a b c gA gB gC gl ap cp aq cq ar cr w w11) := H10.out.keep hb11
  clear hb11 H10 hK1
  go_wp2_with (first
    | (refine wpList_build_run_w (by rfl) 22 1 _ rfl #[(0, .agg K)] rfl _ _ (hb1k.out w11) ?_; try simp only [Act.put, List.setIfInBounds_toArray, List.set_cons_zero, List.set_cons_succ])
    | fail)
  refine (D2.out _ H11.out).mono ?_
  rintro e w12 ⟨rfl, hb12⟩
  have H12 : Hid (Abcs a b c gA gB gC gl ap cp aq cq ar cr w w12) := H11.out.keep hb12
  clear hb12 H11 D2 hb1k
  go_wp2_with (first
    | (refine wpList_load_mid_w (by rfl) 29 (.tmp 3) rfl gC 0 rfl LC _ (EC.out ▸ H12.out.abc.rc) Tryd.underlying29 rfl zC ?_; try simp only [Act.put, List.setIfInBounds_toArray, List.set_cons_zero, List.set_cons_succ])
    | (refine wpList_build_run_w (by rfl) 22 1 _ rfl #[(0, .agg LC.toArray)] rfl _ _ (hb1c.out w12) ?_; try simp only [Act.put, List.setIfInBounds_toArray, List.set_cons_zero, List.set_cons_succ])
    | fail)
  refine (D3.out _ H12.out).mono ?_
  rintro e w13 ⟨rfl, hb13⟩
  have H13 : Hid (Below w.heap.size w w13) := (H12.out.keep hb13).abc.low
  clear hb13 H12 D3 hb1c
  go_wp2
  go_ret
  exact ⟨rfl, H13.out⟩
end Go.Proofs.YtpjchiihiclhiabDoor
