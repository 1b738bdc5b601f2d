/- Texts of our own that the row of TopJournal leans on, part 45. -/
import Derived.Test.YtgclohgcehhfnabGreatDoorTopJournalJ0
import Derived.Test.YtgclohgcehhfnabGreatDoorTopJournalJ8
import Derived.Test.YtgclohgcehhfnabGreatDoorTopJournalJ35
import Derived.Test.YtgclohgcehhfnabGreatDoorTopJournalJ39
import Derived.Test.YtgclohgcehhfnabGreatDoorTopJournalJ44
import Derived.Laws.CopyRow
import Derived.Laws.IdiomCopy
/- The program's disk: what its places have, copied; Read. -/
namespace Go.Proofs.YtgclohgcehhfnabGreatDoor
open Go.RowKit Nums
set_option linter.unusedVariables false
set_option linter.unusedSimpArgs false
set_option maxRecDepth 100000
theorem LiesD.reads {w : World} {p g : Nat} {pv : Value} {C : Nat → PwT} {D : DkT} (h : LiesD w p g pv C D) (ok : OkD D) : Reads w (some ⟨g, 0, none⟩) D.safe.length D.safe.length (nowB D) := by
  have hn := nowB_length ok
  have hr := ok.room
  refine ⟨hn, Nat.le_refl _, by omega, .inr (.inr ⟨g, 0, rfl, heap_lt h.now, fun i hi => ?_⟩)⟩
  rw [Nat.zero_add, cell_of_row w g i _ 5 (0, 0) h.now]
  simp [cellsOf, hi]
theorem wpList_copy_run9 {P : Program} {w : World} {ops : Array Oper} {rest : List Oper} {o : Oper} {a : Act} {Q : Exit → Act → World → Prop} (hgd : o.guard = none) (s x : Operand) (t u : TypeId)
    (ho : o.op = .call { callee := .builtin .copy, args := #[s, x], argTypes := #[t, u] }) (vs vx v' : Value) (w' : World) (hs : a.eval s = vs) (hx : a.eval x = vx)
    (hrun : (Builtin.copy_ #[t, u] o.type #[vs, vx]).run P w = .ok v' w') (h : wpList P ops Q rest (a.put o.dst v') w') : wpList P ops Q (o :: rest) a w := by
  refine wpList_plain hgd fun K hK => ?_
  unfold Oper.wp execOp
  simp only [ho, resolve, invoke, builtin, Sem.run_bind, Sem.run_pure, Result.andThen_ok, List.map_toArray, List.map_cons, List.map_nil, hs, hx, hrun]
  exact hK _ _ h
theorem run_copy_first (w : World) (ty g : Nat) (s : List UInt8) (hg : w.heap[g]? = some (.cells (cellsOf s).toArray 5 (0, 0))) (dCap : Nat) (a : Option Addr) (sLen sCap : Nat) (b : List UInt8) (hR : Reads w a sLen sCap b) (hfit : s.length ≤ sLen) :
    ∃ w', (Builtin.copy_ #[34, 34] ty #[.slice (some ⟨g, 0, none⟩) s.length dCap, .slice a sLen sCap]).run Tryz.prog w = .ok (goInt s.length) w' ∧ w'.heap[g]? = some (.cells (cellsOf (b.take s.length)).toArray 5 (0, 0)) ∧ w.grownBy w' (some g) := by
  have hs1 : (Tryz.prog.info? 5).map (·.size) = some 1 := by kernel_rfl
  have hbl := hR.1
  by_cases h0 : s.length = 0
  · obtain rfl : s = [] := List.eq_nil_of_length_eq_zero h0
    exact ⟨w, run_copy_none w 34 34 ty 5 _ a 0 dCap sLen sCap Tryz.underlying34 hs1 (by simp), hg, World.grownBy.refl _ _⟩
  · rcases hR.2.2.2 with ⟨_, h⟩ | ⟨_, _, h⟩ | ⟨g0, off, rfl, hlt, hc⟩
    · have := hR.2.1; omega
    · omega
    · have htl : (b.take s.length).length = s.length := by rw [List.length_take]; omega
      have hcl := cellsOf_length (b.take s.length)
      refine ⟨_, ?_, setRow_heap w g _ _ 5 _ hg, ?_⟩
      · have := run_copy_row (P := Tryz.prog) w 34 34 ty 5 g 0 s.length dCap ⟨g0, off, none⟩ sLen sCap (cellsOf s).toArray 5 (cellsOf (b.take s.length)) Tryz.underlying34 hs1 hg (by rw [hcl, htl]; exact (Nat.min_eq_right hfit).symm) (fun j v hj => by
          rw [add_plain]
          have hjl : j < (b.take s.length).length := by
            rcases Nat.lt_or_ge j (b.take s.length).length with h | h
            · exact h
            · rw [List.getElem?_eq_none (by rw [hcl]; exact h)] at hj; cases hj
          have hjb : j < b.length := by omega
          rw [hc j hjb]
          rw [htl] at hjl
          simpa [cellsOf, List.getElem?_take_of_lt hjl, List.getElem?_eq_getElem hjb] using hj) (by rw [hcl, htl]; simp [cellsOf_length]) (fun v hv => cellsOf_one _ v hv)
        rw [hcl, htl] at this
        rw [this]
        congr 3
        simp [cellsOf]
      · exact ⟨rfl, rfl, rfl, by simp, fun k hk hn => setRow_other w g k _ (fun e => hn (by rw [e]))⟩
set_option maxHeartbeats 4000000 in
theorem oCopied (w : World) (p g : Nat) (pv : Value) (C : Nat → PwT) (D : DkT) (h : LiesD w p g pv C D) (ok : OkD D) (q k : Nat) (hin : q + k ≤ D.safe.length) :
    Calls Tryz.prog 69 #[ptr p, .int .i64 q, .int .i64 k] w fun e w' => ∃ a' cap', e = .returned (.slice a' k cap') ∧ OutB w.heap.size w' a' cap' (((nowB D).drop q).take k) ∧ Below w.heap.size w w' := by
  have hr := ok.room
  have hnl := nowB_length ok
  have hRd := h.reads ok
  have hpw := heap_lt h.row
  obtain ⟨c0, -⟩ := h.c
  obtain ⟨m, Hm⟩ : ∃ m, Hid (m = D.safe.length) := ⟨_, hidd rfl⟩
  rw [← Hm.out] at hin hr hRd hnl c0
  obtain ⟨l, Hl⟩ : ∃ l, Hid (l = ((nowB D).drop q).take k) := ⟨_, hidd rfl⟩
  rw [← Hl.out]
  have hlk : l.length = k := by rw [Hl.out, List.length_take, List.length_drop]; omega
  have hpart := hRd.part q m (by omega) (Nat.le_refl _)
  obtain ⟨x, Hx⟩ : ∃ x, Hid (x = subA (some ⟨g, 0, none⟩) m q) := ⟨_, hidd rfl⟩
  obtain ⟨cp, Hcp⟩ : ∃ x, Hid (x = m - q) := ⟨_, hidd rfl⟩
  rw [← Hx.out, ← Hcp.out] at hpart
  have SL : ∀ V : World, (Instr.sliceAt 34 (.slice (some ⟨g, 0, none⟩) m m) (some (.int .i64 (q : Int))) none none).run Tryz.prog V = .ok (.slice x cp cp) V := fun V => by
    have := slice_back V (some ⟨g, 0, none⟩) m m q (by omega) (Nat.le_refl _)
    rw [Hx.out, Hcp.out]; exact this
  have NX : Hid (∀ g1 w1, Hid (Made g1 (cellsOf (List.replicate k 0)).toArray 5 w w1) → ∃ w2, (Builtin.copy_ #[34, 34] 3 #[.slice (some ⟨g1, 0, none⟩) k k, .slice x cp cp]).run Tryz.prog w1 = .ok (.int .i64 k) w2 ∧ w1.cell? ⟨p, 0, none⟩ = some (.slice (some ⟨g, 0, none⟩) m m) ∧ OutB w.heap.size w2 (some ⟨g1, 0, none⟩) k l ∧ Below w.heap.size w w2) := fun g1 w1 HM => by
    have hlr : (List.replicate k (0 : UInt8)).length = k := List.length_replicate
    obtain ⟨w2, hrun, hrow, hgr⟩ := run_copy_first w1 3 g1 (List.replicate k 0) HM.out.row k x cp cp _ (hpart.below HM.out.below) (by rw [hlr, Hcp.out]; omega)
    rw [hlr] at hrun hrow
    have ht : ((List.take cp (List.drop q (nowB D))).take k) = l := by rw [Hl.out, List.take_take, Hcp.out, Nat.min_eq_left (by omega)]
    rw [ht] at hrow
    have hg1 : g1 = w.heap.size := HM.out.new
    refine ⟨w2, hrun, (HM.out.below.cell (p := ⟨p, 0, none⟩) hpw).trans c0, ⟨⟨rfl, by omega, by omega, .inr (.inr ⟨g1, 0, rfl, heap_lt hrow, fun i hi => ?_⟩)⟩, .inr ⟨g1, 0, rfl, by omega, fun i _ => frozen_of_row w2 g1 (0 + i) _ _ hrow⟩⟩, HM.out.below.grown hgr HM.out.below.size (by intro k hk; cases hk; omega)⟩
    rw [Nat.zero_add, cell_of_row w2 g1 i _ 5 (0, 0) hrow]
    simp [cellsOf, hi]
  have hk6 : k ≤ 1000000 := by omega
  unfold ptr
  clear hRd hnl h ok Hm hpart Hx Hcp hlk Hl
  go_enter Tryz.func69, Tryz.ntmps69
  go_wp2_with (first
    | ((with_reducible show aD 9 _ _ _ _ _ _ _ _ _ _ _); refine wpList_make_row rfl (.tmp 8) (.tmp 8) rfl k rfl rfl hk6 ?_; intro g1 w1 HM; obtain ⟨w2, hrun, hc0, hO, hB⟩ := NX.out g1 w1 HM; have HRUN := hidd hrun; have HO := hidd hO; have HB := hidd hB; clear hrun hO hB NX c0; try simp only [Act.put, pS1, pS2, pS3])
    | ((with_reducible show aD 17 _ _ _ _ _ _ _ _ _ _ _); refine wpList_copy_run9 (by rfl) (.tmp 10) (.tmp 16) 34 34 (by rfl) _ _ _ _ (by rfl) (by rfl) HRUN.out ?_)
    | fail)
  go_ret
  exact ⟨_, _, rfl, HO.out, HB.out⟩
set_option maxHeartbeats 4000000 in
theorem oRead (w : World) (p : Nat) (D : DkT) (S : Nat → Prop) (h : OAt w p D S) (at_ n : Int) (ha : In64 at_) (hn : In64 n) :
    Calls Tryz.prog 42 #[ptr p, .int .i64 at_, .int .i64 n] w fun e w' => (∃ a cap, e = .returned (.tuple #[.slice a (rdB D at_ n).length cap, .int .i64 (rdE D at_ n)]) ∧ OutB w.heap.size w' a cap (rdB D at_ n)) ∧ Below w.heap.size w w' := by
  obtain ⟨ok, g, pv, C, hL, hS⟩ := h
  have hr := ok.room
  have hnl := nowB_length ok
  have HAS := hidd (oHas w p g pv C D hL hr.2 at_ n ha hn)
  cases hi : inB D.safe.length at_ n
  case false =>
    have e1 : rdB D at_ n = [] := by unfold rdB; rw [if_neg (by rw [hi]; decide)]
    have e2 : rdE D at_ n = 81 := by unfold rdE; rw [if_neg (by rw [hi]; decide)]
    rw [hi] at HAS
    rw [e1, e2]
    unfold ptr
    unfold ptr at HAS
    clear e1 e2 hi hnl hr hL hS ok
    go_enter Tryz.func42, Tryz.ntmps42
    go_wp2_with fail
    refine HAS.out.mono ?_
    rintro e W1 ⟨rfl, rfl⟩
    clear HAS
    go_wp2
    go_ret2
    exact ⟨⟨none, 0, rfl, reads_none _, .inl rfl⟩, Below.refl _ _⟩
  case true =>
    have hin := (inB_iff _ _ _).1 hi
    obtain ⟨l, Hl⟩ : ∃ l, Hid (l = rdB D at_ n) := ⟨_, hidd rfl⟩
    have e2 : rdE D at_ n = 0 := by unfold rdE; rw [if_pos hi]
    rw [e2, ← Hl.out]
    rw [hi] at HAS
    obtain ⟨q, rfl⟩ : ∃ q : Nat, at_ = (q : Int) := ⟨at_.toNat, by omega⟩
    obtain ⟨k, rfl⟩ : ∃ k : Nat, n = (k : Int) := ⟨n.toNat, by omega⟩
    have CPY := hidd (oCopied w p g pv C D hL ok q k (by omega))
    rw [show ((nowB D).drop q).take k = l by rw [Hl.out]; unfold rdB; rw [if_pos hi]; rfl] at CPY
    have hlk : l.length = k := by rw [Hl.out]; unfold rdB; rw [if_pos hi, List.length_take, List.length_drop, hnl]; omega
    rw [hlk]
    unfold ptr
    unfold ptr at HAS CPY
    clear e2 hi hnl hL hS ok hlk Hl hr hin
    go_enter Tryz.func42, Tryz.ntmps42
    go_wp2_with fail
    refine HAS.out.mono ?_
    rintro e W1 ⟨rfl, rfl⟩
    clear HAS
    go_wp2_with fail
    refine CPY.out.mono ?_
    rintro e W2 ⟨a', cap', rfl, ho, hb⟩
    have HO := hidd ho
    have HB := hidd hb
    clear ho hb CPY
    go_wp2
    go_ret2
    exact ⟨⟨a', cap', rfl, HO.out⟩, HB.out⟩
set_option maxHeartbeats 2000000 in
theorem oSync (w : World) (p : Nat) (D : DkT) (S : Nat → Prop) (h : OAt w p D S) :
    Calls Tryz.prog 32 #[ptr p] w fun e w' => e = .returned (.int .i64 (syncE D)) ∧ (∃ S', OAt w' p (syncD D) S' ∧ ∀ b, S' b → S b ∨ w.heap.size ≤ b) ∧ Away S w w' := by
  have HA := hidd h
  have ok2 := syncD_ok h.ok
  obtain ⟨ok, g, pv, C, hL, hS⟩ := h
  obtain ⟨c0, c1, c2, c3⟩ := hL.c
  have f1 := hL.fz 1
  have HRF := hidd (lRef w p g pv C D hL)
  unfold ptr at HRF
  cases hd : D.down
  case true =>
    have hE : syncE D = 80 := by unfold syncE; rw [if_pos hd]
    have hD : syncD D = D := by unfold syncD; rw [if_pos hd]
    rw [hE, hD]
    rw [hd, show refE true = 80 from rfl] at HRF
    have HF : Hid ((∃ S', OAt w p D S' ∧ ∀ b, S' b → S b ∨ w.heap.size ≤ b) ∧ Away S w w) := ⟨⟨S, HA.out, fun b e => .inl e⟩, Away.refl _ _⟩
    unfold ptr
    clear hE hD ok2 ok hL hS HA c0 c1 c2 c3 hd f1
    go_enter Tryz.func32, Tryz.ntmps32
    go_wp2_with fail
    refine HRF.out.mono ?_
    rintro e W1 ⟨rfl, rfl⟩
    clear HRF
    go_wp2
    go_ret
    exact ⟨rfl, HF.out⟩
  case false =>
    have hE : syncE D = 0 := by unfold syncE; rw [if_neg (by rw [hd]; decide)]
    have hD : syncD D = stepD { D with safe := nowB D, puts := [] } := by unfold syncD; rw [if_neg (by rw [hd]; decide)]
    rw [hd, show refE false = 0 from rfl] at HRF
    have h1 := Go.heap_setCell_same w p 1 _ _ (.slice none 0 0) hL.row
    have HG := hidd (Lib.grownBy_setCell w p 1 (.slice none 0 0))
    have hgp : g ≠ p := row_ne hL.now hL.row (by decide)
    have ok3 : OkD { D with safe := nowB D, puts := [] } := ⟨by show 1 ≤ (nowB D).length ∧ (nowB D).length ≤ _; rw [nowB_length ok]; exact ok.room, (fun p hp => by cases hp), ok.left, ok.stop⟩
    have HM : Hid (LiesD (w.setCell ⟨p, 1, none⟩ (.slice none 0 0)) p g (.slice none 0 0) C { D with safe := nowB D, puts := [] }) := by
      refine ⟨?_, hL.dn, ?_, World.ownsRow_nil _ _ _ _, (fun i hi => by cases hi), (fun i hi => by cases hi)⟩
      · show (w.setCell ⟨p, 1, none⟩ (.slice none 0 0)).heap[p]? = _
        rw [h1]
        show some (Obj.cells _ _ _) = some (.cells (dCells g (nowB D).length (.slice none 0 0) _) 62 (0, 0))
        rw [nowB_length ok]
        simp [dCells, lfD]
      · exact (HG.out.block g (heap_lt hL.now) (fun e => hgp (Option.some.inj e))).trans hL.now
    have HDN := hidd (oCount _ p g (.slice none 0 0) C { D with safe := nowB D, puts := [] } HM.out ok3 hd)
    have HF : Hid (∀ w', LiesD w' p g (.slice none 0 0) C (stepD { D with safe := nowB D, puts := [] }) → (w.setCell ⟨p, 1, none⟩ (.slice none 0 0)).grownBy w' (some p) → ((∃ S', OAt w' p (syncD D) S' ∧ ∀ b, S' b → S b ∨ w.heap.size ≤ b) ∧ Away S w w')) := fun w' hl hg => by
      refine ⟨⟨memS p g (.slice none 0 0) C 0, ⟨ok2, g, .slice none 0 0, C, by rw [hD]; exact hl, fun b => by rw [hD, (stepD_safe _).2.1]; exact Iff.rfl⟩, fun b hb => .inl ((hS b).2 ?_)⟩, away_grown (gr_trans HG.out hg) ((hS p).2 (.inl rfl))⟩
      rcases hb with e | e | e | ⟨i, hi, _⟩
      · exact .inl e
      · exact .inr (.inl e)
      · cases e
      · cases hi
    rw [hE]
    unfold ptr
    unfold ptr at HDN
    clear hE hD ok2 ok3 ok hL hS HA c0 c2 c3 hd h1 HG HM hgp
    go_enter Tryz.func32, Tryz.ntmps32
    go_wp2_with fail
    refine HRF.out.mono ?_
    rintro e W1 ⟨rfl, rfl⟩
    clear HRF
    go_wp2_with fail
    refine HDN.out.mono ?_
    rintro e W2 ⟨⟨v, rfl⟩, hl, hg⟩
    have HN := hidd (HF.out W2 hl hg)
    clear hl hg HF HDN
    go_wp2
    go_ret
    exact ⟨rfl, HN.out⟩
set_option maxHeartbeats 2000000 in
theorem oNewNo (n : Int) (hn : ¬ (1 ≤ n ∧ n ≤ 1000000)) (w : World) : Calls Tryz.prog 7 #[.int .i64 n] w fun e w' => e = .returned (.tuple #[.pointer none, .int .i64 1]) ∧ Below w.heap.size w w' := by
  by_cases h1 : n < 1
  · have d1 : decide (n < (1 : Int)) = true := by rw [decide_eq_true_eq]; exact h1
    go_enter Tryz.func7, Tryz.ntmps7
    go_wp2
    go_ret2
    exact ⟨rfl, Below.refl _ _⟩
  · have d1 : decide (n < (1 : Int)) = false := by rw [decide_eq_false_iff_not]; exact h1
    have d2 : decide ((1000000 : Int) < n) = true := by rw [decide_eq_true_eq]; omega
    go_enter Tryz.func7, Tryz.ntmps7
    go_wp2
    go_ret2
    exact ⟨rfl, Below.refl _ _⟩
set_option maxHeartbeats 4000000 in
theorem oNew (n : Nat) (hn : 1 ≤ n ∧ n ≤ 1000000) (w : World) :
    Calls Tryz.prog 7 #[.int .i64 n] w fun e w' => ∃ p S, e = .returned (.tuple #[ptr p, .int .i64 0]) ∧ OAt w' p (newD n) S ∧ (∀ b, S b → w.heap.size ≤ b) ∧ Below w.heap.size w w' := by
  have d1 : decide ((n : Int) < (1 : Int)) = false := by rw [decide_eq_false_iff_not]; omega
  have d2 : decide ((1000000 : Int) < (n : Int)) = false := by rw [decide_eq_false_iff_not]; omega
  have hok := newD_ok n hn
  have HF : Hid (∀ g (w1 : World), w1.heap[g]? = some (.cells (cellsOf (List.replicate n 0)).toArray 5 (0, 0)) → w.heap.size ≤ g → Below w.heap.size w w1 → ∃ p S, (.pointer (some ⟨w1.heap.size, 0, none⟩) : Value) = ptr p ∧ OAt (w1.alloc (.cells #[.slice (some ⟨g, 0, none⟩) n n, .slice none 0 0, .bool false, .int .i64 0] 62)) p (newD n) S ∧ (∀ b, S b → w.heap.size ≤ b) ∧ Below w.heap.size w (w1.alloc (.cells #[.slice (some ⟨g, 0, none⟩) n n, .slice none 0 0, .bool false, .int .i64 0] 62))) := fun g w1 hr hg hb => by
    refine ⟨w1.heap.size, memS w1.heap.size g (.slice none 0 0) (fun _ => ⟨0, none, 0, 0⟩) 0, rfl, ⟨hok, g, .slice none 0 0, fun _ => ⟨0, none, 0, 0⟩, ⟨?_, rfl, heap_keep hr, World.ownsRow_nil _ _ _ _, (fun i hi => by cases hi), (fun i hi => by cases hi)⟩, fun b => Iff.rfl⟩, fun b e => ?_, hb.alloc hb.size _⟩
    · rw [heap_alloc_new, show (newD n).safe.length = n from List.length_replicate]
      rfl
    · rcases e with rfl | rfl | e | ⟨i, hi, _⟩
      · exact hb.size
      · exact hg
      · cases e
      · cases hi
  clear hok
  go_enter Tryz.func7, Tryz.ntmps7
  go_wp2_with (first
    | ((with_reducible show aD 11 _ _ _ _ _ _ _ _ _ _ _); refine wpList_make_row rfl (.tmp 10) (.tmp 10) rfl n rfl rfl hn.2 ?_; intro g1 w1 HM; try simp only [Act.put, pS1, pS2, pS3])
    | fail)
  go_ret2
  obtain ⟨p, S, e1, e2, e3, e4⟩ := HF.out g1 w1 HM.out.row (Nat.le_of_eq HM.out.new.symm) HM.out.below
  exact ⟨p, S, by rw [← e1]; rfl, e2, e3, e4⟩
theorem run_copy_done (w : World) (ty g : Nat) (s : List UInt8) (hg : w.heap[g]? = some (.cells (cellsOf s).toArray 5 (0, 0))) (q dLen dCap : Nat) (d a : Option Addr) (sLen sCap : Nat) (b : List UInt8) (hR : Reads w a sLen sCap b) (hfit : q + sLen ≤ s.length) (hd : sLen ≤ dLen) (hda : 0 < sLen → d = some ⟨g, q, none⟩) :
    ∃ w', (Builtin.copy_ #[34, 34] ty #[.slice d dLen dCap, .slice a sLen sCap]).run Tryz.prog w = .ok (goInt sLen) w' ∧ w'.heap[g]? = some (.cells (cellsOf (doneB s (q, b))).toArray 5 (0, 0)) ∧ w.grownBy w' (some g) := by
  have hs1 : (Tryz.prog.info? 5).map (·.size) = some 1 := by kernel_rfl
  have hbl := hR.1
  by_cases h0 : sLen = 0
  · subst h0
    obtain rfl : b = [] := List.eq_nil_of_length_eq_zero hbl
    refine ⟨w, run_copy_none w 34 34 ty 5 d a dLen dCap 0 sCap Tryz.underlying34 hs1 (by simp), ?_, World.grownBy.refl _ _⟩
    rw [done_none]
    exact hg
  · obtain rfl := hda (by omega)
    rcases hR.2.2.2 with ⟨_, h⟩ | ⟨_, _, h⟩ | ⟨g0, off, rfl, hlt, hc⟩
    · have := hR.2.1; omega
    · omega
    · have hcl := cellsOf_length b
      refine ⟨_, ?_, setRow_heap w g _ _ 5 _ hg, ?_⟩
      · have := run_copy_row (P := Tryz.prog) w 34 34 ty 5 g q dLen dCap ⟨g0, off, none⟩ sLen sCap (cellsOf s).toArray 5 (cellsOf b) Tryz.underlying34 hs1 hg (by rw [hcl, hbl]; exact (Nat.min_eq_left hd).symm) (fun j v hj => by
          rw [add_plain]
          have hjl : j < b.length := by
            rcases Nat.lt_or_ge j b.length with h | h
            · exact h
            · rw [List.getElem?_eq_none (by rw [hcl]; exact h)] at hj; cases hj
          rw [hc j hjl]
          simpa [cellsOf, List.getElem?_eq_getElem hjl] using hj) (by rw [hcl, hbl]; simp [cellsOf_length]; omega) (fun v hv => cellsOf_one b v hv)
        rw [hcl, hbl] at this
        rw [this]
        congr 3
        unfold doneB
        simp [cellsOf, hbl]
      · exact ⟨rfl, rfl, rfl, by simp, fun k hk hn => setRow_other w g k _ (fun e => hn (by rw [e]))⟩
def pwL (l : List PwT) : List Value := l.flatMap fun x => [.int .i64 x.at_, .slice x.a x.len x.cap]
theorem pwL_length (l : List PwT) : (pwL l).length = l.length * 2 := by
  induction l with
  | nil => rfl
  | cons x r ih =>
    have e : pwL (x :: r) = [.int .i64 x.at_, .slice x.a x.len x.cap] ++ pwL r := by unfold pwL; rw [List.flatMap_cons]
    rw [e, List.length_append, ih]
    show 2 + r.length * 2 = (r.length + 1) * 2
    omega
theorem pwL_append (l r : List PwT) : pwL (l ++ r) = pwL l ++ pwL r := by unfold pwL; rw [List.flatMap_append]
theorem pwL_one (l : List PwT) : ∀ v ∈ pwL l, v.oneCell' = true := by
  intro v hv
  obtain ⟨x, _, hx⟩ := List.mem_flatMap.1 hv
  simp only [List.mem_cons, List.not_mem_nil, or_false] at hx
  rcases hx with rfl | rfl <;> rfl
theorem pwCells_pwL (C : Nat → PwT) (m : Nat) : pwCells C m = pwL ((List.range m).map C) := by unfold pwCells pwL; rw [List.flatMap_map]
theorem infoW : (Tryz.prog.info? 83).map (fun i => (i.zero, i.size, i.bytes)) = some (some (.agg #[.int .i64 0, .slice none 0 0]), 2, 32) := by kernel_rfl
theorem run_append_pw (W : World) (v : Value) (l : List PwT) (q : PwT) (hown : W.ownsRow 0 83 2 v l.length (pwL l)) (a : Addr)
    (hN : ∀ j u, (pwL [q])[j]? = some u → W.cell? (a.add j) = some u) (hlen : l.length ≤ 1000000) :
    ∃ v' w', (Builtin.append_ #[60, 60] 60 #[v, .slice (some a) 1 1]).run Tryz.prog W = .ok v' w' ∧ w'.ownsRow 0 83 2 v' (l ++ [q]).length (pwL (l ++ [q])) ∧ W.grownBy w' v.ownBlock ∧ (v'.ownBlock = v.ownBlock ∨ ∃ g, v'.ownBlock = some g ∧ W.heap.size ≤ g) := by
  obtain ⟨i0, hi, hz0, hz1, hz2⟩ := info_parts infoW
  have hl1 : (pwL [q]).length = 1 * 2 := pwL_length [q]
  have hu : Tryz.prog.underlying 60 = some (.slice 83) := Tryz.underlying60
  obtain ⟨v', w', hr, ho, hg, _⟩ := run_append_own (P := Tryz.prog) W 0 60 60 83 i0 _ 2 32 hu hi hz0 hz1 hz2 (by rfl) (by decide) v l.length _ hown a 1 1 (pwL [q])
    hl1 hN (pwL_one _) (by unfold maxLen; omega) (by omega) (Nat.zero_le _)
  refine ⟨v', w', hr, ?_, hg, ?_⟩
  · rw [List.length_append, pwL_append]
    exact ho
  · have hi1 : (pwL [q]).length = 1 * i0.size := by rw [hz1, hl1]
    rcases hown.2 with ⟨rfl, h0⟩ | ⟨g, cap, cur, rfl, hbg, hgg, hnc, hcm, hcs, htake⟩
    · have := run_append_nil (P := Tryz.prog) W 60 60 83 i0 _ hu hi hz0 a 1 1 (pwL [q]) hi1 hN (by omega) (by omega) (by omega)
      rw [hr] at this
      cases this
      exact .inr ⟨W.heap.size, rfl, Nat.le_refl _⟩
    · by_cases hroom : l.length + 1 ≤ cap
      · have := run_append_room (P := Tryz.prog) W 60 60 83 i0 hu hi g l.length cap cur hgg a 1 1 (pwL [q]) hi1 hN (pwL_one _) hroom (by rw [hz1, hl1, hcs]; omega)
        rw [hr] at this
        cases this
        exact .inl rfl
      · have hx : (pwL l).length = l.length * i0.size := by rw [hz1]; exact hown.1
        have := run_append_grow (P := Tryz.prog) W 60 60 83 i0 _ hu hi hz0 ⟨g, 0, none⟩ l.length cap (pwL l) hx (hown.cells (g := g) rfl) a 1 1 (pwL [q]) hi1 hN (by omega) (by omega) (growslice_fits (by omega) (by rw [hz2]; omega))
        rw [hr] at this
        cases this
        exact .inr ⟨W.heap.size, rfl, Nat.le_refl _⟩
def putC (C : Nat → PwT) (m : Nat) (x : PwT) (i : Nat) : PwT := if i < m then C i else x
theorem putC_range (C : Nat → PwT) (m : Nat) (x : PwT) : (List.range (m + 1)).map (putC C m x) = (List.range m).map C ++ [x] := by
  rw [List.range_succ, List.map_append]
  congr 1
  · apply List.map_congr_left
    intro i hi
    unfold putC
    rw [if_pos (List.mem_range.1 hi)]
  · show [putC C m x m] = [x]
    unfold putC
    rw [if_neg (by omega)]
theorem foldK_put (D : DkT) (at_ : Int) (b : List UInt8) (i : Nat) (hi : i ≤ D.puts.length) : foldK (putD D at_ b) i = foldK D i := by
  unfold foldK putD
  show ((D.puts ++ [_]).take i).foldl doneB D.safe = _
  rw [List.take_append_of_le_length hi]
theorem LiesD.put {w w1 w3 w5 : World} {p g : Nat} {pv pv' : Value} {C : Nat → PwT} {D : DkT} (h : LiesD w p g pv C D) (ok : OkD D) {q : Nat} {bs old : List UInt8} {a' : Option Addr} {c' : Nat} {o : Obj}
    (hb1 : Below w.heap.size w w1) (hO : OutB w.heap.size w1 a' c' old) (hold : old = oldB (nowB D) (q, bs)) (hlen : old.length = bs.length) (hfit : q + bs.length ≤ D.safe.length)
    (ho : w3.ownsRow 0 83 2 pv' (D.puts.length + 1) (pwCells (putC C D.puts.length ⟨q, a', bs.length, c'⟩) (D.puts.length + 1)))
    (hg3 : (w1.alloc o).grownBy w3 pv.ownBlock) (hpv : pv'.ownBlock = pv.ownBlock ∨ ∃ x, pv'.ownBlock = some x ∧ (w1.alloc o).heap.size ≤ x)
    (hn5 : w5.heap[g]? = some (.cells (cellsOf (doneB (nowB D) (q, bs))).toArray 5 (0, 0))) (hg5 : (w3.setCell ⟨p, 1, none⟩ pv').grownBy w5 (some g)) :
    LiesD w5 p g pv' (putC C D.puts.length ⟨q, a', bs.length, c'⟩) (putD D q bs) ∧ Away (memS p g pv C D.puts.length) w w5 ∧ ∀ b, memS p g pv' (putC C D.puts.length ⟨q, a', bs.length, c'⟩) (D.puts.length + 1) b → memS p g pv C D.puts.length b ∨ w.heap.size ≤ b := by
  have hgp : g ≠ p := row_ne h.now h.row (by decide)
  have hp := heap_lt h.row
  have hgl := heap_lt h.now
  have hpvl := own_lt h.list
  have hpp : pv.ownBlock ≠ some p := by
    intro e
    rcases h.list.2 with ⟨rfl, _⟩ | ⟨x, cap, cur, rfl, _, hq, _⟩
    · cases e
    · obtain rfl : x = p := Option.some.inj e
      exact row_ne hq h.row (by decide) rfl
  have hpg : pv.ownBlock ≠ some g := by
    intro e
    rcases h.list.2 with ⟨rfl, _⟩ | ⟨x, cap, cur, rfl, _, hq, _⟩
    · cases e
    · obtain rfl : x = g := Option.some.inj e
      exact row_ne hq h.now (by decide) rfl
  have hsz2 : (w1.alloc o).heap.size = w1.heap.size + 1 := by simp
  have hs1 := hb1.size
  have hs3 := hg3.size
  have g4 := Lib.grownBy_setCell w3 p 1 pv'
  have hs4 := g4.size
  have hs5 := hg5.size
  -- a block that was there behind w1, and is neither the disk's row, its bytes nor the list
  have stay1 : ∀ b, b < w1.heap.size → b ≠ p → b ≠ g → pv.ownBlock ≠ some b → w5.heap[b]? = w1.heap[b]? := fun b hb e1 e2 e3 =>
    (hg5.block b (by omega) (fun e => e2 (Option.some.inj e))).trans ((g4.block b (by omega) (fun e => e1 (Option.some.inj e))).trans ((hg3.block b (by omega) (fun e => e3 e.symm)).trans (Below.heap_alloc w1 o b hb)))
  have stay : ∀ b, b < w.heap.size → b ≠ p → b ≠ g → pv.ownBlock ≠ some b → w5.heap[b]? = w.heap[b]? := fun b hb e1 e2 e3 => (stay1 b (by omega) e1 e2 e3).trans (hb1.block b hb)
  have hrow3 : w3.heap[p]? = w.heap[p]? := (hg3.block p (by omega) (fun e => hpp e.symm)).trans ((Below.heap_alloc w1 o p (by omega)).trans (hb1.block p hp))
  have hml : (putD D q bs).puts.length = D.puts.length + 1 := by show (D.puts ++ [_]).length = _; rw [List.length_append]; rfl
  have hpv' : ∀ b, pv'.ownBlock = some b → b ≠ p ∧ b ≠ g := by
    intro b e
    rcases hpv with e2 | ⟨x, e2, hx⟩
    · rw [e2] at e
      exact ⟨fun e3 => hpp (by rw [← e3]; exact e), fun e3 => hpg (by rw [← e3]; exact e)⟩
    · rw [e2] at e
      obtain rfl := Option.some.inj e
      exact ⟨by omega, by omega⟩
  have holdR : ∀ i (hi : i < D.puts.length), Reads w5 (C i).a (C i).len (C i).cap (oldB (foldK D i) D.puts[i]) := fun i hi =>
    reads_same (h.old i hi).2 (by omega) fun b off e h0 => stay b (reads_lt (h.old i hi).2 b off e h0) (h.apart i hi b off e h0).1 (h.apart i hi b off e h0).2.1 (h.apart i hi b off e h0).2.2
  have hblk := hO.blk
  have hnew : ∀ b off, a' = some ⟨b, off, none⟩ → 0 < bs.length → w.heap.size ≤ b ∧ b < w1.heap.size := fun b off e h0 => hblk b off e (by rw [hlen]; exact h0)
  refine ⟨⟨?_, h.dn, ?_, ?_, ?_, ?_⟩, ⟨?_, ?_, ?_, by omega, fun b hb hn => ?_⟩, fun b hb => ?_⟩
  · have h1 : w3.heap[p]? = some (.cells (dCells g D.safe.length pv D) 62 (0, 0)) := hrow3.trans h.row
    have h2 := Go.heap_setCell_same w3 p 1 _ _ pv' h1
    refine (hg5.block p (by omega) (fun e => hgp (Option.some.inj e).symm)).trans (h2.trans ?_)
    simp [dCells, putD, lfD] <;> rfl
  · rw [nowB_put]; exact hn5
  · rw [hml]
    exact own_same (own_same ho fun b e => g4.block b (own_lt ho b e) (fun e2 => (hpv' b e).1 (Option.some.inj e2))) fun b e => hg5.block b (Nat.lt_of_lt_of_le (own_lt ho b e) hs4) (fun e2 => (hpv' b e).2 (Option.some.inj e2))
  · intro i hi
    rw [hml] at hi
    by_cases hlt : i < D.puts.length
    · have e1 : (putD D q bs).puts[i]'(by rw [hml]; exact hi) = D.puts[i] := List.getElem_append_left hlt
      have e2 : putC C D.puts.length ⟨q, a', bs.length, c'⟩ i = C i := by unfold putC; rw [if_pos hlt]
      rw [e1, e2, foldK_put D q bs i (by omega)]
      exact ⟨(h.old i hlt).1, holdR i hlt⟩
    · obtain rfl : i = D.puts.length := by omega
      have e1 : (putD D q bs).puts[D.puts.length]'(by rw [hml]; exact hi) = (q, bs) := by
        have h0 : (putD D q bs).puts[D.puts.length]? = some (q, bs) := by
          show (D.puts ++ [((q : Int).toNat, bs)])[D.puts.length]? = _
          rw [List.getElem?_append_right (Nat.le_refl _)]
          simp
        rw [List.getElem?_eq_getElem (by rw [hml]; exact hi)] at h0
        exact Option.some.inj h0
      have e2 : putC C D.puts.length ⟨q, a', bs.length, c'⟩ D.puts.length = ⟨q, a', bs.length, c'⟩ := by unfold putC; rw [if_neg (by omega)]
      rw [e1, e2, foldK_put D q bs _ (Nat.le_refl _), foldK_all, ← hold]
      have hr1 := hO.1
      rw [hlen] at hr1
      refine ⟨rfl, reads_same hr1 (by omega) fun b off e h0 => ?_⟩
      obtain ⟨n1, n2⟩ := hnew b off e h0
      exact stay1 b n2 (by omega) (by omega) (fun e3 => by have := hpvl b e3; omega)
  · intro i hi b off e h0
    rw [hml] at hi
    by_cases hlt : i < D.puts.length
    · have e2 : putC C D.puts.length ⟨q, a', bs.length, c'⟩ i = C i := by unfold putC; rw [if_pos hlt]
      rw [e2] at e h0
      obtain ⟨n1, n2, n3⟩ := h.apart i hlt b off e h0
      have hbl := reads_lt (h.old i hlt).2 b off e h0
      refine ⟨n1, n2, fun e3 => ?_⟩
      rcases hpv with e4 | ⟨x, e4, hx⟩
      · exact n3 (by rw [← e4]; exact e3)
      · rw [e4] at e3
        obtain rfl := Option.some.inj e3
        omega
    · have e2 : putC C D.puts.length ⟨q, a', bs.length, c'⟩ i = ⟨q, a', bs.length, c'⟩ := by unfold putC; rw [if_neg hlt]
      rw [e2] at e h0
      obtain ⟨n1, n2⟩ := hnew b off e h0
      refine ⟨by omega, by omega, fun e3 => ?_⟩
      rcases hpv with e4 | ⟨x, e4, hx⟩
      · have := hpvl b (by rw [← e4]; exact e3); omega
      · rw [e4] at e3
        obtain rfl := Option.some.inj e3
        omega
  · exact hg5.os.trans (g4.os.trans (hg3.os.trans hb1.os))
  · exact hg5.tape.trans (g4.tape.trans (hg3.tape.trans hb1.tape))
  · exact hg5.output.trans (g4.output.trans (hg3.output.trans hb1.output))
  · exact stay b hb (fun e => hn (.inl e)) (fun e => hn (.inr (.inl e))) (fun e => hn (.inr (.inr (.inl e))))
  · rcases hb with rfl | rfl | e | ⟨i, hi, off, e, h0⟩
    · exact .inl (.inl rfl)
    · exact .inl (.inr (.inl rfl))
    · rcases hpv with e4 | ⟨x, e4, hx⟩
      · exact .inl (.inr (.inr (.inl (by rw [← e4]; exact e))))
      · rw [e4] at e
        obtain rfl := Option.some.inj e
        right; omega
    · by_cases hlt : i < D.puts.length
      · have e2 : putC C D.puts.length ⟨q, a', bs.length, c'⟩ i = C i := by unfold putC; rw [if_pos hlt]
        rw [e2] at e h0
        exact .inl (.inr (.inr (.inr ⟨i, hlt, off, e, h0⟩)))
      · have e2 : putC C D.puts.length ⟨q, a', bs.length, c'⟩ i = ⟨q, a', bs.length, c'⟩ := by unfold putC; rw [if_neg hlt]
        rw [e2] at e h0
        exact .inr (hnew b off e h0).1
set_option maxHeartbeats 8000000 in
theorem oWrite (w : World) (p : Nat) (D : DkT) (S : Nat → Prop) (h : OAt w p D S) (hp : D.puts.length ≤ 1000000) (at_ : Int) (ha : In64 at_) (a : Option Addr) (len cap : Nat) (bs : List UInt8) (hR : Reads w a len cap bs) (hl : len ≤ 1000000) (hSa : ∀ b off, a = some ⟨b, off, none⟩ → 0 < len → ¬ S b) :
    Calls Tryz.prog 55 #[ptr p, .int .i64 at_, .slice a len cap] w fun e w' => e = .returned (.int .i64 (writeE D at_ bs)) ∧ (∃ S', OAt w' p (writeD D at_ bs) S' ∧ ∀ b, S' b → S b ∨ w.heap.size ≤ b) ∧ Away S w w' := by
  have HA := hidd h
  have ok2 := writeD_ok h.ok at_ bs
  obtain ⟨ok, g, pv, C, hL, hS⟩ := h
  have hr := ok.room
  have hbl : bs.length = len := hR.1
  have HSAME : Hid (writeE D at_ bs ≠ 0 → ((∃ S', OAt w p (writeD D at_ bs) S' ∧ ∀ b, S' b → S b ∨ w.heap.size ≤ b) ∧ Away S w w)) := fun e => by rw [nowB_refused e]; exact ⟨⟨S, HA.out, fun b e => .inl e⟩, Away.refl _ _⟩
  have HRF := hidd (lRef w p g pv C D hL)
  unfold ptr at HRF
  obtain ⟨c0, c1, c2, c3⟩ := hL.c
  have hmax : len ≤ 9223372036854775807 := by omega
  have HAS := hidd (oHas w p g pv C D hL hr.2 at_ len ha (by unfold In64; omega))
  unfold ptr at HAS
  rcases writeE_two D at_ bs with ⟨hE, hd, hi⟩ | ⟨hE, hd⟩ | ⟨hE, hd, hi⟩
  · rw [hbl] at hi
    rw [hi] at HAS
    rw [hd, show refE false = 0 from rfl] at HRF
    have hin := (inB_iff _ _ _).1 hi
    obtain ⟨m, Hm⟩ : ∃ m, Hid (m = D.safe.length) := ⟨_, hidd rfl⟩
    have hRd := hL.reads ok
    have hnl := nowB_length ok
    obtain ⟨q, rfl⟩ : ∃ q : Nat, at_ = (q : Int) := ⟨at_.toNat, by omega⟩
    have CPY := hidd (oCopied w.drew p g pv C D (hL.keep (Nat.le_refl _) fun _ _ => rfl) ok q len (by omega))
    unfold ptr at CPY
    rw [← Hm.out] at hin hr hRd hnl c0
    obtain ⟨old, Hold⟩ : ∃ l, Hid (l = oldB (nowB D) (q, bs)) := ⟨_, hidd rfl⟩
    have hol : old.length = bs.length := by rw [Hold.out]; exact oldB_length (by show q + bs.length ≤ _; omega)
    rw [show ((nowB D).drop q).take len = old by rw [Hold.out]; show _ = ((nowB D).drop q).take bs.length; rw [hbl]] at CPY
    obtain ⟨x, Hx⟩ : ∃ x, Hid (x = subA (some ⟨g, 0, none⟩) m q) := ⟨_, hidd rfl⟩
    obtain ⟨cp, Hcp⟩ : ∃ x, Hid (x = m - q) := ⟨_, hidd rfl⟩
    have SL : ∀ V : World, (Instr.sliceAt 34 (.slice (some ⟨g, 0, none⟩) m m) (some (.int .i64 (q : Int))) none none).run Tryz.prog V = .ok (.slice x cp cp) V := fun V => by
      have := slice_back V (some ⟨g, 0, none⟩) m m q (by omega) (Nat.le_refl _)
      rw [Hx.out, Hcp.out]; exact this
    have hpw := heap_lt hL.row
    have hxa : 0 < len → x = some ⟨g, q, none⟩ := fun h0 => by
      rw [Hx.out]
      unfold subA
      rw [if_neg (by omega)]
      show some (Addr.add ⟨g, 0, none⟩ q) = _
      rw [add_plain, Nat.zero_add]
    have NX : Hid (∀ (W1 : World) (a' : Option Addr) (c' : Nat), OutB w.heap.size W1 a' c' old → Below w.heap.size w W1 →
        ∃ g' n' cap' w3 w5, (Builtin.append_ #[60, 60] 60 #[pv, .slice (some ⟨W1.heap.size, 0, none⟩) 1 1]).run Tryz.prog (W1.alloc (.cells #[.int .i64 (q : Int), .slice a' len c'] 83)) = .ok (.slice g' n' cap') w3 ∧
          w3.cell? ⟨p, 1, none⟩ = some pv ∧ w3.frozen? ⟨p, 1, none⟩ = false ∧ (w3.setCell ⟨p, 1, none⟩ (.slice g' n' cap')).cell? ⟨p, 0, none⟩ = some (.slice (some ⟨g, 0, none⟩) m m) ∧
          (Builtin.copy_ #[34, 34] 3 #[.slice x cp cp, .slice a len cap]).run Tryz.prog (w3.setCell ⟨p, 1, none⟩ (.slice g' n' cap')) = .ok (.int .i64 len) w5 ∧
          Calls Tryz.prog 57 #[.pointer (some ⟨p, 0, none⟩)] w5 fun e w' => (∃ v, e = .returned v) ∧ (∃ S', OAt w' p (writeD D q bs) S' ∧ ∀ b, S' b → S b ∨ w.heap.size ≤ b) ∧ Away S w w') := fun W1 a' c' hO hb1 => by
      have hs1 := hb1.size
      have hp0 := heap_lt hL.row
      have hpvl := own_lt hL.list
      have hpp : pv.ownBlock ≠ some p := by
        intro e
        rcases hL.list.2 with ⟨rfl, _⟩ | ⟨x, cap, cur, rfl, _, hq, _⟩
        · cases e
        · obtain rfl : x = p := Option.some.inj e
          exact row_ne hq hL.row (by decide) rfl
      have hb2 : Below w.heap.size w (W1.alloc (.cells #[.int .i64 (q : Int), .slice a' len c'] 83)) := hb1.alloc hs1 _
      have hown : (W1.alloc (.cells #[.int .i64 (q : Int), .slice a' len c'] 83)).ownsRow 0 83 2 pv ((List.range D.puts.length).map C).length (pwL ((List.range D.puts.length).map C)) := by
        rw [List.length_map, List.length_range, ← pwCells_pwL]
        exact own_same hL.list fun b e => hb2.block b (hpvl b e)
      obtain ⟨pv', w3, hrun, ho, hg3, hpv⟩ := run_append_pw _ pv ((List.range D.puts.length).map C) ⟨q, a', len, c'⟩ hown ⟨W1.heap.size, 0, none⟩ (fun j u hj => by
        rw [add_plain, Nat.zero_add, cell_of_row _ W1.heap.size j _ 83 (0, 0) (heap_alloc_new W1 _)]
        simpa [pwL] using hj) (by rw [List.length_map, List.length_range]; exact hp)
      rw [← putC_range, ← pwCells_pwL, List.length_map, List.length_range] at ho
      rw [← hbl] at ho
      have hsz2 : (W1.alloc (.cells #[.int .i64 (q : Int), .slice a' len c'] 83)).heap.size = W1.heap.size + 1 := by simp
      have hs3 := hg3.size
      have hrow3 : w3.heap[p]? = some (.cells (dCells g D.safe.length pv D) 62 (0, 0)) := (hg3.block p (by omega) (fun e => hpp e.symm)).trans ((hb2.block p hp0).trans hL.row)
      obtain ⟨g', n', cap', rfl⟩ : ∃ g' n' cap', pv' = .slice g' n' cap' := by
        rcases ho.2 with ⟨e, _⟩ | ⟨_, _, _, e, _⟩
        · exact ⟨_, _, _, e⟩
        · exact ⟨_, _, _, e⟩
      have g4 := Lib.grownBy_setCell w3 p 1 (.slice g' n' cap')
      have hgp : g ≠ p := row_ne hL.now hL.row (by decide)
      have hpg : pv.ownBlock ≠ some g := by
        intro e
        rcases hL.list.2 with ⟨rfl, _⟩ | ⟨x, cap, cur, rfl, _, hq, _⟩
        · cases e
        · obtain rfl : x = g := Option.some.inj e
          exact row_ne hq hL.now (by decide) rfl
      have hgl := heap_lt hL.now
      have hnow4 : (w3.setCell ⟨p, 1, none⟩ (.slice g' n' cap')).heap[g]? = some (.cells (cellsOf (nowB D)).toArray 5 (0, 0)) :=
        (g4.block g (by omega) (fun e => hgp (Option.some.inj e))).trans ((hg3.block g (by omega) (fun e => hpg e.symm)).trans ((hb2.block g hgl).trans hL.now))
      have hR4 : Reads (w3.setCell ⟨p, 1, none⟩ (.slice g' n' cap')) a len cap bs := reads_same hR (by have := g4.size; omega) fun b off e h0 => by
        have hnS := hSa b off e h0
        have hbw := reads_lt hR b off e h0
        exact (g4.block b (by omega) (fun e2 => hnS ((hS b).2 (.inl (Option.some.inj e2))))).trans ((hg3.block b (by omega) (fun e2 => hnS ((hS b).2 (.inr (.inr (.inl e2.symm)))))).trans (hb2.block b hbw))
      obtain ⟨w5, hcp, hn5, hg5⟩ := run_copy_done _ 3 g (nowB D) hnow4 q cp cp x a len cap bs hR4 (by omega) (by rw [Hcp.out]; omega) hxa
      rw [← hbl] at hcp
      obtain ⟨hL5, hAw, hmem⟩ := hL.put ok (o := .cells #[.int .i64 (q : Int), .slice a' len c'] 83) hb1 hO Hold.out hol (by rw [← Hm.out]; omega) ho hg3 hpv hn5 hg5
      refine ⟨g', n', cap', w3, w5, hrun, by rw [cell_of_row w3 p 1 _ _ (0, 0) hrow3]; rfl, frozen_of_row w3 p 1 _ _ hrow3, ?_, by rw [← hbl]; exact hcp, ?_⟩
      · have h4 := Go.heap_setCell_same w3 p 1 _ _ (.slice g' n' cap') hrow3
        rw [cell_of_row _ p 0 _ _ (0, 0) h4, Hm.out]
        simp [dCells]
      refine (oCount w5 p g _ _ (putD D q bs) hL5 (putD_ok ok q bs (by rw [hbl]; exact hi)) hd).mono ?_
      rintro e w' ⟨⟨v, rfl⟩, hl6, hg6⟩
      have hWD : writeD D q bs = stepD (putD D q bs) := by unfold writeD; rw [if_pos hE]
      rw [hWD]
      rw [hWD] at ok2
      have hml : (stepD (putD D q bs)).puts.length = D.puts.length + 1 := by rw [(stepD_safe _).2.1]; show (D.puts ++ [_]).length = _; rw [List.length_append]; rfl
      refine ⟨⟨v, rfl⟩, ⟨_, ⟨ok2, g, _, _, hl6, fun b => Iff.rfl⟩, fun b hb => ?_⟩, ?_⟩
      · rw [hml] at hb
        rcases hmem b hb with e | e
        · exact .inl ((hS b).2 e)
        · exact .inr e
      · have hAwS : Away S w w5 := ⟨hAw.os, hAw.tape, hAw.output, hAw.size, fun k hk hn => hAw.block k hk (fun e => hn ((hS k).2 e))⟩
        exact hAwS.trans (away_grown (S := S) hg6 ((hS p).2 (.inl rfl))) fun y hy => .inl hy
    rw [hE]
    obtain ⟨pa, pn, pc, rfl⟩ : ∃ g' n' cap', pv = .slice g' n' cap' := by
      rcases hL.list.2 with ⟨e, _⟩ | ⟨_, _, _, e, _⟩
      · exact ⟨_, _, _, e⟩
      · exact ⟨_, _, _, e⟩
    unfold ptr
    clear HSAME ok2 ok hL hS HA c2 c3 hd hi hRd hnl Hm Hx Hcp hxa Hold hol hE hR hSa hbl
    go_enter Tryz.func55, Tryz.ntmps55
    go_wp2_with fail
    refine HRF.out.mono ?_
    rintro e W1 ⟨rfl, rfl⟩
    clear HRF
    go_wp2_with fail
    refine HAS.out.mono ?_
    rintro e W1 ⟨rfl, rfl⟩
    clear HAS
    have HC1 := hidd c1
    clear c1 c0
    go_wp2
    refine wp_region_held_drew (S := (fun _ => True)) (by kernel_rfl) trivial (fun hHeld => ?_)
    refine zX 0 (.pointer (some ⟨p, 0, none⟩)) rfl hHeld ?_
    try simp only [Act.put, pS1, pS2, pS3]
    refine zX 1 (.pointer (some ⟨p, 0, none⟩)) rfl hHeld ?_
    try simp only [Act.put, pS1, pS2, pS3]
    refine zX 2 (.pointer (some ⟨p, 0, none⟩)) rfl hHeld ?_
    try simp only [Act.put, pS1, pS2, pS3]
    refine zX 3 (.pointer (some ⟨p, 1, none⟩)) rfl hHeld ?_
    try simp only [Act.put, pS1, pS2, pS3]
    refine zX 5 (.int .i64 q) rfl hHeld ?_
    try simp only [Act.put, pS1, pS2, pS3]
    refine zX 6 (.pointer (some ⟨p, 0, none⟩)) rfl hHeld ?_
    try simp only [Act.put, pS1, pS2, pS3]
    refine zX 7 (.int .i64 q) rfl hHeld ?_
    try simp only [Act.put, pS1, pS2, pS3]
    refine zX 8 (.slice a len cap) rfl hHeld ?_
    try simp only [Act.put, pS1, pS2, pS3]
    refine zX 9 (.int .i64 len) rfl hHeld ?_
    try simp only [Act.put, pS1, pS2, pS3]
    refine wpAnyH_ready (rs := [4, 10]) (by kernel_rfl) (by simp) ?_
    refine (AllReadyH.cons (o := { dst := some 23, op := .load 60 (.tmp 22), type := 60, pos := "disk.go:51", after := #[zD 3], guard := none }) rfl (fun K hK => ?_) (AllReadyH.cons (o := { dst := some 29, op := .call { callee := .value (.func 69), args := #[.tmp 25, .tmp 26, .tmp 28], argTypes := #[27, 3, 3] }, type := 34, pos := "disk.go:51", after := #[zD 6, zD 7, zD 9], guard := none }) rfl (fun K hK => ?_) AllReadyH.nil))
    · have h1 := HC1.out
      go_simp
      clear h1
      refine hK.out _ _ trivial (fun hHeld => ?_)
      clear hK K
      try simp only [Act.put, pS1, pS2, pS3]
      refine wpAnyH_ready (rs := [10]) (by kernel_rfl) (by simp) ?_
      refine (AllReadyH.cons (o := { dst := some 29, op := .call { callee := .value (.func 69), args := #[.tmp 25, .tmp 26, .tmp 28], argTypes := #[27, 3, 3] }, type := 34, pos := "disk.go:51", after := #[zD 6, zD 7, zD 9], guard := none }) rfl (fun K hK => ?_) AllReadyH.nil)
      go_simp
      refine CPY.out.mono ?_
      rintro e W2 ⟨a', c', rfl, hO, hb⟩
      obtain ⟨g', n', cap', w3, w5, hrun, k1, k2, k3, hcp, hdn⟩ := NX.out W2 a' c' hO ((Below.refl _ _).drew.trans hb)
      have HRUN := hidd hrun
      have HCP := hidd hcp
      have HDN := hidd hdn
      replace HC1 := hidd ((hb.cell (p := ⟨p, 1, none⟩) hpw).trans HC1.out)
      have hpw2 := Nat.lt_of_lt_of_le hpw hb.size
      clear hO hb hrun hcp hdn
      go_wp2_with fail
      refine hK.out _ _ trivial (fun hHeld => ?_)
      clear hK K
      try simp only [Act.put, pS1, pS2, pS3]
      refine zX 11 (.agg #[.int .i64 (q : Int), .slice a' len c']) rfl hHeld ?_
      try simp only [Act.put, pS1, pS2, pS3]
      refine wpAnyH_ready (rs := [12]) (by kernel_rfl) (by simp) ?_
      refine (AllReadyH.cons (o := { dst := some 31, op := .buildSlice 60 1 #[(0, .tmp 30)], type := 60, pos := "disk.go:51", after := #[zD 11], guard := none }) rfl (fun K hK => ?_) AllReadyH.nil)
      go_simp
      replace HC1 := hidd ((((Below.refl _ _).alloc (Nat.le_refl _) (.cells #[.int .i64 (q : Int), .slice a' len c'] 83)).cell (p := ⟨p, 1, none⟩) hpw2).trans HC1.out)
      refine hK.out _ _ trivial (fun hHeld => ?_)
      clear hK K
      try simp only [Act.put, pS1, pS2, pS3]
      refine wpAnyH_ready (rs := [13]) (by kernel_rfl) (by simp) ?_
      refine (AllReadyH.cons (o := { dst := some 32, op := .call { callee := .builtin Builtin.append, args := #[.tmp 23, .tmp 31], argTypes := #[60, 60] }, type := 60, pos := "disk.go:51", after := #[zD 4, zD 12, zC 10], guard := none }) rfl (fun K hK => ?_) AllReadyH.nil)
      refine step_append_run rfl (.tmp 23) (.tmp 31) 60 60 rfl _ _ _ w3 rfl rfl HRUN.out ?_
      refine hK.out _ _ trivial (fun hHeld => ?_)
      clear hK K
      try simp only [Act.put, pS1, pS2, pS3]
      refine zX 14 (.pointer (some ⟨p, 0, none⟩)) rfl hHeld ?_
      try simp only [Act.put, pS1, pS2, pS3]
      refine zX 15 (.pointer (some ⟨p, 1, none⟩)) rfl hHeld ?_
      try simp only [Act.put, pS1, pS2, pS3]
      refine wpAnyH_ready (rs := [16]) (by kernel_rfl) (by simp) ?_
      refine (AllReadyH.cons (o := { dst := none, op := .store 60 (.tmp 34) (.tmp 32), type := 0, pos := "disk.go:51", after := #[zD 15, zD 13, zC 13, zP 0, zP 1, zP 2, zP 3, zP 4, zP 5, zP 6, zP 7, zP 8, zP 9, zP 10, zP 11, zP 12, zP 13], guard := none }) rfl (fun K hK => ?_) AllReadyH.nil)
      have h1 := k1
      have h2 := k2
      go_simp
      clear h1 h2
      refine hK.out _ _ trivial (fun hHeld => ?_)
      clear hK K
      try simp only [Act.put, pS1, pS2, pS3]
      refine wpAnyH_done (by kernel_rfl) ?_ _
      clear HC1
      go_wp2_with (first
        | ((with_reducible show aD 42 _ _ _ _ _ _ _ _ _ _ _); refine wpList_copy_run9 (by rfl) (.tmp 40) (.tmp 41) 34 34 (by rfl) _ _ _ _ (by rfl) (by rfl) HCP.out ?_)
        | fail)
      refine HDN.out.mono ?_
      rintro e W6 ⟨⟨v6, rfl⟩, hf⟩
      have HF := hidd hf
      clear hf HDN HRUN HCP
      go_wp2
      go_ret
      exact ⟨rfl, HF.out⟩
    · go_simp
      refine CPY.out.mono ?_
      rintro e W2 ⟨a', c', rfl, hO, hb⟩
      obtain ⟨g', n', cap', w3, w5, hrun, k1, k2, k3, hcp, hdn⟩ := NX.out W2 a' c' hO ((Below.refl _ _).drew.trans hb)
      have HRUN := hidd hrun
      have HCP := hidd hcp
      have HDN := hidd hdn
      replace HC1 := hidd ((hb.cell (p := ⟨p, 1, none⟩) hpw).trans HC1.out)
      have hpw2 := Nat.lt_of_lt_of_le hpw hb.size
      clear hO hb hrun hcp hdn
      go_wp2_with fail
      refine hK.out _ _ trivial (fun hHeld => ?_)
      clear hK K
      try simp only [Act.put, pS1, pS2, pS3]
      refine zX 11 (.agg #[.int .i64 (q : Int), .slice a' len c']) rfl hHeld ?_
      try simp only [Act.put, pS1, pS2, pS3]
      refine wpAnyH_ready (rs := [4, 12]) (by kernel_rfl) (by simp) ?_
      refine (AllReadyH.cons (o := { dst := some 23, op := .load 60 (.tmp 22), type := 60, pos := "disk.go:51", after := #[zD 3], guard := none }) rfl (fun K hK => ?_) (AllReadyH.cons (o := { dst := some 31, op := .buildSlice 60 1 #[(0, .tmp 30)], type := 60, pos := "disk.go:51", after := #[zD 11], guard := none }) rfl (fun K hK => ?_) AllReadyH.nil))
      · have h1 := HC1.out
        go_simp
        clear h1
        refine hK.out _ _ trivial (fun hHeld => ?_)
        clear hK K
        try simp only [Act.put, pS1, pS2, pS3]
        refine wpAnyH_ready (rs := [12]) (by kernel_rfl) (by simp) ?_
        refine (AllReadyH.cons (o := { dst := some 31, op := .buildSlice 60 1 #[(0, .tmp 30)], type := 60, pos := "disk.go:51", after := #[zD 11], guard := none }) rfl (fun K hK => ?_) AllReadyH.nil)
        go_simp
        replace HC1 := hidd ((((Below.refl _ _).alloc (Nat.le_refl _) (.cells #[.int .i64 (q : Int), .slice a' len c'] 83)).cell (p := ⟨p, 1, none⟩) hpw2).trans HC1.out)
        refine hK.out _ _ trivial (fun hHeld => ?_)
        clear hK K
        try simp only [Act.put, pS1, pS2, pS3]
        refine wpAnyH_ready (rs := [13]) (by kernel_rfl) (by simp) ?_
        refine (AllReadyH.cons (o := { dst := some 32, op := .call { callee := .builtin Builtin.append, args := #[.tmp 23, .tmp 31], argTypes := #[60, 60] }, type := 60, pos := "disk.go:51", after := #[zD 4, zD 12, zC 10], guard := none }) rfl (fun K hK => ?_) AllReadyH.nil)
        refine step_append_run rfl (.tmp 23) (.tmp 31) 60 60 rfl _ _ _ w3 rfl rfl HRUN.out ?_
        refine hK.out _ _ trivial (fun hHeld => ?_)
        clear hK K
        try simp only [Act.put, pS1, pS2, pS3]
        refine zX 14 (.pointer (some ⟨p, 0, none⟩)) rfl hHeld ?_
        try simp only [Act.put, pS1, pS2, pS3]
        refine zX 15 (.pointer (some ⟨p, 1, none⟩)) rfl hHeld ?_
        try simp only [Act.put, pS1, pS2, pS3]
        refine wpAnyH_ready (rs := [16]) (by kernel_rfl) (by simp) ?_
        refine (AllReadyH.cons (o := { dst := none, op := .store 60 (.tmp 34) (.tmp 32), type := 0, pos := "disk.go:51", after := #[zD 15, zD 13, zC 13, zP 0, zP 1, zP 2, zP 3, zP 4, zP 5, zP 6, zP 7, zP 8, zP 9, zP 10, zP 11, zP 12, zP 13], guard := none }) rfl (fun K hK => ?_) AllReadyH.nil)
        have h1 := k1
        have h2 := k2
        go_simp
        clear h1 h2
        refine hK.out _ _ trivial (fun hHeld => ?_)
        clear hK K
        try simp only [Act.put, pS1, pS2, pS3]
        refine wpAnyH_done (by kernel_rfl) ?_ _
        clear HC1
        go_wp2_with (first
          | ((with_reducible show aD 42 _ _ _ _ _ _ _ _ _ _ _); refine wpList_copy_run9 (by rfl) (.tmp 40) (.tmp 41) 34 34 (by rfl) _ _ _ _ (by rfl) (by rfl) HCP.out ?_)
          | fail)
        refine HDN.out.mono ?_
        rintro e W6 ⟨⟨v6, rfl⟩, hf⟩
        have HF := hidd hf
        clear hf HDN HRUN HCP
        go_wp2
        go_ret
        exact ⟨rfl, HF.out⟩
      · go_simp
        replace HC1 := hidd ((((Below.refl _ _).alloc (Nat.le_refl _) (.cells #[.int .i64 (q : Int), .slice a' len c'] 83)).cell (p := ⟨p, 1, none⟩) hpw2).trans HC1.out)
        refine hK.out _ _ trivial (fun hHeld => ?_)
        clear hK K
        try simp only [Act.put, pS1, pS2, pS3]
        refine wpAnyH_ready (rs := [4]) (by kernel_rfl) (by simp) ?_
        refine (AllReadyH.cons (o := { dst := some 23, op := .load 60 (.tmp 22), type := 60, pos := "disk.go:51", after := #[zD 3], guard := none }) rfl (fun K hK => ?_) AllReadyH.nil)
        have h1 := HC1.out
        go_simp
        clear h1
        refine hK.out _ _ trivial (fun hHeld => ?_)
        clear hK K
        try simp only [Act.put, pS1, pS2, pS3]
        refine wpAnyH_ready (rs := [13]) (by kernel_rfl) (by simp) ?_
        refine (AllReadyH.cons (o := { dst := some 32, op := .call { callee := .builtin Builtin.append, args := #[.tmp 23, .tmp 31], argTypes := #[60, 60] }, type := 60, pos := "disk.go:51", after := #[zD 4, zD 12, zC 10], guard := none }) rfl (fun K hK => ?_) AllReadyH.nil)
        refine step_append_run rfl (.tmp 23) (.tmp 31) 60 60 rfl _ _ _ w3 rfl rfl HRUN.out ?_
        refine hK.out _ _ trivial (fun hHeld => ?_)
        clear hK K
        try simp only [Act.put, pS1, pS2, pS3]
        refine zX 14 (.pointer (some ⟨p, 0, none⟩)) rfl hHeld ?_
        try simp only [Act.put, pS1, pS2, pS3]
        refine zX 15 (.pointer (some ⟨p, 1, none⟩)) rfl hHeld ?_
        try simp only [Act.put, pS1, pS2, pS3]
        refine wpAnyH_ready (rs := [16]) (by kernel_rfl) (by simp) ?_
        refine (AllReadyH.cons (o := { dst := none, op := .store 60 (.tmp 34) (.tmp 32), type := 0, pos := "disk.go:51", after := #[zD 15, zD 13, zC 13, zP 0, zP 1, zP 2, zP 3, zP 4, zP 5, zP 6, zP 7, zP 8, zP 9, zP 10, zP 11, zP 12, zP 13], guard := none }) rfl (fun K hK => ?_) AllReadyH.nil)
        have h1 := k1
        have h2 := k2
        go_simp
        clear h1 h2
        refine hK.out _ _ trivial (fun hHeld => ?_)
        clear hK K
        try simp only [Act.put, pS1, pS2, pS3]
        refine wpAnyH_done (by kernel_rfl) ?_ _
        clear HC1
        go_wp2_with (first
          | ((with_reducible show aD 42 _ _ _ _ _ _ _ _ _ _ _); refine wpList_copy_run9 (by rfl) (.tmp 40) (.tmp 41) 34 34 (by rfl) _ _ _ _ (by rfl) (by rfl) HCP.out ?_)
          | fail)
        refine HDN.out.mono ?_
        rintro e W6 ⟨⟨v6, rfl⟩, hf⟩
        have HF := hidd hf
        clear hf HDN HRUN HCP
        go_wp2
        go_ret
        exact ⟨rfl, HF.out⟩
  · have HF := hidd (HSAME.out (by rw [hE]; omega))
    rw [hE]
    rw [hd, show refE true = 80 from rfl] at HRF
    unfold ptr
    clear HSAME ok2 ok hL hS HA c0 c1 c2 c3 hd HAS hE hR hSa hbl
    go_enter Tryz.func55, Tryz.ntmps55
    go_wp2_with fail
    refine HRF.out.mono ?_
    rintro e W1 ⟨rfl, rfl⟩
    clear HRF
    go_wp2
    go_ret
    exact ⟨rfl, HF.out⟩
  · have HF := hidd (HSAME.out (by rw [hE]; omega))
    rw [hbl] at hi
    rw [hi] at HAS
    rw [hE]
    rw [hd, show refE false = 0 from rfl] at HRF
    unfold ptr
    clear HSAME ok2 ok hL hS HA c0 c1 c2 c3 hd hE hR hSa hbl hi
    go_enter Tryz.func55, Tryz.ntmps55
    go_wp2_with fail
    refine HRF.out.mono ?_
    rintro e W1 ⟨rfl, rfl⟩
    clear HRF
    go_wp2_with fail
    refine HAS.out.mono ?_
    rintro e W1 ⟨rfl, rfl⟩
    clear HAS
    go_wp2
    go_ret
    exact ⟨rfl, HF.out⟩
def lastN (n : Nat) (torn : Int) : Nat := (max (min torn ((n : Int) - 1)) 0).toNat
theorem lastN_le (n : Nat) (torn : Int) : lastN n torn ≤ n := by unfold lastN; omega
def backT (D : DkT) (K : Nat) (torn : Int) (x : Nat) : Nat := if x = 0 then lastN ((D.puts[K + x]?.map fun p => p.2.length).getD 0) torn else 0
def backU (D : DkT) (K : Nat) (torn : Int) (x : Nat) : Nat × List UInt8 :=
  match D.puts[K + x]? with
  | none => (0, [])
  | some p => (p.1 + backT D K torn x, (oldB (foldK D (K + x)) p).drop (backT D K torn x))
def undoL (D : DkT) (K : Nat) (torn : Int) (pre : List Nat) : List UInt8 := pre.foldl (fun s x => doneB s (backU D K torn x)) (nowB D)
theorem undoL_next (D : DkT) (K : Nat) (torn : Int) (pre : List Nat) (x : Nat) : undoL D K torn (pre ++ [x]) = doneB (undoL D K torn pre) (backU D K torn x) := by
  unfold undoL; rw [List.foldl_append]; rfl
theorem backU_some {D : DkT} {K : Nat} {torn : Int} {x : Nat} (h : K + x < D.puts.length) : backU D K torn x = (D.puts[K + x].1 + backT D K torn x, (oldB (foldK D (K + x)) D.puts[K + x]).drop (backT D K torn x)) := by
  unfold backU; rw [List.getElem?_eq_getElem h]
theorem backU_none {D : DkT} {K : Nat} {torn : Int} {x : Nat} (h : ¬ K + x < D.puts.length) : backU D K torn x = (0, []) := by
  unfold backU; rw [List.getElem?_eq_none (by omega)]
theorem backT_le {D : DkT} {K : Nat} {torn : Int} {x : Nat} (h : K + x < D.puts.length) : backT D K torn x ≤ D.puts[K + x].2.length := by
  unfold backT
  rw [List.getElem?_eq_getElem h]
  split
  · exact lastN_le _ _
  · omega
theorem backU_fit {D : DkT} (ok : OkD D) (K : Nat) (torn : Int) (x : Nat) : (backU D K torn x).1 + (backU D K torn x).2.length ≤ D.safe.length := by
  by_cases h : K + x < D.puts.length
  · rw [backU_some h]
    have h1 := ok.puts _ (List.getElem_mem h)
    have h2 := backT_le (torn := torn) h
    have h3 := oldB_length (s := foldK D (K + x)) (p := D.puts[K + x]) (by rw [foldK_length ok]; exact h1)
    show D.puts[K + x].1 + backT D K torn x + ((oldB (foldK D (K + x)) D.puts[K + x]).drop (backT D K torn x)).length ≤ _
    rw [List.length_drop, h3]
    omega
  · rw [backU_none h]; exact Nat.zero_le _
theorem undo_fold_length {D : DkT} (ok : OkD D) (K : Nat) (torn : Int) : ∀ (pre : List Nat) (s : List UInt8), s.length = D.safe.length → (pre.foldl (fun s x => doneB s (backU D K torn x)) s).length = D.safe.length
  | [], s, h => h
  | x :: r, s, h => undo_fold_length ok K torn r _ (by rw [doneB_length (by rw [h]; exact backU_fit ok K torn x), h])
theorem undoL_length {D : DkT} (ok : OkD D) (K : Nat) (torn : Int) (pre : List Nat) : (undoL D K torn pre).length = D.safe.length := undo_fold_length ok K torn pre _ (nowB_length ok)
theorem undo_back {D : DkT} (ok : OkD D) (K : Nat) (torn : Int) : ∀ j, K + j + 1 ≤ D.puts.length →
    (backL (j + 1)).foldl (fun s x => doneB s (backU D K torn x)) (foldK D (K + (j + 1))) = doneB (foldK D (K + 1)) (backU D K torn 0)
  | 0, h => by rw [backL_next]; rfl
  | j + 1, h => by
    rw [backL_next]
    show (backL (j + 1)).foldl _ (doneB (foldK D (K + (j + 1) + 1)) (backU D K torn (j + 1))) = _
    have hl : K + (j + 1) < D.puts.length := by omega
    have e : backT D K torn (j + 1) = 0 := by unfold backT; rw [if_neg (by omega)]
    rw [backU_some hl, e]
    show (backL (j + 1)).foldl _ (doneB (foldK D (K + (j + 1) + 1)) (D.puts[K + (j + 1)].1, oldB (foldK D (K + (j + 1))) D.puts[K + (j + 1)])) = _
    rw [foldK_back ok _ hl]
    exact undo_back ok K torn j (by omega)
theorem undoL_all {D : DkT} (ok : OkD D) (keep torn : Int) (K : Nat) (hK : (K : Int) = min (max keep 0) D.puts.length) : undoL D K torn (backL (D.puts.length - K)) = crashB D keep torn := by
  by_cases h : K < D.puts.length
  · have hK2 : (K : Int) = max keep 0 := by omega
    rw [crashB_cut D keep torn K hK2, List.getElem?_eq_getElem h]
    show _ = doneB (foldK D K) (D.puts[K].1, tornB D.puts[K].2 torn)
    obtain ⟨j, hj⟩ : ∃ j, D.puts.length - K = j + 1 := ⟨D.puts.length - K - 1, by omega⟩
    have e2 : nowB D = foldK D (K + (j + 1)) := by rw [show K + (j + 1) = D.puts.length by omega, foldK_all]
    unfold undoL
    rw [e2, hj, undo_back ok K torn _ (by omega)]
    have hT : backT D K torn 0 = (max (min torn ((D.puts[K].2.length : Int) - 1)) 0).toNat := by
      unfold backT
      rw [if_pos rfl, Nat.add_zero, List.getElem?_eq_getElem h]
      rfl
    have hU := backU_some (D := D) (K := K) (torn := torn) (x := 0) h
    simp only [Nat.add_zero] at hU
    rw [hU, tornB_nat, ← hT]
    exact foldK_torn ok K h _ (backT_le (torn := torn) (x := 0) h)
  · have hK2 : ((max keep 0).toNat : Int) = max keep 0 := by omega
    have e : D.puts.length - K = 0 := by omega
    rw [crashB_cut D keep torn _ hK2, List.getElem?_eq_none (by omega), e]
    rfl
theorem step_copy_run9 {P : Program} {ops : Array Oper} {o : Oper} {a : Act} {w : World} {K : Act → World → Prop} {Q : Exit → Act → World → Prop} {E : Prop}
    (hg : o.guard = none) (s x : Operand) (t u : TypeId) (hop : o.op = Op.call { callee := Callee.builtin Builtin.copy, args := #[s, x], argTypes := #[t, u] })
    (vs vx v' : Value) (w' : World) (hs : a.eval s = vs) (hx : a.eval x = vx) (hrun : (Builtin.copy_ #[t, u] o.type #[vs, vx]).run P w = .ok v' w')
    (hK : K (a.put o.dst v') w') :
    if Region.wanted o (yielded ops a.tmps) = true then Oper.wp P o a w K Q else E := by
  have hw : Region.wanted o (yielded ops a.tmps) = true := by simp [Region.wanted, hg]
  rw [if_pos hw]
  unfold Oper.wp
  simp [execOp, hop, resolve, invoke, builtin, hs, hx, hrun, Result.andThen]
  exact hK
set_option maxHeartbeats 2000000 in
theorem oLasting (w : World) (xat : Int) (xa : Option Addr) (xl xc : Nat) (torn : Int) (hl : xl ≤ 1000000) (ht : In64 torn) :
    Calls Tryz.prog 34 #[.agg #[.int .i64 xat, .slice xa xl xc], .int .i64 torn] w fun e w' => e = .returned (.int .i64 (lastN xl torn : Nat)) ∧ Below w.heap.size w w' := by
  unfold In64 at ht
  have HB : Hid (Below w.heap.size w (w.alloc (.cells #[.int .i64 xat, .slice xa xl xc] 83))) := (Below.refl _ _).alloc (Nat.le_refl _) _
  have hg := heap_alloc_new w (.cells #[.int .i64 xat, .slice xa xl xc] 83)
  have c1 : (w.alloc (.cells #[.int .i64 xat, .slice xa xl xc] 83)).cell? ⟨w.heap.size, 1, none⟩ = some (.slice xa xl xc) := by rw [cell_of_row _ _ 1 _ _ (0, 0) hg]; rfl
  have hw1 := wrap_int ((xl : Int) - 1) (by omega) (by omega)
  have hmx : xl ≤ 9223372036854775807 := by omega
  obtain ⟨r, Hr⟩ : ∃ r, Hid (r = min torn ((xl : Int) - 1)) := ⟨_, hidd rfl⟩
  obtain ⟨t, Htt⟩ : ∃ t, Hid (t = ((lastN xl torn : Nat) : Int)) := ⟨_, hidd rfl⟩
  have Ht : Hid (t = max 0 r) := by show _ = _; rw [Htt.out, Hr.out]; unfold lastN; omega
  rw [← Htt.out]
  clear hg
  go_enter Tryz.func34, Tryz.ntmps34
  go_wp2_with (first
    | ((with_reducible show aD 10 _ _ _ _ _ _ _ _ _ _ _); refine wpList_min rfl (.tmp 5) (.tmp 9) _ rfl torn ((xl : Int) - 1) rfl rfl r Hr.out ?_; try simp only [Act.put, pS1, pS2, pS3])
    | ((with_reducible show aD 11 _ _ _ _ _ _ _ _ _ _ _); refine wpList_max rfl (.const (.int .i64 0)) (.tmp 10) _ rfl 0 r rfl rfl t Ht.out ?_; try simp only [Act.put, pS1, pS2, pS3])
    | fail)
  go_ret
  exact ⟨rfl, HB.out⟩
set_option maxHeartbeats 8000000 in
theorem oUndo (w : World) (p g m : Nat) (s : List UInt8) (hs : s.length = m) (hm : m ≤ 1000000) (c0 : w.cell? ⟨p, 0, none⟩ = some (.slice (some ⟨g, 0, none⟩) m m)) (hg : w.heap[g]? = some (.cells (cellsOf s).toArray 5 (0, 0)))
    (q t xl xc : Nat) (xa : Option Addr) (o : List UInt8) (hR : Reads w xa xl xc o) (hq : q + xl ≤ m) (ht : t ≤ xl) :
    Calls Tryz.prog 35 #[ptr p, .agg #[.int .i64 (q : Int), .slice xa xl xc], .int .i64 (t : Int)] w fun e w' => (∃ v, e = .returned v) ∧ w'.heap[g]? = some (.cells (cellsOf (doneB s (q + t, o.drop t))).toArray 5 (0, 0)) ∧ w.grownBy w' (some g) := by
  have hol := hR.1
  have hxc := hR.2.1
  have hgl := heap_lt hg
  have hb : Below w.heap.size w (w.alloc (.cells #[.int .i64 (q : Int), .slice xa xl xc] 83)) := (Below.refl _ _).alloc (Nat.le_refl _) _
  have hpl : p < w.heap.size := by
    rcases Nat.lt_or_ge p w.heap.size with h | h
    · exact h
    · simp [World.cell?, Array.getElem?_eq_none h] at c0
  have hnew := heap_alloc_new w (.cells #[.int .i64 (q : Int), .slice xa xl xc] 83)
  have b0 : (w.alloc (.cells #[.int .i64 (q : Int), .slice xa xl xc] 83)).cell? ⟨w.heap.size, 0, none⟩ = some (.int .i64 (q : Int)) := by rw [cell_of_row _ _ 0 _ _ (0, 0) hnew]; rfl
  have b1 : (w.alloc (.cells #[.int .i64 (q : Int), .slice xa xl xc] 83)).cell? ⟨w.heap.size, 1, none⟩ = some (.slice xa xl xc) := by rw [cell_of_row _ _ 1 _ _ (0, 0) hnew]; rfl
  have d0 : (w.alloc (.cells #[.int .i64 (q : Int), .slice xa xl xc] 83)).cell? ⟨p, 0, none⟩ = some (.slice (some ⟨g, 0, none⟩) m m) := (hb.cell (p := ⟨p, 0, none⟩) hpl).trans c0
  have hw1 := wrap_int ((q : Int) + (t : Int)) (by omega) (by omega)
  obtain ⟨x, Hx⟩ : ∃ x, Hid (x = subA (some ⟨g, 0, none⟩) m (q + t)) := ⟨_, hidd rfl⟩
  obtain ⟨cp, Hcp⟩ : ∃ x, Hid (x = m - (q + t)) := ⟨_, hidd rfl⟩
  obtain ⟨y, Hy⟩ : ∃ x, Hid (x = subA xa xc t) := ⟨_, hidd rfl⟩
  obtain ⟨yl, Hyl⟩ : ∃ x, Hid (x = xl - t) := ⟨_, hidd rfl⟩
  obtain ⟨yc, Hyc⟩ : ∃ x, Hid (x = xc - t) := ⟨_, hidd rfl⟩
  have S1 : Hid (∀ V : World, (Instr.sliceAt 34 (.slice (some ⟨g, 0, none⟩) m m) (some (.int .i64 ((q : Int) + (t : Int)))) none none).run Tryz.prog V = .ok (.slice x cp cp) V) := fun V => by
    have := slice_back V (some ⟨g, 0, none⟩) m m (q + t) (by omega) (Nat.le_refl _)
    rw [show ((q + t : Nat) : Int) = (q : Int) + (t : Int) by omega] at this
    rw [Hx.out, Hcp.out]; exact this
  have S2 : Hid (∀ V : World, (Instr.sliceAt 34 (.slice xa xl xc) (some (.int .i64 (t : Int))) none none).run Tryz.prog V = .ok (.slice y yl yc) V) := fun V => by
    have := slice_back V xa xl xc t ht hxc
    rw [Hy.out, Hyl.out, Hyc.out]; exact this
  have hR2 : Reads (w.alloc (.cells #[.int .i64 (q : Int), .slice xa xl xc] 83)).drew y yl yc (o.drop t) := by
    have h1 := (hR.below hb.drew).part t xl ht (Nat.le_refl _)
    rw [List.take_of_length_le (by rw [List.length_drop]; omega)] at h1
    rw [Hy.out, Hyl.out, Hyc.out]; exact h1
  have hg2 : (w.alloc (.cells #[.int .i64 (q : Int), .slice xa xl xc] 83)).drew.heap[g]? = some (.cells (cellsOf s).toArray 5 (0, 0)) := (hb.drew.block g hgl).trans hg
  obtain ⟨w5, hcp, hn5, hg5⟩ := run_copy_done _ 3 g s hg2 (q + t) cp cp x y yl yc (o.drop t) hR2 (by rw [Hyl.out]; omega) (by rw [Hyl.out, Hcp.out]; omega) (fun h0 => by
    rw [Hx.out]
    unfold subA
    rw [Hyl.out] at h0
    rw [if_neg (by omega)]
    show some (Addr.add ⟨g, 0, none⟩ (q + t)) = _
    rw [add_plain, Nat.zero_add])
  have HCP := hidd hcp
  have HF : Hid (w5.heap[g]? = some (.cells (cellsOf (doneB s (q + t, o.drop t))).toArray 5 (0, 0)) ∧ w.grownBy w5 (some g)) :=
    ⟨hn5, ⟨hg5.os.trans hb.os, hg5.tape.trans hb.tape, hg5.output.trans hb.output, Nat.le_trans hb.size hg5.size, fun k hk hn => (hg5.block k (Nat.lt_of_lt_of_le hk hb.size) hn).trans (hb.block k hk)⟩⟩
  have hpg : p ≠ g := by
    rintro rfl
    simp [World.cell?, hg] at c0
    rcases s with _ | ⟨a, r⟩
    · simp [cellsOf] at c0
    · simp [cellsOf] at c0
  have HH : Hid (w5.cell? ⟨p, 0, none⟩ = some (.slice (some ⟨g, 0, none⟩) m m) ∧ w5.cell? ⟨w.heap.size, 0, none⟩ = some (.int .i64 (q : Int)) ∧ w5.cell? ⟨w.heap.size, 1, none⟩ = some (.slice xa xl xc)) := by
    have k1 : w5.heap[p]? = (w.alloc (.cells #[.int .i64 (q : Int), .slice xa xl xc] 83)).heap[p]? := hg5.block p (Nat.lt_of_lt_of_le hpl hb.size) (fun e => hpg (Option.some.inj e))
    have k2 : w5.heap[w.heap.size]? = (w.alloc (.cells #[.int .i64 (q : Int), .slice xa xl xc] 83)).heap[w.heap.size]? := hg5.block _ (heap_lt hnew) (fun e => by have := Option.some.inj e; omega)
    exact ⟨(World.cell?_of_block (a := ⟨p, 0, none⟩) k1).trans d0, (World.cell?_of_block (a := ⟨w.heap.size, 0, none⟩) k2).trans b0, (World.cell?_of_block (a := ⟨w.heap.size, 1, none⟩) k2).trans b1⟩
  unfold ptr
  clear hcp hn5 hg5 hg2 hR2 hnew hR Hx Hcp Hy Hyl Hyc hg c0 hs
  go_enter Tryz.func35, Tryz.ntmps35
  go_wp2
  refine wp_region_held_drew (S := (fun V => V.cell? ⟨p, 0, none⟩ = some (.slice (some ⟨g, 0, none⟩) m m) ∧ V.cell? ⟨w.heap.size, 0, none⟩ = some (.int .i64 (q : Int)) ∧ V.cell? ⟨w.heap.size, 1, none⟩ = some (.slice xa xl xc))) (by kernel_rfl) ⟨d0, b0, b1⟩ (fun hHeld => ?_)
  refine zX 0 (.pointer (some ⟨p, 0, none⟩)) rfl hHeld ?_
  try simp only [Act.put, pS1, pS2, pS3]
  refine zX 1 (.pointer (some ⟨p, 0, none⟩)) rfl hHeld ?_
  try simp only [Act.put, pS1, pS2, pS3]
  refine zX 2 (.pointer (some ⟨p, 0, none⟩)) rfl hHeld ?_
  try simp only [Act.put, pS1, pS2, pS3]
  refine zW 3 (.slice (some ⟨g, 0, none⟩) m m) rfl (Or.inl ⟨by rfl, by intro W hSw; have h1 := hSw.1; go_simp⟩) hHeld ?_
  try simp only [Act.put, pS1, pS2, pS3]
  refine zX 4 (.pointer (some ⟨w.heap.size, 0, none⟩)) rfl hHeld ?_
  try simp only [Act.put, pS1, pS2, pS3]
  refine zW 5 (.int .i64 q) rfl (Or.inl ⟨by rfl, by intro W hSw; have h1 := hSw.2.1; go_simp⟩) hHeld ?_
  try simp only [Act.put, pS1, pS2, pS3]
  refine zX 6 (.int .i64 t) rfl hHeld ?_
  try simp only [Act.put, pS1, pS2, pS3]
  refine zX 7 (.int .i64 ((q : Int) + (t : Int))) rfl hHeld ?_
  try simp only [Act.put, pS1, pS2, pS3]
  refine zW 8 (.slice x cp cp) rfl (Or.inl ⟨by rfl, by intro W hSw; have h1 := S1.out W; go_simp⟩) hHeld ?_
  try simp only [Act.put, pS1, pS2, pS3]
  refine zX 9 (.pointer (some ⟨w.heap.size, 1, none⟩)) rfl hHeld ?_
  try simp only [Act.put, pS1, pS2, pS3]
  refine zW 10 (.slice xa xl xc) rfl (Or.inl ⟨by rfl, by intro W hSw; have h1 := hSw.2.2; go_simp⟩) hHeld ?_
  try simp only [Act.put, pS1, pS2, pS3]
  refine zX 11 (.int .i64 t) rfl hHeld ?_
  try simp only [Act.put, pS1, pS2, pS3]
  refine zW 12 (.slice y yl yc) rfl (Or.inl ⟨by rfl, by intro W hSw; have h1 := S2.out W; go_simp⟩) hHeld ?_
  try simp only [Act.put, pS1, pS2, pS3]
  refine wpAnyH_ready (rs := [13]) (by kernel_rfl) (by simp) ?_
  refine (AllReadyH.cons (o := { dst := some 19, op := .call { callee := .builtin Builtin.copy, args := #[.tmp 14, .tmp 18], argTypes := #[34, 34] }, type := 3, pos := "disk.go:143", after := #[zD 8, zD 12], guard := none }) rfl (fun K hK => ?_) AllReadyH.nil)
  refine step_copy_run9 rfl (.tmp 14) (.tmp 18) 34 34 rfl _ _ _ w5 rfl rfl HCP.out ?_
  refine hK.out _ _ HH.out (fun hHeld => ?_)
  clear hK K
  try simp only [Act.put, pS1, pS2, pS3]
  refine wpAnyH_done (by kernel_rfl) ?_ _
  go_wp2
  refine bodyPost_end (results_none rfl _ _ _) rfl ?_
  exact ⟨⟨_, rfl⟩, HF.out⟩
end Go.Proofs.YtgclohgcehhfnabGreatDoor
/- The program's disk: the pending writes from one on. -/
namespace Go.Proofs.YtgclohgcehhfnabGreatDoor
open Go.RowKit Go.Shelf Nums
set_option linter.unusedVariables false
set_option linter.unusedSimpArgs false
set_option maxRecDepth 100000
theorem pwCells_next (C : Nat → PwT) (m : Nat) : pwCells C (m + 1) = pwCells C m ++ [.int .i64 (C m).at_, .slice (C m).a (C m).len (C m).cap] := by
  unfold pwCells
  rw [List.range_succ, List.flatMap_append]
  rfl
theorem pwCells_length (C : Nat → PwT) (m : Nat) : (pwCells C m).length = m * 2 := by rw [pwCells_pwL, pwL_length, List.length_map, List.length_range]
theorem pwCells_at (C : Nat → PwT) : ∀ (m i : Nat), i < m → (pwCells C m)[i * 2]? = some (.int .i64 (C i).at_) ∧ (pwCells C m)[i * 2 + 1]? = some (.slice (C i).a (C i).len (C i).cap)
  | 0, i, h => by omega
  | m + 1, i, h => by
    have hl := pwCells_length C m
    rw [pwCells_next]
    by_cases e : i < m
    · rw [List.getElem?_append_left (by omega), List.getElem?_append_left (by omega)]
      exact pwCells_at C m i e
    · obtain rfl : i = m := by omega
      rw [List.getElem?_append_right (by omega), List.getElem?_append_right (by omega), hl, Nat.sub_self, show i * 2 + 1 - i * 2 = 1 by omega]
      exact ⟨rfl, rfl⟩
theorem slice_backW (W : World) (a : Option Addr) (len cap lo : Nat) (h : lo ≤ len) (hc : len ≤ cap) : (Instr.sliceAt 60 (.slice a len cap) (some (.int .i64 lo)) none none).run Tryz.prog W = .ok (.slice (if cap = lo then a else a.map (·.add (lo * 2))) (len - lo) (cap - lo)) W := by
  have hz : ∀ w, (sizeOf 83).run Tryz.prog w = .ok 2 w := fun w => by
    have h : (Tryz.prog.info? 83).map (·.size) = some 2 := by kernel_rfl
    cases hq : Tryz.prog.info? 83 with
    | none => rw [hq] at h; cases h
    | some i =>
      rw [hq] at h
      simp only [Option.map_some, Option.some.injEq] at h
      simp [sizeOf, typeInfo, hq, h]
  simp [Instr.sliceAt, Instr.slice, Instr.sliceBounds, Instr.sliceBound, asIntOf, run_underlying Tryz.underlying60, hz, h, hc]
def cutC (C : Nat → PwT) (K m : Nat) (i : Nat) : PwT := if i < m - K then C (K + i) else ⟨0, none, 0, 0⟩
theorem list_cut {W : World} {pv : Value} {C : Nat → PwT} {m : Nat} (h : W.ownsRow 0 83 2 pv m (pwCells C m)) (K : Nat) (hK : K ≤ m) :
    ∃ pa pc a c, pv = .slice pa m pc ∧ (∀ V, (Instr.sliceAt 60 (.slice pa m pc) (some (.int .i64 K)) none none).run Tryz.prog V = .ok (.slice a (m - K) c) V) ∧ (m - K = 0 ∨ ∃ b, pv.ownBlock = some b ∧ a = some ⟨b, K * 2, none⟩ ∧ PCells W b (K * 2) (m - K) (cutC C K m)) := by
  rcases h.2 with ⟨rfl, rfl⟩ | ⟨g, cap, cur, rfl, h0, hg, h3⟩
  · exact ⟨none, 0, none, 0 - K, rfl, fun V => by
      have := slice_backW V none 0 0 K hK (Nat.le_refl _)
      obtain rfl : K = 0 := by omega
      exact this, .inl (by omega)⟩
  · have hmc : m ≤ cap := h3.1
    refine ⟨_, _, _, _, rfl, fun V => slice_backW V _ m cap K hK hmc, ?_⟩
    by_cases e : m - K = 0
    · exact .inl e
    · right
      refine ⟨g, rfl, ?_, ?_⟩
      · rw [if_neg (by omega)]
        show some (Addr.add ⟨g, 0, none⟩ (K * 2)) = _
        rw [add_plain, Nat.zero_add]
      · intro i hi
        have hc : cutC C K m i = C (K + i) := by unfold cutC; rw [if_pos hi]
        rw [hc]
        obtain ⟨h1, h2⟩ := pwCells_at C m (K + i) (by omega)
        have k1 := h.cells (g := g) rfl _ _ h1
        have k2 := h.cells (g := g) rfl _ _ h2
        rw [add_plain, Nat.zero_add] at k1 k2
        rw [show K * 2 + i * 2 = (K + i) * 2 by omega]
        exact ⟨k1, k2⟩
theorem LiesD.cut {w : World} {p g : Nat} {pv : Value} {C : Nat → PwT} {D : DkT} (h : LiesD w p g pv C D) (ok : OkD D) (K : Nat) (torn : Int) (x : Nat) :
    ∃ (q : Nat) (o : List UInt8), (cutC C K D.puts.length x).at_ = (q : Int) ∧ Reads w (cutC C K D.puts.length x).a (cutC C K D.puts.length x).len (cutC C K D.puts.length x).cap o ∧ q + (cutC C K D.puts.length x).len ≤ D.safe.length ∧ backT D K torn x ≤ (cutC C K D.puts.length x).len ∧
      (x = 0 → backT D K torn x = lastN (cutC C K D.puts.length x).len torn) ∧ (x ≠ 0 → backT D K torn x = 0) ∧ backU D K torn x = (q + backT D K torn x, o.drop (backT D K torn x)) ∧
      (∀ b off, (cutC C K D.puts.length x).a = some ⟨b, off, none⟩ → 0 < (cutC C K D.puts.length x).len → b ≠ p ∧ b ≠ g ∧ pv.ownBlock ≠ some b ∧ b < w.heap.size) := by
  by_cases hx : K + x < D.puts.length
  · have hc : cutC C K D.puts.length x = C (K + x) := by unfold cutC; rw [if_pos (by omega)]
    rw [hc]
    obtain ⟨h1, h2⟩ := h.old (K + x) hx
    have hfit := ok.puts _ (List.getElem_mem hx)
    have hol := oldB_length (s := foldK D (K + x)) (p := D.puts[K + x]) (by rw [foldK_length ok]; exact hfit)
    have hl : (C (K + x)).len = D.puts[K + x].2.length := h2.1.symm.trans hol
    refine ⟨D.puts[K + x].1, oldB (foldK D (K + x)) D.puts[K + x], h1, h2, by rw [hl]; exact hfit, by rw [hl]; exact backT_le hx, fun e => ?_, fun e => by unfold backT; rw [if_neg e], backU_some hx, fun b off e h0 => ?_⟩
    · unfold backT
      rw [if_pos e, List.getElem?_eq_getElem hx, hl]
      rfl
    · obtain ⟨a1, a2, a3⟩ := h.apart (K + x) hx b off e h0
      exact ⟨a1, a2, a3, reads_lt h2 b off e h0⟩
  · have hc : cutC C K D.puts.length x = ⟨0, none, 0, 0⟩ := by unfold cutC; rw [if_neg (by omega)]
    rw [hc]
    have hT : backT D K torn x = 0 := by
      unfold backT
      rw [List.getElem?_eq_none (by omega)]
      split
      · show lastN 0 torn = 0
        unfold lastN
        omega
      · rfl
    refine ⟨0, [], rfl, reads_none _, Nat.zero_le _, by rw [hT]; exact Nat.zero_le _, fun _ => by rw [hT]; show 0 = lastN 0 torn; unfold lastN; omega, fun _ => hT, by rw [backU_none hx, hT]; rfl, fun b off e => by cases e⟩
attribute [local go_sem] Oper.semAt_some
theorem wpIn_calm {P : Program} {n : Nat} {c : Code} {K : Act → World → Prop} {Q : Exit → Act → World → Prop} {a : Act} {w : World} (h : c.wp P (Exit.then K (fun _ _ _ => False)) a w) : c.wpIn Fence.wide n P (Exit.then K Q) a w :=
  wpIn_wide.2 (wp_mono h fun e a w h => by cases e <;> first | exact h | exact h.elim)
theorem grown_past {B g : Nat} {A W W' : World} {row : Option Nat} (h : A.grownBy W (some g)) (k : W.grownBy W' row) (hB : A.heap.size ≤ B) (hr : ∀ r, row = some r → B ≤ r) : A.grownBy W' (some g) :=
  ⟨k.os.trans h.os, k.tape.trans h.tape, k.output.trans h.output, Nat.le_trans h.size k.size, fun i hi hn => (k.block i (Nat.lt_of_lt_of_le hi h.size) (fun e => by have := hr i e.symm; omega)).trans (h.block i hi hn)⟩
set_option maxHeartbeats 8000000 in
theorem crash_in (n : Nat) (hn : 3 ≤ n) (w : World) (p g : Nat) (pv : Value) (C : Nat → PwT) (D : DkT) (hL : LiesD w p g pv C D) (ok : OkD D) (hp : D.puts.length ≤ 1000000) (keep torn : Int) (hk : In64 keep) (ht : In64 torn) :
    CallsIn Fence.wide n Tryz.prog 12 #[ptr p, .int .i64 keep, .int .i64 torn] w fun e w' => e = .returned (.int .i64 0) ∧ LiesD w' p g (.slice none 0 0) C (crashD D keep torn) ∧ Away (memS p g pv C D.puts.length) w w' := by
  have h1 : 1 ≤ n := by omega
  have hr := ok.room
  have hgp : g ≠ p := row_ne hL.now hL.row (by decide)
  have hpl := heap_lt hL.row
  have hgl := heap_lt hL.now
  obtain ⟨K, hK⟩ : ∃ K : Nat, (K : Int) = min (max keep 0) D.puts.length := ⟨(min (max keep 0) D.puts.length).toNat, by omega⟩
  have hKm : K ≤ D.puts.length := by omega
  have HALL := hidd (undoL_all ok keep torn K hK)
  have HCT := hidd (fun x => hL.cut ok K torn x)
  obtain ⟨pa, pc, sa, sc, rfl, SL, hcut⟩ := list_cut hL.list K hKm
  obtain ⟨sl, Hsl⟩ : ∃ sl, Hid (sl = D.puts.length - K) := ⟨_, hidd rfl⟩
  have hB0 : Below w.heap.size w (((w.alloc (.cells #[.pointer (some ⟨p, 0, none⟩)] 27)).alloc (.cells #[.int .i64 torn] 3)).alloc (.cells #[.slice sa sl sc] 60)) := (((Below.refl _ w).alloc (Nat.le_refl _) _).alloc (by simp) _).alloc (by simp; omega) _
  have hsz : (((w.alloc (.cells #[.pointer (some ⟨p, 0, none⟩)] 27)).alloc (.cells #[.int .i64 torn] 3)).alloc (.cells #[.slice sa sl sc] 60)).heap.size = w.heap.size + 3 := by simp
  have g2 : (((w.alloc (.cells #[.pointer (some ⟨p, 0, none⟩)] 27)).alloc (.cells #[.int .i64 torn] 3)).alloc (.cells #[.slice sa sl sc] 60)).heap[w.heap.size + 1 + 1]? = some (.cells #[.slice sa sl sc] 60 (0, 0)) := by have := heap_alloc_new ((w.alloc (.cells #[.pointer (some ⟨p, 0, none⟩)] 27)).alloc (.cells #[.int .i64 torn] 3)) (.cells #[.slice sa sl sc] 60); simpa using this
  have g1 : (((w.alloc (.cells #[.pointer (some ⟨p, 0, none⟩)] 27)).alloc (.cells #[.int .i64 torn] 3)).alloc (.cells #[.slice sa sl sc] 60)).heap[w.heap.size + 1]? = some (.cells #[.int .i64 torn] 3 (0, 0)) := by
    have := heap_alloc_new (w.alloc (.cells #[.pointer (some ⟨p, 0, none⟩)] 27)) (.cells #[.int .i64 torn] 3)
    rw [show (w.alloc (.cells #[.pointer (some ⟨p, 0, none⟩)] 27)).heap.size = w.heap.size + 1 by simp] at this
    exact heap_keep this
  have g0 : (((w.alloc (.cells #[.pointer (some ⟨p, 0, none⟩)] 27)).alloc (.cells #[.int .i64 torn] 3)).alloc (.cells #[.slice sa sl sc] 60)).heap[w.heap.size]? = some (.cells #[.pointer (some ⟨p, 0, none⟩)] 27 (0, 0)) := heap_keep (heap_keep (heap_alloc_new w (.cells #[.pointer (some ⟨p, 0, none⟩)] 27)))
  have hbx : (((w.alloc (.cells #[.pointer (some ⟨p, 0, none⟩)] 27)).alloc (.cells #[.int .i64 torn] 3)).alloc (.cells #[.slice sa sl sc] 60)).cell? ⟨w.heap.size + 1 + 1, 0, none⟩ = some (.slice sa sl sc) := by rw [cell_of_row _ _ 0 _ _ (0, 0) g2]; rfl
  obtain ⟨b, hbg, hbl, HSEQ⟩ : ∃ b, b ≠ g ∧ b < w.heap.size ∧ SeqStopsK Fence.wide (n - 1) Tryz.prog 58 #[.pointer (some ⟨w.heap.size + 1 + 1, 0, none⟩)] (encW (cutC C K D.puts.length)) (KpW (w.heap.size + 1 + 1) b) (fun ys => ys = backL sl) (fun pre => pre <+: backL sl) sl (((w.alloc (.cells #[.pointer (some ⟨p, 0, none⟩)] 27)).alloc (.cells #[.int .i64 torn] 3)).alloc (.cells #[.slice sa sl sc] 60)) := by
    rcases hcut with e | ⟨b, e1, rfl, hP⟩
    · have e0 : sl = 0 := by rw [Hsl.out]; exact e
      subst e0
      exact ⟨p, hgp.symm, hpl, back_none (n - 1) _ sc sa _ _ _ (by omega) hbx⟩
    · have hbl := own_lt hL.list b e1
      refine ⟨b, ?_, hbl, back_stops (n - 1) (by omega) _ b (K * 2) sl sc _ _ (by rw [Hsl.out]; omega) (by omega) (by omega) hbx (fun i hi => ?_)⟩
      · rintro rfl
        rcases hL.list.2 with ⟨e, _⟩ | ⟨x, cap, cur, e, _, hq, _⟩
        · rw [e] at e1; cases e1
        · rw [e] at e1
          obtain rfl : x = b := Option.some.inj e1
          exact row_ne hq hL.now (by decide) rfl
      · rw [Hsl.out] at hi
        obtain ⟨k1, k2⟩ := hP i hi
        exact ⟨(hB0.cell (p := ⟨b, K * 2 + i * 2, none⟩) hbl).trans k1, (hB0.cell (p := ⟨b, K * 2 + i * 2 + 1, none⟩) hbl).trans k2⟩
  obtain ⟨c0, c1, c2, c3⟩ := hL.c
  obtain ⟨m, Hm⟩ : ∃ m, Hid (m = D.puts.length) := ⟨_, hidd rfl⟩
  obtain ⟨k0, Hk0⟩ : ∃ k, Hid (k = max keep 0) := ⟨_, hidd rfl⟩
  have HK := hidd hK
  rw [← Hsl.out, ← Hm.out] at SL
  rw [← Hm.out] at c1 HK
  have hmx : m ≤ 9223372036854775807 := by rw [Hm.out]; omega
  have MX : ∀ V : World, (Builtin.max_ #[3, 3] 3 #[.int .i64 keep, .int .i64 0]).run Tryz.prog V = .ok (.int .i64 k0) V := fun V => by rw [Hk0.out]; exact run_max2 V _ _ _ _
  have MN : ∀ V : World, (Builtin.min_ #[3, 3] 3 #[.int .i64 k0, .int .i64 (m : Int)]).run Tryz.prog V = .ok (.int .i64 (K : Int)) V := fun V => by rw [HK.out, ← Hk0.out]; exact run_min2 V _ _ _ _
  have c1' : ((w.alloc (.cells #[.pointer (some ⟨p, 0, none⟩)] 27)).alloc (.cells #[.int .i64 torn] 3)).cell? ⟨p, 1, none⟩ = some (.slice pa m pc) :=
    ((((Below.refl _ w).alloc (Nat.le_refl _) _).alloc (by simp) _).cell (p := ⟨p, 1, none⟩) hpl).trans c1
  -- what is there in the end
  have FINAL : Hid (∀ W' : World, (((w.alloc (.cells #[.pointer (some ⟨p, 0, none⟩)] 27)).alloc (.cells #[.int .i64 torn] 3)).alloc (.cells #[.slice sa sl sc] 60)).grownBy W' (some g) → W'.heap[g]? = some (.cells (cellsOf (undoL D K torn (backL sl))).toArray 5 (0, 0)) → ∀ W'' : World, W'.grownBy W'' (some p) → W''.heap[p]? = some (.cells #[.slice (some ⟨g, 0, none⟩) D.safe.length D.safe.length, .slice none 0 0, .bool false, .int .i64 0] 62 (0, 0)) →
      ∀ W3 : World, (∀ k, k < w.heap.size → W3.heap[k]? = W''.heap[k]?) → W''.heap.size ≤ W3.heap.size → W3.os = W''.os → W3.tape = W''.tape → W3.output = W''.output → LiesD W3 p g (.slice none 0 0) C (crashD D keep torn) ∧ Away (memS p g (.slice pa D.puts.length pc) C D.puts.length) w W3) := fun W' k1 k2 W'' k3 k4 W3 k5 k6 k7 k8 k9 => by
    have s1 := k1.size
    have s3 := k3.size
    rw [Hsl.out, HALL.out] at k2
    refine ⟨⟨?_, rfl, ?_, World.ownsRow_nil _ _ _ _, (fun i hi => by cases hi), (fun i hi => by cases hi)⟩, ⟨k7.trans (k3.os.trans (k1.os.trans hB0.os)), k8.trans (k3.tape.trans (k1.tape.trans hB0.tape)), k9.trans (k3.output.trans (k1.output.trans hB0.output)), by omega, fun k hk hn => ?_⟩⟩
    · rw [k5 p hpl, k4]
      show some (Obj.cells _ _ _) = some (.cells (dCells g (crashB D keep torn).length (.slice none 0 0) _) 62 (0, 0))
      rw [crashB_length ok]
      rfl
    · rw [k5 g hgl, k3.block g (by omega) (fun e => hgp (Option.some.inj e)), k2]
      rfl
    · have n1 : k ≠ p := fun e => hn (.inl e)
      have n2 : k ≠ g := fun e => hn (.inr (.inl e))
      exact (k5 k hk).trans ((k3.block k (by omega) (fun e => n1 (Option.some.inj e))).trans ((k1.block k (by omega) (fun e => n2 (Option.some.inj e))).trans (hB0.block k hk)))
  unfold ptr
  clear hK hcut
  refine callsIn_of_wp_marks Tryz.func12 rfl trivial ?_ rfl
  simp only [Tryz.ntmps12, List.size_toArray, List.length_cons, List.length_nil, Nat.reduceAdd, Nat.reduceSub, Array.replicate_succ, Array.replicate_zero, List.push_toArray, List.append_toArray, List.nil_append, List.cons_append]
  gi_wp2_with (refine ⟨trivial, ?_⟩; gi_at_call 33; refine (back_in (n - 1) _ _ _ _).mono ?_; rintro e w' ⟨rfl, rfl⟩)
  obtain ⟨W0, hW0⟩ : ∃ W0, (((w.alloc (.cells #[.pointer (some ⟨p, 0, none⟩)] 27)).alloc (.cells #[.int .i64 torn] 3)).alloc (.cells #[.slice sa sl sc] 60)) = W0 := ⟨_, rfl⟩
  rw [hW0] at hB0 hsz g2 g1 g0 hbx HSEQ FINAL ⊢
  clear hW0 MX MN c1' c1 SL
  have h00 : W0.grownBy W0 (some g) ∧ W0.heap[g]? = some (.cells (cellsOf (undoL D K torn [])).toArray 5 (0, 0)) := ⟨World.grownBy.refl _ _, (hB0.block g hgl).trans hL.now⟩
  refine wpIn_rangeFunc_ownH rfl h1 (gf := 58) (lb := #[.pointer (some ⟨w.heap.size + 1 + 1, 0, none⟩)]) rfl trivial (enters_of Tryz.func58 (by kernel_rfl) rfl)
    HSEQ kpW_t (kpW_b (by omega) (by omega)) (Below.refl _ _) (fun _ => rfl)
    (fun pre W => W0.grownBy W (some g) ∧ W.heap[g]? = some (.cells (cellsOf (undoL D K torn pre)).toArray 5 (0, 0)))
    (fun _ _ _ => False)
    (fun pre X Y row hs hg hr => ⟨grown_past hs.1 hg (Nat.le_refl _) (fun r e => (hr r e).1), (hg.block g (heap_lt hs.2) (fun e => by have := (hr g e.symm).1; omega)).trans hs.2⟩)
    (fun c pre X Y row hs hg hr => hs)
    h00
    (fun x a' W => ∃ Bx, W0.heap.size ≤ Bx ∧ W.heap[Bx]? = some (.cells #[.int .i64 (cutC C K D.puts.length x).at_, .slice (cutC C K D.puts.length x).a (cutC C K D.puts.length x).len (cutC C K D.puts.length x).cap] 83 (0, 0)) ∧ a' = { tmps := #[.pointer (some ⟨p, 0, none⟩), .int .i64 keep, .int .i64 torn, .pointer (some ⟨w.heap.size, 0, none⟩), undef, .pointer (some ⟨w.heap.size + 1, 0, none⟩), .int .i64 0, .int .i64 (K : Int), .int .i64 (x : Int), .pointer (some ⟨Bx, 0, none⟩), undef, .pointer (some ⟨p, 0, none⟩), .bool false, .int .i64 keep, .int .i64 k0, .pointer (some ⟨p, 0, none⟩), .pointer (some ⟨p, 0, none⟩), .pointer (some ⟨p, 1, none⟩), .slice pa m pc, .int .i64 (m : Int), .int .i64 (K : Int), .pointer (some ⟨p, 0, none⟩), .pointer (some ⟨p, 0, none⟩), .pointer (some ⟨p, 1, none⟩), .slice pa m pc, .int .i64 (K : Int), .slice sa sl sc, .func (.func 58) #[] #[.pointer (some ⟨w.heap.size + 1 + 1, 0, none⟩)], .int .i64 (x : Int), .agg #[.int .i64 (cutC C K D.puts.length x).at_, .slice (cutC C K D.puts.length x).a (cutC C K D.puts.length x).len (cutC C K D.puts.length x).cap], undef, undef, undef, undef, undef, undef, undef, undef, undef, undef, undef, undef, undef, undef, undef, undef], defers := [] })
    (fun x a' _ X Y row hs hg hr => by
      obtain ⟨Bx, k1, k2, k3⟩ := hs
      refine ⟨Bx, k1, (hg.block Bx (heap_lt k2) (fun e => ?_)).trans k2, k3⟩
      obtain ⟨_, o, ho, hc⟩ := hr Bx e.symm
      rw [k2] at ho; cases ho; cases hc)
    ?assign ?body ?done ?stop
  case assign =>
    rintro l pre x W Kx ⟨hgr, hrow⟩ hKx
    dsimp only [encW]
    gi_wp2
    have hal := World.grownBy_alloc W (.cells #[.int .i64 (cutC C K D.puts.length x).at_, .slice (cutC C K D.puts.length x).a (cutC C K D.puts.length x).len (cutC C K D.puts.length x).cap] 83) none
    refine hKx _ _ ((KeepsOthers.alloc _ _).from _) ⟨hal.size, hal.block _ (by have := hgr.size; omega) (fun e => by cases e), hal.block _ (by have := hgr.size; omega) (fun e => by cases e)⟩ ⟨grown_past hgr hal (Nat.le_refl _) (fun r e => by cases e), (hal.block g (heap_lt hrow) (fun e => by cases e)).trans hrow⟩ ⟨W.heap.size, hgr.size, World.alloc_heap_new W _, rfl⟩
  case body =>
    rintro l pre x a' W hl0 ⟨r, hlr⟩ ⟨hgr, hrow⟩ ⟨Bx, hBx, bX, rfl⟩ hlt
    have hgs := hgr.size
    obtain ⟨q, o, e1, hR, hfit, hTle, hT0, hT1, hU, hap⟩ := HCT.out x
    generalize cutC C K D.puts.length x = X at bX e1 hR hfit hTle hT0 hap ⊢
    obtain ⟨xat, xa, xl, xc⟩ := X
    dsimp only at bX e1 hR hfit hTle hT0 hap ⊢
    subst e1
    obtain ⟨tt, Htt⟩ : ∃ t, Hid (t = backT D K torn x) := ⟨_, hidd rfl⟩
    rw [← Htt.out] at hTle hT0 hT1 hU
    obtain ⟨ti, Hti⟩ : ∃ t : Int, Hid (t = (tt : Int)) := ⟨_, hidd rfl⟩
    have stay : ∀ k, k < w.heap.size → k ≠ g → W.heap[k]? = w.heap[k]? := fun k hk hn => (hgr.block k (by omega) (fun e => hn (Option.some.inj e))).trans (hB0.block k hk)
    have cX0 : W.cell? ⟨Bx, 0, none⟩ = some (.int .i64 (q : Int)) := by rw [cell_of_row W Bx 0 _ _ (0, 0) bX]; rfl
    have cX1 : W.cell? ⟨Bx, 1, none⟩ = some (.slice xa xl xc) := by rw [cell_of_row W Bx 1 _ _ (0, 0) bX]; rfl
    have hD0 : W.heap[w.heap.size]? = some (.cells #[.pointer (some ⟨p, 0, none⟩)] 27 (0, 0)) := (hgr.block _ (by omega) (fun e => by have := Option.some.inj e; omega)).trans g0
    have hT9 : W.heap[w.heap.size + 1]? = some (.cells #[.int .i64 torn] 3 (0, 0)) := (hgr.block _ (by omega) (fun e => by have := Option.some.inj e; omega)).trans g1
    have cD : W.cell? ⟨w.heap.size, 0, none⟩ = some (.pointer (some ⟨p, 0, none⟩)) := by rw [cell_of_row W _ 0 _ _ (0, 0) hD0]; rfl
    have cT : W.cell? ⟨w.heap.size + 1, 0, none⟩ = some (.int .i64 torn) := by rw [cell_of_row W _ 0 _ _ (0, 0) hT9]; rfl
    have cP : W.cell? ⟨p, 0, none⟩ = some (.slice (some ⟨g, 0, none⟩) D.safe.length D.safe.length) := (World.cell?_of_block (a := ⟨p, 0, none⟩) (stay p hpl hgp.symm)).trans c0
    have hRW : Reads W xa xl xc o := reads_same hR (by omega) fun b off e h0 => stay b (hap b off e h0).2.2.2 (hap b off e h0).2.1
    have UN : Hid (∀ W1, Below W.heap.size W W1 → Calls Tryz.prog 35 #[.pointer (some ⟨p, 0, none⟩), .agg #[.int .i64 (q : Int), .slice xa xl xc], .int .i64 ti] W1 fun e W2 => (∃ v, e = .returned v) ∧ KeepsFrom W0.heap.size W W2 ∧ KpW (w.heap.size + 1 + 1) b W W2 ∧ (W0.grownBy W2 (some g) ∧ W2.heap[g]? = some (.cells (cellsOf (undoL D K torn (pre ++ [x]))).toArray 5 (0, 0)))) := fun W1 hb1 => by
      have hlw : p < W.heap.size := by omega
      rw [Hti.out]
      refine (oUndo W1 p g D.safe.length (undoL D K torn pre) (undoL_length ok K torn pre) hr.2 ((hb1.cell (p := ⟨p, 0, none⟩) hlw).trans cP) ((hb1.block g (heap_lt hrow)).trans hrow) q tt xl xc xa o (hRW.below hb1) hfit hTle).mono ?_
      rintro e W2 ⟨hv, k2, k3⟩
      have k4 : W.grownBy W2 (some g) := ⟨k3.os.trans hb1.os, k3.tape.trans hb1.tape, k3.output.trans hb1.output, Nat.le_trans hb1.size k3.size, fun k hk hn => (k3.block k (Nat.lt_of_lt_of_le hk hb1.size) hn).trans (hb1.block k hk)⟩
      refine ⟨hv, KeepsFrom.of_grownBy k4 (fun j e => by have := Option.some.inj e; omega), ⟨k4.size, k4.block _ (by omega) (fun e => by have := Option.some.inj e; omega), k4.block _ (by omega) (fun e => hbg (Option.some.inj e))⟩, gr_trans hgr k4, ?_⟩
      rw [undoL_next, hU]
      exact k2
    have HTL : Hid (x = 0 → ((lastN xl torn : Nat) : Int) = ti) := fun e => by rw [Hti.out, hT0 e]
    have HTZ : Hid (x ≠ 0 → ti = 0) := fun e => by rw [Hti.out, hT1 e]; rfl
    have hxl : xl ≤ 1000000 := by omega
    clear hR hfit hTle hT0 hT1 hU hap hRW cP hD0 hT9 stay Htt HCT HALL FINAL HSEQ h00 hrow hlr HK Hk0
    by_cases hx : x = 0
    · have HT := HTL.out hx
      have hx' : ((x : Int) == 0) = true := by rw [hx]; rfl
      have LST := hidd (oLasting W (q : Int) xa xl xc torn hxl ht)
      rw [HT] at LST
      clear HTL HTZ HT hx Hti
      gi_wp2
      refine ⟨trivial, fun h => (by cases h), ?_⟩
      refine (CallsIn.inRound l (callsIn_wide.2 LST.out)).mono ?_
      rintro e W1 ⟨rfl, hb1⟩
      have cD1 := (hb1.cell (p := ⟨w.heap.size, 0, none⟩) (by show w.heap.size < W.heap.size; omega)).trans cD
      have cY0 := (hb1.cell (p := ⟨Bx, 0, none⟩) (heap_lt bX)).trans cX0
      have cY1 := (hb1.cell (p := ⟨Bx, 1, none⟩) (heap_lt bX)).trans cX1
      have UN1 := hidd (UN.out W1 hb1)
      clear UN LST hb1 cD cX0 cX1 cT bX
      gi_wp2
      refine ⟨trivial, fun h => (by cases h), ?_⟩
      refine (CallsIn.inRound l (callsIn_wide.2 UN1.out)).mono ?_
      rintro e W2 ⟨⟨v, rfl⟩, hf⟩
      have HF := hidd hf
      clear hf UN1 cD1 cY0 cY1
      gi_wp2
      exact HF.out
    · have HT := HTZ.out hx
      subst HT
      have hx' : ((x : Int) == 0) = false := by simpa using hx
      have UN1 := hidd (UN.out W (Below.refl _ _))
      clear HTL HTZ hx Hti UN bX cT
      gi_wp2
      refine ⟨trivial, fun h => (by cases h), ?_⟩
      refine (CallsIn.inRound l (callsIn_wide.2 UN1.out)).mono ?_
      rintro e W2 ⟨⟨v, rfl⟩, hf⟩
      have HF := hidd hf
      clear hf UN1 cD cX0 cX1
      gi_wp2
      exact HF.out
  case done =>
    rintro Dd ys W hD rfl ⟨hgr, hrow⟩ hK
    have hgs := hgr.size
    have hD0 : W.heap[w.heap.size]? = some (.cells #[.pointer (some ⟨p, 0, none⟩)] 27 (0, 0)) := (hgr.block _ (by omega) (fun e => by have := Option.some.inj e; omega)).trans g0
    have cD : W.cell? ⟨w.heap.size, 0, none⟩ = some (.pointer (some ⟨p, 0, none⟩)) := by rw [cell_of_row W _ 0 _ _ (0, 0) hD0]; rfl
    have hrp : W.heap[p]? = w.heap[p]? := (hgr.block p (by omega) (fun e => hgp (Option.some.inj e).symm)).trans (hB0.block p hpl)
    have cP : W.cell? ⟨p, 0, none⟩ = some (.slice (some ⟨g, 0, none⟩) D.safe.length D.safe.length) := (World.cell?_of_block (a := ⟨p, 0, none⟩) hrp).trans c0
    have cP2 : W.cell? ⟨p, 2, none⟩ = some (.bool D.stops) := (World.cell?_of_block (a := ⟨p, 2, none⟩) hrp).trans c2
    have cP3 : W.cell? ⟨p, 3, none⟩ = some (.int .i64 (lfD D)) := (World.cell?_of_block (a := ⟨p, 3, none⟩) hrp).trans c3
    have hrp2 := hrp.trans hL.row
    have cP1 : W.cell? ⟨p, 1, none⟩ = some (.slice pa D.puts.length pc) := by rw [cell_of_row W p 1 _ _ (0, 0) hrp2]; rfl
    have f0 := frozen_of_row W p 0 _ _ hrp2
    have f1 := frozen_of_row W p 1 _ _ hrp2
    have f2 := frozen_of_row W p 2 _ _ hrp2
    have f3 := frozen_of_row W p 3 _ _ hrp2
    have hs0 := Go.heap_setCell_same W p 0 _ _ (.slice (some ⟨g, 0, none⟩) D.safe.length D.safe.length) hrp2
    have hs1 := Go.heap_setCell_same _ p 1 _ _ (.slice none 0 0) hs0
    have hs2 := Go.heap_setCell_same _ p 2 _ _ (.bool false) hs1
    have hs3 := Go.heap_setCell_same _ p 3 _ _ (.int .i64 0) hs2
    have HG := hidd (gr_trans (gr_trans (gr_trans (Lib.grownBy_setCell W p 0 (.slice (some ⟨g, 0, none⟩) D.safe.length D.safe.length)) (Lib.grownBy_setCell _ p 1 (.slice none 0 0))) (Lib.grownBy_setCell _ p 2 (.bool false))) (Lib.grownBy_setCell _ p 3 (.int .i64 0)))
    have HRW : Hid (((((W.setCell ⟨p, 0, none⟩ (.slice (some ⟨g, 0, none⟩) D.safe.length D.safe.length)).setCell ⟨p, 1, none⟩ (.slice none 0 0)).setCell ⟨p, 2, none⟩ (.bool false)).setCell ⟨p, 3, none⟩ (.int .i64 0)).heap[p]? = some (.cells #[.slice (some ⟨g, 0, none⟩) D.safe.length D.safe.length, .slice none 0 0, .bool false, .int .i64 0] 62 (0, 0))) := by
      show _ = _
      rw [hs3]
      simp [dCells]
    have HFN := hidd (FINAL.out W hgr hrow _ HG.out HRW.out)
    have HKD : Hid (((((W.setCell ⟨p, 0, none⟩ (.slice (some ⟨g, 0, none⟩) D.safe.length D.safe.length)).setCell ⟨p, 1, none⟩ (.slice none 0 0)).setCell ⟨p, 2, none⟩ (.bool false)).setCell ⟨p, 3, none⟩ (.int .i64 0)).heap[Dd]? = some (.deferred (some []))) := (HG.out.block Dd (Array.getElem?_eq_some_iff.1 hK).1 (fun e => by have := Option.some.inj e; omega)).trans hK
    have HKP : Hid (((((W.setCell ⟨p, 0, none⟩ (.slice (some ⟨g, 0, none⟩) D.safe.length D.safe.length)).setCell ⟨p, 1, none⟩ (.slice none 0 0)).setCell ⟨p, 2, none⟩ (.bool false)).setCell ⟨p, 3, none⟩ (.int .i64 0)).cell? ⟨w.heap.size, 0, none⟩ = some (.pointer (some ⟨p, 0, none⟩)) ∧ ((((W.setCell ⟨p, 0, none⟩ (.slice (some ⟨g, 0, none⟩) D.safe.length D.safe.length)).setCell ⟨p, 1, none⟩ (.slice none 0 0)).setCell ⟨p, 2, none⟩ (.bool false)).setCell ⟨p, 3, none⟩ (.int .i64 0)).cell? ⟨p, 0, none⟩ = some (.slice (some ⟨g, 0, none⟩) D.safe.length D.safe.length)) :=
      ⟨(World.cell?_of_block (a := ⟨w.heap.size, 0, none⟩) (HG.out.block w.heap.size (heap_lt hD0) (fun e => by have := Option.some.inj e; omega))).trans cD, by rw [cell_of_row _ p 0 _ _ (0, 0) HRW.out]; rfl⟩
    obtain ⟨rm, Hrm⟩ : ∃ rm, Hid (rm = D.safe.length) := ⟨_, hidd rfl⟩
    obtain ⟨st, Hst⟩ : ∃ st, Hid (st = D.stops) := ⟨_, hidd rfl⟩
    obtain ⟨lf, Hlf⟩ : ∃ lf, Hid (lf = lfD D) := ⟨_, hidd rfl⟩
    rw [← Hrm.out] at cP HG HRW HFN HKD HKP
    rw [← Hst.out] at cP2
    rw [← Hlf.out] at cP3
    rw [← Hm.out] at cP1
    clear hs0 hs1 hs2 hs3 hrp2 hrp hD0 FINAL HCT HALL HSEQ h00 hgr hrow HK Hk0 c0 c2 c3 Hst Hlf hL g0 g1 g2 hbx
    gi_wp2
    refine wpIn_calm ?_
    refine wp_region_held_drew (S := (fun V => V.cell? ⟨w.heap.size, 0, none⟩ = some (.pointer (some ⟨p, 0, none⟩)) ∧ V.cell? ⟨p, 0, none⟩ = some (.slice (some ⟨g, 0, none⟩) rm rm))) (by kernel_rfl) ⟨cD, cP⟩ (fun hHeld => ?_)
    refine zW 0 (.pointer (some ⟨p, 0, none⟩)) rfl (Or.inl ⟨by rfl, by intro W hSw; have h1 := hSw.1; go_simp⟩) hHeld ?_
    try simp only [Act.put, pS1, pS2, pS3]
    refine zW 1 (.pointer (some ⟨p, 0, none⟩)) rfl (Or.inl ⟨by rfl, by intro W hSw; have h1 := hSw.1; go_simp⟩) hHeld ?_
    try simp only [Act.put, pS1, pS2, pS3]
    refine zX 2 (.pointer (some ⟨p, 0, none⟩)) rfl hHeld ?_
    try simp only [Act.put, pS1, pS2, pS3]
    refine zX 3 (.pointer (some ⟨p, 0, none⟩)) rfl hHeld ?_
    try simp only [Act.put, pS1, pS2, pS3]
    refine zW 4 (.slice (some ⟨g, 0, none⟩) rm rm) rfl (Or.inl ⟨by rfl, by intro W hSw; have h1 := hSw.2; go_simp⟩) hHeld ?_
    try simp only [Act.put, pS1, pS2, pS3]
    refine zX 5 (.agg #[.slice (some ⟨g, 0, none⟩) rm rm, .slice none 0 0, .bool false, .int .i64 0]) rfl hHeld ?_
    try simp only [Act.put, pS1, pS2, pS3]
    refine zX 6 (.pointer (some ⟨p, 0, none⟩)) rfl hHeld ?_
    try simp only [Act.put, pS1, pS2, pS3]
    refine wpAnyH_ready (rs := [7]) (by kernel_rfl) (by simp) ?_
    refine (AllReadyH.cons (o := { dst := none, op := .store 62 (.tmp 45) (.tmp 44), type := 0, pos := "disk.go:108", after := #[zD 6, zD 5, zP 0, zP 1, zP 2, zP 3, zP 4, zP 5], guard := none }) rfl (fun K hK => ?_) AllReadyH.nil)
    go_simp
    refine hK.out _ _ HKP.out (fun hHeld => ?_)
    clear hK K
    try simp only [Act.put, pS1, pS2, pS3]
    refine wpAnyH_done (by kernel_rfl) ?_ _
    clear hHeld
    gi_wp2
    refine ⟨by simp, .inl ⟨_, _, rfl, run_takeDeferred (show ((((W.drew.setCell ⟨p, 0, none⟩ (.slice (some ⟨g, 0, none⟩) rm rm)).setCell ⟨p, 1, none⟩ (.slice none 0 0)).setCell ⟨p, 2, none⟩ (.bool false)).setCell ⟨p, 3, none⟩ (.int .i64 0)).heap[Dd]? = _ from HKD.out), ?_⟩⟩
    have hgd := grownBy_putObj' ((((W.drew.setCell ⟨p, 0, none⟩ (.slice (some ⟨g, 0, none⟩) rm rm)).setCell ⟨p, 1, none⟩ (.slice none 0 0)).setCell ⟨p, 2, none⟩ (.bool false)).setCell ⟨p, 3, none⟩ (.int .i64 0)) Dd (.deferred none)
    obtain ⟨k1, k2⟩ := HFN.out (((((W.drew.setCell ⟨p, 0, none⟩ (.slice (some ⟨g, 0, none⟩) rm rm)).setCell ⟨p, 1, none⟩ (.slice none 0 0)).setCell ⟨p, 2, none⟩ (.bool false)).setCell ⟨p, 3, none⟩ (.int .i64 0)).putObj Dd (.deferred none)) (fun k hk => hgd.block k (by have := HG.out.size; show k < ((((W.setCell ⟨p, 0, none⟩ (.slice (some ⟨g, 0, none⟩) rm rm)).setCell ⟨p, 1, none⟩ (.slice none 0 0)).setCell ⟨p, 2, none⟩ (.bool false)).setCell ⟨p, 3, none⟩ (.int .i64 0)).heap.size; omega) (fun e => by have := Option.some.inj e; omega)) hgd.size hgd.os hgd.tape hgd.output
    refine ⟨.int .i64 0, ?_, rfl, k1, k2⟩
    simp [results, Tryz.f12, go_sem]
  case stop =>
    rintro D c pre W hD hpre hf hK
    exact hf.elim
end Go.Proofs.YtgclohgcehhfnabGreatDoor
/- What the landed disk's calls answer is what the document says. -/
namespace Go.Proofs.YtgclohgcehhfnabGreatDoor
open Go.RowKit Nums
set_option linter.unusedVariables false
set_option linter.unusedSimpArgs false
set_option maxRecDepth 100000
theorem oCrash (w : World) (p : Nat) (D : DkT) (S : Nat → Prop) (h : OAt w p D S) (hp : D.puts.length ≤ 1000000) (keep torn : Int) (hk : In64 keep) (ht : In64 torn) :
    Calls Tryz.prog 12 #[ptr p, .int .i64 keep, .int .i64 torn] w fun e w' => e = .returned (.int .i64 0) ∧ (∃ S', OAt w' p (crashD D keep torn) S' ∧ ∀ b, S' b → S b ∨ w.heap.size ≤ b) ∧ Away S w w' := by
  obtain ⟨ok, g, pv, C, hL, hS⟩ := h
  refine ((callsIn_wide (n := 3)).1 (crash_in 3 (by decide) w p g pv C D hL ok hp keep torn hk ht)).mono ?_
  rintro e w' ⟨rfl, hl, ha⟩
  refine ⟨rfl, ⟨memS p g (.slice none 0 0) C 0, ⟨crashD_ok ok keep torn, g, .slice none 0 0, C, hl, fun b => Iff.rfl⟩, fun b hb => .inl ((hS b).2 ?_)⟩, ⟨ha.os, ha.tape, ha.output, ha.size, fun k hk hn => ha.block k hk (fun e => hn ((hS k).2 e))⟩⟩
  rcases hb with e | e | e | ⟨i, hi, _⟩
  · exact .inl e
  · exact .inr (.inl e)
  · cases e
  · cases hi
theorem diskC : DiskC OAt where
  ok := fun h => h.ok
  lt := fun h => h.lt
  keep := fun h hs hb => h.keep hs hb
  calm := fun h hs => by
    obtain ⟨ok, g, pv, C, hL, hS⟩ := h
    rw [hL.dn, hs]
    rfl
  new := oNew
  newNo := oNewNo
  room := oRoom
  write := oWrite
  sync := oSync
  read := oRead
  down := oDown
  crash := oCrash
end Go.Proofs.YtgclohgcehhfnabGreatDoor
