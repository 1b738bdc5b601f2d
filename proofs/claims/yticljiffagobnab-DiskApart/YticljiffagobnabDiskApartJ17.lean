/- Texts of our own that the row of DiskApart leans on, part 17. -/
import Derived.Test.YticljiffagobnabDiskApartJ6
import Derived.Test.YticljiffagobnabDiskApartJ10
import Derived.Test.YticljiffagobnabDiskApartJ16

/- What the document's New, Read, Write, Sync and Stop answer. -/
namespace Go.Proofs.Yticljiffagobnab
open Go.RowKit Nums Sums
set_option linter.unusedVariables false
set_option linter.unusedSimpArgs false
set_option maxRecDepth 100000
theorem infoP : (Try.prog.info? 60).map (fun i => (i.zero, i.size, i.bytes)) = some (some (.agg #[.int .i64 0, .string ⟨#[]⟩]), 2, 24) := by kernel_rfl
/-- A write put behind the others. -/
theorem run_append_put (W : World) (v : Value) (l : List (Nat × List UInt8)) (q : Nat × List UInt8) (hown : W.ownsRow 0 60 2 v l.length (pcells l)) (a : Addr)
    (hN : ∀ j u, (pcells [q])[j]? = some u → W.cell? (a.add j) = some u) (hlen : l.length ≤ 1000000) :
    ∃ v' w', (Builtin.append_ #[43, 43] 43 #[v, .slice (some a) 1 1]).run Try.prog W = .ok v' w' ∧ w'.ownsRow 0 60 2 v' (l ++ [q]).length (pcells (l ++ [q])) ∧ W.grownBy w' v.ownBlock ∧ (v'.ownBlock = v.ownBlock ∨ ∃ g, v'.ownBlock = some g ∧ W.heap.size ≤ g) := by
  obtain ⟨i0, hi, hz0, hz1, hz2⟩ := info_parts infoP
  have hl1 : (pcells [q]).length = 1 * 2 := pcells_length [q]
  have hu : Try.prog.underlying 43 = some (.slice 60) := Try.underlying43
  obtain ⟨v', w', hr, ho, hg, _⟩ := run_append_own (P := Try.prog) W 0 43 43 60 i0 _ 2 24 hu hi hz0 hz1 hz2 (by rfl) (by decide) v l.length _ hown a 1 1 (pcells [q])
    hl1 hN (pcells_one _) (by unfold maxLen; omega) (by omega) (Nat.zero_le _)
  refine ⟨v', w', hr, ?_, hg, ?_⟩
  · rw [List.length_append, pcells_append]
    exact ho
  · have hi1 : (pcells [q]).length = 1 * i0.size := by rw [hz1, hl1]
    rcases hown.2 with ⟨rfl, h0⟩ | ⟨g, cap, cur, rfl, hbg, hgg, hnc, hcm, hcs, htake⟩
    · have := run_append_nil (P := Try.prog) W 43 43 60 i0 _ hu hi hz0 a 1 1 (pcells [q]) hi1 hN (by omega) (by omega) (by omega)
      rw [hr] at this
      cases this
      exact .inr ⟨W.heap.size, rfl, Nat.le_refl _⟩
    · by_cases hroom : l.length + 1 ≤ cap
      · have := run_append_room (P := Try.prog) W 43 43 60 i0 hu hi g l.length cap cur hgg a 1 1 (pcells [q]) hi1 hN (pcells_one _) hroom (by rw [hz1, hl1, hcs]; omega)
        rw [hr] at this
        cases this
        exact .inl rfl
      · have hx : (pcells l).length = l.length * i0.size := by rw [hz1]; exact hown.1
        have := run_append_grow (P := Try.prog) W 43 43 60 i0 _ hu hi hz0 ⟨g, 0, none⟩ l.length cap (pcells l) hx (hown.cells (g := g) rfl) a 1 1 (pcells [q]) hi1 hN (by omega) (by omega) (growslice_fits (by omega) (by rw [hz2]; omega))
        rw [hr] at this
        cases this
        exact .inr ⟨W.heap.size, rfl, Nat.le_refl _⟩
/-- The literal of a write, the append, the store: what is there then. -/
theorem MRow.append {w : World} {p : Nat} {D : DkT} {v : Value} (h : MRow w p D v) (n : Nat) (b : List UInt8) (B : ByteArray) (HB : Hid (B = bD b)) (hl : D.puts.length ≤ 1000000) :
    ∃ v' w', (Builtin.append_ #[43, 43] 43 #[v, .slice (some ⟨w.heap.size, 0, none⟩) 1 1]).run Try.prog (w.alloc (.cells #[.int .i64 (n : Int), .string B] 60)) = .ok v' w' ∧
      w'.cell? ⟨p, 1, none⟩ = some v ∧ w'.frozen? ⟨p, 1, none⟩ = false ∧ MRow (w'.setCell ⟨p, 1, none⟩ v') p { D with puts := D.puts ++ [(n, b)] } v' ∧ (v'.ownBlock = v.ownBlock ∨ ∃ g, v'.ownBlock = some g ∧ w.heap.size ≤ g) ∧
      Away (fun k => k = p ∨ v.ownBlock = some k) w w' ∧ Away (fun k => k = p ∨ v.ownBlock = some k) w (w'.setCell ⟨p, 1, none⟩ v') := by
  have hb0 : Below w.heap.size w (w.alloc (.cells #[.int .i64 (n : Int), .string B] 60)) := (Below.refl _ _).alloc (Nat.le_refl _) _
  have h' := h.below hb0
  obtain ⟨v', w', hr, ho, hg, hm⟩ := run_append_put (w.alloc (.cells #[.int .i64 (n : Int), .string B] 60)) v D.puts (n, b) h'.2 ⟨w.heap.size, 0, none⟩ (by
    intro j u hj
    rw [add_plain, Nat.zero_add, cell_of_row _ _ j _ 60 (0, 0) (heap_alloc_new w _), HB.out]
    match j, hj with
    | 0, hj => simpa [pcells] using hj
    | 1, hj => simpa [pcells] using hj
    | j + 2, hj => simp [pcells] at hj) hl
  have q1 : w'.heap[p]? = some (.cells (mCells D v) 45 (0, 0)) := (hg.block _ (heap_lt h'.1) (fun e => h'.apart e.symm)).trans h'.1
  have aw : Away (fun k => k = p ∨ v.ownBlock = some k) w w' := ⟨hg.os.trans hb0.os, hg.tape.trans hb0.tape, hg.output.trans hb0.output, Nat.le_trans hb0.size hg.size, fun k hk hs => (hg.block k (Nat.lt_of_lt_of_le hk hb0.size) (fun e => hs (.inr e.symm))).trans (hb0.block k hk)⟩
  have hsz : w.heap.size + 1 ≤ w'.heap.size := by have := hg.size; simp at this; omega
  have hm' : v'.ownBlock = v.ownBlock ∨ ∃ g, v'.ownBlock = some g ∧ w.heap.size ≤ g := by
    rcases hm with e | ⟨q, e, hq⟩
    · exact .inl e
    · exact .inr ⟨q, e, by simp at hq; omega⟩
  have hap : v'.ownBlock ≠ some p := by
    rcases hm' with e | ⟨q, e, hq⟩
    · rw [e]; exact h.apart
    · rw [e]; intro e2; have := Option.some.inj e2; have := h.lt.1; omega
  refine ⟨v', w', hr, ?_, frozen_of_row w' p 1 _ _ q1, ⟨?_, ?_⟩, hm', aw, ?_⟩
  · rw [cell_of_row w' p 1 _ _ (0, 0) q1]; rfl
  · rw [Go.heap_setCell_same w' p 1 _ _ v' q1]
    rfl
  · exact ho.kept (Lib.grownBy_setCell w' p 1 v') (.inr hap)
  · refine aw.trans (away_grown (S := fun k => k = p) (Lib.grownBy_setCell w' p 1 v') rfl) fun x hx => .inl (.inl hx)
theorem zeros_conv (n : Nat) : bD (List.replicate n 0) = ⟨(List.replicate n (0 : UInt8)).toArray⟩ := rfl
theorem reads_row {W : World} {g : Nat} {l : List UInt8} {t : TypeId} (h : W.heap[g]? = some (.cells (cellsOf l).toArray t (0, 0))) (hl : l.length ≤ 1000000) : Reads W (some ⟨g, 0, none⟩) l.length l.length l := by
  refine ⟨rfl, Nat.le_refl _, by omega, .inr (.inr ⟨g, 0, rfl, heap_lt h, fun i hi => ?_⟩)⟩
  rw [Nat.zero_add, cell_of_row W g i _ t (0, 0) h]
  simp [cellsOf, hi]
set_option maxHeartbeats 2000000 in
theorem refNew_any (n : Nat) (hn : 1 ≤ n ∧ n ≤ 1000000) (w : World) :
    Calls Try.prog 6 #[.int .i64 n] w fun e w' => ∃ p S, e = .returned (.tuple #[ptr p, .int .i64 0]) ∧ MAt w' p (newD n) S ∧ (∀ b, S b → w.heap.size ≤ b) ∧ Below w.heap.size w w' := by
  have d1 : decide ((n : Int) < 1) = false := by rw [decide_eq_false_iff_not]; omega
  have d2 : decide ((1000000 : Int) < (n : Int)) = false := by rw [decide_eq_false_iff_not]; omega
  have hok := newD_ok n hn
  go_enter Try.func6, Try.ntmps6
  go_wp2_with (first
    | (show wpList _ _ _ ({ dst := some 11, op := _, type := _, pos := _, after := _, guard := _ } :: _) _ _; refine wpList_make_row rfl (.tmp 10) (.tmp 10) rfl n rfl rfl hn.2 ?_; intro g1 w1 HM; have hcv := conv_reads (reads_row HM.out.row (by rw [List.length_replicate]; omega)); rw [List.length_replicate, ← zeros_conv n] at hcv; obtain ⟨B, hB⟩ : ∃ B, B = bD (List.replicate n 0) := ⟨_, rfl⟩; rw [← hB] at hcv; try simp only [Act.put, List.setIfInBounds_toArray, List.set_cons_zero, List.set_cons_succ])
    | fail)
  go_ret2
  refine ⟨w1.heap.size, fun b => b = w1.heap.size, rfl, ⟨hok, .slice none 0 0, ⟨?_, ⟨rfl, .inl ⟨rfl, rfl⟩⟩⟩, fun b => ?_⟩, fun b hb => by have := HM.out.below.size; omega, HM.out.below.trans (((Below.refl _ _).alloc (Nat.le_refl _) _).mono HM.out.below.size)⟩
  · rw [heap_alloc_new w1 _]
    rfl
  · constructor
    · intro e; exact .inl e
    · rintro (e | e)
      · exact e
      · cases e
set_option maxHeartbeats 2000000 in
theorem refRead_any (w : World) (p : Nat) (D : DkT) (v : Value) (h : MRow w p D v) (ok : OkD D) (a n : Int) (ha : In64 a) (hn : In64 n) (T : ByteArray) (HT : Hid (T = bD (rdB D a n))) :
    Calls Try.prog 16 #[ptr p, .int .i64 a, .int .i64 n] w fun e w' => e = .returned (.tuple #[.string T, .int .i64 (rdE D a n)]) ∧ Below w.heap.size w w' := by
  have I1 := hidd (refIn_any w p D v h ok.room.2 a n ha hn)
  obtain ⟨x, hx⟩ : ∃ x, x = inB D.safe.length a n := ⟨_, rfl⟩
  have hnot : ∀ (x : Bool) (w : World), (Op.unary .not (.bool x)).run Try.prog w = .ok (.bool (!x)) w := fun _ _ => rfl
  unfold rdE
  unfold rdB at HT
  rw [← hx] at I1 HT ⊢
  unfold ptr at I1 ⊢
  cases x
  · have hT : T = ⟨#[]⟩ := HT.out
    subst hT
    clear h ok hx HT
    go_enter Try.func16, Try.ntmps16
    go_wp2_with fail
    refine I1.out.mono ?_
    rintro e w1 ⟨rfl, rfl⟩
    go_wp2
    go_ret2
    exact ⟨rfl, Below.refl _ _⟩
  · have hi := (inB_iff _ _ _).1 hx.symm
    obtain ⟨N, HN⟩ : ∃ N, Hid (N = bD (nowB D)) := ⟨_, hidd rfl⟩
    have N1 := hidd (refNow_any w p D v h ok N HN)
    unfold ptr at N1
    have hz : N.size = D.safe.length := by rw [HN.out, bD_size, nowB_length ok]
    have hrm := ok.room.2
    obtain ⟨a, rfl⟩ : ∃ k : Nat, a = (k : Int) := ⟨a.toNat, by omega⟩
    obtain ⟨n, rfl⟩ : ∃ k : Nat, n = (k : Int) := ⟨n.toNat, by omega⟩
    have SL : Hid (∀ W : World, (Instr.sliceAt 9 (.string N) (some (.int .i64 (a : Int))) (some (.int .i64 ((a : Int) + (n : Int)))) none).run Try.prog W = .ok (.string T) W) := fun W => by
      have := str_both (W := W) N a (a + n) (by omega) (by omega)
      rw [HT.out, if_pos rfl]
      rw [HN.out, bD_extract, show a + n - a = n by omega] at this
      rw [HN.out]
      simpa using this
    have hw1 := wrap_int ((a : Int) + (n : Int)) (by omega) (by omega)
    have sl := SL.out
    clear h ok hx HT HN hz hi SL
    go_enter Try.func16, Try.ntmps16
    go_wp2_with fail
    refine I1.out.mono ?_
    rintro e w1 ⟨rfl, rfl⟩
    go_wp2_with fail
    refine N1.out.mono ?_
    rintro e w2 ⟨rfl, hb2⟩
    have HB := hidd hb2
    clear hb2
    go_wp2
    go_ret2
    exact ⟨rfl, HB.out⟩
set_option maxHeartbeats 2000000 in
theorem refStop_any (w : World) (p : Nat) (D : DkT) (v : Value) (h : MRow w p D v) (n : Int) :
    Calls Try.prog 18 #[ptr p, .int .i64 n] w fun e w' => e = .returned (.int .i64 (stopE D n)) ∧ MRow w' p (stopD D n) v ∧ w.grownBy w' (some p) := by
  have HR := hidd h
  have c2 := h.c2
  have c3 := h.c3
  have c4 := h.c4
  have f2 := h.fz 2
  have f3 := h.fz 3
  have f4 := h.fz 4
  unfold stopD stopE ptr
  cases hd : D.down
  · rw [hd] at c2
    rw [if_neg (by simp)]
    by_cases hn : 0 ≤ n ∧ n ≤ 1000000
    · have d1 : decide (n < 0) = false := by rw [decide_eq_false_iff_not]; omega
      have d2 : decide (1000000 < n) = false := by rw [decide_eq_false_iff_not]; omega
      rw [if_pos hn, if_pos rfl]
      have hq : (n == 0) = decide (n = 0) := by rw [Bool.eq_iff_iff, beq_iff_eq, decide_eq_true_eq]
      have h1 := Go.heap_setCell_same w p 3 _ _ (.bool true) h.1
      have h2 := Go.heap_setCell_same _ p 4 _ _ (.int .i64 n) h1
      have h3 := Go.heap_setCell_same _ p 2 _ _ (.bool (n == 0)) h2
      have HG := hidd (gr_trans (gr_trans (Lib.grownBy_setCell w p 3 (.bool true)) (Lib.grownBy_setCell _ p 4 (.int .i64 n))) (Lib.grownBy_setCell _ p 2 (.bool (n == 0))))
      have HM : Hid (MRow (((w.setCell ⟨p, 3, none⟩ (.bool true)).setCell ⟨p, 4, none⟩ (.int .i64 n)).setCell ⟨p, 2, none⟩ (.bool (n == 0))) p { D with stops := true, left := n, down := decide (n = 0) } v) := by
        refine HR.out.set ?_ HG.out rfl
        rw [h3, hq]
        simp [mCells]
      obtain ⟨l, hll⟩ : ∃ l, l = D.left := ⟨_, rfl⟩
      obtain ⟨s, hs⟩ : ∃ s, s = D.stops := ⟨_, rfl⟩
      rw [← hll] at c4
      rw [← hs] at c3
      clear h h1 h2 h3 HR hd hll hs hn hq
      go_enter Try.func18, Try.ntmps18
      go_wp2
      go_ret
      exact ⟨rfl, HM.out, HG.out⟩
    · have d3 : decide (n < 0) = true ∨ decide (n < 0) = false ∧ decide (1000000 < n) = true := by
        by_cases hh : n < 0
        · left; simpa using hh
        · right; exact ⟨by simpa using hh, by rw [decide_eq_true_eq]; omega⟩
      rw [if_neg hn, if_neg (by omega)]
      clear hn h c3 c4 f2 f3 f4 hd
      rcases d3 with d3 | ⟨d3, d4⟩
      · go_enter Try.func18, Try.ntmps18
        go_wp2
        go_ret
        exact ⟨rfl, HR.out, World.grownBy.refl _ _⟩
      · go_enter Try.func18, Try.ntmps18
        go_wp2
        go_ret
        exact ⟨rfl, HR.out, World.grownBy.refl _ _⟩
  · rw [hd] at c2
    rw [if_pos rfl, if_neg (by omega)]
    clear h c3 c4 f2 f3 f4 hd
    go_enter Try.func18, Try.ntmps18
    go_wp2
    go_ret
    exact ⟨rfl, HR.out, World.grownBy.refl _ _⟩
end Go.Proofs.Yticljiffagobnab

/- What the document's Write and Sync answer. -/
namespace Go.Proofs.Yticljiffagobnab
open Go.RowKit Nums Sums
set_option linter.unusedVariables false
set_option linter.unusedSimpArgs false
set_option maxRecDepth 100000
theorem MAt.mk' {w w' : World} {p : Nat} {D' : DkT} {S : Nat → Prop} {v v' : Value} (hS : ∀ b, S b ↔ (b = p ∨ v.ownBlock = some b)) (ok : OkD D') (hr : MRow w' p D' v') (hm : v'.ownBlock = none ∨ v'.ownBlock = v.ownBlock ∨ ∃ g, v'.ownBlock = some g ∧ w.heap.size ≤ g) :
    ∃ S', MAt w' p D' S' ∧ ∀ b, S' b → S b ∨ w.heap.size ≤ b := by
  refine ⟨fun b => b = p ∨ v'.ownBlock = some b, ⟨ok, v', hr, fun b => Iff.rfl⟩, fun b hb => ?_⟩
  rcases hb with rfl | hb
  · exact .inl ((hS _).2 (.inl rfl))
  · rcases hm with e | e | ⟨g, e, hg⟩
    · rw [e] at hb; cases hb
    · rw [e] at hb; exact .inl ((hS b).2 (.inr hb))
    · rw [e] at hb; obtain rfl := Option.some.inj hb; exact .inr hg
theorem away_same {S T : Nat → Prop} {w w' : World} (h : Away S w w') (hST : ∀ b, S b → T b) : Away T w w' := ⟨h.os, h.tape, h.output, h.size, fun k hk ht => h.block k hk fun hs => ht (hST k hs)⟩
set_option maxHeartbeats 4000000 in
theorem refWrite_any (w : World) (p : Nat) (D : DkT) (S : Nat → Prop) (h : MAt w p D S) (hp : D.puts.length ≤ 1000000) (at_ : Int) (ha : In64 at_) (a : Option Addr) (len cap : Nat) (bs : List UInt8) (hR : Reads w a len cap bs) (hl : len ≤ 1000000) (hS : ∀ b off, a = some ⟨b, off, none⟩ → 0 < len → ¬ S b) :
    Calls Try.prog 13 #[ptr p, .int .i64 at_, .slice a len cap] w fun e w' => e = .returned (.int .i64 (writeE D at_ bs)) ∧ (∃ S', MAt w' p (writeD D at_ bs) S' ∧ ∀ b, S' b → S b ∨ w.heap.size ≤ b) ∧ Away S w w' := by
  obtain ⟨ok, v, hr, hSv⟩ := h
  have HR := hidd hr
  have hlen : bs.length = len := hR.1
  have HRD := hidd hR
  have c2 := hr.c2
  have hnot : ∀ (x : Bool) (w : World), (Op.unary .not (.bool x)).run Try.prog w = .ok (.bool (!x)) w := fun _ _ => rfl
  have I1 := hidd (refIn_any w p D v hr ok.room.2 at_ len ha (by unfold In64; omega))
  have hMid : Hid (MAt w p D S) := ⟨ok, v, hr, hSv⟩
  unfold ptr at I1 ⊢
  rcases writeE_two D at_ bs with ⟨h0, hd, hi⟩ | ⟨h0, hd⟩ | ⟨h0, hd, hi⟩
  · rw [hlen] at hi
    rw [hi] at I1
    rw [hd] at c2
    obtain ⟨n, rfl⟩ : ∃ k : Nat, at_ = (k : Int) := ⟨at_.toNat, by have := (inB_iff _ _ _).1 hi; omega⟩
    have hok2 : OkD (putD D (n : Int) bs) := putD_ok ok _ _ (by rw [hlen]; exact hi)
    obtain ⟨B, HB⟩ : ∃ B, Hid (B = bD bs) := ⟨_, hidd rfl⟩
    have hr' : MRow w.drew p D v := hr
    obtain ⟨v', w2, hrun, d1, f1, hm2, hob, aw1, aw2⟩ := hr'.append n bs B HB hp
    obtain ⟨av, lv, cv, rfl⟩ : ∃ a l c, v' = .slice a l c := by obtain ⟨a, c, e, _⟩ := hm2.len; exact ⟨a, _, c, e⟩
    have HRUN := hidd hrun
    have e1 : putD D (n : Int) bs = { D with puts := D.puts ++ [(n, bs)] } := rfl
    have T1 := hidd (refStep_any (w2.setCell ⟨p, 1, none⟩ (.slice av lv cv)) p (putD D (n : Int) bs) (.slice av lv cv) (by rw [e1]; exact hm2) hok2)
    unfold ptr at T1
    have c1a : w.drew.cell? ⟨p, 1, none⟩ = some v := hr.c1
    have c1b : (w.alloc (.cells #[.int .i64 (n : Int), .string B] 60)).cell? ⟨p, 1, none⟩ = some v := (hr.below ((Below.refl _ _).alloc (Nat.le_refl _) _)).c1
    have HA1 : Hid (Away (fun k => k = p ∨ v.ownBlock = some k) w w2) := ⟨aw1.os, aw1.tape, aw1.output, aw1.size, aw1.block⟩
    have HA2 : Hid (Away (fun k => k = p ∨ v.ownBlock = some k) w (w2.setCell ⟨p, 1, none⟩ (.slice av lv cv))) := ⟨aw2.os, aw2.tape, aw2.output, aw2.size, aw2.block⟩
    have HO := hidd hob
    have HW : Hid (writeD D (n : Int) bs = stepD (putD D (n : Int) bs)) := by show _ = _; unfold writeD; rw [if_pos h0]
    have HK2 := hidd hok2
    have CV : Hid (∀ W, Reads W a len cap bs → Sem.run Try.prog (convert 23 9 (.slice a len cap)) W = .ok (.string B) W) := fun W h => by rw [HB.out]; exact conv_reads h
    have HS1 : Hid (∀ W, Away (fun k => k = p ∨ v.ownBlock = some k) w W → Reads W a len cap bs) := fun W haw => HRD.out.away haw fun b off e h0 hs => hS b off e h0 ((hSv b).2 hs)
    have HSV := hidd hSv
    have HDn : Hid (D.down = false) := hd
    rw [h0]
    clear hr hr' ok hi hd hok2 hrun hm2 hob aw1 aw2 HB h0 hR hSv hS e1 hlen
    go_enter Try.func13, Try.ntmps13
    go_wp2_with fail
    refine I1.out.mono ?_
    rintro e w1 ⟨rfl, rfl⟩
    go_wp2
    refine wp_region_held_drew (S := (fun W => Reads W a len cap bs)) (by kernel_rfl) HRD.out (fun hHeld => ?_)
    refine wpAnyH_take (i := 0) (oi := { dst := some 17, op := Op.move (Operand.tmp 0), type := 29, pos := "ref.go:63", after := #[], guard := none }) (v := .pointer (some ⟨p, 0, none⟩)) rfl (by kernel_rfl) (by kernel_rfl) (by kernel_rfl) (fun _ _ _ h => h) (Or.inl ⟨by rfl, by intro W hSw; go_simp⟩) hHeld ?_
    try simp only [Act.put, List.setIfInBounds_toArray, List.set_cons_zero, List.set_cons_succ]
    refine wpAnyH_take (i := 1) (oi := { dst := some 18, op := Op.move (Operand.tmp 0), type := 29, pos := "ref.go:63", after := #[], guard := none }) (v := .pointer (some ⟨p, 0, none⟩)) rfl (by kernel_rfl) (by kernel_rfl) (by kernel_rfl) (fun _ _ _ h => h) (Or.inl ⟨by rfl, by intro W hSw; go_simp⟩) hHeld ?_
    try simp only [Act.put, List.setIfInBounds_toArray, List.set_cons_zero, List.set_cons_succ]
    refine wpAnyH_take (i := 2) (oi := { dst := some 19, op := Op.nilCheck (Operand.tmp 18), type := 0, pos := "ref.go:63", after := #[{ on := 1, ground := Ground.data }], guard := none }) (v := .pointer (some ⟨p, 0, none⟩)) rfl (by kernel_rfl) (by kernel_rfl) (by kernel_rfl) (fun _ _ _ h => h) (Or.inl ⟨by rfl, by intro W hSw; go_simp⟩) hHeld ?_
    try simp only [Act.put, List.setIfInBounds_toArray, List.set_cons_zero, List.set_cons_succ]
    refine wpAnyH_take (i := 3) (oi := { dst := some 20, op := Op.fieldAddr 45 (Operand.tmp 19) 1, type := 0, pos := "ref.go:63", after := #[{ on := 2, ground := Ground.data }], guard := none }) (v := .pointer (some ⟨p, 1, none⟩)) rfl (by kernel_rfl) (by kernel_rfl) (by kernel_rfl) (fun _ _ _ h => h) (Or.inl ⟨by rfl, by intro W hSw; go_simp⟩) hHeld ?_
    try simp only [Act.put, List.setIfInBounds_toArray, List.set_cons_zero, List.set_cons_succ]
    refine wpAnyH_take (i := 5) (oi := { dst := some 22, op := Op.move (Operand.tmp 1), type := 3, pos := "ref.go:63", after := #[], guard := none }) (v := .int .i64 n) rfl (by kernel_rfl) (by kernel_rfl) (by kernel_rfl) (fun _ _ _ h => h) (Or.inl ⟨by rfl, by intro W hSw; go_simp⟩) hHeld ?_
    try simp only [Act.put, List.setIfInBounds_toArray, List.set_cons_zero, List.set_cons_succ]
    refine wpAnyH_take (i := 6) (oi := { dst := some 23, op := Op.move (Operand.tmp 2), type := 23, pos := "ref.go:63", after := #[], guard := none }) (v := .slice a len cap) rfl (by kernel_rfl) (by kernel_rfl) (by kernel_rfl) (fun _ _ _ h => h) (Or.inl ⟨by rfl, by intro W hSw; go_simp⟩) hHeld ?_
    try simp only [Act.put, List.setIfInBounds_toArray, List.set_cons_zero, List.set_cons_succ]
    refine wpAnyH_take (i := 7) (oi := { dst := some 24, op := Op.convert 23 9 (Operand.tmp 23), type := 9, pos := "ref.go:63", after := #[{ on := 6, ground := Ground.data }], guard := none }) (v := .string B) rfl (by kernel_rfl) (by kernel_rfl) (by kernel_rfl) (fun _ _ _ h => h) (Or.inl ⟨by rfl, by intro W hSw; have h1 := CV.out W hSw; go_simp⟩) hHeld ?_
    try simp only [Act.put, List.setIfInBounds_toArray, List.set_cons_zero, List.set_cons_succ]
    refine wpAnyH_take (i := 8) (oi := { dst := some 25, op := Op.build 60 #[(0, Operand.tmp 22), (1, Operand.tmp 24)], type := 60, pos := "ref.go:63", after := #[{ on := 5, ground := Ground.data }, { on := 7, ground := Ground.data }], guard := none }) (v := .agg #[.int .i64 n, .string B]) rfl (by kernel_rfl) (by kernel_rfl) (by kernel_rfl) (fun _ _ _ h => h) (Or.inl ⟨by rfl, by intro W hSw; go_simp⟩) hHeld ?_
    try simp only [Act.put, List.setIfInBounds_toArray, List.set_cons_zero, List.set_cons_succ]
    refine wpAnyH_ready (rs := [4, 9]) (by kernel_rfl) (by simp) ?_
    refine (AllReadyH.cons (o := { dst := some 21, op := Op.load 43 (Operand.tmp 20), type := 43, pos := "ref.go:63", after := #[{ on := 3, ground := Ground.data }], guard := none }) rfl (fun K hK => ?_) (AllReadyH.cons (o := { dst := some 26, op := Op.buildSlice 43 1 #[(0, Operand.tmp 25)], type := 43, pos := "ref.go:63", after := #[{ on := 8, ground := Ground.data }], guard := none }) rfl (fun K hK => ?_) AllReadyH.nil))
    · go_simp
      refine hK.out _ _ hHeld (fun hHeld => ?_)
      clear hK K
      try simp only [Act.put, List.setIfInBounds_toArray, List.set_cons_zero, List.set_cons_succ]
      refine wpAnyH_ready (rs := [9]) (by kernel_rfl) (by simp) ?_
      refine (AllReadyH.cons (o := { dst := some 26, op := Op.buildSlice 43 1 #[(0, Operand.tmp 25)], type := 43, pos := "ref.go:63", after := #[{ on := 8, ground := Ground.data }], guard := none }) rfl (fun K hK => ?_) AllReadyH.nil)
      go_simp
      refine hK.out _ _ (hHeld.below ((Below.refl _ _).alloc (Nat.le_refl _) _)) (fun hHeld => ?_)
      clear hK K
      try simp only [Act.put, List.setIfInBounds_toArray, List.set_cons_zero, List.set_cons_succ]
      refine wpAnyH_ready (rs := [10]) (by kernel_rfl) (by simp) ?_
      refine (AllReadyH.cons (o := { dst := some 27, op := Op.call { callee := Callee.builtin Builtin.append, args := #[Operand.tmp 21, Operand.tmp 26], argTypes := #[43, 43] }, type := 43, pos := "ref.go:63", after := #[{ on := 4, ground := Ground.data }, { on := 9, ground := Ground.data }], guard := none }) rfl (fun K hK => ?_) AllReadyH.nil)
      refine step_append_run (by rfl) (.tmp 21) (.tmp 26) 43 43 (by rfl) _ _ _ _ (by rfl) (by rfl) HRUN.out ?_
      refine hK.out _ _ (HS1.out _ HA1.out) (fun hHeld => ?_)
      clear hK K
      try simp only [Act.put, List.setIfInBounds_toArray, List.set_cons_zero, List.set_cons_succ]
      refine wpAnyH_take (i := 11) (oi := { dst := some 28, op := Op.nilCheck (Operand.tmp 17), type := 0, pos := "ref.go:63", after := #[{ on := 0, ground := Ground.data }, { on := 0, ground := Ground.phase }, { on := 1, ground := Ground.phase }, { on := 2, ground := Ground.phase }, { on := 3, ground := Ground.phase }, { on := 4, ground := Ground.phase }, { on := 5, ground := Ground.phase }, { on := 6, ground := Ground.phase }, { on := 7, ground := Ground.phase }, { on := 8, ground := Ground.phase }, { on := 9, ground := Ground.phase }, { on := 10, ground := Ground.phase }], guard := none }) (v := .pointer (some ⟨p, 0, none⟩)) rfl (by kernel_rfl) (by kernel_rfl) (by kernel_rfl) (fun _ _ _ h => h) (Or.inl ⟨by rfl, by intro W hSw; go_simp⟩) hHeld ?_
      try simp only [Act.put, List.setIfInBounds_toArray, List.set_cons_zero, List.set_cons_succ]
      refine wpAnyH_take (i := 12) (oi := { dst := some 29, op := Op.fieldAddr 45 (Operand.tmp 28) 1, type := 0, pos := "ref.go:63", after := #[{ on := 11, ground := Ground.data }, { on := 0, ground := Ground.phase }, { on := 1, ground := Ground.phase }, { on := 2, ground := Ground.phase }, { on := 3, ground := Ground.phase }, { on := 4, ground := Ground.phase }, { on := 5, ground := Ground.phase }, { on := 6, ground := Ground.phase }, { on := 7, ground := Ground.phase }, { on := 8, ground := Ground.phase }, { on := 9, ground := Ground.phase }, { on := 10, ground := Ground.phase }], guard := none }) (v := .pointer (some ⟨p, 1, none⟩)) rfl (by kernel_rfl) (by kernel_rfl) (by kernel_rfl) (fun _ _ _ h => h) (Or.inl ⟨by rfl, by intro W hSw; go_simp⟩) hHeld ?_
      try simp only [Act.put, List.setIfInBounds_toArray, List.set_cons_zero, List.set_cons_succ]
      refine wpAnyH_ready (rs := [13]) (by kernel_rfl) (by simp) ?_
      refine (AllReadyH.cons (o := { dst := none, op := Op.store 43 (Operand.tmp 29) (Operand.tmp 27), type := 0, pos := "ref.go:63", after := #[{ on := 12, ground := Ground.data }, { on := 10, ground := Ground.data }, { on := 10, ground := Ground.chain }, { on := 0, ground := Ground.phase }, { on := 1, ground := Ground.phase }, { on := 2, ground := Ground.phase }, { on := 3, ground := Ground.phase }, { on := 4, ground := Ground.phase }, { on := 5, ground := Ground.phase }, { on := 6, ground := Ground.phase }, { on := 7, ground := Ground.phase }, { on := 8, ground := Ground.phase }, { on := 9, ground := Ground.phase }, { on := 10, ground := Ground.phase }], guard := none }) rfl (fun K hK => ?_) AllReadyH.nil)
      go_simp
      refine hK.out _ _ (HS1.out _ HA2.out) (fun hHeld => ?_)
      clear hK K
      try simp only [Act.put, List.setIfInBounds_toArray, List.set_cons_zero, List.set_cons_succ]
      refine wpAnyH_done (by kernel_rfl) ?_ _
      go_wp2_with fail
      refine T1.out.mono ?_
      rintro e w3 ⟨rfl, hm3, hg3⟩
      have HM3 := hidd hm3
      have HG3 := hidd hg3
      clear hm3 hg3
      go_wp2
      go_ret
      rw [HW.out]
      refine ⟨rfl, MAt.mk' (w := w1) HSV.out (stepD_ok HK2.out HDn.out) HM3.out (.inr HO.out), away_same (HA2.out.trans (away_grown (S := fun k => k = p) HG3.out rfl) fun x hx => .inl (.inl hx)) fun b hb => (HSV.out b).2 hb⟩
    · go_simp
      refine hK.out _ _ (hHeld.below ((Below.refl _ _).alloc (Nat.le_refl _) _)) (fun hHeld => ?_)
      clear hK K
      try simp only [Act.put, List.setIfInBounds_toArray, List.set_cons_zero, List.set_cons_succ]
      refine wpAnyH_ready (rs := [4]) (by kernel_rfl) (by simp) ?_
      refine (AllReadyH.cons (o := { dst := some 21, op := Op.load 43 (Operand.tmp 20), type := 43, pos := "ref.go:63", after := #[{ on := 3, ground := Ground.data }], guard := none }) rfl (fun K hK => ?_) AllReadyH.nil)
      go_simp
      refine hK.out _ _ hHeld (fun hHeld => ?_)
      clear hK K
      try simp only [Act.put, List.setIfInBounds_toArray, List.set_cons_zero, List.set_cons_succ]
      refine wpAnyH_ready (rs := [10]) (by kernel_rfl) (by simp) ?_
      refine (AllReadyH.cons (o := { dst := some 27, op := Op.call { callee := Callee.builtin Builtin.append, args := #[Operand.tmp 21, Operand.tmp 26], argTypes := #[43, 43] }, type := 43, pos := "ref.go:63", after := #[{ on := 4, ground := Ground.data }, { on := 9, ground := Ground.data }], guard := none }) rfl (fun K hK => ?_) AllReadyH.nil)
      refine step_append_run (by rfl) (.tmp 21) (.tmp 26) 43 43 (by rfl) _ _ _ _ (by rfl) (by rfl) HRUN.out ?_
      refine hK.out _ _ (HS1.out _ HA1.out) (fun hHeld => ?_)
      clear hK K
      try simp only [Act.put, List.setIfInBounds_toArray, List.set_cons_zero, List.set_cons_succ]
      refine wpAnyH_take (i := 11) (oi := { dst := some 28, op := Op.nilCheck (Operand.tmp 17), type := 0, pos := "ref.go:63", after := #[{ on := 0, ground := Ground.data }, { on := 0, ground := Ground.phase }, { on := 1, ground := Ground.phase }, { on := 2, ground := Ground.phase }, { on := 3, ground := Ground.phase }, { on := 4, ground := Ground.phase }, { on := 5, ground := Ground.phase }, { on := 6, ground := Ground.phase }, { on := 7, ground := Ground.phase }, { on := 8, ground := Ground.phase }, { on := 9, ground := Ground.phase }, { on := 10, ground := Ground.phase }], guard := none }) (v := .pointer (some ⟨p, 0, none⟩)) rfl (by kernel_rfl) (by kernel_rfl) (by kernel_rfl) (fun _ _ _ h => h) (Or.inl ⟨by rfl, by intro W hSw; go_simp⟩) hHeld ?_
      try simp only [Act.put, List.setIfInBounds_toArray, List.set_cons_zero, List.set_cons_succ]
      refine wpAnyH_take (i := 12) (oi := { dst := some 29, op := Op.fieldAddr 45 (Operand.tmp 28) 1, type := 0, pos := "ref.go:63", after := #[{ on := 11, ground := Ground.data }, { on := 0, ground := Ground.phase }, { on := 1, ground := Ground.phase }, { on := 2, ground := Ground.phase }, { on := 3, ground := Ground.phase }, { on := 4, ground := Ground.phase }, { on := 5, ground := Ground.phase }, { on := 6, ground := Ground.phase }, { on := 7, ground := Ground.phase }, { on := 8, ground := Ground.phase }, { on := 9, ground := Ground.phase }, { on := 10, ground := Ground.phase }], guard := none }) (v := .pointer (some ⟨p, 1, none⟩)) rfl (by kernel_rfl) (by kernel_rfl) (by kernel_rfl) (fun _ _ _ h => h) (Or.inl ⟨by rfl, by intro W hSw; go_simp⟩) hHeld ?_
      try simp only [Act.put, List.setIfInBounds_toArray, List.set_cons_zero, List.set_cons_succ]
      refine wpAnyH_ready (rs := [13]) (by kernel_rfl) (by simp) ?_
      refine (AllReadyH.cons (o := { dst := none, op := Op.store 43 (Operand.tmp 29) (Operand.tmp 27), type := 0, pos := "ref.go:63", after := #[{ on := 12, ground := Ground.data }, { on := 10, ground := Ground.data }, { on := 10, ground := Ground.chain }, { on := 0, ground := Ground.phase }, { on := 1, ground := Ground.phase }, { on := 2, ground := Ground.phase }, { on := 3, ground := Ground.phase }, { on := 4, ground := Ground.phase }, { on := 5, ground := Ground.phase }, { on := 6, ground := Ground.phase }, { on := 7, ground := Ground.phase }, { on := 8, ground := Ground.phase }, { on := 9, ground := Ground.phase }, { on := 10, ground := Ground.phase }], guard := none }) rfl (fun K hK => ?_) AllReadyH.nil)
      go_simp
      refine hK.out _ _ (HS1.out _ HA2.out) (fun hHeld => ?_)
      clear hK K
      try simp only [Act.put, List.setIfInBounds_toArray, List.set_cons_zero, List.set_cons_succ]
      refine wpAnyH_done (by kernel_rfl) ?_ _
      go_wp2_with fail
      refine T1.out.mono ?_
      rintro e w3 ⟨rfl, hm3, hg3⟩
      have HM3 := hidd hm3
      have HG3 := hidd hg3
      clear hm3 hg3
      go_wp2
      go_ret
      rw [HW.out]
      refine ⟨rfl, MAt.mk' (w := w1) HSV.out (stepD_ok HK2.out HDn.out) HM3.out (.inr HO.out), away_same (HA2.out.trans (away_grown (S := fun k => k = p) HG3.out rfl) fun x hx => .inl (.inl hx)) fun b hb => (HSV.out b).2 hb⟩
  · rw [hd] at c2
    rw [h0, nowB_refused (by omega)]
    clear hr ok HRD hR hS hSv h0 hd HR I1 hlen
    go_enter Try.func13, Try.ntmps13
    go_wp2
    go_ret
    exact ⟨rfl, ⟨S, hMid.out, fun b hb => .inl hb⟩, Away.refl _ _⟩
  · rw [hd] at c2
    rw [hlen] at hi
    rw [hi] at I1
    rw [h0, nowB_refused (by omega)]
    clear hr ok HRD hR hS hSv h0 hd HR hlen hi
    go_enter Try.func13, Try.ntmps13
    go_wp2_with fail
    refine I1.out.mono ?_
    rintro e w1 ⟨rfl, rfl⟩
    go_wp2
    go_ret
    exact ⟨rfl, ⟨S, hMid.out, fun b hb => .inl hb⟩, Away.refl _ _⟩
end Go.Proofs.Yticljiffagobnab

/- What the document's Sync answers. -/
namespace Go.Proofs.Yticljiffagobnab
open Go.RowKit Nums Sums
set_option linter.unusedVariables false
set_option linter.unusedSimpArgs false
set_option maxRecDepth 100000
/-- A disk's block of which the safe bytes are written anew, and the writes struck. -/
theorem MRow.clean {w w' : World} {p : Nat} {D' : DkT} (hr : w'.heap[p]? = some (.cells (mCells D' (.slice none 0 0)) 45 (0, 0))) (hp : D'.puts = []) : MRow w' p D' (.slice none 0 0) := by
  refine ⟨hr, ?_⟩
  rw [hp]
  exact ⟨rfl, .inl ⟨rfl, rfl⟩⟩
set_option maxHeartbeats 4000000 in
theorem refSync_any (w : World) (p : Nat) (D : DkT) (S : Nat → Prop) (h : MAt w p D S) :
    Calls Try.prog 15 #[ptr p] w fun e w' => e = .returned (.int .i64 (syncE D)) ∧ (∃ S', MAt w' p (syncD D) S' ∧ ∀ b, S' b → S b ∨ w.heap.size ≤ b) ∧ Away S w w' := by
  obtain ⟨ok, v, hr, hSv⟩ := h
  have c2 := hr.c2
  have hMid : Hid (MAt w p D S) := ⟨ok, v, hr, hSv⟩
  unfold syncE syncD
  cases hd : D.down
  · rw [hd] at c2
    rw [if_neg (by simp), if_neg (by simp)]
    obtain ⟨T, HT⟩ : ∃ T, Hid (T = bD (nowB D)) := ⟨_, hidd rfl⟩
    have N1 := hidd (refNow_any w p D v hr ok T HT)
    have HR := hidd hr
    have hl := nowB_length ok
    have hok2 : OkD { D with safe := nowB D, puts := [], down := false } := ⟨by show 1 ≤ (nowB D).length ∧ (nowB D).length ≤ _; rw [hl]; exact ok.room, (fun q hq => by cases hq), ok.left, fun hs _ => ok.stop hs hd⟩
    have HK2 := hidd hok2
    have HSV := hidd hSv
    have HX : Hid (∀ w1, Below w.heap.size w w1 → w1.cell? ⟨p, 0, none⟩ = some (.string (bD D.safe)) ∧ (w1.setCell ⟨p, 0, none⟩ (.string T)).cell? ⟨p, 1, none⟩ = some v ∧ w1.frozen? ⟨p, 0, none⟩ = false ∧ (w1.setCell ⟨p, 0, none⟩ (.string T)).frozen? ⟨p, 1, none⟩ = false ∧
        MRow ((w1.setCell ⟨p, 0, none⟩ (.string T)).setCell ⟨p, 1, none⟩ (.slice none 0 0)) p { D with safe := nowB D, puts := [], down := false } (.slice none 0 0) ∧ w1.grownBy ((w1.setCell ⟨p, 0, none⟩ (.string T)).setCell ⟨p, 1, none⟩ (.slice none 0 0)) (some p)) := fun w1 hb => by
      have hr1 := HR.out.below hb
      have h1 := Go.heap_setCell_same w1 p 0 _ _ (.string T) hr1.1
      have h2 := Go.heap_setCell_same _ p 1 _ _ (.slice none 0 0) h1
      refine ⟨hr1.c0, ?_, hr1.fz 0, frozen_of_row _ p 1 _ _ h1, MRow.clean (w := w1) ?_ rfl, gr_trans (Lib.grownBy_setCell w1 p 0 _) (Lib.grownBy_setCell _ p 1 _)⟩
      · rw [cell_of_row _ p 1 _ _ (0, 0) h1]; rfl
      · rw [h2, HT.out]
        simp [mCells, hd]
    obtain ⟨s0, hs0⟩ : ∃ s, s = bD D.safe := ⟨_, rfl⟩
    rw [← hs0] at HX
    obtain ⟨a1, l1, q1, rfl⟩ : ∃ a l c, v = .slice a l c := by obtain ⟨a, c, e, _⟩ := hr.len; exact ⟨a, _, c, e⟩
    have T1 : Hid (∀ W, MRow W p { D with safe := nowB D, puts := [], down := false } (.slice none 0 0) → Calls Try.prog 27 #[.pointer (some ⟨p, 0, none⟩)] W fun e w' => e = .returned (.int .i64 0) ∧ MRow w' p (stepD { D with safe := nowB D, puts := [], down := false }) (.slice none 0 0) ∧ W.grownBy w' (some p)) := fun W hm => refStep_any W p _ _ hm HK2.out
    unfold ptr at N1 ⊢
    clear hr ok hl hok2 hSv HT hs0 HR hd
    go_enter Try.func15, Try.ntmps15
    go_wp2_with fail
    refine N1.out.mono ?_
    rintro e w1 ⟨rfl, hb1⟩
    obtain ⟨d0, d1, f0, f1, hm1, hg1⟩ := HX.out w1 hb1
    have HB1 := hidd hb1
    have HM1 := hidd hm1
    have HG1 := hidd hg1
    clear hb1 hm1 hg1 HX N1
    go_wp2_with fail
    refine (T1.out _ HM1.out).mono ?_
    rintro e w3 ⟨rfl, hm3, hg3⟩
    have HM3 := hidd hm3
    have HG3 := hidd hg3
    clear hm3 hg3
    go_wp2
    go_ret
    have hbA : Away S w w1 := Away.of_below HB1.out
    have hpS : S p := (HSV.out p).2 (.inl rfl)
    exact ⟨rfl, MAt.mk' (w := w) HSV.out (stepD_ok HK2.out rfl) HM3.out (.inl rfl), (hbA.trans (away_grown HG1.out hpS) (fun x hx => .inl hx)).trans (away_grown HG3.out hpS) (fun x hx => .inl hx)⟩
  · rw [hd] at c2
    rw [if_pos rfl, if_pos rfl]
    clear hr ok hSv hd
    unfold ptr
    go_enter Try.func15, Try.ntmps15
    go_wp2
    go_ret
    exact ⟨rfl, ⟨S, hMid.out, fun b hb => .inl hb⟩, Away.refl _ _⟩
/-! A crash. -/
def crashK (D : DkT) (keep torn : Int) (k : Nat) : List UInt8 := crashL keep torn 0 D.safe (D.puts.take k)
theorem crashL_snoc (keep torn : Int) (q : Nat × List UInt8) : ∀ (l : List (Nat × List UInt8)) (i : Nat) (s : List UInt8), crashL keep torn i s (l ++ [q]) = crashS keep torn (i + l.length) (crashL keep torn i s l) q
  | [], i, s => rfl
  | p :: r, i, s => by
    show crashL keep torn (i + 1) (crashS keep torn i s p) (r ++ [q]) = _
    rw [crashL_snoc keep torn q r (i + 1), show i + 1 + r.length = i + (p :: r).length by simp; omega]
    rfl
theorem crashK_next (D : DkT) (keep torn : Int) (k : Nat) (h : k < D.puts.length) : crashK D keep torn (k + 1) = crashS keep torn k (crashK D keep torn k) D.puts[k] := by
  unfold crashK
  rw [List.take_add_one, List.getElem?_eq_getElem h]
  show crashL keep torn 0 D.safe (D.puts.take k ++ [D.puts[k]]) = _
  rw [crashL_snoc, List.length_take, Nat.zero_add, Nat.min_eq_left (by omega)]
theorem crashK_all (D : DkT) (keep torn : Int) : crashK D keep torn D.puts.length = crashB D keep torn := by unfold crashK crashB; rw [List.take_of_length_le (Nat.le_refl _)]
theorem crashK_length {D : DkT} (ok : OkD D) (keep torn : Int) (k : Nat) : (crashK D keep torn k).length = D.safe.length := crashL_length keep torn _ 0 _ fun p hp => ok.puts p (List.mem_of_mem_take hp)
theorem run_max2 {P : Program} (W : World) (ats : Array TypeId) (ty : TypeId) (a b : Int) : (Builtin.max_ ats ty #[.int .i64 a, .int .i64 b]).run P W = .ok (.int .i64 (max a b)) W := by
  simp only [Builtin.max_, List.foldlM_cons, List.foldlM_nil]
  by_cases h : a < b
  · have e : max a b = b := by omega
    rw [e]
    simp [go_sem, Builtin.max2, h]
  · have e : max a b = a := by omega
    rw [e]
    simp [go_sem, Builtin.max2, h]
theorem run_min2 {P : Program} (W : World) (ats : Array TypeId) (ty : TypeId) (a b : Int) : (Builtin.min_ ats ty #[.int .i64 a, .int .i64 b]).run P W = .ok (.int .i64 (min a b)) W := by
  simp only [Builtin.min_, List.foldlM_cons, List.foldlM_nil]
  by_cases h : a < b
  · have e : min a b = a := by omega
    rw [e]
    have h' : ¬ b < a := by omega
    simp [go_sem, Builtin.min2, h, h']
  · have e : min a b = b := by omega
    rw [e]
    by_cases h2 : b < a
    · simp [go_sem, Builtin.min2, h, h2]
    · obtain rfl : a = b := by omega
      simp [go_sem, Builtin.min2]
theorem wpList_max {P : Program} {ops : Array Oper} {rest : List Oper} {o : Oper} {A : Act} {w : World} {Q : Exit → Act → World → Prop} (hgd : o.guard = none) (x y : Operand) (ts : Array TypeId) (hop : o.op = Op.call { callee := Callee.builtin Builtin.max, args := #[x, y], argTypes := ts })
    (a b : Int) (hx : A.eval x = .int .i64 a) (hy : A.eval y = .int .i64 b) (m : Int) (hm : m = max a b) (h : wpList P ops Q rest (A.put o.dst (.int .i64 m)) w) : wpList P ops Q (o :: rest) A w := by
  refine wpList_plain hgd fun K hK => ?_
  have hrun := run_max2 (P := P) w ts o.type a b
  rw [← hm] at hrun
  unfold Oper.wp
  simp only [execOp, hop, resolve, invoke, builtin, List.map_toArray, List.map_cons, List.map_nil, hx, hy, hrun, Sem.run_bind, Sem.run_pure, Result.andThen_ok]
  exact hK _ _ h
theorem wpList_min {P : Program} {ops : Array Oper} {rest : List Oper} {o : Oper} {A : Act} {w : World} {Q : Exit → Act → World → Prop} (hgd : o.guard = none) (x y : Operand) (ts : Array TypeId) (hop : o.op = Op.call { callee := Callee.builtin Builtin.min, args := #[x, y], argTypes := ts })
    (a b : Int) (hx : A.eval x = .int .i64 a) (hy : A.eval y = .int .i64 b) (m : Int) (hm : m = min a b) (h : wpList P ops Q rest (A.put o.dst (.int .i64 m)) w) : wpList P ops Q (o :: rest) A w := by
  refine wpList_plain hgd fun K hK => ?_
  have hrun := run_min2 (P := P) w ts o.type a b
  rw [← hm] at hrun
  unfold Oper.wp
  simp only [execOp, hop, resolve, invoke, builtin, List.map_toArray, List.map_cons, List.map_nil, hx, hy, hrun, Sem.run_bind, Sem.run_pure, Result.andThen_ok]
  exact hK _ _ h
set_option maxHeartbeats 8000000 in
theorem refCrash_any (w : World) (p : Nat) (D : DkT) (S : Nat → Prop) (h : MAt w p D S) (keep torn : Int) (hk : In64 keep) (ht : In64 torn) :
    Calls Try.prog 19 #[ptr p, .int .i64 keep, .int .i64 torn] w fun e w' => e = .returned (.tuple #[]) ∧ (∃ S', MAt w' p (crashD D keep torn) S' ∧ ∀ b, S' b → S b ∨ w.heap.size ≤ b) ∧ Away S w w' := by
  obtain ⟨ok, v, hr, hSv⟩ := h
  have HR := hidd hr
  have c0 := hr.c0
  obtain ⟨a, cap, rfl, hml⟩ := hr.len
  obtain ⟨n, Hn⟩ : ∃ n, Hid (n = D.puts.length) := ⟨_, hidd rfl⟩
  obtain ⟨F, HF⟩ : ∃ F : Nat → ByteArray, Hid (∀ k, F k = bD (crashK D keep torn k)) := ⟨_, (fun k => rfl : ∀ k, bD (crashK D keep torn k) = _)⟩
  have hF0 : bD D.safe = F 0 := by rw [HF.out]; rfl
  rw [hF0] at c0
  have hnm : n ≤ maxLen := by rw [Hn.out]; exact hml
  unfold maxLen at hnm
  have HC1 : Hid (∀ W, Below w.heap.size w W → W.cell? ⟨p, 1, none⟩ = some (.slice a n cap)) := fun W hb => by rw [Hn.out]; exact (HR.out.below hb).c1
  have HPT : Hid (∀ W k, k < n → Below w.heap.size w W → ∃ g at_ b B, a = some ⟨g, 0, none⟩ ∧ W.cell? ⟨g, k * 2, none⟩ = some (.int .i64 (at_ : Nat)) ∧ W.cell? ⟨g, k * 2 + 1, none⟩ = some (.string B) ∧ Hid (B = bD b ∧ at_ + b.length ≤ D.safe.length ∧ F (k + 1) = bD (crashS keep torn k (crashK D keep torn k) (at_, b)))) := fun W k hk hb => by
    rw [Hn.out] at hk
    obtain ⟨g, cap', e, h1, h2, _⟩ := (HR.out.below hb).at k hk
    cases e
    exact ⟨g, D.puts[k].1, D.puts[k].2, bD D.puts[k].2, rfl, h1, h2, rfl, ok.puts _ (List.getElem_mem hk), by rw [HF.out, crashK_next D keep torn k hk]⟩
  have ND : Hid (∀ (k : Nat) (at_ : Nat) (b : List UInt8) (B T : ByteArray), B = bD b → at_ + b.length ≤ D.safe.length → T = bD (doneB (crashK D keep torn k) (at_, b)) → ∀ V : World, Calls Try.prog 29 #[.string (F k), .agg #[.int .i64 (at_ : Nat), .string B]] V fun e w' => e = .returned (.string T) ∧ Below V.heap.size V w') := fun k at_ b B T hB h1 hT V => by
    have hl := crashK_length ok keep torn k
    have hrm := ok.room.2
    exact refDone_any (crashK D keep torn k) b at_ (by omega) (by omega) T hT (F k) B (HF.out k) hB V
  have hz : ∀ w, (sizeOf 60).run Try.prog w = .ok 2 w := fun w => by
    have h : (Try.prog.info? 60).map (·.size) = some 2 := by kernel_rfl
    cases hq : Try.prog.info? 60 with
    | none => rw [hq] at h; cases h
    | some i =>
      rw [hq] at h
      simp only [Option.map_some, Option.some.injEq] at h
      simp [sizeOf, typeInfo, hq, h]
  have HOK := hidd ok
  have HSV := hidd hSv
  obtain ⟨m, Hm⟩ : ∃ m, Hid (m = max keep 0) := ⟨_, hidd rfl⟩
  unfold ptr
  unfold In64 at hk ht
  clear hr ok hF0 hml hSv
  go_enter Try.func19, Try.ntmps19
  go_wp2
  go_loopw [6, 7] (fun s i wr => ∃ k : Nat, k ≤ n ∧ i = .int .i64 k ∧ s = .string (F k) ∧ Hid (Below w.heap.size w wr)) (fun _ i _ => n - (intOf i).toNat)
  case atStart => exact ⟨0, by omega, rfl, rfl, Below.refl _ _⟩
  case round =>
    obtain ⟨k, hkn, rfl, rfl, HB⟩ := hrel
    have c1 := HC1.out wr HB.out
    by_cases hlt : k < n
    · have hdk : decide ((k : Int) < (n : Int)) = true := by rw [decide_eq_true_eq]; omega
      have hw := wrap_int ((k : Int) + 1) (by omega) (by omega)
      obtain ⟨g, at_, b, B, rfl, d1, d2, HP⟩ := HPT.out wr k hlt HB.out
      have ix : ∀ W, (Instr.indexAt 43 (.slice (some ⟨g, 0, none⟩) n cap) (.int .i64 (k : Int))).run Try.prog W = .ok (.pointer (some ⟨g, k * 2, none⟩)) W := fun W => by
        simp [Instr.indexAt, asIntOf, run_underlying Try.underlying43, hz, hlt]
        rw [add_plain, Nat.zero_add]
      by_cases hkk : (k : Int) < keep
      · have hd2 : decide ((k : Int) < keep) = true := by rw [decide_eq_true_eq]; exact hkk
        obtain ⟨T, HT⟩ : ∃ T, Hid (T = bD (doneB (crashK D keep torn k) (at_, b))) := ⟨_, hidd rfl⟩
        have CL := hidd (ND.out k at_ b B T HP.out.1 HP.out.2.1 HT.out)
        have hd3 : ((k : Int) == m) = false := by rw [beq_eq_false_iff_ne]; have := Hm.out; omega
        have HFT : Hid (F (k + 1) = T) := by
          show _ = _
          rw [HP.out.2.2, HT.out]
          unfold crashS
          rw [if_pos hkk]
        have HB1 := hidd (HB.out.alloc HB.out.size (.cells #[.int .i64 (at_ : Int), .string B] 60))
        clear ND HPT HC1 HT
        go_wp2_with fail
        refine (CL.out _).mono ?_
        rintro e w2 ⟨rfl, hb2⟩
        have HB2 := hidd (HB1.out.trans (hb2.mono HB1.out.size))
        clear hb2 CL
        go_wp2_with (first
          | (show wpList _ _ _ ({ dst := some 38, op := _, type := _, pos := _, after := _, guard := _ } :: _) _ _; refine wpList_max rfl (.tmp 37) (.const (.int .i64 0)) _ rfl keep 0 rfl rfl m Hm.out ?_; try simp only [Act.put, List.setIfInBounds_toArray, List.set_cons_zero, List.set_cons_succ])
          | fail)
        go_roundw
        case rel => exact ⟨k + 1, by omega, by go_num, by rw [HFT.out], HB2⟩
        case measure => simp [intOf]; omega
      · have hd2 : decide ((k : Int) < keep) = false := by rw [decide_eq_false_iff_not]; exact hkk
        have HB1 := hidd (HB.out.alloc HB.out.size (.cells #[.int .i64 (at_ : Int), .string B] 60))
        have hBs : B.size = b.length := by rw [HP.out.1, bD_size]
        by_cases hkm : (k : Int) = m
        · have hd3 : ((k : Int) == m) = true := by rw [beq_iff_eq]; exact hkm
          by_cases hb : 0 < B.size
          · have hd4 : decide ((0 : Int) < (B.size : Int)) = true := by rw [decide_eq_true_eq]; omega
            obtain ⟨mt, Hmt⟩ : ∃ m, Hid (m = max torn 0) := ⟨_, hidd rfl⟩
            obtain ⟨r, Hr⟩ : ∃ r : Nat, Hid ((r : Int) = min mt ((B.size : Int) - 1)) := ⟨(min mt ((B.size : Int) - 1)).toNat, by show _ = _; have := Hmt.out; omega⟩
            have hrB : r ≤ B.size := by have := Hr.out; omega
            have hbl := HP.out.2.1
            have hrm := HOK.out.room.2
            have hw2 := wrap_int ((B.size : Int) - 1) (by omega) (by omega)
            obtain ⟨Y, HY⟩ : ∃ Y, Hid (Y = B.extract 0 r) := ⟨_, hidd rfl⟩
            have SL : Hid (∀ W : World, (Instr.sliceAt 9 (.string B) none (some (.int .i64 (r : Int))) none).run Try.prog W = .ok (.string Y) W) := fun W => by rw [HY.out]; exact str_hi B r hrB
            have hY : Y = bD (tornB b torn) := by
              rw [HY.out, HP.out.1, bD_extract, List.drop_zero, Nat.sub_zero]
              unfold tornB
              rw [show (min (max torn 0) ((b.length : Int) - 1)).toNat = r by have h1 := Hr.out; have h2 := Hmt.out; rw [hBs] at h1; omega]
            have CL := hidd (ND.out k at_ (tornB b torn) Y (F (k + 1)) hY (by have := tornB_length b torn; omega) (by
              rw [HP.out.2.2]
              unfold crashS
              rw [if_neg hkk, if_pos ⟨by rw [hkm]; exact Hm.out, by show 0 < b.length; omega⟩]))
            have HC0 : Hid ((wr.alloc (.cells #[.int .i64 (at_ : Int), .string B] 60)).cell? ⟨wr.heap.size, 0, none⟩ = some (.int .i64 at_) ∧ (wr.alloc (.cells #[.int .i64 (at_ : Int), .string B] 60)).cell? ⟨wr.heap.size, 1, none⟩ = some (.string B)) := by
              have hg := heap_alloc_new wr (.cells #[.int .i64 (at_ : Int), .string B] 60)
              exact ⟨by rw [cell_of_row _ _ 0 _ _ (0, 0) hg]; rfl, by rw [cell_of_row _ _ 1 _ _ (0, 0) hg]; rfl⟩
            clear ND HPT HC1 HP hBs hY HY hkm hbl hrm hrB
            go_wp2_with (first
              | (show wpList _ _ _ ({ dst := some 38, op := _, type := _, pos := _, after := _, guard := _ } :: _) _ _; refine wpList_max rfl (.tmp 37) (.const (.int .i64 0)) _ rfl keep 0 rfl rfl m Hm.out ?_; try simp only [Act.put, List.setIfInBounds_toArray, List.set_cons_zero, List.set_cons_succ])
              | (show wpList _ _ _ ({ dst := some 47, op := _, type := _, pos := _, after := _, guard := _ } :: _) _ _; refine wpList_max rfl (.tmp 46) (.const (.int .i64 0)) _ rfl torn 0 rfl rfl mt Hmt.out ?_; try simp only [Act.put, List.setIfInBounds_toArray, List.set_cons_zero, List.set_cons_succ])
              | (show wpList _ _ _ ({ dst := some 52, op := _, type := _, pos := _, after := _, guard := _ } :: _) _ _; refine wpList_min rfl (.tmp 47) (.tmp 51) _ rfl mt ((B.size : Int) - 1) rfl rfl (r : Int) Hr.out ?_; try simp only [Act.put, List.setIfInBounds_toArray, List.set_cons_zero, List.set_cons_succ])
              | fail)
            refine wp_region_held_drew (S := (fun W => W.cell? ⟨wr.heap.size, 0, none⟩ = some (.int .i64 (at_ : Int)) ∧ W.cell? ⟨wr.heap.size, 1, none⟩ = some (.string B))) (by kernel_rfl) HC0.out (fun hHeld => ?_)
            refine wpAnyH_take (i := 0) (oi := { dst := some 53, op := Op.move (Operand.tmp 6), type := 9, pos := "ref.go:109", after := #[], guard := none }) (v := .string (F k)) rfl (by kernel_rfl) (by kernel_rfl) (by kernel_rfl) (fun _ _ _ h => h) (Or.inl ⟨by rfl, by intro W hSw; go_simp⟩) hHeld ?_
            try simp only [Act.put, List.setIfInBounds_toArray, List.set_cons_zero, List.set_cons_succ]
            refine wpAnyH_take (i := 1) (oi := { dst := some 54, op := Op.fieldAddr 60 (Operand.tmp 8) 0, type := 0, pos := "ref.go:109", after := #[], guard := none }) (v := .pointer (some ⟨wr.heap.size, 0, none⟩)) rfl (by kernel_rfl) (by kernel_rfl) (by kernel_rfl) (fun _ _ _ h => h) (Or.inl ⟨by rfl, by intro W hSw; go_simp⟩) hHeld ?_
            try simp only [Act.put, List.setIfInBounds_toArray, List.set_cons_zero, List.set_cons_succ]
            refine wpAnyH_take (i := 2) (oi := { dst := some 55, op := Op.load 3 (Operand.tmp 54), type := 3, pos := "ref.go:109", after := #[{ on := 1, ground := Ground.data }], guard := none }) (v := .int .i64 at_) rfl (by kernel_rfl) (by kernel_rfl) (by kernel_rfl) (fun _ _ _ h => h) (Or.inl ⟨by rfl, by intro W hSw; have h1 := hSw.1; go_simp⟩) hHeld ?_
            try simp only [Act.put, List.setIfInBounds_toArray, List.set_cons_zero, List.set_cons_succ]
            refine wpAnyH_take (i := 3) (oi := { dst := some 56, op := Op.fieldAddr 60 (Operand.tmp 8) 1, type := 0, pos := "ref.go:109", after := #[], guard := none }) (v := .pointer (some ⟨wr.heap.size, 1, none⟩)) rfl (by kernel_rfl) (by kernel_rfl) (by kernel_rfl) (fun _ _ _ h => h) (Or.inl ⟨by rfl, by intro W hSw; go_simp⟩) hHeld ?_
            try simp only [Act.put, List.setIfInBounds_toArray, List.set_cons_zero, List.set_cons_succ]
            refine wpAnyH_take (i := 4) (oi := { dst := some 57, op := Op.load 9 (Operand.tmp 56), type := 9, pos := "ref.go:109", after := #[{ on := 3, ground := Ground.data }], guard := none }) (v := .string B) rfl (by kernel_rfl) (by kernel_rfl) (by kernel_rfl) (fun _ _ _ h => h) (Or.inl ⟨by rfl, by intro W hSw; have h1 := hSw.2; go_simp⟩) hHeld ?_
            try simp only [Act.put, List.setIfInBounds_toArray, List.set_cons_zero, List.set_cons_succ]
            refine wpAnyH_take (i := 5) (oi := { dst := some 58, op := Op.move (Operand.tmp 9), type := 3, pos := "ref.go:109", after := #[], guard := none }) (v := .int .i64 r) rfl (by kernel_rfl) (by kernel_rfl) (by kernel_rfl) (fun _ _ _ h => h) (Or.inl ⟨by rfl, by intro W hSw; go_simp⟩) hHeld ?_
            try simp only [Act.put, List.setIfInBounds_toArray, List.set_cons_zero, List.set_cons_succ]
            refine wpAnyH_take (i := 6) (oi := { dst := some 59, op := Op.slice 9 (Operand.tmp 57) none (some (Operand.tmp 58)) none, type := 9, pos := "ref.go:109", after := #[{ on := 4, ground := Ground.data }, { on := 5, ground := Ground.data }], guard := none }) (v := .string Y) rfl (by kernel_rfl) (by kernel_rfl) (by kernel_rfl) (fun _ _ _ h => h) (Or.inl ⟨by rfl, by intro W hSw; have h1 := SL.out W; go_simp⟩) hHeld ?_
            try simp only [Act.put, List.setIfInBounds_toArray, List.set_cons_zero, List.set_cons_succ]
            refine wpAnyH_take (i := 7) (oi := { dst := some 60, op := Op.build 60 #[(0, Operand.tmp 55), (1, Operand.tmp 59)], type := 60, pos := "ref.go:109", after := #[{ on := 2, ground := Ground.data }, { on := 6, ground := Ground.data }], guard := none }) (v := .agg #[.int .i64 at_, .string Y]) rfl (by kernel_rfl) (by kernel_rfl) (by kernel_rfl) (fun _ _ _ h => h) (Or.inl ⟨by rfl, by intro W hSw; go_simp⟩) hHeld ?_
            try simp only [Act.put, List.setIfInBounds_toArray, List.set_cons_zero, List.set_cons_succ]
            refine wpAnyH_ready (rs := [8]) (by kernel_rfl) (by simp) ?_
            refine (AllReadyH.cons (o := { dst := some 61, op := Op.call { callee := Callee.value (Operand.func 29), args := #[Operand.tmp 53, Operand.tmp 60], argTypes := #[9, 60] }, type := 9, pos := "ref.go:109", after := #[{ on := 0, ground := Ground.data }, { on := 7, ground := Ground.data }], guard := none }) rfl (fun K hK => ?_) AllReadyH.nil)
            go_simp
            refine (CL.out _).mono ?_
            rintro e w8 ⟨rfl, hb8⟩
            have HB2 := hidd (HB1.out.drew.trans (hb8.mono HB1.out.size))
            go_wp2_with fail
            refine hK.out _ _ ⟨(hb8.cell (by simp)).trans hHeld.1, (hb8.cell (by simp)).trans hHeld.2⟩ (fun hHeld => ?_)
            clear hK K
            try simp only [Act.put, List.setIfInBounds_toArray, List.set_cons_zero, List.set_cons_succ]
            refine wpAnyH_take (i := 9) (oi := { dst := some 6, op := Op.assign (Operand.tmp 61), type := 9, pos := "ref.go:109", after := #[{ on := 8, ground := Ground.data }, { on := 8, ground := Ground.chain }, { on := 0, ground := Ground.phase }, { on := 1, ground := Ground.phase }, { on := 2, ground := Ground.phase }, { on := 3, ground := Ground.phase }, { on := 4, ground := Ground.phase }, { on := 5, ground := Ground.phase }, { on := 6, ground := Ground.phase }, { on := 7, ground := Ground.phase }, { on := 8, ground := Ground.phase }], guard := none }) (v := .string (F (k + 1))) rfl (by kernel_rfl) (by kernel_rfl) (by kernel_rfl) (fun _ _ _ h => h) (Or.inl ⟨by rfl, by intro W hSw; go_simp⟩) hHeld ?_
            try simp only [Act.put, List.setIfInBounds_toArray, List.set_cons_zero, List.set_cons_succ]
            refine wpAnyH_done (by kernel_rfl) ?_ _
            go_wp2_with fail
            go_roundw
            case rel => exact ⟨k + 1, by omega, by go_num, rfl, HB2⟩
            case measure => simp [intOf]; omega
          · have hd4 : decide ((0 : Int) < (B.size : Int)) = false := by rw [decide_eq_false_iff_not]; omega
            have HFT : Hid (F (k + 1) = F k) := by
              show _ = _
              rw [HP.out.2.2, HF.out]
              unfold crashS
              rw [if_neg hkk, if_neg (by show ¬ (_ ∧ 0 < b.length); omega)]
            clear ND HPT HC1 HP hkm hBs
            go_wp2_with (first
              | (show wpList _ _ _ ({ dst := some 38, op := _, type := _, pos := _, after := _, guard := _ } :: _) _ _; refine wpList_max rfl (.tmp 37) (.const (.int .i64 0)) _ rfl keep 0 rfl rfl m Hm.out ?_; try simp only [Act.put, List.setIfInBounds_toArray, List.set_cons_zero, List.set_cons_succ])
              | fail)
            go_roundw
            case rel => exact ⟨k + 1, by omega, by go_num, by rw [HFT.out], HB1⟩
            case measure => simp [intOf]; omega
        · have hd3 : ((k : Int) == m) = false := by rw [beq_eq_false_iff_ne]; exact hkm
          have HFT : Hid (F (k + 1) = F k) := by
            show _ = _
            rw [HP.out.2.2, HF.out]
            unfold crashS
            rw [if_neg hkk, if_neg (by rintro ⟨h1, _⟩; exact hkm (by rw [h1]; exact Hm.out.symm))]
          clear ND HPT HC1 HP hkm hBs
          go_wp2_with (first
            | (show wpList _ _ _ ({ dst := some 38, op := _, type := _, pos := _, after := _, guard := _ } :: _) _ _; refine wpList_max rfl (.tmp 37) (.const (.int .i64 0)) _ rfl keep 0 rfl rfl m Hm.out ?_; try simp only [Act.put, List.setIfInBounds_toArray, List.set_cons_zero, List.set_cons_succ])
            | fail)
          go_roundw
          case rel => exact ⟨k + 1, by omega, by go_num, by rw [HFT.out], HB1⟩
          case measure => simp [intOf]; omega
    · obtain rfl : n = k := by omega
      have hdk : decide ((n : Int) < (n : Int)) = false := by rw [decide_eq_false_iff_not]; omega
      have hr1 := HR.out.below HB.out
      have h0 := Go.heap_setCell_same wr p 0 _ _ (.string (F n)) hr1.1
      have h1 := Go.heap_setCell_same _ p 1 _ _ (.slice none 0 0) h0
      have h2 := Go.heap_setCell_same _ p 2 _ _ (.bool false) h1
      have h3 := Go.heap_setCell_same _ p 3 _ _ (.bool false) h2
      have HG := hidd (gr_trans (gr_trans (gr_trans (Lib.grownBy_setCell wr p 0 (.string (F n))) (Lib.grownBy_setCell _ p 1 (.slice none 0 0))) (Lib.grownBy_setCell _ p 2 (.bool false))) (Lib.grownBy_setCell _ p 3 (.bool false)))
      have HM : Hid (MRow ((((wr.setCell ⟨p, 0, none⟩ (.string (F n))).setCell ⟨p, 1, none⟩ (.slice none 0 0)).setCell ⟨p, 2, none⟩ (.bool false)).setCell ⟨p, 3, none⟩ (.bool false)) p (crashD D keep torn) (.slice none 0 0)) := by
        refine MRow.clean (w := wr) ?_ rfl
        rw [h3, HF.out, Hn.out, crashK_all]
        simp [mCells, crashD]
      have e0 := hr1.c0
      have e2 := hr1.c2
      have e3 := hr1.c3
      have f0 := hr1.fz 0
      have f1 := hr1.fz 1
      have f2 := hr1.fz 2
      have f3 := hr1.fz 3
      obtain ⟨s0, hs0⟩ : ∃ s, s = bD D.safe := ⟨_, rfl⟩
      obtain ⟨b2, hb2⟩ : ∃ s, s = D.down := ⟨_, rfl⟩
      obtain ⟨b3, hb3⟩ : ∃ s, s = D.stops := ⟨_, rfl⟩
      rw [← hs0] at e0
      rw [← hb2] at e2
      rw [← hb3] at e3
      have HK := hidd (crashD_ok HOK.out keep torn)
      clear h0 h1 h2 h3 hr1 hs0 hb2 hb3 HR HF Hn HPT ND HC1 HOK
      go_wp2
      have hpS : S p := (HSV.out p).2 (.inl rfl)
      refine bodyPost_end (results_none rfl _ _ _) rfl ?_
      exact ⟨rfl, MAt.mk' (w := w) HSV.out HK.out HM.out (.inl rfl), (Away.of_below HB.out).trans (away_grown HG.out hpS) (fun x hx => .inl hx)⟩
end Go.Proofs.Yticljiffagobnab
