/- Texts of our own that the row of AnchorsBoth leans on, part 29. -/
import Derived.Test.YtjalebncfnekiaaDoorAnchorsBothJ19
import Derived.Test.YtjalebncfnekiaaDoorAnchorsBothJ24
import Derived.Test.YtjalebncfnekiaaDoorAnchorsBothJ25
import Derived.Test.YtjalebncfnekiaaDoorAnchorsBothJ26
import Derived.Test.YtjalebncfnekiaaDoorAnchorsBothJ27

/- The program's firstLeaves. -/
namespace Go.Proofs.YtjalebncfnekiaaDoor
open Go.RowKit Go.Shelf Nums Sums
set_option linter.unusedVariables false
set_option linter.unusedSimpArgs false
set_option maxRecDepth 100000

attribute [local go_sem] Oper.semAt_some
theorem wpListIn_build_run {F : Fence} {n : Nat} {P : Program} {ops : Array Oper} {rest : List Oper} {o : Oper} {a : Act} {w : World} {Q : Exit → Act → World → Prop} (hg : o.guard = none) (t : TypeId) (k : Nat) (parts : Array (Nat × Operand)) (ho : o.op = .buildSlice t k parts) (vals : Array (Nat × Value)) (hv : (parts.toList.map fun p => (p.1, a.eval p.2)) = vals.toList)
    (s : Value) (w' : World) (hrun : (Instr.buildSlice t k vals).run P w = .ok s w') (h : wpListIn F n P ops Q rest (a.put o.dst s) w') : wpListIn F n P ops Q (o :: rest) a w := by
  have hv' : (parts.map fun (i, x) => (i, a.eval x)) = vals := by
    apply Array.ext'
    rw [Array.toList_map, ← hv]
  subst hv'
  refine wpListIn_plain hg fun K hK => ?_
  have hk := hK _ _ h
  refine ⟨fun f hf => (by simp [Oper.about, ho] at hf), ?_⟩
  rw [Oper.semAt_plain F _ _ (by rw [ho]; intro c hc; cases hc)]
  unfold execOp
  simp only [ho, Sem.run_bind, hrun, Result.andThen_ok]
  exact hk
theorem wpListIn_append_run11 {F : Fence} {n : Nat} {P : Program} {ops : Array Oper} {rest : List Oper} {o : Oper} {a : Act} {w : World} {Q : Exit → Act → World → Prop}
    (hg : o.guard = none) (s x : Operand) (t u : TypeId) (hop : o.op = Op.call { callee := Callee.builtin Builtin.append, args := #[s, x], argTypes := #[t, u] })
    (vs vx v' : Value) (w' : World) (hs : a.eval s = vs) (hx : a.eval x = vx) (hrun : (Builtin.append_ #[t, u] o.type #[vs, vx]).run P w = .ok v' w')
    (h : wpListIn F n P ops Q rest (a.put o.dst v') w') : wpListIn F n P ops Q (o :: rest) a w := by
  refine wpListIn_plain hg fun K hK => ?_
  have hk := hK _ _ h
  unfold Oper.wpIn
  refine ⟨?_, ?_⟩
  · simp [Oper.about, hop, resolve, Target.leads, Sem.run_pure]
  · rw [Oper.semAt_plain F _ _ (by rw [hop]; intro c hc'; cases hc')]
    simp [execOp, hop, resolve, invoke, builtin, hs, hx, hrun, Result.andThen]
    exact hk
def digsL (pre : List Lf) : List (List UInt8) := pre.map (·.d)
theorem leavesL_digs (l : List ItT) : Digs32 (leavesL l) := fun d hd => by
  obtain ⟨x, _, rfl⟩ := List.mem_map.1 hd
  exact sumD_length _
theorem digsL_snoc (pre : List Lf) (x : Lf) : digsL (pre ++ [x]) = digsL pre ++ [x.d] := by simp [digsL]
theorem digsL_length (pre : List Lf) : (digsL pre).length = pre.length := by simp [digsL]
theorem digsL_lfs {l : List ItT} (h : ∀ x ∈ l, rightI x = true) : digsL (lfsF l 0) = leavesL l := by
  unfold digsL lfsF leavesL
  rw [List.drop_zero, List.map_map]
  refine List.map_congr_left fun x hx => ?_
  show leafO x = leafI x
  unfold leafO
  rw [if_pos (h x hx)]
/-- What the loop holds. -/
structure FstI (w : World) (B Bf Bs : Nat) (a : Option Addr) (len cap : Nat) (pre : List Lf) (v : Value) (W : World) : Prop where
  f : Boxed W Bf 39 v
  s : Boxed W Bs 22 (.slice a len cap)
  own : W.ownsRow B 26 32 v (digsL pre).length (cellsOf (digsL pre).flatten)
  bl : Below w.heap.size w W
theorem FstI.own_from {w : World} {B Bf Bs : Nat} {a : Option Addr} {len cap : Nat} {pre : List Lf} {v : Value} {X Y : World} {row : Option Nat} {C : Nat} (h : FstI w B Bf Bs a len cap pre v X) (hC : w.heap.size ≤ C) (hg : X.grownBy Y row) (hr : ∀ r, row = some r → C ≤ r ∧ ∃ o : Obj, X.heap[r]? = some o ∧ o.isCells = false) : FstI w B Bf Bs a len cap pre v Y := by
  refine ⟨cells_stay h.f hg (fun r e => (hr r e).2), cells_stay h.s hg (fun r e => (hr r e).2), h.own.kept hg ?_, h.bl.grown hg (Nat.le_trans h.bl.size (Nat.le_refl _)) (fun k e => by have := (hr k e).1; omega)⟩
  rcases h.own.2 with ⟨e, _⟩ | ⟨g, cp, cur, e, hb, hgg, _⟩
  · left; rw [e]; rfl
  · right
    rw [e]
    intro e2
    obtain ⟨_, ob, ho, hc⟩ := hr g e2.symm
    rw [hgg] at ho; cases ho; cases hc
theorem FstI.keep {w : World} {B Bf Bs : Nat} {a : Option Addr} {len cap : Nat} {pre : List Lf} {v : Value} {X Y : World} (h : FstI w B Bf Bs a len cap pre v X) (hb : Below X.heap.size X Y) : FstI w B Bf Bs a len cap pre v Y :=
  ⟨(hb.block _ (heap_lt h.f)).trans h.f, (hb.block _ (heap_lt h.s)).trans h.s, own_below h.own hb, h.bl.trans (hb.mono h.bl.size)⟩
/-- One digest put behind. -/
theorem FstI.put {w : World} {B Bf Bs : Nat} {a : Option Addr} {len cap : Nat} {pre : List Lf} {v : Value} {W : World} (h : FstI w B Bf Bs a len cap pre v W) (hB : w.heap.size ≤ B) (hBW : B ≤ W.heap.size) (hw : w.heap.size ≤ Bf) (hne : Bs ≠ Bf) (hlen : pre.length ≤ 1000) (x : Lf) (D : Array Value) (HD : Hid (D = (cellsOf x.d).toArray)) :
    ∃ a' n' c' W1, (Builtin.append_ #[39, 39] 39 #[v, .slice (some ⟨W.heap.size, 0, none⟩) 1 1]).run Tryd.prog (W.alloc (.cells D 26)) = .ok (.slice a' n' c') W1 ∧ W1.cell? ⟨Bf, 0, none⟩ = some v ∧ W1.frozen? ⟨Bf, 0, none⟩ = false ∧
      FstI w B Bf Bs a len cap (pre ++ [x]) (.slice a' n' c') (W1.setCell ⟨Bf, 0, none⟩ (.slice a' n' c')) ∧ KpL w.heap.size Bs W (W1.setCell ⟨Bf, 0, none⟩ (.slice a' n' c')) ∧ ∀ C, KeepsFrom C W (W1.setCell ⟨Bf, 0, none⟩ (.slice a' n' c')) := by
  have hal : Below W.heap.size W (W.alloc (.cells D 26)) := (Below.refl _ _).alloc (Nat.le_refl _) _
  have h2 := h.keep hal
  obtain ⟨v', W1, hrun, hown, hgr⟩ := run_append_digs (W.alloc (.cells D 26)) B v (digsL pre) [x.d] h2.own ⟨W.heap.size, 0, none⟩ 1 1 rfl (.one x.ok) (fun j u hj => by
    rw [add_plain, Nat.zero_add, cell_of_row _ _ j _ 26 (0, 0) (heap_alloc_new W _), HD.out]
    simpa using hj) (by simp; omega) (by rw [digsL_length]; omega)
  obtain ⟨a', n', c', rfl⟩ : ∃ a' n' c', v' = .slice a' n' c' := by
    rcases hown.2 with ⟨h, _⟩ | ⟨g, cp, _, h, _⟩
    · exact ⟨_, _, _, h⟩
    · exact ⟨_, _, _, h⟩
  have nf : some Bf ≠ v.ownBlock := own_other h2.own h2.f (by decide)
  have ns : some Bs ≠ v.ownBlock := own_other h2.own h2.s (by decide)
  have hf1 : Boxed W1 Bf 39 v := (hgr.block Bf (heap_lt h2.f) nf).trans h2.f
  have hs1 : Boxed W1 Bs 22 (.slice a len cap) := (hgr.block Bs (heap_lt h2.s) ns).trans h2.s
  have hbl : ∀ b, v.ownBlock = some b → w.heap.size ≤ b := fun b e => Nat.le_trans hB (h.own.lt b e).1
  have hb1 : Below w.heap.size W W1 := (hal.mono h.bl.size).grown hgr (by have := h.bl.size; have := hal.size; omega) (fun k e => hbl k e)
  have hown' : W1.ownsRow B 26 32 (.slice a' n' c') (digsL (pre ++ [x])).length (cellsOf (digsL (pre ++ [x])).flatten) := by
    rw [digsL_snoc, List.length_append]
    exact hown
  have n2 : Value.ownBlock (.slice a' n' c') ≠ some Bf := fun e => own_other hown' hf1 (by decide) e.symm
  refine ⟨a', n', c', W1, hrun, hf1.cell, hf1.frozen, ⟨hf1.set _, set_other hs1 hne _, hown'.kept (grownBy_setCell' W1 Bf _) (.inr n2), (h.bl.trans hb1).setCell (p := ⟨Bf, 0, none⟩) hw _⟩, ⟨hb1.setCell (p := ⟨Bf, 0, none⟩) hw _, (Below.heap_setCell W1 ⟨Bf, 0, none⟩ _ Bs hne).trans (hs1.trans h.s.symm)⟩, fun C => ?_⟩
  have k1 : KeepsOthers W W1 := ⟨Nat.le_trans hal.size hgr.size, fun k ob hk ho => by
    have e1 := (hal.block k (heap_lt hk)).trans hk
    refine (hgr.block k (heap_lt e1) (fun e => ?_)).trans e1
    rcases h2.own.2 with ⟨e0, _⟩ | ⟨g, cp, cur, e0, _, hgg, _⟩
    · rw [e0] at e; cases e
    · rw [e0] at e
      have : k = g := Option.some.inj e
      subst this
      rw [e1] at hgg; cases hgg; cases ho⟩
  exact (k1.trans (KeepsOthers.setCell _ _ _)).from _
theorem sizeX_vals (l : List ItT) (n : Int) (h : sizeX l n = 0) : rightL l = true ∧ 0 ≤ n ∧ n ≤ l.length := by
  unfold sizeX at h
  by_cases hr : rightL l = false
  · rw [if_pos hr] at h; omega
  · rw [if_neg hr] at h
    by_cases hn : n < 0 ∨ (l.length : Int) < n
    · rw [if_pos hn] at h; omega
    · exact ⟨by simpa using hr, by omega, by omega⟩
set_option maxHeartbeats 8000000 in
theorem hFirst_no (ck : EntryC) (a : Option Addr) (len cap : Nat) (l : List ItT) (n : Int) (w : World) (h : InL w a len cap l) (hs : sizeX l n ≠ 0) :
    Calls Tryd.prog 41 #[.slice a len cap, .int .i64 n] w fun e w' => e = .returned (.tuple #[.slice none 0 0, .int .i64 (sizeX l n)]) ∧ Below w.heap.size w w' := by
  have HC := hidk (hCheck ck a len cap l w h)
  have hlen := h.le
  have HL := hidk h.rd.ln
  by_cases hr : rightL l = true
  · have e1 : chkE l = 0 := by unfold chkE; rw [if_pos hr]
    have e2 : sizeX l n = 21 ∧ (n < 0 ∨ (len : Int) < n) := by
      unfold sizeX at hs ⊢
      rw [if_neg (by rw [hr]; decide)] at hs ⊢
      by_cases hn : n < 0 ∨ (l.length : Int) < n
      · rw [if_pos hn]; rw [HL.out] at hn; exact ⟨rfl, hn⟩
      · rw [if_neg hn] at hs; exact absurd rfl hs
    rw [e1] at HC
    rw [e2.1]
    have hn := e2.2
    clear e1 e2 hs hr h ck
    by_cases h0 : n < 0
    · have d0 : decide (n < 0) = true := decide_eq_true h0
      clear h0 hn
      go_enter Tryd.func41, Tryd.ntmps41
      go_wp2_with fail
      refine HC.out.mono ?_
      rintro e w1 ⟨rfl, hb1⟩
      go_wp2
      go_ret2
      exact ⟨rfl, hb1⟩
    · have d0 : decide (n < 0) = false := decide_eq_false h0
      have d1 : decide ((len : Int) < n) = true := decide_eq_true (by omega)
      clear h0 hn
      go_enter Tryd.func41, Tryd.ntmps41
      go_wp2_with fail
      refine HC.out.mono ?_
      rintro e w1 ⟨rfl, hb1⟩
      go_wp2
      go_ret2
      exact ⟨rfl, hb1⟩
  · have e1 : chkE l = 100 := by unfold chkE; rw [if_neg hr]
    have e2 : sizeX l n = 100 := by unfold sizeX; rw [if_pos (by simpa using hr)]
    rw [e1] at HC
    rw [e2]
    clear e1 e2 hs hr h ck
    go_enter Tryd.func41, Tryd.ntmps41
    go_wp2_with fail
    refine HC.out.mono ?_
    rintro e w1 ⟨rfl, hb1⟩
    go_wp2
    go_ret2
    exact ⟨rfl, hb1⟩
set_option maxHeartbeats 8000000 in
theorem first_in (ck : EntryC) (q : Nat) (hq : 3 ≤ q) (a : Option Addr) (len cap : Nat) (l : List ItT) (n : Nat) (w : World) (h : InL w a len cap l) (hr : rightL l = true) (hn : n ≤ len) (hT : TabH w) :
    CallsIn Fence.wide q Tryd.prog 41 #[.slice a len cap, .int .i64 (n : Int)] w fun e w' => (∃ x cx, e = .returned (.tuple #[.slice x n cx, .int .i64 0]) ∧ LReads w' x n cx (leavesL (l.take n))) ∧ Below w.heap.size w w' := by
  have h1 : 1 ≤ q := by omega
  obtain ⟨ZD, HZD, HAD, HSD0, H1D0, H32D⟩ := noughts27
  have hlen := h.le
  have hln := h.rd.ln
  have HC := hidk (hCheck ck a len cap l w h)
  rw [show chkE l = 0 by unfold chkE; rw [if_pos hr]] at HC
  have hA : ∀ g o, a = some ⟨g, o, none⟩ → 0 < len → g < w.heap.size := fun g o e h0 => by
    obtain ⟨g', o', e', hl⟩ := h.rd.at h0
    rw [e] at e'; cases e'; exact hl
  have d0 : decide ((n : Int) < 0) = false := by rw [decide_eq_false_iff_not]; omega
  have d1 : decide ((len : Int) < (n : Int)) = false := by rw [decide_eq_false_iff_not]; omega
  obtain ⟨a2, SL, hRs⟩ := slice_log h.rd (n : Int) (by omega) (by omega)
  rw [Int.toNat_natCast] at SL hRs
  obtain ⟨i0, hi, hz0, hz1, hz2⟩ := info_parts infoD
  have MK : ∀ V : World, ∃ w', (Instr.makeSlice 39 (.int .i64 0) (.int .i64 (n : Int))).run Tryd.prog V = .ok (.slice (some ⟨V.heap.size, 0, none⟩) 0 n) w' ∧ w'.ownsRow V.heap.size 26 32 (.slice (some ⟨V.heap.size, 0, none⟩) 0 n) 0 [] ∧ V.grownBy w' none := fun V =>
    run_make_own (P := Tryd.prog) (w := V) V.heap.size 39 26 i0 _ 32 Tryd.underlying39 hi hz0 hz1 .i64 .i64 n (by rw [hz2]; omega) (by unfold maxLen; omega) (Nat.le_refl _)
  have HMK := hidk MK
  clear MK HZD
  refine callsIn_of_wp_marks Tryd.func41 rfl trivial ?_ rfl
  simp only [Tryd.ntmps41, List.size_toArray, List.length_cons, List.length_nil, Nat.reduceAdd, Nat.reduceSub, Array.replicate_succ, Array.replicate_zero, List.push_toArray, List.append_toArray, List.nil_append, List.cons_append]
  gi_wp2_with (first
    | (refine ⟨trivial, ?_⟩; gi_at_call 20; refine (callsIn_wide.2 HC.out).mono ?_; rintro e w1 ⟨rfl, hb1⟩; obtain ⟨w2, mk, hmo, hmg⟩ := HMK.out w1)
    | (refine ⟨trivial, ?_⟩; gi_at_call 58; refine (lvs_in (q - 1) _ _ _ _).mono ?_; rintro e w' ⟨rfl, rfl⟩)
    | fail)
  have hs1 := hb1.size
  have hs2 := hmg.size
  have hB2 : Below w.heap.size w w2 := hb1.grown hmg hs1 (fun k e => by cases e)
  have hB0 : Below w.heap.size w ((w2.alloc (.cells #[.slice (some ⟨w1.heap.size, 0, none⟩) 0 n] 39)).alloc (.cells #[.slice a2 n cap] 22)) := (hB2.alloc (by omega) _).alloc (by simp; omega) _
  have hb2 : Below w2.heap.size w2 ((w2.alloc (.cells #[.slice (some ⟨w1.heap.size, 0, none⟩) 0 n] 39)).alloc (.cells #[.slice a2 n cap] 22)) := ((Below.refl _ _).alloc (Nat.le_refl _) _).alloc (by simp) _
  have hsz : ((w2.alloc (.cells #[.slice (some ⟨w1.heap.size, 0, none⟩) 0 n] 39)).alloc (.cells #[.slice a2 n cap] 22)).heap.size = w2.heap.size + 2 := by simp
  have b0 := (Boxed.new w2 39 (.slice (some ⟨w1.heap.size, 0, none⟩) 0 n)).alloc (.cells #[.slice a2 n cap] 22)
  have b1 := Boxed.new (w2.alloc (.cells #[.slice (some ⟨w1.heap.size, 0, none⟩) 0 n] 39)) 22 (.slice a2 n cap)
  simp only [World.size_alloc] at b1
  have ho0 := own_below hmo hb2
  obtain ⟨W0, hW0⟩ : ∃ W0, ((w2.alloc (.cells #[.slice (some ⟨w1.heap.size, 0, none⟩) 0 n] 39)).alloc (.cells #[.slice a2 n cap] 22)) = W0 := ⟨_, rfl⟩
  rw [hW0] at b0 b1 hB0 hsz ho0 ⊢
  have hge : w2.heap.size + 2 ≤ W0.heap.size := Nat.le_of_eq hsz.symm
  clear hW0 hsz hb2
  have F0 : FstI w w1.heap.size w2.heap.size (w2.heap.size + 1) a2 n cap [] (.slice (some ⟨w1.heap.size, 0, none⟩) 0 n) W0 := ⟨b0, b1, ho0, hB0⟩
  have hA2 : ∀ g o, a2 = some ⟨g, o, none⟩ → 0 < n → g < w.heap.size := fun g o e h0 => by
    obtain ⟨g', o', e', hl⟩ := (hRs w h.rd).at h0
    rw [e] at e'; cases e'; exact hl
  refine wpIn_rangeFunc_ownH rfl h1 (gf := 74) (lb := #[.pointer (some ⟨w2.heap.size + 1, 0, none⟩)]) rfl trivial (enters_of Tryd.func74 (by kernel_rfl) rfl)
    (lvs_stops ck (q - 1) (by omega) (w2.heap.size + 1) w.heap.size a2 n cap (l.take n) (fun x hx => h.its x (List.mem_of_mem_take hx)) W0 (by omega) (by omega) (by omega) (fun V hb => hT.keep (hB0.trans hb)) b1.cell (hRs W0 (h.rd.keep hB0)) hA2) kpL_t (kpL_b (by omega) (by omega)) (Below.refl _ _) (fun _ => rfl)
    (fun pre W => ∃ v, FstI w w1.heap.size w2.heap.size (w2.heap.size + 1) a2 n cap pre v W)
    (fun _ _ _ => False)
    (fun pre X Y row hs hg hr => by obtain ⟨v, hs⟩ := hs; exact ⟨v, hs.own_from (by omega) hg hr⟩)
    (fun cd pre X Y row hs hg hr => hs)
    ⟨_, F0⟩
    (fun x a' W => ∃ Bx, W.heap[Bx]? = some (.cells (cellsOf x.d).toArray 26 (0, 0)) ∧ a' = { tmps := #[.slice a len cap, .int .i64 (n : Int), undef, undef, .slice none 0 0, .int .i64 0, .int .i64 0, .pointer (some ⟨w2.heap.size, 0, none⟩), .pointer (some ⟨Bx, 0, none⟩), .slice a len cap, .int .i64 0, .int .i64 0, .bool false, undef, .int .i64 (n : Int), .bool false, .bool false, .int .i64 (n : Int), .slice a len cap, .int .i64 (len : Int), .bool false, .bool false, .int .i64 (n : Int), .slice (some ⟨w1.heap.size, 0, none⟩) 0 n, .slice a len cap, .int .i64 (n : Int), .slice a2 n cap, .func (.func 74) #[] #[.pointer (some ⟨w2.heap.size + 1, 0, none⟩)], .agg (cellsOf x.d).toArray, undef, undef, undef, undef, undef], defers := [] })
    (fun x a' _ X Y row hs hg hr => by obtain ⟨Bx, k2, k3⟩ := hs; exact ⟨Bx, cells_stay k2 hg (fun r e => (hr r e).2), k3⟩)
    ?assign ?body ?done ?stop
  case assign =>
    rintro lp pre x W K ⟨v, hF⟩ hK
    obtain ⟨D, HD⟩ : ∃ D : Array Value, Hid (D = (cellsOf x.d).toArray) := ⟨_, hidk rfl⟩
    have HSD : Hid ((Tryd.prog.info? 26).map (·.size) = some D.size) := by show _ = _; rw [size23, HD.out]; simp [cellsOf_length, x.ok]
    have HZD : Hid (ZD.size = D.size) := by show _ = _; rw [H32D.out, HD.out]; simp [cellsOf_length, x.ok]
    have H1D : Hid (D.all (·.oneCell') = true) := by show _ = _; rw [HD.out]; exact cellsOf_all _
    dsimp only [encL]
    rw [← HD.out] at hK ⊢
    have hls := hF.bl.size
    have l3 := heap_lt hF.s
    have HFF := hidk hF
    have HKK := hidk hK
    clear hF hK HD
    simp only [List.zip_toArray, List.foldl_toArray, List.zip_cons_cons, List.zip_nil_right, List.foldl_cons, List.foldl_nil, List.setIfInBounds_toArray, List.set_cons_succ, List.set_cons_zero]
    gi_wp2_with (first
      | (show wpListIn _ _ _ _ _ ({ dst := some 8, op := _, type := _, pos := _, after := _, guard := _ } :: _) _ _; refine wpListIn_new_var rfl 26 rfl ZD HAD.out ?_; intro g9 w8 HM; have HG := hidk HM.out.row; try simp only [Act.put, List.setIfInBounds_toArray, List.set_cons_zero, List.set_cons_succ])
      | (refine wpListIn_set_var rfl 26 (.tmp 8) (.tmp 28) rfl g9 D rfl rfl 26 ZD HG.out HSD.out HZD.out H1D.out ?_; intro w9 HW; have HB2 : Hid (Below W.heap.size W w9) := HW.out.below W.heap.size W HM.out.below (by rw [HM.out.new]; exact Nat.le_refl _); have HG2 := hidk HW.out.row; try simp only [Act.put, List.setIfInBounds_toArray, List.set_cons_zero, List.set_cons_succ])
      | fail)
    exact HKK.out _ _ (KeepsFrom.of_grownBy (grown_of_below11 HB2.out) (fun j e => by cases e)) (kpL_below (by omega) (by omega) HB2.out) ⟨v, HFF.out.keep HB2.out⟩ ⟨g9, HG2.out, rfl⟩
  case body =>
    rintro lp pre x a' W hl0 ⟨r, hlr⟩ ⟨v, hF⟩ ⟨Bx, hBx, rfl⟩ hlt
    obtain ⟨D, HD⟩ : ∃ D : Array Value, Hid (D = (cellsOf x.d).toArray) := ⟨_, hidk rfl⟩
    have HSD : Hid ((Tryd.prog.info? 26).map (·.size) = some D.size) := by show _ = _; rw [size23, HD.out]; simp [cellsOf_length, x.ok]
    have HRD : Hid (W.rangeAt Bx 0 D.toList) := range_row (l := D.toList) (W := W) (g := Bx) (by rw [HD.out]; simpa using hBx)
    have BU := hidk (build_one W x.d x.ok D HD)
    have lf := heap_lt hF.f
    obtain ⟨va, vn, vc, rfl⟩ : ∃ a' n' c', v = .slice a' n' c' := by
      rcases hF.own.2 with ⟨h, _⟩ | ⟨g, cp, _, h, _⟩
      · exact ⟨_, _, _, h⟩
      · exact ⟨_, _, _, h⟩
    obtain ⟨a', n', c', W1, AR, c1, f1, hP, hK1, hK2⟩ := hF.put hs1 (by omega) (by omega) (by omega) (by omega) x D HD
    have cF := hF.f.cell
    have FIN : Hid (KeepsFrom W0.heap.size W (W1.setCell ⟨w2.heap.size, 0, none⟩ (.slice a' n' c')) ∧ KpL w.heap.size (w2.heap.size + 1) W (W1.setCell ⟨w2.heap.size, 0, none⟩ (.slice a' n' c')) ∧ ∃ v, FstI w w1.heap.size w2.heap.size (w2.heap.size + 1) a2 n cap (pre ++ [x]) v (W1.setCell ⟨w2.heap.size, 0, none⟩ (.slice a' n' c'))) := ⟨hK2 _, hK1, _, hP⟩
    have HAR := hidk AR
    rw [← HD.out]
    clear hF hP hK1 hK2 AR HD hBx hlr
    gi_wp2_with (first
      | (show wpListIn _ _ _ _ _ ({ dst := some 30, op := _, type := _, pos := _, after := _, guard := _ } :: _) _ _; refine wpListIn_mid (by rfl) 26 (.tmp 8) rfl Bx 0 rfl D _ HRD.out Tryd.underlying26 rfl HSD.out ?_; try simp only [Act.put, List.setIfInBounds_toArray, List.set_cons_zero, List.set_cons_succ])
      | (show wpListIn _ _ _ _ _ ({ dst := some 31, op := _, type := _, pos := _, after := _, guard := _ } :: _) _ _; refine wpListIn_build_run rfl 39 1 _ rfl #[(0, .agg D)] rfl _ _ BU.out ?_; try simp only [Act.put, List.setIfInBounds_toArray, List.set_cons_zero, List.set_cons_succ])
      | (show wpListIn _ _ _ _ _ ({ dst := some 32, op := _, type := _, pos := _, after := _, guard := _ } :: _) _ _; refine wpListIn_append_run11 rfl (.tmp 29) (.tmp 31) 39 39 rfl _ _ _ _ rfl rfl HAR.out ?_; try simp only [Act.put, List.setIfInBounds_toArray, List.set_cons_zero, List.set_cons_succ])
      | fail)
    exact FIN.out
  case done =>
    rintro Dd ys W hD rfl ⟨v, hF⟩ hK
    obtain ⟨va, vn, vc, rfl⟩ : ∃ a' n' c', v = .slice a' n' c' := by
      rcases hF.own.2 with ⟨h, _⟩ | ⟨g, cp, _, h, _⟩
      · exact ⟨_, _, _, h⟩
      · exact ⟨_, _, _, h⟩
    have cF := hF.f.cell
    have FE := hidk (hF.own_from (C := W0.heap.size) (by omega) (grownBy_putObj' _ Dd (.deferred none)) (fun r e => by cases e; exact ⟨hD, _, hK, rfl⟩))
    have HDS : Hid (digsL (lfsF (l.take n) 0) = leavesL (l.take n)) := digsL_lfs fun x hx => right_item (right_take hr n) hx
    have HKK := hidk hK
    clear hF hK
    gi_wp2
    refine ⟨by simp, .inl ⟨_, _, rfl, run_takeDeferred HKK.out, ?_⟩⟩
    have ho := FE.out.own
    rw [HDS.out] at ho
    obtain ⟨x, cx, e, hx, _⟩ := LReads.own ho (leavesL_digs _)
    have hlv : (leavesL (l.take n)).length = n := by unfold leavesL; rw [List.length_map, List.length_take]; omega
    rw [hlv] at e hx
    refine ⟨.tuple #[.slice va vn vc, .int .i64 0], ?_, ⟨x, cx, by rw [e], hx⟩, FE.out.bl⟩
    simp [results, Tryd.f41, go_sem]
  case stop =>
    rintro Dd cd pre W hD hpre hs hK
    exact hs.elim
end Go.Proofs.YtjalebncfnekiaaDoor

/- The program's Root, Head, Inclusion and Consistency of logs. -/
namespace Go.Proofs.YtjalebncfnekiaaDoor
open Go.RowKit Nums Sums
set_option linter.unusedVariables false
set_option linter.unusedSimpArgs false
set_option maxRecDepth 100000
theorem hFirst_ok (ck : EntryC) (a : Option Addr) (len cap : Nat) (l : List ItT) (n : Int) (w : World) (h : InL w a len cap l) (hs : sizeX l n = 0) (hT : TabH w) :
    Calls Tryd.prog 41 #[.slice a len cap, .int .i64 n] w fun e w' => (∃ x cx, e = .returned (.tuple #[.slice x n.toNat cx, .int .i64 0]) ∧ LReads w' x n.toNat cx (leavesL (l.take n.toNat))) ∧ Below w.heap.size w w' := by
  obtain ⟨hr, h0, h1⟩ := sizeX_vals l n hs
  have hln := h.rd.ln
  obtain ⟨k, rfl⟩ : ∃ k : Nat, n = k := ⟨n.toNat, by omega⟩
  rw [Int.toNat_natCast]
  exact callsIn_wide.1 (first_in ck 3 (Nat.le_refl _) a len cap l k w h hr (by omega) hT)
set_option maxHeartbeats 8000000 in
theorem hRoot (ck : EntryC) (a : Option Addr) (len cap : Nat) (l : List ItT) (n : Int) (w : World) (h : InL w a len cap l) (hT : TabH w) (D : Array Value) (HD : Hid (D = (cellsOf (rootO l n)).toArray)) :
    Calls Tryd.prog 35 #[.slice a len cap, .int .i64 n] w fun e w' => e = .returned (.tuple #[.agg D, .int .i64 (sizeX l n)]) ∧ Below w.heap.size w w' := by
  obtain ⟨Z, HZ, HA, HS, H1, H32⟩ := noughts27
  obtain ⟨s, HSZ⟩ : ∃ s, Hid (sizeX l n = s) := ⟨_, hidk rfl⟩
  by_cases hs : s = 0
  · subst hs
    have HC : Hid (∀ W, Below w.heap.size w W → _) := fun W hb => hFirst_ok ck a len cap l n W (h.keep hb) HSZ.out (hT.keep hb)
    have HRT : Hid (∀ W x cx, Below w.heap.size w W → LReads W x n.toNat cx (leavesL (l.take n.toNat)) → Calls Tryd.prog 54 #[.slice x n.toNat cx] W fun e w' => e = .returned (.agg D) ∧ Below W.heap.size W w') := fun W x cx hb hx => root_any n.toNat x n.toNat cx _ W rfl hx (hT.keep hb) D (by show _ = _; rw [HD.out]; unfold rootO; rw [if_pos HSZ.out])
    have h32 : (rootO l n).length = 32 := rootO_length l n
    have HSD : Hid ((Tryd.prog.info? 26).map (·.size) = some D.size) := by show _ = _; rw [size23, HD.out]; simp [cellsOf_length, h32]
    have HZD : Hid (Z.size = D.size) := by show _ = _; rw [H32.out, HD.out]; simp [cellsOf_length, h32]
    have H1D : Hid (D.all (·.oneCell') = true) := by show _ = _; rw [HD.out]; exact cellsOf_all _
    rw [HSZ.out]
    clear h hT HD HZ HSZ h32 ck
    go_enter Tryd.func35, Tryd.ntmps35
    go_wp2_with (first
      | (show wpList _ _ _ ({ dst := some 4, op := _, type := _, pos := _, after := _, guard := _ } :: _) _ _; refine wpList_new_var rfl 26 rfl Z HA.out ?_; intro g4 w1 HM; have HG := hidk HM.out.row; have HB1 := hidk HM.out.below; have hn4 : w.heap.size ≤ g4 := (by rw [HM.out.new]; exact Nat.le_refl _); try simp only [Act.put, List.setIfInBounds_toArray, List.set_cons_zero, List.set_cons_succ])
      | fail)
    refine (HC.out _ HB1.out).mono ?_
    rintro e w2 ⟨⟨x, cx, rfl, hx⟩, hb2⟩
    have HB2 := hidk (HB1.out.trans (hb2.mono HB1.out.size))
    have HG2 := hidk ((hb2.block _ (heap_lt HG.out)).trans HG.out)
    have HR := hidk (HRT.out w2 x cx HB2.out hx)
    clear hb2 hx
    go_wp2_with fail
    refine HR.out.mono ?_
    rintro e w4 ⟨rfl, hb4⟩
    have HB4 := hidk (HB2.out.trans (hb4.mono HB2.out.size))
    have HG4 := hidk ((hb4.block _ (heap_lt HG2.out)).trans HG2.out)
    clear hb4
    go_wp2_with (first
      | (refine wpList_set_var rfl 26 (.tmp 4) (.tmp 19) rfl g4 D rfl rfl 26 Z HG4.out HSD.out HZD.out H1D.out ?_; intro w5 HW; try simp only [Act.put, List.setIfInBounds_toArray, List.set_cons_zero, List.set_cons_succ])
      | fail)
    refine bodyPost_ret (v := .tuple #[.agg D, .int .i64 0]) ?_ rfl ⟨rfl, HW.out.below w.heap.size w HB4.out hn4⟩
    exact results_row_tmp (p := 4) (q := 5) (ty := 26) rfl _ _ g4 26 D (0, 0) _ rfl HW.out.row Tryd.underlying26 rfl HSD.out
  · have HC : Hid (∀ W, Below w.heap.size w W → _) := fun W hb => hFirst_no ck a len cap l n W (h.keep hb) (by rw [HSZ.out]; exact hs)
    rw [HSZ.out] at HC ⊢
    have HDZ : Hid (D = Z) := by show _ = _; rw [HD.out, HZ.out]; unfold rootO; rw [if_neg (by rw [HSZ.out]; exact hs)]
    have hne : (!(s == 0)) = true := by simp [hs]
    have hDZ := HDZ.out
    subst hDZ
    have HBD : Hid (Tryd.prog.built 26 [] = some D) := by show _ = _; rw [HZ.out]; exact builtDg
    clear h hT HD HZ HSZ HDZ ck
    go_enter Tryd.func35, Tryd.ntmps35
    go_wp2_with (first
      | (show wpList _ _ _ ({ dst := some 4, op := _, type := _, pos := _, after := _, guard := _ } :: _) _ _; refine wpList_new_var rfl 26 rfl D HA.out ?_; intro g4 w1 HM; have HG := hidk HM.out.row; have HB1 := hidk HM.out.below; have hn4 : w.heap.size ≤ g4 := (by rw [HM.out.new]; exact Nat.le_refl _); try simp only [Act.put, List.setIfInBounds_toArray, List.set_cons_zero, List.set_cons_succ])
      | fail)
    refine (HC.out _ HB1.out).mono ?_
    rintro e w2 ⟨rfl, hb2⟩
    have HB2 := hidk (HB1.out.trans (hb2.mono HB1.out.size))
    have HG2 := hidk ((hb2.block _ (heap_lt HG.out)).trans HG.out)
    clear hb2
    go_wp2_with (first
      | (show wpList _ _ _ ({ dst := some 16, op := _, type := _, pos := _, after := _, guard := _ } :: _) _ _; refine wpList_build_none rfl 26 rfl D HBD.out ?_; try simp only [Act.put, List.setIfInBounds_toArray, List.set_cons_zero, List.set_cons_succ])
      | (refine wpList_set_var rfl 26 (.tmp 4) (.tmp 16) rfl g4 D rfl rfl 26 D HG2.out HS.out rfl H1.out ?_; intro w5 HW; try simp only [Act.put, List.setIfInBounds_toArray, List.set_cons_zero, List.set_cons_succ])
      | fail)
    refine bodyPost_ret (v := .tuple #[.agg D, .int .i64 s]) ?_ rfl ⟨rfl, HW.out.below w.heap.size w HB2.out hn4⟩
    exact results_row_tmp (p := 4) (q := 5) (ty := 26) rfl _ _ g4 26 D (0, 0) _ rfl HW.out.row Tryd.underlying26 rfl HS.out
set_option maxHeartbeats 8000000 in
theorem hHead (ck : EntryC) (hd : HeadC) (a : Option Addr) (len cap : Nat) (l : List ItT) (n r e t : Int) (w : World) (h : InL w a len cap l) (hn : In64 n) (hr : In64 r) (he : In64 e) (ht : In64 t) (hK : TabH w) (R : Array Value) (HR : Hid (R = (hcells (hdO l n r e t)).toArray)) :
    Calls Tryd.prog 21 #[.slice a len cap, .int .i64 n, .int .i64 r, .int .i64 e, .int .i64 t] w fun x w' => x = .returned (.tuple #[.agg R, .int .i64 (hdE l n r e t)]) ∧ Below w.heap.size w w' := by
  obtain ⟨D, HD⟩ : ∃ D : Array Value, Hid (D = (cellsOf (rootO l n)).toArray) := ⟨_, hidk rfl⟩
  have HC : Hid (∀ W, Below w.heap.size w W → Calls Tryd.prog 35 #[.slice a len cap, .int .i64 n] W fun e w' => e = .returned (.tuple #[.agg D, .int .i64 (sizeX l n)]) ∧ Below W.heap.size W w') := fun W hb => hRoot ck a len cap l n W (h.keep hb) (hK.keep hb) D HD
  obtain ⟨ZD, HZD, HAD, HSZD, H1ZD, H32D⟩ := noughts27
  obtain ⟨Z, HZ, HA, HBZ, H36⟩ := noughtsH
  have h32 : (rootO l n).length = 32 := rootO_length l n
  have HSD : Hid ((Tryd.prog.info? 26).map (·.size) = some D.size) := by show _ = _; rw [size23, HD.out]; simp [cellsOf_length, h32]
  have HZDD : Hid (ZD.size = D.size) := by show _ = _; rw [H32D.out, HD.out]; simp [cellsOf_length, h32]
  have H1D : Hid (D.all (·.oneCell') = true) := by show _ = _; rw [HD.out]; exact cellsOf_all _
  have hdR := hdO_digs l n r e t
  have HSR : Hid ((Tryd.prog.info? 28).map (·.size) = some R.size) := by show _ = _; rw [sizeH, HR.out]; simp [hcells_length _ hdR]
  have H1R : Hid (R.all (·.oneCell') = true) := by show _ = _; rw [HR.out]; exact one_cells _
  have HZR : Hid (Z.size = R.size) := by show _ = _; rw [H36.out, HR.out]; simp [hcells_length _ hdR]
  obtain ⟨s, HSZ⟩ : ∃ s, Hid (sizeX l n = s) := ⟨_, hidk rfl⟩
  rw [HSZ.out] at HC
  by_cases hs : s = 0
  · subst hs
    have hrt : rootO l n = root (leavesL (l.take n.toNat)) := by unfold rootO; rw [if_pos HSZ.out]
    obtain ⟨C, HCc⟩ : ∃ C : Array Value, Hid (C = (hcells (headX l n r e t)).toArray) := ⟨_, hidk rfl⟩
    have hdX : (headX l n r e t).d.length = 32 := headX_digs
    have HSC : Hid ((Tryd.prog.info? 28).map (·.size) = some C.size) := by show _ = _; rw [sizeH, HCc.out]; simp [hcells_length _ hdX]
    have H1C : Hid (C.all (·.oneCell') = true) := by show _ = _; rw [HCc.out]; exact one_cells _
    have HZC : Hid (Z.size = C.size) := by show _ = _; rw [H36.out, HCc.out]; simp [hcells_length _ hdX]
    have HBC : Hid (Tryd.prog.built 28 [(0, .int .i64 r), (1, .int .i64 e), (2, .int .i64 n), (3, .agg D), (4, .int .i64 t)] = some C) := builtH (headX l n r e t) hdX D C (by show _ = _; rw [HD.out, hrt]; rfl) HCc
    have RT : Hid (∀ W, Calls Tryd.prog 36 #[.agg C] W fun x w' => x = .returned (.int .i64 (if rightH (headX l n r e t) = true then 0 else 70)) ∧ Below W.heap.size W w') := fun W => hd.check (headX l n r e t) ⟨hdX, hr, he, hn, ht⟩ W C HCc
    obtain ⟨b, Hb⟩ : ∃ b, Hid (rightH (headX l n r e t) = b) := ⟨_, hidk rfl⟩
    rw [Hb.out] at RT
    cases b
    · rw [if_neg (by decide)] at RT
      obtain ⟨e1, e2⟩ := hdE_bad HSZ.out Hb.out
      rw [e1]
      have hRZ : R = Z := by rw [HR.out, HZ.out, e2]
      clear h hK ck hd hn hr he ht HD HSZ Hb HCc HR HZ e1 e2 hrt hdX hdR h32
      subst hRZ
      go_enter Tryd.func21, Tryd.ntmps21
      go_wp2_with (first
        | (show wpList _ _ _ ({ dst := some 10, op := _, type := _, pos := _, after := _, guard := _ } :: _) _ _; refine wpList_new_var rfl 28 rfl R HA.out ?_; intro g10 w1 HM; have HG := hidk HM.out.row; have HB1 := hidk HM.out.below; have h10 : w.heap.size ≤ g10 := (by rw [HM.out.new]; exact Nat.le_refl _); try simp only [Act.put, List.setIfInBounds_toArray, List.set_cons_zero, List.set_cons_succ])
        | fail)
      refine (HC.out _ HB1.out).mono ?_
      rintro e w2 ⟨rfl, hb2⟩
      have HB2 := hidk (HB1.out.trans (hb2.mono HB1.out.size))
      have HG2 := hidk ((hb2.block _ (heap_lt HG.out)).trans HG.out)
      clear hb2 HM HG HB1
      go_wp2_with (first
        | (show wpList _ _ _ ({ dst := some 12, op := _, type := _, pos := _, after := _, guard := _ } :: _) _ _; refine wpList_new_var rfl 26 rfl ZD HAD.out ?_; intro g12 w3 HM3; have HG12 := hidk HM3.out.row; try simp only [Act.put, List.setIfInBounds_toArray, List.set_cons_zero, List.set_cons_succ])
        | (refine wpList_set_var rfl 26 (.tmp 12) (.tmp 19) rfl g12 D rfl rfl 26 ZD HG12.out HSD.out HZDD.out H1D.out ?_; intro w4 HW4; have HR12 := hidk HW4.out.row; have hlt12 : g10 < g12 := (by rw [HM3.out.new]; exact heap_lt HG2.out); have h12 : w.heap.size ≤ g12 := Nat.le_trans HB2.out.size (by rw [HM3.out.new]; exact Nat.le_refl _); have HB4 : Hid (Below w.heap.size w w4) := HW4.out.below _ _ (HB2.out.trans (HM3.out.below.mono HB2.out.size)) h12; have HG4 : Hid (w4.heap[g10]? = some (.cells R 28 (0, 0))) := (HW4.out.other g10 (by omega)).trans ((HM3.out.below.block _ (heap_lt HG2.out)).trans HG2.out); try simp only [Act.put, List.setIfInBounds_toArray, List.set_cons_zero, List.set_cons_succ])
        | (show wpList _ _ _ ({ dst := some 28, op := _, type := _, pos := _, after := _, guard := _ } :: _) _ _; refine wpList_load_row rfl 26 (.tmp 12) rfl g12 rfl 26 D (0, 0) _ HR12.out Tryd.underlying26 rfl HSD.out ?_; try simp only [Act.put, List.setIfInBounds_toArray, List.set_cons_zero, List.set_cons_succ])
        | (show wpList _ _ _ ({ dst := some 30, op := _, type := _, pos := _, after := _, guard := _ } :: _) _ _; refine wpList_build_some rfl 28 _ rfl [(0, .int .i64 r), (1, .int .i64 e), (2, .int .i64 n), (3, .agg D), (4, .int .i64 t)] rfl C HBC.out ?_; try simp only [Act.put, List.setIfInBounds_toArray, List.set_cons_zero, List.set_cons_succ])
        | (show wpList _ _ _ ({ dst := some 14, op := _, type := _, pos := _, after := _, guard := _ } :: _) _ _; refine wpList_new_var rfl 28 rfl R HA.out ?_; intro g14 w5 HM5; have HG14 := hidk HM5.out.row; try simp only [Act.put, List.setIfInBounds_toArray, List.set_cons_zero, List.set_cons_succ])
        | (refine wpList_set_var rfl 28 (.tmp 14) (.tmp 30) rfl g14 C rfl rfl 28 R HG14.out HSC.out HZC.out H1C.out ?_; intro w6 HW6; have HR14 := hidk HW6.out.row; have h14 : w.heap.size ≤ g14 := Nat.le_trans HB4.out.size (by rw [HM5.out.new]; exact Nat.le_refl _); have hlt14 : g10 < g14 := (by rw [HM5.out.new]; exact heap_lt HG4.out); have HB6 : Hid (Below w.heap.size w w6) := HW6.out.below _ _ (HB4.out.trans (HM5.out.below.mono HB4.out.size)) h14; have HG6 : Hid (w6.heap[g10]? = some (.cells R 28 (0, 0))) := (HW6.out.other g10 (by omega)).trans ((HM5.out.below.block _ (heap_lt HG4.out)).trans HG4.out); try simp only [Act.put, List.setIfInBounds_toArray, List.set_cons_zero, List.set_cons_succ])
        | (show wpList _ _ _ ({ dst := some 31, op := _, type := _, pos := _, after := _, guard := _ } :: _) _ _; refine wpList_load_row rfl 28 (.tmp 14) rfl g14 rfl 28 C (0, 0) _ HR14.out Tryd.underlying28 rfl HSC.out ?_; try simp only [Act.put, List.setIfInBounds_toArray, List.set_cons_zero, List.set_cons_succ])
        | fail)
      refine (RT.out _).mono ?_
      rintro x w7 ⟨rfl, hb7⟩
      have HB7 := hidk (HB6.out.trans (hb7.mono HB6.out.size))
      have HG7 := hidk ((hb7.block _ (heap_lt HG6.out)).trans HG6.out)
      have HR7 := hidk ((hb7.block _ (heap_lt HR14.out)).trans HR14.out)
      clear hb7
      go_wp2_with (first
        | (show wpList _ _ _ ({ dst := some 34, op := _, type := _, pos := _, after := _, guard := _ } :: _) _ _; refine wpList_build_none rfl 28 rfl R HBZ.out ?_; try simp only [Act.put, List.setIfInBounds_toArray, List.set_cons_zero, List.set_cons_succ])
        | (refine wpList_set_var rfl 28 (.tmp 10) (.tmp 34) rfl g10 R rfl rfl 28 R HG7.out HSR.out rfl H1R.out ?_; intro w8 HW8; try simp only [Act.put, List.setIfInBounds_toArray, List.set_cons_zero, List.set_cons_succ])
        | fail)
      refine bodyPost_ret (v := .tuple #[.agg R, .int .i64 100]) ?_ rfl ⟨rfl, HW8.out.below w.heap.size w HB7.out h10⟩
      exact results_row_tmp (p := 10) (q := 11) (ty := 28) rfl _ _ g10 28 R (0, 0) _ rfl HW8.out.row Tryd.underlying28 rfl HSR.out
    · rw [if_pos rfl] at RT
      obtain ⟨e1, e2⟩ := hdE_ok HSZ.out Hb.out
      rw [e1]
      have hRC : R = C := by rw [HR.out, HCc.out, e2]
      clear h hK ck hd hn hr he ht HD HSZ Hb HCc HR HZ e1 e2 hrt hdX hdR h32
      subst hRC
      go_enter Tryd.func21, Tryd.ntmps21
      go_wp2_with (first
        | (show wpList _ _ _ ({ dst := some 10, op := _, type := _, pos := _, after := _, guard := _ } :: _) _ _; refine wpList_new_var rfl 28 rfl Z HA.out ?_; intro g10 w1 HM; have HG := hidk HM.out.row; have HB1 := hidk HM.out.below; have h10 : w.heap.size ≤ g10 := (by rw [HM.out.new]; exact Nat.le_refl _); try simp only [Act.put, List.setIfInBounds_toArray, List.set_cons_zero, List.set_cons_succ])
        | fail)
      refine (HC.out _ HB1.out).mono ?_
      rintro e w2 ⟨rfl, hb2⟩
      have HB2 := hidk (HB1.out.trans (hb2.mono HB1.out.size))
      have HG2 := hidk ((hb2.block _ (heap_lt HG.out)).trans HG.out)
      clear hb2 HM HG HB1
      go_wp2_with (first
        | (show wpList _ _ _ ({ dst := some 12, op := _, type := _, pos := _, after := _, guard := _ } :: _) _ _; refine wpList_new_var rfl 26 rfl ZD HAD.out ?_; intro g12 w3 HM3; have HG12 := hidk HM3.out.row; try simp only [Act.put, List.setIfInBounds_toArray, List.set_cons_zero, List.set_cons_succ])
        | (refine wpList_set_var rfl 26 (.tmp 12) (.tmp 19) rfl g12 D rfl rfl 26 ZD HG12.out HSD.out HZDD.out H1D.out ?_; intro w4 HW4; have HR12 := hidk HW4.out.row; have hlt12 : g10 < g12 := (by rw [HM3.out.new]; exact heap_lt HG2.out); have h12 : w.heap.size ≤ g12 := Nat.le_trans HB2.out.size (by rw [HM3.out.new]; exact Nat.le_refl _); have HB4 : Hid (Below w.heap.size w w4) := HW4.out.below _ _ (HB2.out.trans (HM3.out.below.mono HB2.out.size)) h12; have HG4 : Hid (w4.heap[g10]? = some (.cells Z 28 (0, 0))) := (HW4.out.other g10 (by omega)).trans ((HM3.out.below.block _ (heap_lt HG2.out)).trans HG2.out); try simp only [Act.put, List.setIfInBounds_toArray, List.set_cons_zero, List.set_cons_succ])
        | (show wpList _ _ _ ({ dst := some 28, op := _, type := _, pos := _, after := _, guard := _ } :: _) _ _; refine wpList_load_row rfl 26 (.tmp 12) rfl g12 rfl 26 D (0, 0) _ HR12.out Tryd.underlying26 rfl HSD.out ?_; try simp only [Act.put, List.setIfInBounds_toArray, List.set_cons_zero, List.set_cons_succ])
        | (show wpList _ _ _ ({ dst := some 30, op := _, type := _, pos := _, after := _, guard := _ } :: _) _ _; refine wpList_build_some rfl 28 _ rfl [(0, .int .i64 r), (1, .int .i64 e), (2, .int .i64 n), (3, .agg D), (4, .int .i64 t)] rfl R HBC.out ?_; try simp only [Act.put, List.setIfInBounds_toArray, List.set_cons_zero, List.set_cons_succ])
        | (show wpList _ _ _ ({ dst := some 14, op := _, type := _, pos := _, after := _, guard := _ } :: _) _ _; refine wpList_new_var rfl 28 rfl Z HA.out ?_; intro g14 w5 HM5; have HG14 := hidk HM5.out.row; try simp only [Act.put, List.setIfInBounds_toArray, List.set_cons_zero, List.set_cons_succ])
        | (refine wpList_set_var rfl 28 (.tmp 14) (.tmp 30) rfl g14 R rfl rfl 28 Z HG14.out HSC.out HZC.out H1C.out ?_; intro w6 HW6; have HR14 := hidk HW6.out.row; have h14 : w.heap.size ≤ g14 := Nat.le_trans HB4.out.size (by rw [HM5.out.new]; exact Nat.le_refl _); have hlt14 : g10 < g14 := (by rw [HM5.out.new]; exact heap_lt HG4.out); have HB6 : Hid (Below w.heap.size w w6) := HW6.out.below _ _ (HB4.out.trans (HM5.out.below.mono HB4.out.size)) h14; have HG6 : Hid (w6.heap[g10]? = some (.cells Z 28 (0, 0))) := (HW6.out.other g10 (by omega)).trans ((HM5.out.below.block _ (heap_lt HG4.out)).trans HG4.out); try simp only [Act.put, List.setIfInBounds_toArray, List.set_cons_zero, List.set_cons_succ])
        | (show wpList _ _ _ ({ dst := some 31, op := _, type := _, pos := _, after := _, guard := _ } :: _) _ _; refine wpList_load_row rfl 28 (.tmp 14) rfl g14 rfl 28 R (0, 0) _ HR14.out Tryd.underlying28 rfl HSC.out ?_; try simp only [Act.put, List.setIfInBounds_toArray, List.set_cons_zero, List.set_cons_succ])
        | fail)
      refine (RT.out _).mono ?_
      rintro x w7 ⟨rfl, hb7⟩
      have HB7 := hidk (HB6.out.trans (hb7.mono HB6.out.size))
      have HG7 := hidk ((hb7.block _ (heap_lt HG6.out)).trans HG6.out)
      have HR7 := hidk ((hb7.block _ (heap_lt HR14.out)).trans HR14.out)
      clear hb7
      go_wp2_with (first
        | (show wpList _ _ _ ({ dst := some 35, op := _, type := _, pos := _, after := _, guard := _ } :: _) _ _; refine wpList_load_row rfl 28 (.tmp 14) rfl g14 rfl 28 R (0, 0) _ HR7.out Tryd.underlying28 rfl HSR.out ?_; try simp only [Act.put, List.setIfInBounds_toArray, List.set_cons_zero, List.set_cons_succ])
        | (refine wpList_set_var rfl 28 (.tmp 10) (.tmp 35) rfl g10 R rfl rfl 28 Z HG7.out HSR.out HZR.out H1R.out ?_; intro w8 HW8; try simp only [Act.put, List.setIfInBounds_toArray, List.set_cons_zero, List.set_cons_succ])
        | fail)
      refine bodyPost_ret (v := .tuple #[.agg R, .int .i64 0]) ?_ rfl ⟨rfl, HW8.out.below w.heap.size w HB7.out h10⟩
      exact results_row_tmp (p := 10) (q := 11) (ty := 28) rfl _ _ g10 28 R (0, 0) _ rfl HW8.out.row Tryd.underlying28 rfl HSR.out
  · obtain ⟨e1, e2⟩ := hdE_no (r := r) (e := e) (t := t) (by rw [HSZ.out]; exact hs)
    rw [e1, HSZ.out]
    have hne : (!(s == 0)) = true := by simp [hs]
    have hRZ : R = Z := by rw [HR.out, HZ.out, e2]
    clear h hK ck hd hn hr he ht HD HSZ HR HZ e1 e2 hdR h32
    subst hRZ
    go_enter Tryd.func21, Tryd.ntmps21
    go_wp2_with (first
      | (show wpList _ _ _ ({ dst := some 10, op := _, type := _, pos := _, after := _, guard := _ } :: _) _ _; refine wpList_new_var rfl 28 rfl R HA.out ?_; intro g10 w1 HM; have HG := hidk HM.out.row; have HB1 := hidk HM.out.below; have h10 : w.heap.size ≤ g10 := (by rw [HM.out.new]; exact Nat.le_refl _); try simp only [Act.put, List.setIfInBounds_toArray, List.set_cons_zero, List.set_cons_succ])
      | fail)
    refine (HC.out _ HB1.out).mono ?_
    rintro e w2 ⟨rfl, hb2⟩
    have HB2 := hidk (HB1.out.trans (hb2.mono HB1.out.size))
    have HG2 := hidk ((hb2.block _ (heap_lt HG.out)).trans HG.out)
    clear hb2 HM HG HB1
    go_wp2_with (first
      | (show wpList _ _ _ ({ dst := some 12, op := _, type := _, pos := _, after := _, guard := _ } :: _) _ _; refine wpList_new_var rfl 26 rfl ZD HAD.out ?_; intro g12 w3 HM3; have HG12 := hidk HM3.out.row; try simp only [Act.put, List.setIfInBounds_toArray, List.set_cons_zero, List.set_cons_succ])
      | (refine wpList_set_var rfl 26 (.tmp 12) (.tmp 19) rfl g12 D rfl rfl 26 ZD HG12.out HSD.out HZDD.out H1D.out ?_; intro w4 HW4; have HR12 := hidk HW4.out.row; have hlt12 : g10 < g12 := (by rw [HM3.out.new]; exact heap_lt HG2.out); have h12 : w.heap.size ≤ g12 := Nat.le_trans HB2.out.size (by rw [HM3.out.new]; exact Nat.le_refl _); have HB4 : Hid (Below w.heap.size w w4) := HW4.out.below _ _ (HB2.out.trans (HM3.out.below.mono HB2.out.size)) h12; have HG4 : Hid (w4.heap[g10]? = some (.cells R 28 (0, 0))) := (HW4.out.other g10 (by omega)).trans ((HM3.out.below.block _ (heap_lt HG2.out)).trans HG2.out); try simp only [Act.put, List.setIfInBounds_toArray, List.set_cons_zero, List.set_cons_succ])
      | (show wpList _ _ _ ({ dst := some 23, op := _, type := _, pos := _, after := _, guard := _ } :: _) _ _; refine wpList_build_none rfl 28 rfl R HBZ.out ?_; try simp only [Act.put, List.setIfInBounds_toArray, List.set_cons_zero, List.set_cons_succ])
      | (refine wpList_set_var rfl 28 (.tmp 10) (.tmp 23) rfl g10 R rfl rfl 28 R HG4.out HSR.out rfl H1R.out ?_; intro w8 HW8; try simp only [Act.put, List.setIfInBounds_toArray, List.set_cons_zero, List.set_cons_succ])
      | fail)
    refine bodyPost_ret (v := .tuple #[.agg R, .int .i64 s]) ?_ rfl ⟨rfl, HW8.out.below w.heap.size w HB4.out h10⟩
    exact results_row_tmp (p := 10) (q := 11) (ty := 28) rfl _ _ g10 28 R (0, 0) _ rfl HW8.out.row Tryd.underlying28 rfl HSR.out
theorem lreads_nil (w : World) : LReads w none 0 0 [] := ⟨rfl, (fun d hd => by cases hd), Nat.le_refl _, Nat.zero_le _, .inl rfl⟩
theorem goes_call11 (a : Option Addr) (len cap : Nat) (l : List (List UInt8)) (m : Nat) (w : World) (hR : LReads w a len cap l) (hm : m ≤ len) (hl : len ≤ 100000) (hK : Table 0 w) :
    Calls Tryd.prog 42 #[.slice a len cap, .int .i64 m] w fun e w' => ∃ x cx, e = .returned (.tuple #[.slice x (goesAt l m).length cx, .int .i64 0]) ∧ LReads w' x (goesAt l m).length cx (goesAt l m) ∧ Below w.heap.size w w' := by
  by_cases h0 : m = 0
  · subst h0
    refine (consistency_none a len cap w).mono ?_
    rintro e w' ⟨rfl, hb⟩
    exact ⟨none, 0, rfl, lreads_nil _, hb⟩
  · have hg : goesAt l m = goes l m true := by unfold goesAt; rw [if_neg h0]
    rw [hg]
    refine (consistency_in a len cap l m w hR (by omega) hm hl hK).mono ?_
    rintro e w' ⟨v, rfl, ho, hb⟩
    obtain ⟨x, cx, rfl, hx, _⟩ := LReads.own ho (goes_digs sumD_length _ l m true rfl hR.2.1)
    exact ⟨x, cx, rfl, hx, hb⟩
set_option maxHeartbeats 8000000 in
theorem hCons (ck : EntryC) (a : Option Addr) (len cap : Nat) (l : List ItT) (i n : Int) (w : World) (h : InL w a len cap l) (hT : TabH w) :
    Calls Tryd.prog 23 #[.slice a len cap, .int .i64 i, .int .i64 n] w fun e w' => ∃ x cx, e = .returned (.tuple #[.slice x (conL11 l i n).length cx, .int .i64 (conE11 l i n)]) ∧ LReads w' x (conL11 l i n).length cx (conL11 l i n) ∧ Below w.heap.size w w' := by
  by_cases hs : sizeX l n = 0
  · have HC := hidk (hFirst_ok ck a len cap l n w h hs hT)
    have hvl := sizeX_vals l n hs
    have hln := h.rd.ln
    have hle := h.le
    by_cases hi : 0 ≤ i ∧ i ≤ n
    · obtain ⟨e1, e2⟩ := conE11_ok hs hi
      obtain ⟨k, hk⟩ : ∃ k : Nat, i = k := ⟨i.toNat, by omega⟩
      subst hk
      rw [Int.toNat_natCast] at e2
      rw [e1, e2]
      have HT : Hid (∀ W x cx, Below w.heap.size w W → LReads W x n.toNat cx (leavesL (l.take n.toNat)) → Calls Tryd.prog 42 #[.slice x n.toNat cx, .int .i64 (k : Int)] W fun e w' => ∃ x cx, e = .returned (.tuple #[.slice x (goesAt (leavesL (l.take n.toNat)) k).length cx, .int .i64 0]) ∧ LReads w' x (goesAt (leavesL (l.take n.toNat)) k).length cx (goesAt (leavesL (l.take n.toNat)) k) ∧ Below W.heap.size W w') := fun W x cx hb hx => goes_call11 x n.toNat cx _ k W hx (by omega) (by omega) (hT.keep hb)
      clear h hT hs hi e1 e2 hvl ck
      go_enter Tryd.func23, Tryd.ntmps23
      go_wp2_with fail
      refine HC.out.mono ?_
      rintro e w1 ⟨⟨x, cx, rfl, hx⟩, hb1⟩
      have HR := hidk (HT.out w1 x cx hb1 hx)
      have HB1 := hidk hb1
      clear hx hb1
      go_wp2_with fail
      refine HR.out.mono ?_
      rintro e w2 ⟨y, cy, rfl, hy, hb2⟩
      have HY := hidk hy
      have HB2 := hidk (HB1.out.trans (hb2.mono HB1.out.size))
      clear hy hb2
      go_wp2
      go_ret2
      exact ⟨y, cy, rfl, HY.out, HB2.out⟩
    · obtain ⟨e1, e2⟩ := conE11_bad hs hi
      rw [e1, e2]
      have HT : Hid (∀ W x cx, Calls Tryd.prog 42 #[.slice x n.toNat cx, .int .i64 i] W fun e w' => e = .returned (.tuple #[.slice none 0 0, .int .i64 21]) ∧ Below W.heap.size W w') := fun W x cx => consistency_out x n.toNat cx i W (by unfold maxLen; omega) (by omega)
      clear h hT hs hi e1 e2 hvl ck
      go_enter Tryd.func23, Tryd.ntmps23
      go_wp2_with fail
      refine HC.out.mono ?_
      rintro e w1 ⟨⟨x, cx, rfl, hx⟩, hb1⟩
      have HB1 := hidk hb1
      clear hx hb1
      go_wp2_with fail
      refine (HT.out _ _ _).mono ?_
      rintro e w2 ⟨rfl, hb2⟩
      have HB2 := hidk (HB1.out.trans (hb2.mono HB1.out.size))
      clear hb2
      go_wp2
      go_ret2
      exact ⟨none, 0, rfl, lreads_nil _, HB2.out⟩
  · obtain ⟨e1, e2⟩ := conE11_no (i := i) hs
    rw [e1, e2]
    have HC := hidk (hFirst_no ck a len cap l n w h hs)
    obtain ⟨s, HSZ⟩ : ∃ s, Hid (sizeX l n = s) := ⟨_, hidk rfl⟩
    rw [HSZ.out] at HC hs ⊢
    have hne : (!(s == 0)) = true := by simp [hs]
    clear h hT e1 e2 HSZ ck
    go_enter Tryd.func23, Tryd.ntmps23
    go_wp2_with fail
    refine HC.out.mono ?_
    rintro e w1 ⟨rfl, hb1⟩
    have HB1 := hidk hb1
    clear hb1
    go_wp2
    go_ret2
    exact ⟨none, 0, rfl, lreads_nil _, HB1.out⟩
end Go.Proofs.YtjalebncfnekiaaDoor

/- The program's Find and isOld. -/
namespace Go.Proofs.YtjalebncfnekiaaDoor
open Go.RowKit Go.Shelf Nums Sums
set_option linter.unusedVariables false
set_option linter.unusedSimpArgs false
set_option maxRecDepth 100000

attribute [local go_sem] Oper.semAt_some
/-- The blocks of Find's own variables: the Seq, the two results. -/
structure FndB (w : World) (s i : Int) (b : Bool) (W : World) : Prop where
  s : W.heap[w.heap.size]? = some (.cells #[.int .i64 s] 3 (0, 0))
  i : W.heap[w.heap.size + 1]? = some (.cells #[.int .i64 i] 3 (0, 0))
  b : W.heap[w.heap.size + 1 + 1]? = some (.cells #[.bool b] 4 (0, 0))
  bl : Below w.heap.size w W
  z : w.heap.size + 5 ≤ W.heap.size
theorem FndB.own {w : World} {s i : Int} {b : Bool} {X Y : World} {row : Option Nat} {B : Nat} (h : FndB w s i b X) (hB : w.heap.size ≤ B) (hg : X.grownBy Y row) (hr : ∀ r, row = some r → B ≤ r ∧ ∃ o : Obj, X.heap[r]? = some o ∧ o.isCells = false) : FndB w s i b Y :=
  ⟨cells_stay h.s hg (fun r e => (hr r e).2), cells_stay h.i hg (fun r e => (hr r e).2), cells_stay h.b hg (fun r e => (hr r e).2), h.bl.grown hg (Nat.le_trans h.bl.size (Nat.le_refl _)) (fun k e => by have := (hr k e).1; omega), Nat.le_trans h.z hg.size⟩
theorem FndB.keep {w : World} {s i : Int} {b : Bool} {X Y : World} (h : FndB w s i b X) (hb : Below X.heap.size X Y) : FndB w s i b Y :=
  ⟨(hb.block _ (heap_lt h.s)).trans h.s, (hb.block _ (heap_lt h.i)).trans h.i, (hb.block _ (heap_lt h.b)).trans h.b, h.bl.trans (hb.mono h.bl.size), Nat.le_trans h.z hb.size⟩
/-- The blocks of isOld's own variables: the entry, the result. -/
structure OldB (w : World) (V : Array Value) (b : Bool) (W : World) : Prop where
  e : W.heap[w.heap.size]? = some (.cells V 46 (0, 0))
  b : W.heap[w.heap.size + 1]? = some (.cells #[.bool b] 4 (0, 0))
  bl : Below w.heap.size w W
  z : w.heap.size + 4 ≤ W.heap.size
theorem OldB.own {w : World} {V : Array Value} {b : Bool} {X Y : World} {row : Option Nat} {B : Nat} (h : OldB w V b X) (hB : w.heap.size ≤ B) (hg : X.grownBy Y row) (hr : ∀ r, row = some r → B ≤ r ∧ ∃ o : Obj, X.heap[r]? = some o ∧ o.isCells = false) : OldB w V b Y :=
  ⟨cells_stay h.e hg (fun r e => (hr r e).2), cells_stay h.b hg (fun r e => (hr r e).2), h.bl.grown hg (Nat.le_trans h.bl.size (Nat.le_refl _)) (fun k e => by have := (hr k e).1; omega), Nat.le_trans h.z hg.size⟩
theorem OldB.keep {w : World} {V : Array Value} {b : Bool} {X Y : World} (h : OldB w V b X) (hb : Below X.heap.size X Y) : OldB w V b Y :=
  ⟨(hb.block _ (heap_lt h.e)).trans h.e, (hb.block _ (heap_lt h.b)).trans h.b, h.bl.trans (hb.mono h.bl.size), Nat.le_trans h.z hb.size⟩
theorem olds_no {l : List ItT} (hok : ∀ x ∈ l, OkE x.e) {c s : Int} (h : ∀ y ∈ entsF l hok c 0, y.e.s < s) : oldL l c s = false := by
  rw [old_any hok, List.any_eq_false]
  intro y hy
  have := h y hy
  simp; omega
theorem olds_at {l : List ItT} (hok : ∀ x ∈ l, OkE x.e) {c s : Int} {pre : List Ur} {x : Ur} (hp : pre ++ [x] <+: entsF l hok c 0) (h : s ≤ x.e.s) : oldL l c s = true := by
  rw [old_any hok, List.any_eq_true]
  obtain ⟨t, ht⟩ := hp
  exact ⟨x, by rw [← ht]; simp, by simpa using h⟩
set_option maxHeartbeats 8000000 in
theorem old_in (n : Nat) (hn : 3 ≤ n) (a : Option Addr) (len cap : Nat) (l : List ItT) (v : EnT) (V : Array Value) (HV : Hid (V = (ecells v).toArray)) (w : World) (h : InL w a len cap l) :
    CallsIn Fence.wide n Tryd.prog 33 #[.slice a len cap, .agg V] w fun e w' => e = .returned (.bool (oldL l v.c v.s)) ∧ Below w.heap.size w w' := by
  have h1 : 1 ≤ n := by omega
  obtain ⟨Z, HZ, HAZ, HBZ, HNZ⟩ := noughtsE
  have hA : ∀ g o, a = some ⟨g, o, none⟩ → 0 < len → g < w.heap.size := fun g o e h0 => by
    obtain ⟨g', o', e', hl⟩ := h.rd.at h0
    rw [e] at e'; cases e'; exact hl
  have HVC : Hid (∀ (W : World), W.heap[w.heap.size]? = some (.cells V 46 (0, 0)) → W.cell? ⟨w.heap.size, 1, none⟩ = some (.int .i64 v.c) ∧ W.cell? ⟨w.heap.size, 2, none⟩ = some (.int .i64 v.s)) := fun W hh => by
    rw [cell_of_row W _ 1 _ _ (0, 0) hh, cell_of_row W _ 2 _ _ (0, 0) hh, HV.out]
    exact ⟨rfl, rfl⟩
  obtain ⟨c, Hc⟩ : ∃ z, Hid (v.c = z) := ⟨_, hidk rfl⟩
  obtain ⟨s, Hs⟩ : ∃ z, Hid (v.s = z) := ⟨_, hidk rfl⟩
  rw [Hc.out, Hs.out] at HVC ⊢
  have g0 : ((w.alloc (.cells V 46)).alloc (.cells #[.bool false] 4)).heap[w.heap.size]? = some (.cells V 46 (0, 0)) := heap_keep (heap_alloc_new w _)
  obtain ⟨c10, c20⟩ := HVC.out _ g0
  clear HV Hc Hs HZ HBZ
  refine callsIn_of_wp_marks Tryd.func33 rfl trivial ?_ rfl
  simp only [Tryd.ntmps33, List.size_toArray, List.length_cons, List.length_nil, Nat.reduceAdd, Nat.reduceSub, Array.replicate_succ, Array.replicate_zero, List.push_toArray, List.append_toArray, List.nil_append, List.cons_append]
  gi_wp2_with (refine ⟨trivial, ?_⟩; gi_at_call 50; refine (ents_in (n - 1) _ _ _ _ _).mono ?_; rintro e w' ⟨rfl, rfl⟩)
  have hB0 : Below w.heap.size w ((((w.alloc (.cells V 46)).alloc (.cells #[.bool false] 4)).alloc (.cells #[.slice a len cap] 22)).alloc (.cells #[.int .i64 c] 3)) :=
    ((((Below.refl _ w).alloc (Nat.le_refl _) _).alloc (by simp) _).alloc (by simp; omega) _).alloc (by simp; omega) _
  have hsz : ((((w.alloc (.cells V 46)).alloc (.cells #[.bool false] 4)).alloc (.cells #[.slice a len cap] 22)).alloc (.cells #[.int .i64 c] 3)).heap.size = w.heap.size + 4 := by simp
  have b0 := heap_keep (o' := .cells #[.int .i64 c] 3) (heap_keep (o' := .cells #[.slice a len cap] 22) g0)
  have b2 := ((Boxed.new (w.alloc (.cells V 46)) 4 (.bool false)).alloc (.cells #[.slice a len cap] 22)).alloc (.cells #[.int .i64 c] 3)
  have b3 := (Boxed.new ((w.alloc (.cells V 46)).alloc (.cells #[.bool false] 4)) 22 (.slice a len cap)).alloc (.cells #[.int .i64 c] 3)
  have b4 := Boxed.new (((w.alloc (.cells V 46)).alloc (.cells #[.bool false] 4)).alloc (.cells #[.slice a len cap] 22)) 3 (.int .i64 c)
  simp only [World.size_alloc] at b2 b3 b4
  obtain ⟨W0, hW0⟩ : ∃ W0, ((((w.alloc (.cells V 46)).alloc (.cells #[.bool false] 4)).alloc (.cells #[.slice a len cap] 22)).alloc (.cells #[.int .i64 c] 3)) = W0 := ⟨_, rfl⟩
  rw [hW0] at b0 b2 b3 b4 hB0 hsz ⊢
  clear hW0 g0 c10 c20
  have hge : w.heap.size + 4 ≤ W0.heap.size := Nat.le_of_eq hsz.symm
  clear hsz
  have F0 : OldB w V false W0 := ⟨b0, b2, hB0, hge⟩
  have hRd := h.rd.keep hB0
  refine wpIn_rangeFunc_ownH rfl h1 (gf := 69) (lb := #[.pointer (some ⟨w.heap.size + 1 + 1, 0, none⟩), .pointer (some ⟨w.heap.size + 1 + 1 + 1, 0, none⟩)]) rfl trivial (enters_of Tryd.func69 (by kernel_rfl) rfl)
    (ents_stops (n - 1) (by omega) (w.heap.size + 1 + 1) (w.heap.size + 1 + 1 + 1) w.heap.size a len cap l c W0 (by have := h.le; omega) (by omega) (by omega) (by omega) b3.cell b4.cell hRd hA) kpE_t (kpE_b (by omega) (by omega) (by omega)) (Below.refl _ _) (fun _ => rfl)
    (fun pre W => OldB w V false W ∧ ∀ x ∈ pre, x.e.s < s)
    (fun cd pre W => cd = .ret ∧ ∃ pre' x, pre = pre' ++ [x] ∧ s ≤ x.e.s ∧ OldB w V true W)
    (fun pre X Y row hs hg hr => ⟨hs.1.own (by omega) hg hr, hs.2⟩)
    (fun cd pre X Y row hs hg hr => by
      obtain ⟨hc, pre', x, e1, e2, e4⟩ := hs
      exact ⟨hc, pre', x, e1, e2, e4.own (by omega) hg hr⟩)
    ⟨F0, fun x hx => by cases hx⟩
    (fun x a' W => ∃ Bx, W.heap[Bx]? = some (.cells (ecells x.e).toArray 46 (0, 0)) ∧ a' = { tmps := #[.slice a len cap, .agg V, undef, .pointer (some ⟨w.heap.size, 0, none⟩), .pointer (some ⟨w.heap.size + 1, 0, none⟩), undef, .pointer (some ⟨Bx, 0, none⟩), .slice a len cap, .pointer (some ⟨w.heap.size, 1, none⟩), .int .i64 c, .func (.func 69) #[] #[.pointer (some ⟨w.heap.size + 1 + 1, 0, none⟩), .pointer (some ⟨w.heap.size + 1 + 1 + 1, 0, none⟩)], .int .i64 (x.i : Int), .agg (ecells x.e).toArray, undef, undef, undef, undef, undef], defers := [] })
    (fun x a' _ X Y row hs hg hr => by obtain ⟨Bx, k2, k3⟩ := hs; exact ⟨Bx, cells_stay k2 hg (fun r e => (hr r e).2), k3⟩)
    ?assign ?body ?done ?stop
  case assign =>
    rintro lp pre x W K ⟨hF, hz⟩ hK
    obtain ⟨U, HU, HSU, H1U, HNU⟩ := entry_row x.e x.ok
    have HZU : Hid (Z.size = U.size) := by show _ = _; rw [HNZ.out, HNU.out]
    dsimp only [encU]
    rw [← HU.out] at hK ⊢
    have hls := hF.bl.size
    have l3 := hF.z
    have HFF := hidk hF
    have HKK := hidk hK
    clear hF hK HU HNU
    simp only [List.zip_toArray, List.foldl_toArray, List.zip_cons_cons, List.zip_nil_right, List.foldl_cons, List.foldl_nil, List.setIfInBounds_toArray, List.set_cons_succ, List.set_cons_zero]
    gi_wp2_with (first
      | (show wpListIn _ _ _ _ _ ({ dst := some 6, op := _, type := _, pos := _, after := _, guard := _ } :: _) _ _; refine wpListIn_new_var rfl 46 rfl Z HAZ.out ?_; intro g9 w1 HM; have HG := hidk HM.out.row; try simp only [Act.put, List.setIfInBounds_toArray, List.set_cons_zero, List.set_cons_succ])
      | (refine wpListIn_set_var rfl 46 (.tmp 6) (.tmp 12) rfl g9 U rfl rfl 46 Z HG.out HSU.out HZU.out H1U.out ?_; intro w2 HW; have HB2 : Hid (Below W.heap.size W w2) := HW.out.below W.heap.size W HM.out.below (by rw [HM.out.new]; exact Nat.le_refl _); have HG2 := hidk HW.out.row; try simp only [Act.put, List.setIfInBounds_toArray, List.set_cons_zero, List.set_cons_succ])
      | fail)
    exact HKK.out _ _ (KeepsFrom.of_grownBy (grown_of_below11 HB2.out) (fun j e => by cases e)) (kpE_below (by omega) (by omega) (by omega) HB2.out) ⟨HFF.out.keep HB2.out, hz⟩ ⟨g9, HG2.out, rfl⟩
  case body =>
    rintro lp pre x a' W hl0 ⟨r, hlr⟩ ⟨hF, hz⟩ ⟨Bx, hBx, rfl⟩ hlt
    have HFF := hidk hF
    have cX : W.cell? ⟨Bx, 2, none⟩ = some (.int .i64 x.e.s) := by rw [cell_of_row W Bx 2 _ _ (0, 0) hBx]; rfl
    have cS := (HVC.out W hF.e).2
    have c2 : W.cell? ⟨w.heap.size + 1, 0, none⟩ = some (.bool false) := by rw [cell_of_row W _ 0 _ _ (0, 0) hF.b]; rfl
    have f2 := frozen_of_row W (w.heap.size + 1) 0 _ _ hF.b
    obtain ⟨U, HU⟩ : ∃ U, Hid ((ecells x.e).toArray = U) := ⟨_, hidk rfl⟩
    rw [HU.out]
    obtain ⟨ss, Hss⟩ : ∃ z, Hid (x.e.s = z) := ⟨_, hidk rfl⟩
    rw [Hss.out] at cX
    by_cases hs : s ≤ ss
    · have FIN : Hid (OldB w V true (W.setCell ⟨w.heap.size + 1, 0, none⟩ (.bool true)) ∧ KeepsFrom W0.heap.size W (W.setCell ⟨w.heap.size + 1, 0, none⟩ (.bool true))) := by
        refine ⟨⟨?_, ?_, HFF.out.bl.setCell (p := ⟨w.heap.size + 1, 0, none⟩) (by show w.heap.size ≤ w.heap.size + 1; omega) _, by simpa using HFF.out.z⟩, (KeepsOthers.setCell _ _ _).from _⟩
        · exact set_other HFF.out.e (by omega) _
        · exact Boxed.set _ (show Boxed W (w.heap.size + 1) 4 (.bool false) from HFF.out.b)
      have HS : Hid (s ≤ x.e.s) := by show _ ≤ _; rw [Hss.out]; exact hs
      have ds : decide (s ≤ ss) = true := decide_eq_true hs
      clear hF hBx HFF Hss HU hs
      gi_wp2
      exact ⟨FIN.out.2, rfl, pre, x, rfl, HS.out, FIN.out.1⟩
    · have ds : decide (s ≤ ss) = false := decide_eq_false hs
      have HS : Hid (x.e.s < s) := by show _ < _; rw [Hss.out]; omega
      have hls := hF.z
      clear hF hBx Hss HU hs
      gi_wp2
      refine ⟨KeepsFrom.refl _ _, ⟨Below.refl _ _, rfl, rfl⟩, HFF.out, fun y hy => ?_⟩
      rcases List.mem_append.1 hy with h | h
      · exact hz y h
      · rw [List.mem_singleton] at h; rw [h]; exact HS.out
  case done =>
    rintro D ys W hD rfl ⟨hF, hz⟩ hK
    have c2 : W.cell? ⟨w.heap.size + 1, 0, none⟩ = some (.bool false) := by rw [cell_of_row W _ 0 _ _ (0, 0) hF.b]; rfl
    have f2 := frozen_of_row W (w.heap.size + 1) 0 _ _ hF.b
    have HFN := hidk (olds_no h.rd.ok hz)
    have FIN : Hid (OldB w V false (W.setCell ⟨w.heap.size + 1, 0, none⟩ (.bool false))) := by
      refine ⟨?_, ?_, hF.bl.setCell (p := ⟨w.heap.size + 1, 0, none⟩) (by show w.heap.size ≤ w.heap.size + 1; omega) _, by simpa using hF.z⟩
      · exact set_other hF.e (by omega) _
      · exact Boxed.set _ (show Boxed W (w.heap.size + 1) 4 (.bool false) from hF.b)
    have hK' := hidk ((KeepsOthers.setCell W ⟨w.heap.size + 1, 0, none⟩ (.bool false)).same D _ hK rfl)
    clear hF hz hK
    gi_wp2
    refine ⟨by simp, .inl ⟨_, _, rfl, run_takeDeferred hK'.out, ?_⟩⟩
    have FE := FIN.out.own (B := W0.heap.size) (by omega) (grownBy_putObj' _ D (.deferred none)) (fun r e => by cases e; exact ⟨hD, _, hK'.out, rfl⟩)
    have q2 := cell_of_row _ _ 0 _ _ (0, 0) FE.b
    refine ⟨.bool false, ?_, by rw [HFN.out], FE.bl⟩
    simp [results, Tryd.f33, go_sem, q2]
  case stop =>
    rintro D cd pre W hD hpre ⟨rfl, pre', x, rfl, hx, hF⟩ hK
    have HFN := hidk (olds_at h.rd.ok hpre hx)
    gi_wp2
    refine ⟨by simp, .inl ⟨_, _, rfl, run_takeDeferred hK, ?_⟩⟩
    have FE := hF.own (B := W0.heap.size) (by omega) (grownBy_putObj' _ D (.deferred none)) (fun r e => by cases e; exact ⟨hD, _, hK, rfl⟩)
    have q2 := cell_of_row _ _ 0 _ _ (0, 0) FE.b
    refine ⟨.bool true, ?_, by rw [HFN.out], FE.bl⟩
    simp [results, Tryd.f33, go_sem, q2]
theorem hOld (a : Option Addr) (len cap : Nat) (l : List ItT) (v : EnT) (V : Array Value) (HV : Hid (V = (ecells v).toArray)) (w : World) (h : InL w a len cap l) :
    Calls Tryd.prog 33 #[.slice a len cap, .agg V] w fun e w' => e = .returned (.bool (oldL l v.c v.s)) ∧ Below w.heap.size w w' := callsIn_wide.1 (old_in 3 (Nat.le_refl _) a len cap l v V HV w h)
end Go.Proofs.YtjalebncfnekiaaDoor

/- The program's May of logs. -/
namespace Go.Proofs.YtjalebncfnekiaaDoor
open Go.RowKit Nums Sums
set_option linter.unusedVariables false
set_option linter.unusedSimpArgs false
set_option maxRecDepth 100000
set_option maxHeartbeats 16000000 in
theorem hMay (ck : EntryC) (a : Option Addr) (len cap : Nat) (l : List ItT) (x : ItT) (hx : InI x) (w : World) (hin : InL w a len cap l) (X : Array Value) (HX : Hid (X = (icells x).toArray)) :
    Calls Tryd.prog 18 #[.slice a len cap, .agg X] w fun e w' => e = .returned (.int .i64 (mayE l x)) ∧ Below w.heap.size w w' := by
  have h := hin.rd
  have ok := hx.e.ok
  have hmx : len ≤ 100 := hin.le
  have HSX : Hid ((Tryd.prog.info? 48).map (·.size) = some X.size) := by show _ = _; rw [sizeI, HX.out]; simp [icells_length _ ok]
  have HB : Hid (Below w.heap.size w (w.alloc (.cells X 48))) := (Below.refl _ _).alloc (Nat.le_refl _) _
  have HG := hidk (heap_alloc_new w (.cells X 48))
  have HRL : Hid (∀ W, Below w.heap.size w W → Calls Tryd.prog 20 #[.slice a len cap] W fun e w' => e = .returned (.int .i64 (if rightL l = true then 0 else 100)) ∧ Below W.heap.size W w') := fun W hb => hCheck ck a len cap l W (hin.keep hb)
  have HRI : Hid (∀ W, Calls Tryd.prog 32 #[.agg X] W fun e w' => e = .returned (.bool (rightI x)) ∧ Below W.heap.size W w') := fun W => hIsRight ck x hx W X HX
  obtain ⟨V, HV, HSV, H1V, HNV⟩ := entry_row x.e ok
  have HRV : Hid (∀ W : World, W.heap[w.heap.size]? = some (.cells X 48 (0, 0)) → W.rangeAt w.heap.size 1 V.toList) := fun W hh => by
    have h0 := range_row (l := icells x) (W := W) (g := w.heap.size) (t := 48) (fr := (0, 0)) (by rw [← HX.out]; exact hh)
    rw [HV.out]
    have := range_entry h0
    simpa using this
  have HOL : Hid (∀ W, Below w.heap.size w W → Calls Tryd.prog 33 #[.slice a len cap, .agg V] W fun e w' => e = .returned (.bool (oldL l x.e.c x.e.s)) ∧ Below W.heap.size W w') := fun W hb => hOld a len cap l x.e V HV W (hin.keep hb)
  have HCL : Hid (∀ (W : World) (b : Nat), W.heap[b]? = some (.cells X 48 (0, 0)) → W.cell? ⟨b, 0, none⟩ = some (.int .i64 x.p) ∧ W.cell? ⟨b, 1, none⟩ = some (.int .i64 x.e.k) ∧ W.cell? ⟨b, 2, none⟩ = some (.int .i64 x.e.c) ∧ W.cell? ⟨b, 3, none⟩ = some (.int .i64 x.e.s)) := fun W b hh => by
    have hX := HX.out
    subst hX
    refine ⟨?_, ?_, ?_, ?_⟩ <;> (rw [cell_of_row _ _ _ _ _ (0, 0) hh]; rfl)
  have HLN := hidk h.ln
  have HIR := hidk h
  obtain ⟨b1, H1⟩ : ∃ b, Hid (rightL l = b) := ⟨_, hidk rfl⟩
  obtain ⟨b2, H2⟩ : ∃ b, Hid (rightI x = b) := ⟨_, hidk rfl⟩
  rw [H1.out] at HRL
  rw [H2.out] at HRI
  clear HX ok h hin hx HV H1V HNV ck
  cases b1
  · have HE := hidk (mayE_form (x := x) (.inl H1.out))
    rw [if_neg (by decide)] at HRL
    go_enter Tryd.func18, Tryd.ntmps18
    go_wp2_with fail
    refine (HRL.out _ HB.out).mono ?_
    rintro e w1 ⟨rfl, hb1⟩
    have HB1 := hidk (HB.out.trans (hb1.mono HB.out.size))
    have HG1 := hidk ((hb1.block _ (heap_lt HG.out)).trans HG.out)
    clear hb1
    go_wp2
    go_ret
    exact ⟨by rw [HE.out]; rfl, HB1.out⟩
  · rw [if_pos rfl] at HRL
    cases b2
    · have HE := hidk (mayE_form (l := l) (.inr H2.out))
      go_enter Tryd.func18, Tryd.ntmps18
      go_wp2_with fail
      refine (HRL.out _ HB.out).mono ?_
      rintro e w1 ⟨rfl, hb1⟩
      have HB1 := hidk (HB.out.trans (hb1.mono HB.out.size))
      have HG1 := hidk ((hb1.block _ (heap_lt HG.out)).trans HG.out)
      clear hb1
      go_wp2_with (first
        | (show wpList _ _ _ ({ dst := some 10, op := _, type := _, pos := _, after := _, guard := _ } :: _) _ _; refine wpList_load_row_w (by rfl) 48 (.tmp 3) rfl w.heap.size rfl 48 X (0, 0) _ HG1.out Tryd.underlying48 rfl HSX.out ?_; try simp only [Act.put, List.setIfInBounds_toArray, List.set_cons_zero, List.set_cons_succ])
        | fail)
      refine (HRI.out _).mono ?_
      rintro e w2 ⟨rfl, hb2⟩
      have HB2 := hidk (HB1.out.trans (hb2.mono HB1.out.size))
      have HG2 := hidk ((hb2.block _ (heap_lt HG1.out)).trans HG1.out)
      clear hb2
      go_wp2
      go_ret
      exact ⟨by rw [HE.out]; rfl, HB2.out⟩
    · obtain ⟨px, Hpx⟩ : ∃ p, Hid (x.p = p) := ⟨_, hidk rfl⟩
      obtain ⟨kx, Hkx⟩ : ∃ p, Hid (x.e.k = p) := ⟨_, hidk rfl⟩
      obtain ⟨cx, Hcx⟩ : ∃ p, Hid (x.e.c = p) := ⟨_, hidk rfl⟩
      obtain ⟨sx, Hsx⟩ : ∃ p, Hid (x.e.s = p) := ⟨_, hidk rfl⟩
      rw [Hpx.out, Hkx.out, Hcx.out, Hsx.out] at HCL
      rw [Hcx.out, Hsx.out] at HOL
      have HLF : Hid (lowB l px = true → mayE l x = 102) := fun hh => mayE_low H1.out H2.out (by rw [Hpx.out]; exact hh)
      have HFU : Hid (lowB l px = false → len = 2000 → mayE l x = 2) := fun hh h3 => mayE_full H1.out H2.out (by rw [Hpx.out]; exact hh) (by rw [HLN.out]; exact h3)
      have HLA : Hid (lowB l px = false → len ≠ 2000 → mayE l x = if kx = 1 ∧ oldL l cx sx = true then 101 else 0) := fun hh h3 => by rw [mayE_last H1.out H2.out (by rw [Hpx.out]; exact hh) (by rw [HLN.out]; exact h3), Hkx.out, Hcx.out, Hsx.out]
      have hlen : len ≤ 2000 := by rw [← HLN.out]; exact ((rightL_iff l).1 H1.out).1
      clear Hpx Hkx Hcx Hsx H1 H2
      by_cases h0 : len = 0
      · subst h0
        have hlow : lowB l px = false := lowB_none HLN.out
        have hfull : ¬ (0 : Nat) = 2000 := by decide
        by_cases hk : kx = 1
        · have bk : (kx == 1) = true := by simp [hk]
          obtain ⟨b3, H3⟩ : ∃ b, Hid (oldL l cx sx = b) := ⟨_, hidk rfl⟩
          rw [H3.out] at HOL HLA
          have HE := hidk (HLA.out hlow hfull)
          cases b3
          · have HE2 : Hid (mayE l x = 0) := by show _ = _; rw [HE.out]; simp [hk]
            go_enter Tryd.func18, Tryd.ntmps18
            go_wp2_with fail
            refine (HRL.out _ HB.out).mono ?_
            rintro e w1 ⟨rfl, hb1⟩
            have HB1 := hidk (HB.out.trans (hb1.mono HB.out.size))
            have HG1 := hidk ((hb1.block _ (heap_lt HG.out)).trans HG.out)
            clear hb1
            go_wp2_with (first
              | (show wpList _ _ _ ({ dst := some 10, op := _, type := _, pos := _, after := _, guard := _ } :: _) _ _; refine wpList_load_row_w (by rfl) 48 (.tmp 3) rfl w.heap.size rfl 48 X (0, 0) _ HG1.out Tryd.underlying48 rfl HSX.out ?_; try simp only [Act.put, List.setIfInBounds_toArray, List.set_cons_zero, List.set_cons_succ])
              | fail)
            refine (HRI.out _).mono ?_
            rintro e w2 ⟨rfl, hb2⟩
            have HB2 := hidk (HB1.out.trans (hb2.mono HB1.out.size))
            have HG2 := hidk ((hb2.block _ (heap_lt HG1.out)).trans HG1.out)
            clear hb2
            obtain ⟨c0, c1, c2, c3⟩ := HCL.out _ _ HG2.out
            go_wp2
            refine wp_region_held_drew (S := (fun _ => True)) (by kernel_rfl) trivial (fun hHeld => ?_)
            refine wpAnyH_take (i := 0) (oi := { dst := some 15, op := Op.move (Operand.tmp 0), type := 22, pos := "history.go:43", after := #[], guard := none }) (v := .slice a 0 cap) rfl (by kernel_rfl) (by kernel_rfl) (by kernel_rfl) (fun _ _ _ h => h) (Or.inl ⟨by rfl, by intro w hSw; go_simp⟩) hHeld ?_
            try simp only [Act.put, List.setIfInBounds_toArray, List.set_cons_zero, List.set_cons_succ]
            refine wpAnyH_take (i := 1) (oi := { dst := some 16, op := Op.call { callee := Callee.builtin Builtin.len, args := #[Operand.tmp 15], argTypes := #[22] }, type := 3, pos := "history.go:43", after := #[{ on := 0, ground := Ground.data }], guard := none }) (v := .int .i64 0) rfl (by kernel_rfl) (by kernel_rfl) (by kernel_rfl) (fun _ _ _ h => h) (Or.inl ⟨by rfl, by intro w hSw; go_simp⟩) hHeld ?_
            try simp only [Act.put, List.setIfInBounds_toArray, List.set_cons_zero, List.set_cons_succ]
            refine wpAnyH_take (i := 2) (oi := { dst := some 17, op := Op.binOp BinOp.gtr 3 (Operand.tmp 16) (Operand.const (Value.int IntKind.i64 0)) 3, type := 4, pos := "history.go:43", after := #[{ on := 1, ground := Ground.data }], guard := none }) (v := .bool false) rfl (by kernel_rfl) (by kernel_rfl) (by kernel_rfl) (fun _ _ _ h => h) (Or.inl ⟨by rfl, by intro w hSw; go_simp⟩) hHeld ?_
            try simp only [Act.put, List.setIfInBounds_toArray, List.set_cons_zero, List.set_cons_succ]
            refine wpAnyH_take (i := 3) (oi := { dst := some 18, op := Op.move (Operand.tmp 17), type := 4, pos := "history.go:43", after := #[{ on := 2, ground := Ground.data }], guard := none }) (v := .bool false) rfl (by kernel_rfl) (by kernel_rfl) (by kernel_rfl) (fun _ _ _ h => h) (Or.inl ⟨by rfl, by intro w hSw; go_simp⟩) hHeld ?_
            try simp only [Act.put, List.setIfInBounds_toArray, List.set_cons_zero, List.set_cons_succ]
            refine wpAnyH_take (i := 4) (oi := { dst := some 19, op := Op.fieldAddr 48 (Operand.tmp 3) 0, type := 0, pos := "history.go:43", after := #[{ on := 3, ground := Ground.guard }], guard := some (3, true) }) (v := undef) rfl (by kernel_rfl) (by kernel_rfl) (by kernel_rfl) (fun _ _ _ h => h) (Or.inr ⟨by rfl, rfl⟩) hHeld ?_
            try simp only [Act.put, List.setIfInBounds_toArray, List.set_cons_zero, List.set_cons_succ]
            refine wpAnyH_take (i := 5) (oi := { dst := some 20, op := Op.load 3 (Operand.tmp 19), type := 3, pos := "history.go:43", after := #[{ on := 4, ground := Ground.data }, { on := 3, ground := Ground.guard }], guard := some (3, true) }) (v := undef) rfl (by kernel_rfl) (by kernel_rfl) (by kernel_rfl) (fun _ _ _ h => h) (Or.inr ⟨by rfl, rfl⟩) hHeld ?_
            try simp only [Act.put, List.setIfInBounds_toArray, List.set_cons_zero, List.set_cons_succ]
            refine wpAnyH_take (i := 6) (oi := { dst := some 21, op := Op.move (Operand.tmp 0), type := 22, pos := "history.go:43", after := #[{ on := 3, ground := Ground.guard }], guard := some (3, true) }) (v := undef) rfl (by kernel_rfl) (by kernel_rfl) (by kernel_rfl) (fun _ _ _ h => h) (Or.inr ⟨by rfl, rfl⟩) hHeld ?_
            try simp only [Act.put, List.setIfInBounds_toArray, List.set_cons_zero, List.set_cons_succ]
            refine wpAnyH_take (i := 7) (oi := { dst := some 22, op := Op.move (Operand.tmp 0), type := 22, pos := "history.go:43", after := #[{ on := 3, ground := Ground.guard }], guard := some (3, true) }) (v := undef) rfl (by kernel_rfl) (by kernel_rfl) (by kernel_rfl) (fun _ _ _ h => h) (Or.inr ⟨by rfl, rfl⟩) hHeld ?_
            try simp only [Act.put, List.setIfInBounds_toArray, List.set_cons_zero, List.set_cons_succ]
            refine wpAnyH_take (i := 8) (oi := { dst := some 23, op := Op.call { callee := Callee.builtin Builtin.len, args := #[Operand.tmp 22], argTypes := #[22] }, type := 3, pos := "history.go:43", after := #[{ on := 7, ground := Ground.data }, { on := 3, ground := Ground.guard }], guard := some (3, true) }) (v := undef) rfl (by kernel_rfl) (by kernel_rfl) (by kernel_rfl) (fun _ _ _ h => h) (Or.inr ⟨by rfl, rfl⟩) hHeld ?_
            try simp only [Act.put, List.setIfInBounds_toArray, List.set_cons_zero, List.set_cons_succ]
            refine wpAnyH_take (i := 9) (oi := { dst := some 24, op := Op.binOp BinOp.sub 3 (Operand.tmp 23) (Operand.const (Value.int IntKind.i64 1)) 3, type := 3, pos := "history.go:43", after := #[{ on := 8, ground := Ground.data }, { on := 3, ground := Ground.guard }], guard := some (3, true) }) (v := undef) rfl (by kernel_rfl) (by kernel_rfl) (by kernel_rfl) (fun _ _ _ h => h) (Or.inr ⟨by rfl, rfl⟩) hHeld ?_
            try simp only [Act.put, List.setIfInBounds_toArray, List.set_cons_zero, List.set_cons_succ]
            refine wpAnyH_take (i := 10) (oi := { dst := some 25, op := Op.indexAddr 22 (Operand.tmp 21) (Operand.tmp 24), type := 0, pos := "history.go:43", after := #[{ on := 6, ground := Ground.data }, { on := 9, ground := Ground.data }, { on := 3, ground := Ground.guard }], guard := some (3, true) }) (v := undef) rfl (by kernel_rfl) (by kernel_rfl) (by kernel_rfl) (fun _ _ _ h => h) (Or.inr ⟨by rfl, rfl⟩) hHeld ?_
            try simp only [Act.put, List.setIfInBounds_toArray, List.set_cons_zero, List.set_cons_succ]
            refine wpAnyH_take (i := 11) (oi := { dst := some 26, op := Op.fieldAddr 48 (Operand.tmp 25) 0, type := 0, pos := "history.go:43", after := #[{ on := 10, ground := Ground.data }, { on := 3, ground := Ground.guard }], guard := some (3, true) }) (v := undef) rfl (by kernel_rfl) (by kernel_rfl) (by kernel_rfl) (fun _ _ _ h => h) (Or.inr ⟨by rfl, rfl⟩) hHeld ?_
            try simp only [Act.put, List.setIfInBounds_toArray, List.set_cons_zero, List.set_cons_succ]
            refine wpAnyH_take (i := 12) (oi := { dst := some 27, op := Op.load 3 (Operand.tmp 26), type := 3, pos := "history.go:43", after := #[{ on := 11, ground := Ground.data }, { on := 3, ground := Ground.guard }], guard := some (3, true) }) (v := undef) rfl (by kernel_rfl) (by kernel_rfl) (by kernel_rfl) (fun _ _ _ h => h) (Or.inr ⟨by rfl, rfl⟩) hHeld ?_
            try simp only [Act.put, List.setIfInBounds_toArray, List.set_cons_zero, List.set_cons_succ]
            refine wpAnyH_take (i := 13) (oi := { dst := some 28, op := Op.binOp BinOp.lss 3 (Operand.tmp 20) (Operand.tmp 27) 3, type := 4, pos := "history.go:43", after := #[{ on := 5, ground := Ground.data }, { on := 12, ground := Ground.data }, { on := 3, ground := Ground.guard }], guard := some (3, true) }) (v := undef) rfl (by kernel_rfl) (by kernel_rfl) (by kernel_rfl) (fun _ _ _ h => h) (Or.inr ⟨by rfl, rfl⟩) hHeld ?_
            try simp only [Act.put, List.setIfInBounds_toArray, List.set_cons_zero, List.set_cons_succ]
            refine wpAnyH_take (i := 14) (oi := { dst := some 29, op := Op.pick (Operand.tmp 18) (Operand.tmp 28) (Operand.const (Value.bool false)), type := 4, pos := "history.go:43", after := #[{ on := 3, ground := Ground.data }, { on := 13, ground := Ground.data }], guard := none }) (v := .bool false) rfl (by kernel_rfl) (by kernel_rfl) (by kernel_rfl) (fun _ _ _ h => h) (Or.inl ⟨by rfl, by intro w hSw; go_simp⟩) hHeld ?_
            try simp only [Act.put, List.setIfInBounds_toArray, List.set_cons_zero, List.set_cons_succ]
            refine wpAnyH_take (i := 15) (oi := { dst := some 14, op := Op.assign (Operand.tmp 29), type := 4, pos := "history.go:43", after := #[{ on := 14, ground := Ground.data }, { on := 3, ground := Ground.chain }], guard := none }) (v := .bool false) rfl (by kernel_rfl) (by kernel_rfl) (by kernel_rfl) (fun _ _ _ h => h) (Or.inl ⟨by rfl, by intro w hSw; go_simp⟩) hHeld ?_
            try simp only [Act.put, List.setIfInBounds_toArray, List.set_cons_zero, List.set_cons_succ]
            refine wpAnyH_done (by kernel_rfl) ?_ _
            have HBD := hidk HB2.out.drew
            have HRD : Hid (w2.drew.rangeAt w.heap.size 1 V.toList) := HRV.out w2 HG2.out
            go_wp2_with (first
              | (show wpList _ _ _ ({ dst := some 42, op := _, type := _, pos := _, after := _, guard := _ } :: _) _ _; refine wpList_mid_w (by rfl) 46 (.tmp 41) rfl w.heap.size 1 rfl V _ HRD.out Tryd.underlying46 rfl HSV.out ?_; try simp only [Act.put, List.setIfInBounds_toArray, List.set_cons_zero, List.set_cons_succ])
              | fail)
            refine (HOL.out _ HBD.out).mono ?_
            rintro e w3 ⟨rfl, hb3⟩
            have HB3 := hidk (HBD.out.trans (hb3.mono HBD.out.size))
            clear hb3
            go_wp2
            go_ret
            exact ⟨by rw [HE2.out]; rfl, HB3.out⟩
          · have HE2 : Hid (mayE l x = 101) := by show _ = _; rw [HE.out]; simp [hk]
            go_enter Tryd.func18, Tryd.ntmps18
            go_wp2_with fail
            refine (HRL.out _ HB.out).mono ?_
            rintro e w1 ⟨rfl, hb1⟩
            have HB1 := hidk (HB.out.trans (hb1.mono HB.out.size))
            have HG1 := hidk ((hb1.block _ (heap_lt HG.out)).trans HG.out)
            clear hb1
            go_wp2_with (first
              | (show wpList _ _ _ ({ dst := some 10, op := _, type := _, pos := _, after := _, guard := _ } :: _) _ _; refine wpList_load_row_w (by rfl) 48 (.tmp 3) rfl w.heap.size rfl 48 X (0, 0) _ HG1.out Tryd.underlying48 rfl HSX.out ?_; try simp only [Act.put, List.setIfInBounds_toArray, List.set_cons_zero, List.set_cons_succ])
              | fail)
            refine (HRI.out _).mono ?_
            rintro e w2 ⟨rfl, hb2⟩
            have HB2 := hidk (HB1.out.trans (hb2.mono HB1.out.size))
            have HG2 := hidk ((hb2.block _ (heap_lt HG1.out)).trans HG1.out)
            clear hb2
            obtain ⟨c0, c1, c2, c3⟩ := HCL.out _ _ HG2.out
            go_wp2
            refine wp_region_held_drew (S := (fun _ => True)) (by kernel_rfl) trivial (fun hHeld => ?_)
            refine wpAnyH_take (i := 0) (oi := { dst := some 15, op := Op.move (Operand.tmp 0), type := 22, pos := "history.go:43", after := #[], guard := none }) (v := .slice a 0 cap) rfl (by kernel_rfl) (by kernel_rfl) (by kernel_rfl) (fun _ _ _ h => h) (Or.inl ⟨by rfl, by intro w hSw; go_simp⟩) hHeld ?_
            try simp only [Act.put, List.setIfInBounds_toArray, List.set_cons_zero, List.set_cons_succ]
            refine wpAnyH_take (i := 1) (oi := { dst := some 16, op := Op.call { callee := Callee.builtin Builtin.len, args := #[Operand.tmp 15], argTypes := #[22] }, type := 3, pos := "history.go:43", after := #[{ on := 0, ground := Ground.data }], guard := none }) (v := .int .i64 0) rfl (by kernel_rfl) (by kernel_rfl) (by kernel_rfl) (fun _ _ _ h => h) (Or.inl ⟨by rfl, by intro w hSw; go_simp⟩) hHeld ?_
            try simp only [Act.put, List.setIfInBounds_toArray, List.set_cons_zero, List.set_cons_succ]
            refine wpAnyH_take (i := 2) (oi := { dst := some 17, op := Op.binOp BinOp.gtr 3 (Operand.tmp 16) (Operand.const (Value.int IntKind.i64 0)) 3, type := 4, pos := "history.go:43", after := #[{ on := 1, ground := Ground.data }], guard := none }) (v := .bool false) rfl (by kernel_rfl) (by kernel_rfl) (by kernel_rfl) (fun _ _ _ h => h) (Or.inl ⟨by rfl, by intro w hSw; go_simp⟩) hHeld ?_
            try simp only [Act.put, List.setIfInBounds_toArray, List.set_cons_zero, List.set_cons_succ]
            refine wpAnyH_take (i := 3) (oi := { dst := some 18, op := Op.move (Operand.tmp 17), type := 4, pos := "history.go:43", after := #[{ on := 2, ground := Ground.data }], guard := none }) (v := .bool false) rfl (by kernel_rfl) (by kernel_rfl) (by kernel_rfl) (fun _ _ _ h => h) (Or.inl ⟨by rfl, by intro w hSw; go_simp⟩) hHeld ?_
            try simp only [Act.put, List.setIfInBounds_toArray, List.set_cons_zero, List.set_cons_succ]
            refine wpAnyH_take (i := 4) (oi := { dst := some 19, op := Op.fieldAddr 48 (Operand.tmp 3) 0, type := 0, pos := "history.go:43", after := #[{ on := 3, ground := Ground.guard }], guard := some (3, true) }) (v := undef) rfl (by kernel_rfl) (by kernel_rfl) (by kernel_rfl) (fun _ _ _ h => h) (Or.inr ⟨by rfl, rfl⟩) hHeld ?_
            try simp only [Act.put, List.setIfInBounds_toArray, List.set_cons_zero, List.set_cons_succ]
            refine wpAnyH_take (i := 5) (oi := { dst := some 20, op := Op.load 3 (Operand.tmp 19), type := 3, pos := "history.go:43", after := #[{ on := 4, ground := Ground.data }, { on := 3, ground := Ground.guard }], guard := some (3, true) }) (v := undef) rfl (by kernel_rfl) (by kernel_rfl) (by kernel_rfl) (fun _ _ _ h => h) (Or.inr ⟨by rfl, rfl⟩) hHeld ?_
            try simp only [Act.put, List.setIfInBounds_toArray, List.set_cons_zero, List.set_cons_succ]
            refine wpAnyH_take (i := 6) (oi := { dst := some 21, op := Op.move (Operand.tmp 0), type := 22, pos := "history.go:43", after := #[{ on := 3, ground := Ground.guard }], guard := some (3, true) }) (v := undef) rfl (by kernel_rfl) (by kernel_rfl) (by kernel_rfl) (fun _ _ _ h => h) (Or.inr ⟨by rfl, rfl⟩) hHeld ?_
            try simp only [Act.put, List.setIfInBounds_toArray, List.set_cons_zero, List.set_cons_succ]
            refine wpAnyH_take (i := 7) (oi := { dst := some 22, op := Op.move (Operand.tmp 0), type := 22, pos := "history.go:43", after := #[{ on := 3, ground := Ground.guard }], guard := some (3, true) }) (v := undef) rfl (by kernel_rfl) (by kernel_rfl) (by kernel_rfl) (fun _ _ _ h => h) (Or.inr ⟨by rfl, rfl⟩) hHeld ?_
            try simp only [Act.put, List.setIfInBounds_toArray, List.set_cons_zero, List.set_cons_succ]
            refine wpAnyH_take (i := 8) (oi := { dst := some 23, op := Op.call { callee := Callee.builtin Builtin.len, args := #[Operand.tmp 22], argTypes := #[22] }, type := 3, pos := "history.go:43", after := #[{ on := 7, ground := Ground.data }, { on := 3, ground := Ground.guard }], guard := some (3, true) }) (v := undef) rfl (by kernel_rfl) (by kernel_rfl) (by kernel_rfl) (fun _ _ _ h => h) (Or.inr ⟨by rfl, rfl⟩) hHeld ?_
            try simp only [Act.put, List.setIfInBounds_toArray, List.set_cons_zero, List.set_cons_succ]
            refine wpAnyH_take (i := 9) (oi := { dst := some 24, op := Op.binOp BinOp.sub 3 (Operand.tmp 23) (Operand.const (Value.int IntKind.i64 1)) 3, type := 3, pos := "history.go:43", after := #[{ on := 8, ground := Ground.data }, { on := 3, ground := Ground.guard }], guard := some (3, true) }) (v := undef) rfl (by kernel_rfl) (by kernel_rfl) (by kernel_rfl) (fun _ _ _ h => h) (Or.inr ⟨by rfl, rfl⟩) hHeld ?_
            try simp only [Act.put, List.setIfInBounds_toArray, List.set_cons_zero, List.set_cons_succ]
            refine wpAnyH_take (i := 10) (oi := { dst := some 25, op := Op.indexAddr 22 (Operand.tmp 21) (Operand.tmp 24), type := 0, pos := "history.go:43", after := #[{ on := 6, ground := Ground.data }, { on := 9, ground := Ground.data }, { on := 3, ground := Ground.guard }], guard := some (3, true) }) (v := undef) rfl (by kernel_rfl) (by kernel_rfl) (by kernel_rfl) (fun _ _ _ h => h) (Or.inr ⟨by rfl, rfl⟩) hHeld ?_
            try simp only [Act.put, List.setIfInBounds_toArray, List.set_cons_zero, List.set_cons_succ]
            refine wpAnyH_take (i := 11) (oi := { dst := some 26, op := Op.fieldAddr 48 (Operand.tmp 25) 0, type := 0, pos := "history.go:43", after := #[{ on := 10, ground := Ground.data }, { on := 3, ground := Ground.guard }], guard := some (3, true) }) (v := undef) rfl (by kernel_rfl) (by kernel_rfl) (by kernel_rfl) (fun _ _ _ h => h) (Or.inr ⟨by rfl, rfl⟩) hHeld ?_
            try simp only [Act.put, List.setIfInBounds_toArray, List.set_cons_zero, List.set_cons_succ]
            refine wpAnyH_take (i := 12) (oi := { dst := some 27, op := Op.load 3 (Operand.tmp 26), type := 3, pos := "history.go:43", after := #[{ on := 11, ground := Ground.data }, { on := 3, ground := Ground.guard }], guard := some (3, true) }) (v := undef) rfl (by kernel_rfl) (by kernel_rfl) (by kernel_rfl) (fun _ _ _ h => h) (Or.inr ⟨by rfl, rfl⟩) hHeld ?_
            try simp only [Act.put, List.setIfInBounds_toArray, List.set_cons_zero, List.set_cons_succ]
            refine wpAnyH_take (i := 13) (oi := { dst := some 28, op := Op.binOp BinOp.lss 3 (Operand.tmp 20) (Operand.tmp 27) 3, type := 4, pos := "history.go:43", after := #[{ on := 5, ground := Ground.data }, { on := 12, ground := Ground.data }, { on := 3, ground := Ground.guard }], guard := some (3, true) }) (v := undef) rfl (by kernel_rfl) (by kernel_rfl) (by kernel_rfl) (fun _ _ _ h => h) (Or.inr ⟨by rfl, rfl⟩) hHeld ?_
            try simp only [Act.put, List.setIfInBounds_toArray, List.set_cons_zero, List.set_cons_succ]
            refine wpAnyH_take (i := 14) (oi := { dst := some 29, op := Op.pick (Operand.tmp 18) (Operand.tmp 28) (Operand.const (Value.bool false)), type := 4, pos := "history.go:43", after := #[{ on := 3, ground := Ground.data }, { on := 13, ground := Ground.data }], guard := none }) (v := .bool false) rfl (by kernel_rfl) (by kernel_rfl) (by kernel_rfl) (fun _ _ _ h => h) (Or.inl ⟨by rfl, by intro w hSw; go_simp⟩) hHeld ?_
            try simp only [Act.put, List.setIfInBounds_toArray, List.set_cons_zero, List.set_cons_succ]
            refine wpAnyH_take (i := 15) (oi := { dst := some 14, op := Op.assign (Operand.tmp 29), type := 4, pos := "history.go:43", after := #[{ on := 14, ground := Ground.data }, { on := 3, ground := Ground.chain }], guard := none }) (v := .bool false) rfl (by kernel_rfl) (by kernel_rfl) (by kernel_rfl) (fun _ _ _ h => h) (Or.inl ⟨by rfl, by intro w hSw; go_simp⟩) hHeld ?_
            try simp only [Act.put, List.setIfInBounds_toArray, List.set_cons_zero, List.set_cons_succ]
            refine wpAnyH_done (by kernel_rfl) ?_ _
            have HBD := hidk HB2.out.drew
            have HRD : Hid (w2.drew.rangeAt w.heap.size 1 V.toList) := HRV.out w2 HG2.out
            go_wp2_with (first
              | (show wpList _ _ _ ({ dst := some 42, op := _, type := _, pos := _, after := _, guard := _ } :: _) _ _; refine wpList_mid_w (by rfl) 46 (.tmp 41) rfl w.heap.size 1 rfl V _ HRD.out Tryd.underlying46 rfl HSV.out ?_; try simp only [Act.put, List.setIfInBounds_toArray, List.set_cons_zero, List.set_cons_succ])
              | fail)
            refine (HOL.out _ HBD.out).mono ?_
            rintro e w3 ⟨rfl, hb3⟩
            have HB3 := hidk (HBD.out.trans (hb3.mono HBD.out.size))
            clear hb3
            go_wp2
            go_ret
            exact ⟨by rw [HE2.out]; rfl, HB3.out⟩
        · have bk : (kx == 1) = false := by simp [hk]
          have HE2 : Hid (mayE l x = 0) := by show _ = _; rw [HLA.out hlow hfull]; simp [hk]
          go_enter Tryd.func18, Tryd.ntmps18
          go_wp2_with fail
          refine (HRL.out _ HB.out).mono ?_
          rintro e w1 ⟨rfl, hb1⟩
          have HB1 := hidk (HB.out.trans (hb1.mono HB.out.size))
          have HG1 := hidk ((hb1.block _ (heap_lt HG.out)).trans HG.out)
          clear hb1
          go_wp2_with (first
            | (show wpList _ _ _ ({ dst := some 10, op := _, type := _, pos := _, after := _, guard := _ } :: _) _ _; refine wpList_load_row_w (by rfl) 48 (.tmp 3) rfl w.heap.size rfl 48 X (0, 0) _ HG1.out Tryd.underlying48 rfl HSX.out ?_; try simp only [Act.put, List.setIfInBounds_toArray, List.set_cons_zero, List.set_cons_succ])
            | fail)
          refine (HRI.out _).mono ?_
          rintro e w2 ⟨rfl, hb2⟩
          have HB2 := hidk (HB1.out.trans (hb2.mono HB1.out.size))
          have HG2 := hidk ((hb2.block _ (heap_lt HG1.out)).trans HG1.out)
          clear hb2
          obtain ⟨c0, c1, c2, c3⟩ := HCL.out _ _ HG2.out
          go_wp2
          refine wp_region_held_drew (S := (fun _ => True)) (by kernel_rfl) trivial (fun hHeld => ?_)
          refine wpAnyH_take (i := 0) (oi := { dst := some 15, op := Op.move (Operand.tmp 0), type := 22, pos := "history.go:43", after := #[], guard := none }) (v := .slice a 0 cap) rfl (by kernel_rfl) (by kernel_rfl) (by kernel_rfl) (fun _ _ _ h => h) (Or.inl ⟨by rfl, by intro w hSw; go_simp⟩) hHeld ?_
          try simp only [Act.put, List.setIfInBounds_toArray, List.set_cons_zero, List.set_cons_succ]
          refine wpAnyH_take (i := 1) (oi := { dst := some 16, op := Op.call { callee := Callee.builtin Builtin.len, args := #[Operand.tmp 15], argTypes := #[22] }, type := 3, pos := "history.go:43", after := #[{ on := 0, ground := Ground.data }], guard := none }) (v := .int .i64 0) rfl (by kernel_rfl) (by kernel_rfl) (by kernel_rfl) (fun _ _ _ h => h) (Or.inl ⟨by rfl, by intro w hSw; go_simp⟩) hHeld ?_
          try simp only [Act.put, List.setIfInBounds_toArray, List.set_cons_zero, List.set_cons_succ]
          refine wpAnyH_take (i := 2) (oi := { dst := some 17, op := Op.binOp BinOp.gtr 3 (Operand.tmp 16) (Operand.const (Value.int IntKind.i64 0)) 3, type := 4, pos := "history.go:43", after := #[{ on := 1, ground := Ground.data }], guard := none }) (v := .bool false) rfl (by kernel_rfl) (by kernel_rfl) (by kernel_rfl) (fun _ _ _ h => h) (Or.inl ⟨by rfl, by intro w hSw; go_simp⟩) hHeld ?_
          try simp only [Act.put, List.setIfInBounds_toArray, List.set_cons_zero, List.set_cons_succ]
          refine wpAnyH_take (i := 3) (oi := { dst := some 18, op := Op.move (Operand.tmp 17), type := 4, pos := "history.go:43", after := #[{ on := 2, ground := Ground.data }], guard := none }) (v := .bool false) rfl (by kernel_rfl) (by kernel_rfl) (by kernel_rfl) (fun _ _ _ h => h) (Or.inl ⟨by rfl, by intro w hSw; go_simp⟩) hHeld ?_
          try simp only [Act.put, List.setIfInBounds_toArray, List.set_cons_zero, List.set_cons_succ]
          refine wpAnyH_take (i := 4) (oi := { dst := some 19, op := Op.fieldAddr 48 (Operand.tmp 3) 0, type := 0, pos := "history.go:43", after := #[{ on := 3, ground := Ground.guard }], guard := some (3, true) }) (v := undef) rfl (by kernel_rfl) (by kernel_rfl) (by kernel_rfl) (fun _ _ _ h => h) (Or.inr ⟨by rfl, rfl⟩) hHeld ?_
          try simp only [Act.put, List.setIfInBounds_toArray, List.set_cons_zero, List.set_cons_succ]
          refine wpAnyH_take (i := 5) (oi := { dst := some 20, op := Op.load 3 (Operand.tmp 19), type := 3, pos := "history.go:43", after := #[{ on := 4, ground := Ground.data }, { on := 3, ground := Ground.guard }], guard := some (3, true) }) (v := undef) rfl (by kernel_rfl) (by kernel_rfl) (by kernel_rfl) (fun _ _ _ h => h) (Or.inr ⟨by rfl, rfl⟩) hHeld ?_
          try simp only [Act.put, List.setIfInBounds_toArray, List.set_cons_zero, List.set_cons_succ]
          refine wpAnyH_take (i := 6) (oi := { dst := some 21, op := Op.move (Operand.tmp 0), type := 22, pos := "history.go:43", after := #[{ on := 3, ground := Ground.guard }], guard := some (3, true) }) (v := undef) rfl (by kernel_rfl) (by kernel_rfl) (by kernel_rfl) (fun _ _ _ h => h) (Or.inr ⟨by rfl, rfl⟩) hHeld ?_
          try simp only [Act.put, List.setIfInBounds_toArray, List.set_cons_zero, List.set_cons_succ]
          refine wpAnyH_take (i := 7) (oi := { dst := some 22, op := Op.move (Operand.tmp 0), type := 22, pos := "history.go:43", after := #[{ on := 3, ground := Ground.guard }], guard := some (3, true) }) (v := undef) rfl (by kernel_rfl) (by kernel_rfl) (by kernel_rfl) (fun _ _ _ h => h) (Or.inr ⟨by rfl, rfl⟩) hHeld ?_
          try simp only [Act.put, List.setIfInBounds_toArray, List.set_cons_zero, List.set_cons_succ]
          refine wpAnyH_take (i := 8) (oi := { dst := some 23, op := Op.call { callee := Callee.builtin Builtin.len, args := #[Operand.tmp 22], argTypes := #[22] }, type := 3, pos := "history.go:43", after := #[{ on := 7, ground := Ground.data }, { on := 3, ground := Ground.guard }], guard := some (3, true) }) (v := undef) rfl (by kernel_rfl) (by kernel_rfl) (by kernel_rfl) (fun _ _ _ h => h) (Or.inr ⟨by rfl, rfl⟩) hHeld ?_
          try simp only [Act.put, List.setIfInBounds_toArray, List.set_cons_zero, List.set_cons_succ]
          refine wpAnyH_take (i := 9) (oi := { dst := some 24, op := Op.binOp BinOp.sub 3 (Operand.tmp 23) (Operand.const (Value.int IntKind.i64 1)) 3, type := 3, pos := "history.go:43", after := #[{ on := 8, ground := Ground.data }, { on := 3, ground := Ground.guard }], guard := some (3, true) }) (v := undef) rfl (by kernel_rfl) (by kernel_rfl) (by kernel_rfl) (fun _ _ _ h => h) (Or.inr ⟨by rfl, rfl⟩) hHeld ?_
          try simp only [Act.put, List.setIfInBounds_toArray, List.set_cons_zero, List.set_cons_succ]
          refine wpAnyH_take (i := 10) (oi := { dst := some 25, op := Op.indexAddr 22 (Operand.tmp 21) (Operand.tmp 24), type := 0, pos := "history.go:43", after := #[{ on := 6, ground := Ground.data }, { on := 9, ground := Ground.data }, { on := 3, ground := Ground.guard }], guard := some (3, true) }) (v := undef) rfl (by kernel_rfl) (by kernel_rfl) (by kernel_rfl) (fun _ _ _ h => h) (Or.inr ⟨by rfl, rfl⟩) hHeld ?_
          try simp only [Act.put, List.setIfInBounds_toArray, List.set_cons_zero, List.set_cons_succ]
          refine wpAnyH_take (i := 11) (oi := { dst := some 26, op := Op.fieldAddr 48 (Operand.tmp 25) 0, type := 0, pos := "history.go:43", after := #[{ on := 10, ground := Ground.data }, { on := 3, ground := Ground.guard }], guard := some (3, true) }) (v := undef) rfl (by kernel_rfl) (by kernel_rfl) (by kernel_rfl) (fun _ _ _ h => h) (Or.inr ⟨by rfl, rfl⟩) hHeld ?_
          try simp only [Act.put, List.setIfInBounds_toArray, List.set_cons_zero, List.set_cons_succ]
          refine wpAnyH_take (i := 12) (oi := { dst := some 27, op := Op.load 3 (Operand.tmp 26), type := 3, pos := "history.go:43", after := #[{ on := 11, ground := Ground.data }, { on := 3, ground := Ground.guard }], guard := some (3, true) }) (v := undef) rfl (by kernel_rfl) (by kernel_rfl) (by kernel_rfl) (fun _ _ _ h => h) (Or.inr ⟨by rfl, rfl⟩) hHeld ?_
          try simp only [Act.put, List.setIfInBounds_toArray, List.set_cons_zero, List.set_cons_succ]
          refine wpAnyH_take (i := 13) (oi := { dst := some 28, op := Op.binOp BinOp.lss 3 (Operand.tmp 20) (Operand.tmp 27) 3, type := 4, pos := "history.go:43", after := #[{ on := 5, ground := Ground.data }, { on := 12, ground := Ground.data }, { on := 3, ground := Ground.guard }], guard := some (3, true) }) (v := undef) rfl (by kernel_rfl) (by kernel_rfl) (by kernel_rfl) (fun _ _ _ h => h) (Or.inr ⟨by rfl, rfl⟩) hHeld ?_
          try simp only [Act.put, List.setIfInBounds_toArray, List.set_cons_zero, List.set_cons_succ]
          refine wpAnyH_take (i := 14) (oi := { dst := some 29, op := Op.pick (Operand.tmp 18) (Operand.tmp 28) (Operand.const (Value.bool false)), type := 4, pos := "history.go:43", after := #[{ on := 3, ground := Ground.data }, { on := 13, ground := Ground.data }], guard := none }) (v := .bool false) rfl (by kernel_rfl) (by kernel_rfl) (by kernel_rfl) (fun _ _ _ h => h) (Or.inl ⟨by rfl, by intro w hSw; go_simp⟩) hHeld ?_
          try simp only [Act.put, List.setIfInBounds_toArray, List.set_cons_zero, List.set_cons_succ]
          refine wpAnyH_take (i := 15) (oi := { dst := some 14, op := Op.assign (Operand.tmp 29), type := 4, pos := "history.go:43", after := #[{ on := 14, ground := Ground.data }, { on := 3, ground := Ground.chain }], guard := none }) (v := .bool false) rfl (by kernel_rfl) (by kernel_rfl) (by kernel_rfl) (fun _ _ _ h => h) (Or.inl ⟨by rfl, by intro w hSw; go_simp⟩) hHeld ?_
          try simp only [Act.put, List.setIfInBounds_toArray, List.set_cons_zero, List.set_cons_succ]
          refine wpAnyH_done (by kernel_rfl) ?_ _
          have HBD := hidk HB2.out.drew
          have HRD : Hid (w2.drew.rangeAt w.heap.size 1 V.toList) := HRV.out w2 HG2.out
          go_wp2
          go_ret
          exact ⟨by rw [HE2.out]; rfl, HBD.out⟩
      · obtain ⟨j, HJ, hj⟩ : ∃ j, Hid (j + 1 = len) ∧ j < len := ⟨len - 1, by show _ = _; omega, by omega⟩
        have hsub : IntKind.i64.wrap ((len : Int) - 1) = (j : Int) := by rw [wrap_int _ (by omega) (by omega)]; have := HJ.out; omega
        have h0n : 0 < len := by omega
        have h0' : decide ((0 : Int) < (len : Int)) = true := by rw [decide_eq_true_eq]; omega
        obtain ⟨g, o, rfl, hg⟩ := HIR.out.at h0n
        have hjl : j < l.length := by rw [HLN.out]; exact hj
        obtain ⟨py, Hpy⟩ : ∃ p, Hid (l[j].p = p) := ⟨_, hidk rfl⟩
        have ix := fun W => index_item W g o len cap j .i64 hj
        have HLO : Hid (lowB l px = decide (px < py)) := by show _ = _; rw [lowB_some (j := j) (by rw [HLN.out]; exact HJ.out), Hpy.out]
        have HCJ : Hid (∀ W, Below w.heap.size w W → W.cell? ⟨g, o + 110 * j, none⟩ = some (.int .i64 py)) := fun W hb => by rw [← Hpy.out]; exact (HIR.out.keep hb).cell j hjl 0 _ rfl
        clear Hpy hjl
        by_cases hp : px < py
        · have d1 : decide (px < py) = true := decide_eq_true hp
          have HE := hidk (HLF.out (HLO.out.trans d1))
          go_enter Tryd.func18, Tryd.ntmps18
          go_wp2_with fail
          refine (HRL.out _ HB.out).mono ?_
          rintro e w1 ⟨rfl, hb1⟩
          have HB1 := hidk (HB.out.trans (hb1.mono HB.out.size))
          have HG1 := hidk ((hb1.block _ (heap_lt HG.out)).trans HG.out)
          clear hb1
          go_wp2_with (first
            | (show wpList _ _ _ ({ dst := some 10, op := _, type := _, pos := _, after := _, guard := _ } :: _) _ _; refine wpList_load_row_w (by rfl) 48 (.tmp 3) rfl w.heap.size rfl 48 X (0, 0) _ HG1.out Tryd.underlying48 rfl HSX.out ?_; try simp only [Act.put, List.setIfInBounds_toArray, List.set_cons_zero, List.set_cons_succ])
            | fail)
          refine (HRI.out _).mono ?_
          rintro e w2 ⟨rfl, hb2⟩
          have HB2 := hidk (HB1.out.trans (hb2.mono HB1.out.size))
          have HG2 := hidk ((hb2.block _ (heap_lt HG1.out)).trans HG1.out)
          clear hb2
          obtain ⟨c0, c1, c2, c3⟩ := HCL.out _ _ HG2.out
          have hS : w2.cell? ⟨w.heap.size, 0, none⟩ = some (.int .i64 px) ∧ w2.cell? ⟨g, o + 110 * j, none⟩ = some (.int .i64 py) := ⟨c0, HCJ.out _ HB2.out⟩
          go_wp2
          refine wp_region_held_drew (S := (fun V => V.cell? ⟨w.heap.size, 0, none⟩ = some (.int .i64 px) ∧ V.cell? ⟨g, o + 110 * j, none⟩ = some (.int .i64 py))) (by kernel_rfl) hS (fun hHeld => ?_)
          refine wpAnyH_take (i := 0) (oi := { dst := some 15, op := Op.move (Operand.tmp 0), type := 22, pos := "history.go:43", after := #[], guard := none }) (v := .slice (some ⟨g, o, none⟩) len cap) rfl (by kernel_rfl) (by kernel_rfl) (by kernel_rfl) (fun _ _ _ h => h) (Or.inl ⟨by rfl, by intro w hSw; go_simp⟩) hHeld ?_
          try simp only [Act.put, List.setIfInBounds_toArray, List.set_cons_zero, List.set_cons_succ]
          refine wpAnyH_take (i := 1) (oi := { dst := some 16, op := Op.call { callee := Callee.builtin Builtin.len, args := #[Operand.tmp 15], argTypes := #[22] }, type := 3, pos := "history.go:43", after := #[{ on := 0, ground := Ground.data }], guard := none }) (v := .int .i64 len) rfl (by kernel_rfl) (by kernel_rfl) (by kernel_rfl) (fun _ _ _ h => h) (Or.inl ⟨by rfl, by intro w hSw; go_simp⟩) hHeld ?_
          try simp only [Act.put, List.setIfInBounds_toArray, List.set_cons_zero, List.set_cons_succ]
          refine wpAnyH_take (i := 2) (oi := { dst := some 17, op := Op.binOp BinOp.gtr 3 (Operand.tmp 16) (Operand.const (Value.int IntKind.i64 0)) 3, type := 4, pos := "history.go:43", after := #[{ on := 1, ground := Ground.data }], guard := none }) (v := .bool true) rfl (by kernel_rfl) (by kernel_rfl) (by kernel_rfl) (fun _ _ _ h => h) (Or.inl ⟨by rfl, by intro w hSw; go_simp⟩) hHeld ?_
          try simp only [Act.put, List.setIfInBounds_toArray, List.set_cons_zero, List.set_cons_succ]
          refine wpAnyH_take (i := 3) (oi := { dst := some 18, op := Op.move (Operand.tmp 17), type := 4, pos := "history.go:43", after := #[{ on := 2, ground := Ground.data }], guard := none }) (v := .bool true) rfl (by kernel_rfl) (by kernel_rfl) (by kernel_rfl) (fun _ _ _ h => h) (Or.inl ⟨by rfl, by intro w hSw; go_simp⟩) hHeld ?_
          try simp only [Act.put, List.setIfInBounds_toArray, List.set_cons_zero, List.set_cons_succ]
          refine wpAnyH_take (i := 4) (oi := { dst := some 19, op := Op.fieldAddr 48 (Operand.tmp 3) 0, type := 0, pos := "history.go:43", after := #[{ on := 3, ground := Ground.guard }], guard := some (3, true) }) (v := .pointer (some ⟨w.heap.size, 0, none⟩)) rfl (by kernel_rfl) (by kernel_rfl) (by kernel_rfl) (fun _ _ _ h => h) (Or.inl ⟨by rfl, by intro w hSw; go_simp⟩) hHeld ?_
          try simp only [Act.put, List.setIfInBounds_toArray, List.set_cons_zero, List.set_cons_succ]
          refine wpAnyH_take (i := 5) (oi := { dst := some 20, op := Op.load 3 (Operand.tmp 19), type := 3, pos := "history.go:43", after := #[{ on := 4, ground := Ground.data }, { on := 3, ground := Ground.guard }], guard := some (3, true) }) (v := .int .i64 px) rfl (by kernel_rfl) (by kernel_rfl) (by kernel_rfl) (fun _ _ _ h => h) (Or.inl ⟨by rfl, by intro W hSw; have h1 := hSw.1; go_simp⟩) hHeld ?_
          try simp only [Act.put, List.setIfInBounds_toArray, List.set_cons_zero, List.set_cons_succ]
          refine wpAnyH_take (i := 6) (oi := { dst := some 21, op := Op.move (Operand.tmp 0), type := 22, pos := "history.go:43", after := #[{ on := 3, ground := Ground.guard }], guard := some (3, true) }) (v := .slice (some ⟨g, o, none⟩) len cap) rfl (by kernel_rfl) (by kernel_rfl) (by kernel_rfl) (fun _ _ _ h => h) (Or.inl ⟨by rfl, by intro w hSw; go_simp⟩) hHeld ?_
          try simp only [Act.put, List.setIfInBounds_toArray, List.set_cons_zero, List.set_cons_succ]
          refine wpAnyH_take (i := 7) (oi := { dst := some 22, op := Op.move (Operand.tmp 0), type := 22, pos := "history.go:43", after := #[{ on := 3, ground := Ground.guard }], guard := some (3, true) }) (v := .slice (some ⟨g, o, none⟩) len cap) rfl (by kernel_rfl) (by kernel_rfl) (by kernel_rfl) (fun _ _ _ h => h) (Or.inl ⟨by rfl, by intro w hSw; go_simp⟩) hHeld ?_
          try simp only [Act.put, List.setIfInBounds_toArray, List.set_cons_zero, List.set_cons_succ]
          refine wpAnyH_take (i := 8) (oi := { dst := some 23, op := Op.call { callee := Callee.builtin Builtin.len, args := #[Operand.tmp 22], argTypes := #[22] }, type := 3, pos := "history.go:43", after := #[{ on := 7, ground := Ground.data }, { on := 3, ground := Ground.guard }], guard := some (3, true) }) (v := .int .i64 len) rfl (by kernel_rfl) (by kernel_rfl) (by kernel_rfl) (fun _ _ _ h => h) (Or.inl ⟨by rfl, by intro w hSw; go_simp⟩) hHeld ?_
          try simp only [Act.put, List.setIfInBounds_toArray, List.set_cons_zero, List.set_cons_succ]
          refine wpAnyH_take (i := 9) (oi := { dst := some 24, op := Op.binOp BinOp.sub 3 (Operand.tmp 23) (Operand.const (Value.int IntKind.i64 1)) 3, type := 3, pos := "history.go:43", after := #[{ on := 8, ground := Ground.data }, { on := 3, ground := Ground.guard }], guard := some (3, true) }) (v := .int .i64 j) rfl (by kernel_rfl) (by kernel_rfl) (by kernel_rfl) (fun _ _ _ h => h) (Or.inl ⟨by rfl, by intro W hSw; have := hsub; go_simp⟩) hHeld ?_
          try simp only [Act.put, List.setIfInBounds_toArray, List.set_cons_zero, List.set_cons_succ]
          refine wpAnyH_take (i := 10) (oi := { dst := some 25, op := Op.indexAddr 22 (Operand.tmp 21) (Operand.tmp 24), type := 0, pos := "history.go:43", after := #[{ on := 6, ground := Ground.data }, { on := 9, ground := Ground.data }, { on := 3, ground := Ground.guard }], guard := some (3, true) }) (v := .pointer (some ⟨g, o + 110 * j, none⟩)) rfl (by kernel_rfl) (by kernel_rfl) (by kernel_rfl) (fun _ _ _ h => h) (Or.inl ⟨by rfl, by intro W hSw; have := ix W; go_simp⟩) hHeld ?_
          try simp only [Act.put, List.setIfInBounds_toArray, List.set_cons_zero, List.set_cons_succ]
          refine wpAnyH_take (i := 11) (oi := { dst := some 26, op := Op.fieldAddr 48 (Operand.tmp 25) 0, type := 0, pos := "history.go:43", after := #[{ on := 10, ground := Ground.data }, { on := 3, ground := Ground.guard }], guard := some (3, true) }) (v := .pointer (some ⟨g, o + 110 * j, none⟩)) rfl (by kernel_rfl) (by kernel_rfl) (by kernel_rfl) (fun _ _ _ h => h) (Or.inl ⟨by rfl, by intro w hSw; go_simp⟩) hHeld ?_
          try simp only [Act.put, List.setIfInBounds_toArray, List.set_cons_zero, List.set_cons_succ]
          refine wpAnyH_take (i := 12) (oi := { dst := some 27, op := Op.load 3 (Operand.tmp 26), type := 3, pos := "history.go:43", after := #[{ on := 11, ground := Ground.data }, { on := 3, ground := Ground.guard }], guard := some (3, true) }) (v := .int .i64 py) rfl (by kernel_rfl) (by kernel_rfl) (by kernel_rfl) (fun _ _ _ h => h) (Or.inl ⟨by rfl, by intro W hSw; have h1 := hSw.2; go_simp⟩) hHeld ?_
          try simp only [Act.put, List.setIfInBounds_toArray, List.set_cons_zero, List.set_cons_succ]
          refine wpAnyH_take (i := 13) (oi := { dst := some 28, op := Op.binOp BinOp.lss 3 (Operand.tmp 20) (Operand.tmp 27) 3, type := 4, pos := "history.go:43", after := #[{ on := 5, ground := Ground.data }, { on := 12, ground := Ground.data }, { on := 3, ground := Ground.guard }], guard := some (3, true) }) (v := .bool true) rfl (by kernel_rfl) (by kernel_rfl) (by kernel_rfl) (fun _ _ _ h => h) (Or.inl ⟨by rfl, by intro w hSw; go_simp⟩) hHeld ?_
          try simp only [Act.put, List.setIfInBounds_toArray, List.set_cons_zero, List.set_cons_succ]
          refine wpAnyH_take (i := 14) (oi := { dst := some 29, op := Op.pick (Operand.tmp 18) (Operand.tmp 28) (Operand.const (Value.bool false)), type := 4, pos := "history.go:43", after := #[{ on := 3, ground := Ground.data }, { on := 13, ground := Ground.data }], guard := none }) (v := .bool true) rfl (by kernel_rfl) (by kernel_rfl) (by kernel_rfl) (fun _ _ _ h => h) (Or.inl ⟨by rfl, by intro w hSw; go_simp⟩) hHeld ?_
          try simp only [Act.put, List.setIfInBounds_toArray, List.set_cons_zero, List.set_cons_succ]
          refine wpAnyH_take (i := 15) (oi := { dst := some 14, op := Op.assign (Operand.tmp 29), type := 4, pos := "history.go:43", after := #[{ on := 14, ground := Ground.data }, { on := 3, ground := Ground.chain }], guard := none }) (v := .bool true) rfl (by kernel_rfl) (by kernel_rfl) (by kernel_rfl) (fun _ _ _ h => h) (Or.inl ⟨by rfl, by intro w hSw; go_simp⟩) hHeld ?_
          try simp only [Act.put, List.setIfInBounds_toArray, List.set_cons_zero, List.set_cons_succ]
          refine wpAnyH_done (by kernel_rfl) ?_ _
          go_wp2
          go_ret
          exact ⟨by rw [HE.out]; rfl, HB2.out.drew⟩
        · have d1 : decide (px < py) = false := decide_eq_false hp
          have hlow : lowB l px = false := HLO.out.trans d1
          by_cases hfull : len = 2000
          · omega
          · have bf : ((len : Int) == 2000) = false := by rw [beq_eq_false_iff_ne]; omega
            by_cases hk : kx = 1
            · have bk : (kx == 1) = true := by simp [hk]
              obtain ⟨b3, H3⟩ : ∃ b, Hid (oldL l cx sx = b) := ⟨_, hidk rfl⟩
              rw [H3.out] at HOL HLA
              have HE := hidk (HLA.out hlow hfull)
              cases b3
              · have HE2 : Hid (mayE l x = 0) := by show _ = _; rw [HE.out]; simp [hk]
                go_enter Tryd.func18, Tryd.ntmps18
                go_wp2_with fail
                refine (HRL.out _ HB.out).mono ?_
                rintro e w1 ⟨rfl, hb1⟩
                have HB1 := hidk (HB.out.trans (hb1.mono HB.out.size))
                have HG1 := hidk ((hb1.block _ (heap_lt HG.out)).trans HG.out)
                clear hb1
                go_wp2_with (first
                  | (show wpList _ _ _ ({ dst := some 10, op := _, type := _, pos := _, after := _, guard := _ } :: _) _ _; refine wpList_load_row_w (by rfl) 48 (.tmp 3) rfl w.heap.size rfl 48 X (0, 0) _ HG1.out Tryd.underlying48 rfl HSX.out ?_; try simp only [Act.put, List.setIfInBounds_toArray, List.set_cons_zero, List.set_cons_succ])
                  | fail)
                refine (HRI.out _).mono ?_
                rintro e w2 ⟨rfl, hb2⟩
                have HB2 := hidk (HB1.out.trans (hb2.mono HB1.out.size))
                have HG2 := hidk ((hb2.block _ (heap_lt HG1.out)).trans HG1.out)
                clear hb2
                obtain ⟨c0, c1, c2, c3⟩ := HCL.out _ _ HG2.out
                have hS : w2.cell? ⟨w.heap.size, 0, none⟩ = some (.int .i64 px) ∧ w2.cell? ⟨g, o + 110 * j, none⟩ = some (.int .i64 py) := ⟨c0, HCJ.out _ HB2.out⟩
                go_wp2
                refine wp_region_held_drew (S := (fun V => V.cell? ⟨w.heap.size, 0, none⟩ = some (.int .i64 px) ∧ V.cell? ⟨g, o + 110 * j, none⟩ = some (.int .i64 py))) (by kernel_rfl) hS (fun hHeld => ?_)
                refine wpAnyH_take (i := 0) (oi := { dst := some 15, op := Op.move (Operand.tmp 0), type := 22, pos := "history.go:43", after := #[], guard := none }) (v := .slice (some ⟨g, o, none⟩) len cap) rfl (by kernel_rfl) (by kernel_rfl) (by kernel_rfl) (fun _ _ _ h => h) (Or.inl ⟨by rfl, by intro w hSw; go_simp⟩) hHeld ?_
                try simp only [Act.put, List.setIfInBounds_toArray, List.set_cons_zero, List.set_cons_succ]
                refine wpAnyH_take (i := 1) (oi := { dst := some 16, op := Op.call { callee := Callee.builtin Builtin.len, args := #[Operand.tmp 15], argTypes := #[22] }, type := 3, pos := "history.go:43", after := #[{ on := 0, ground := Ground.data }], guard := none }) (v := .int .i64 len) rfl (by kernel_rfl) (by kernel_rfl) (by kernel_rfl) (fun _ _ _ h => h) (Or.inl ⟨by rfl, by intro w hSw; go_simp⟩) hHeld ?_
                try simp only [Act.put, List.setIfInBounds_toArray, List.set_cons_zero, List.set_cons_succ]
                refine wpAnyH_take (i := 2) (oi := { dst := some 17, op := Op.binOp BinOp.gtr 3 (Operand.tmp 16) (Operand.const (Value.int IntKind.i64 0)) 3, type := 4, pos := "history.go:43", after := #[{ on := 1, ground := Ground.data }], guard := none }) (v := .bool true) rfl (by kernel_rfl) (by kernel_rfl) (by kernel_rfl) (fun _ _ _ h => h) (Or.inl ⟨by rfl, by intro w hSw; go_simp⟩) hHeld ?_
                try simp only [Act.put, List.setIfInBounds_toArray, List.set_cons_zero, List.set_cons_succ]
                refine wpAnyH_take (i := 3) (oi := { dst := some 18, op := Op.move (Operand.tmp 17), type := 4, pos := "history.go:43", after := #[{ on := 2, ground := Ground.data }], guard := none }) (v := .bool true) rfl (by kernel_rfl) (by kernel_rfl) (by kernel_rfl) (fun _ _ _ h => h) (Or.inl ⟨by rfl, by intro w hSw; go_simp⟩) hHeld ?_
                try simp only [Act.put, List.setIfInBounds_toArray, List.set_cons_zero, List.set_cons_succ]
                refine wpAnyH_take (i := 4) (oi := { dst := some 19, op := Op.fieldAddr 48 (Operand.tmp 3) 0, type := 0, pos := "history.go:43", after := #[{ on := 3, ground := Ground.guard }], guard := some (3, true) }) (v := .pointer (some ⟨w.heap.size, 0, none⟩)) rfl (by kernel_rfl) (by kernel_rfl) (by kernel_rfl) (fun _ _ _ h => h) (Or.inl ⟨by rfl, by intro w hSw; go_simp⟩) hHeld ?_
                try simp only [Act.put, List.setIfInBounds_toArray, List.set_cons_zero, List.set_cons_succ]
                refine wpAnyH_take (i := 5) (oi := { dst := some 20, op := Op.load 3 (Operand.tmp 19), type := 3, pos := "history.go:43", after := #[{ on := 4, ground := Ground.data }, { on := 3, ground := Ground.guard }], guard := some (3, true) }) (v := .int .i64 px) rfl (by kernel_rfl) (by kernel_rfl) (by kernel_rfl) (fun _ _ _ h => h) (Or.inl ⟨by rfl, by intro W hSw; have h1 := hSw.1; go_simp⟩) hHeld ?_
                try simp only [Act.put, List.setIfInBounds_toArray, List.set_cons_zero, List.set_cons_succ]
                refine wpAnyH_take (i := 6) (oi := { dst := some 21, op := Op.move (Operand.tmp 0), type := 22, pos := "history.go:43", after := #[{ on := 3, ground := Ground.guard }], guard := some (3, true) }) (v := .slice (some ⟨g, o, none⟩) len cap) rfl (by kernel_rfl) (by kernel_rfl) (by kernel_rfl) (fun _ _ _ h => h) (Or.inl ⟨by rfl, by intro w hSw; go_simp⟩) hHeld ?_
                try simp only [Act.put, List.setIfInBounds_toArray, List.set_cons_zero, List.set_cons_succ]
                refine wpAnyH_take (i := 7) (oi := { dst := some 22, op := Op.move (Operand.tmp 0), type := 22, pos := "history.go:43", after := #[{ on := 3, ground := Ground.guard }], guard := some (3, true) }) (v := .slice (some ⟨g, o, none⟩) len cap) rfl (by kernel_rfl) (by kernel_rfl) (by kernel_rfl) (fun _ _ _ h => h) (Or.inl ⟨by rfl, by intro w hSw; go_simp⟩) hHeld ?_
                try simp only [Act.put, List.setIfInBounds_toArray, List.set_cons_zero, List.set_cons_succ]
                refine wpAnyH_take (i := 8) (oi := { dst := some 23, op := Op.call { callee := Callee.builtin Builtin.len, args := #[Operand.tmp 22], argTypes := #[22] }, type := 3, pos := "history.go:43", after := #[{ on := 7, ground := Ground.data }, { on := 3, ground := Ground.guard }], guard := some (3, true) }) (v := .int .i64 len) rfl (by kernel_rfl) (by kernel_rfl) (by kernel_rfl) (fun _ _ _ h => h) (Or.inl ⟨by rfl, by intro w hSw; go_simp⟩) hHeld ?_
                try simp only [Act.put, List.setIfInBounds_toArray, List.set_cons_zero, List.set_cons_succ]
                refine wpAnyH_take (i := 9) (oi := { dst := some 24, op := Op.binOp BinOp.sub 3 (Operand.tmp 23) (Operand.const (Value.int IntKind.i64 1)) 3, type := 3, pos := "history.go:43", after := #[{ on := 8, ground := Ground.data }, { on := 3, ground := Ground.guard }], guard := some (3, true) }) (v := .int .i64 j) rfl (by kernel_rfl) (by kernel_rfl) (by kernel_rfl) (fun _ _ _ h => h) (Or.inl ⟨by rfl, by intro W hSw; have := hsub; go_simp⟩) hHeld ?_
                try simp only [Act.put, List.setIfInBounds_toArray, List.set_cons_zero, List.set_cons_succ]
                refine wpAnyH_take (i := 10) (oi := { dst := some 25, op := Op.indexAddr 22 (Operand.tmp 21) (Operand.tmp 24), type := 0, pos := "history.go:43", after := #[{ on := 6, ground := Ground.data }, { on := 9, ground := Ground.data }, { on := 3, ground := Ground.guard }], guard := some (3, true) }) (v := .pointer (some ⟨g, o + 110 * j, none⟩)) rfl (by kernel_rfl) (by kernel_rfl) (by kernel_rfl) (fun _ _ _ h => h) (Or.inl ⟨by rfl, by intro W hSw; have := ix W; go_simp⟩) hHeld ?_
                try simp only [Act.put, List.setIfInBounds_toArray, List.set_cons_zero, List.set_cons_succ]
                refine wpAnyH_take (i := 11) (oi := { dst := some 26, op := Op.fieldAddr 48 (Operand.tmp 25) 0, type := 0, pos := "history.go:43", after := #[{ on := 10, ground := Ground.data }, { on := 3, ground := Ground.guard }], guard := some (3, true) }) (v := .pointer (some ⟨g, o + 110 * j, none⟩)) rfl (by kernel_rfl) (by kernel_rfl) (by kernel_rfl) (fun _ _ _ h => h) (Or.inl ⟨by rfl, by intro w hSw; go_simp⟩) hHeld ?_
                try simp only [Act.put, List.setIfInBounds_toArray, List.set_cons_zero, List.set_cons_succ]
                refine wpAnyH_take (i := 12) (oi := { dst := some 27, op := Op.load 3 (Operand.tmp 26), type := 3, pos := "history.go:43", after := #[{ on := 11, ground := Ground.data }, { on := 3, ground := Ground.guard }], guard := some (3, true) }) (v := .int .i64 py) rfl (by kernel_rfl) (by kernel_rfl) (by kernel_rfl) (fun _ _ _ h => h) (Or.inl ⟨by rfl, by intro W hSw; have h1 := hSw.2; go_simp⟩) hHeld ?_
                try simp only [Act.put, List.setIfInBounds_toArray, List.set_cons_zero, List.set_cons_succ]
                refine wpAnyH_take (i := 13) (oi := { dst := some 28, op := Op.binOp BinOp.lss 3 (Operand.tmp 20) (Operand.tmp 27) 3, type := 4, pos := "history.go:43", after := #[{ on := 5, ground := Ground.data }, { on := 12, ground := Ground.data }, { on := 3, ground := Ground.guard }], guard := some (3, true) }) (v := .bool false) rfl (by kernel_rfl) (by kernel_rfl) (by kernel_rfl) (fun _ _ _ h => h) (Or.inl ⟨by rfl, by intro w hSw; go_simp⟩) hHeld ?_
                try simp only [Act.put, List.setIfInBounds_toArray, List.set_cons_zero, List.set_cons_succ]
                refine wpAnyH_take (i := 14) (oi := { dst := some 29, op := Op.pick (Operand.tmp 18) (Operand.tmp 28) (Operand.const (Value.bool false)), type := 4, pos := "history.go:43", after := #[{ on := 3, ground := Ground.data }, { on := 13, ground := Ground.data }], guard := none }) (v := .bool false) rfl (by kernel_rfl) (by kernel_rfl) (by kernel_rfl) (fun _ _ _ h => h) (Or.inl ⟨by rfl, by intro w hSw; go_simp⟩) hHeld ?_
                try simp only [Act.put, List.setIfInBounds_toArray, List.set_cons_zero, List.set_cons_succ]
                refine wpAnyH_take (i := 15) (oi := { dst := some 14, op := Op.assign (Operand.tmp 29), type := 4, pos := "history.go:43", after := #[{ on := 14, ground := Ground.data }, { on := 3, ground := Ground.chain }], guard := none }) (v := .bool false) rfl (by kernel_rfl) (by kernel_rfl) (by kernel_rfl) (fun _ _ _ h => h) (Or.inl ⟨by rfl, by intro w hSw; go_simp⟩) hHeld ?_
                try simp only [Act.put, List.setIfInBounds_toArray, List.set_cons_zero, List.set_cons_succ]
                refine wpAnyH_done (by kernel_rfl) ?_ _
                have HBD := hidk HB2.out.drew
                have HRD : Hid (w2.drew.rangeAt w.heap.size 1 V.toList) := HRV.out w2 HG2.out
                go_wp2_with (first
                  | (show wpList _ _ _ ({ dst := some 42, op := _, type := _, pos := _, after := _, guard := _ } :: _) _ _; refine wpList_mid_w (by rfl) 46 (.tmp 41) rfl w.heap.size 1 rfl V _ HRD.out Tryd.underlying46 rfl HSV.out ?_; try simp only [Act.put, List.setIfInBounds_toArray, List.set_cons_zero, List.set_cons_succ])
                  | fail)
                refine (HOL.out _ HBD.out).mono ?_
                rintro e w3 ⟨rfl, hb3⟩
                have HB3 := hidk (HBD.out.trans (hb3.mono HBD.out.size))
                clear hb3
                go_wp2
                go_ret
                exact ⟨by rw [HE2.out]; rfl, HB3.out⟩
              · have HE2 : Hid (mayE l x = 101) := by show _ = _; rw [HE.out]; simp [hk]
                go_enter Tryd.func18, Tryd.ntmps18
                go_wp2_with fail
                refine (HRL.out _ HB.out).mono ?_
                rintro e w1 ⟨rfl, hb1⟩
                have HB1 := hidk (HB.out.trans (hb1.mono HB.out.size))
                have HG1 := hidk ((hb1.block _ (heap_lt HG.out)).trans HG.out)
                clear hb1
                go_wp2_with (first
                  | (show wpList _ _ _ ({ dst := some 10, op := _, type := _, pos := _, after := _, guard := _ } :: _) _ _; refine wpList_load_row_w (by rfl) 48 (.tmp 3) rfl w.heap.size rfl 48 X (0, 0) _ HG1.out Tryd.underlying48 rfl HSX.out ?_; try simp only [Act.put, List.setIfInBounds_toArray, List.set_cons_zero, List.set_cons_succ])
                  | fail)
                refine (HRI.out _).mono ?_
                rintro e w2 ⟨rfl, hb2⟩
                have HB2 := hidk (HB1.out.trans (hb2.mono HB1.out.size))
                have HG2 := hidk ((hb2.block _ (heap_lt HG1.out)).trans HG1.out)
                clear hb2
                obtain ⟨c0, c1, c2, c3⟩ := HCL.out _ _ HG2.out
                have hS : w2.cell? ⟨w.heap.size, 0, none⟩ = some (.int .i64 px) ∧ w2.cell? ⟨g, o + 110 * j, none⟩ = some (.int .i64 py) := ⟨c0, HCJ.out _ HB2.out⟩
                go_wp2
                refine wp_region_held_drew (S := (fun V => V.cell? ⟨w.heap.size, 0, none⟩ = some (.int .i64 px) ∧ V.cell? ⟨g, o + 110 * j, none⟩ = some (.int .i64 py))) (by kernel_rfl) hS (fun hHeld => ?_)
                refine wpAnyH_take (i := 0) (oi := { dst := some 15, op := Op.move (Operand.tmp 0), type := 22, pos := "history.go:43", after := #[], guard := none }) (v := .slice (some ⟨g, o, none⟩) len cap) rfl (by kernel_rfl) (by kernel_rfl) (by kernel_rfl) (fun _ _ _ h => h) (Or.inl ⟨by rfl, by intro w hSw; go_simp⟩) hHeld ?_
                try simp only [Act.put, List.setIfInBounds_toArray, List.set_cons_zero, List.set_cons_succ]
                refine wpAnyH_take (i := 1) (oi := { dst := some 16, op := Op.call { callee := Callee.builtin Builtin.len, args := #[Operand.tmp 15], argTypes := #[22] }, type := 3, pos := "history.go:43", after := #[{ on := 0, ground := Ground.data }], guard := none }) (v := .int .i64 len) rfl (by kernel_rfl) (by kernel_rfl) (by kernel_rfl) (fun _ _ _ h => h) (Or.inl ⟨by rfl, by intro w hSw; go_simp⟩) hHeld ?_
                try simp only [Act.put, List.setIfInBounds_toArray, List.set_cons_zero, List.set_cons_succ]
                refine wpAnyH_take (i := 2) (oi := { dst := some 17, op := Op.binOp BinOp.gtr 3 (Operand.tmp 16) (Operand.const (Value.int IntKind.i64 0)) 3, type := 4, pos := "history.go:43", after := #[{ on := 1, ground := Ground.data }], guard := none }) (v := .bool true) rfl (by kernel_rfl) (by kernel_rfl) (by kernel_rfl) (fun _ _ _ h => h) (Or.inl ⟨by rfl, by intro w hSw; go_simp⟩) hHeld ?_
                try simp only [Act.put, List.setIfInBounds_toArray, List.set_cons_zero, List.set_cons_succ]
                refine wpAnyH_take (i := 3) (oi := { dst := some 18, op := Op.move (Operand.tmp 17), type := 4, pos := "history.go:43", after := #[{ on := 2, ground := Ground.data }], guard := none }) (v := .bool true) rfl (by kernel_rfl) (by kernel_rfl) (by kernel_rfl) (fun _ _ _ h => h) (Or.inl ⟨by rfl, by intro w hSw; go_simp⟩) hHeld ?_
                try simp only [Act.put, List.setIfInBounds_toArray, List.set_cons_zero, List.set_cons_succ]
                refine wpAnyH_take (i := 4) (oi := { dst := some 19, op := Op.fieldAddr 48 (Operand.tmp 3) 0, type := 0, pos := "history.go:43", after := #[{ on := 3, ground := Ground.guard }], guard := some (3, true) }) (v := .pointer (some ⟨w.heap.size, 0, none⟩)) rfl (by kernel_rfl) (by kernel_rfl) (by kernel_rfl) (fun _ _ _ h => h) (Or.inl ⟨by rfl, by intro w hSw; go_simp⟩) hHeld ?_
                try simp only [Act.put, List.setIfInBounds_toArray, List.set_cons_zero, List.set_cons_succ]
                refine wpAnyH_take (i := 5) (oi := { dst := some 20, op := Op.load 3 (Operand.tmp 19), type := 3, pos := "history.go:43", after := #[{ on := 4, ground := Ground.data }, { on := 3, ground := Ground.guard }], guard := some (3, true) }) (v := .int .i64 px) rfl (by kernel_rfl) (by kernel_rfl) (by kernel_rfl) (fun _ _ _ h => h) (Or.inl ⟨by rfl, by intro W hSw; have h1 := hSw.1; go_simp⟩) hHeld ?_
                try simp only [Act.put, List.setIfInBounds_toArray, List.set_cons_zero, List.set_cons_succ]
                refine wpAnyH_take (i := 6) (oi := { dst := some 21, op := Op.move (Operand.tmp 0), type := 22, pos := "history.go:43", after := #[{ on := 3, ground := Ground.guard }], guard := some (3, true) }) (v := .slice (some ⟨g, o, none⟩) len cap) rfl (by kernel_rfl) (by kernel_rfl) (by kernel_rfl) (fun _ _ _ h => h) (Or.inl ⟨by rfl, by intro w hSw; go_simp⟩) hHeld ?_
                try simp only [Act.put, List.setIfInBounds_toArray, List.set_cons_zero, List.set_cons_succ]
                refine wpAnyH_take (i := 7) (oi := { dst := some 22, op := Op.move (Operand.tmp 0), type := 22, pos := "history.go:43", after := #[{ on := 3, ground := Ground.guard }], guard := some (3, true) }) (v := .slice (some ⟨g, o, none⟩) len cap) rfl (by kernel_rfl) (by kernel_rfl) (by kernel_rfl) (fun _ _ _ h => h) (Or.inl ⟨by rfl, by intro w hSw; go_simp⟩) hHeld ?_
                try simp only [Act.put, List.setIfInBounds_toArray, List.set_cons_zero, List.set_cons_succ]
                refine wpAnyH_take (i := 8) (oi := { dst := some 23, op := Op.call { callee := Callee.builtin Builtin.len, args := #[Operand.tmp 22], argTypes := #[22] }, type := 3, pos := "history.go:43", after := #[{ on := 7, ground := Ground.data }, { on := 3, ground := Ground.guard }], guard := some (3, true) }) (v := .int .i64 len) rfl (by kernel_rfl) (by kernel_rfl) (by kernel_rfl) (fun _ _ _ h => h) (Or.inl ⟨by rfl, by intro w hSw; go_simp⟩) hHeld ?_
                try simp only [Act.put, List.setIfInBounds_toArray, List.set_cons_zero, List.set_cons_succ]
                refine wpAnyH_take (i := 9) (oi := { dst := some 24, op := Op.binOp BinOp.sub 3 (Operand.tmp 23) (Operand.const (Value.int IntKind.i64 1)) 3, type := 3, pos := "history.go:43", after := #[{ on := 8, ground := Ground.data }, { on := 3, ground := Ground.guard }], guard := some (3, true) }) (v := .int .i64 j) rfl (by kernel_rfl) (by kernel_rfl) (by kernel_rfl) (fun _ _ _ h => h) (Or.inl ⟨by rfl, by intro W hSw; have := hsub; go_simp⟩) hHeld ?_
                try simp only [Act.put, List.setIfInBounds_toArray, List.set_cons_zero, List.set_cons_succ]
                refine wpAnyH_take (i := 10) (oi := { dst := some 25, op := Op.indexAddr 22 (Operand.tmp 21) (Operand.tmp 24), type := 0, pos := "history.go:43", after := #[{ on := 6, ground := Ground.data }, { on := 9, ground := Ground.data }, { on := 3, ground := Ground.guard }], guard := some (3, true) }) (v := .pointer (some ⟨g, o + 110 * j, none⟩)) rfl (by kernel_rfl) (by kernel_rfl) (by kernel_rfl) (fun _ _ _ h => h) (Or.inl ⟨by rfl, by intro W hSw; have := ix W; go_simp⟩) hHeld ?_
                try simp only [Act.put, List.setIfInBounds_toArray, List.set_cons_zero, List.set_cons_succ]
                refine wpAnyH_take (i := 11) (oi := { dst := some 26, op := Op.fieldAddr 48 (Operand.tmp 25) 0, type := 0, pos := "history.go:43", after := #[{ on := 10, ground := Ground.data }, { on := 3, ground := Ground.guard }], guard := some (3, true) }) (v := .pointer (some ⟨g, o + 110 * j, none⟩)) rfl (by kernel_rfl) (by kernel_rfl) (by kernel_rfl) (fun _ _ _ h => h) (Or.inl ⟨by rfl, by intro w hSw; go_simp⟩) hHeld ?_
                try simp only [Act.put, List.setIfInBounds_toArray, List.set_cons_zero, List.set_cons_succ]
                refine wpAnyH_take (i := 12) (oi := { dst := some 27, op := Op.load 3 (Operand.tmp 26), type := 3, pos := "history.go:43", after := #[{ on := 11, ground := Ground.data }, { on := 3, ground := Ground.guard }], guard := some (3, true) }) (v := .int .i64 py) rfl (by kernel_rfl) (by kernel_rfl) (by kernel_rfl) (fun _ _ _ h => h) (Or.inl ⟨by rfl, by intro W hSw; have h1 := hSw.2; go_simp⟩) hHeld ?_
                try simp only [Act.put, List.setIfInBounds_toArray, List.set_cons_zero, List.set_cons_succ]
                refine wpAnyH_take (i := 13) (oi := { dst := some 28, op := Op.binOp BinOp.lss 3 (Operand.tmp 20) (Operand.tmp 27) 3, type := 4, pos := "history.go:43", after := #[{ on := 5, ground := Ground.data }, { on := 12, ground := Ground.data }, { on := 3, ground := Ground.guard }], guard := some (3, true) }) (v := .bool false) rfl (by kernel_rfl) (by kernel_rfl) (by kernel_rfl) (fun _ _ _ h => h) (Or.inl ⟨by rfl, by intro w hSw; go_simp⟩) hHeld ?_
                try simp only [Act.put, List.setIfInBounds_toArray, List.set_cons_zero, List.set_cons_succ]
                refine wpAnyH_take (i := 14) (oi := { dst := some 29, op := Op.pick (Operand.tmp 18) (Operand.tmp 28) (Operand.const (Value.bool false)), type := 4, pos := "history.go:43", after := #[{ on := 3, ground := Ground.data }, { on := 13, ground := Ground.data }], guard := none }) (v := .bool false) rfl (by kernel_rfl) (by kernel_rfl) (by kernel_rfl) (fun _ _ _ h => h) (Or.inl ⟨by rfl, by intro w hSw; go_simp⟩) hHeld ?_
                try simp only [Act.put, List.setIfInBounds_toArray, List.set_cons_zero, List.set_cons_succ]
                refine wpAnyH_take (i := 15) (oi := { dst := some 14, op := Op.assign (Operand.tmp 29), type := 4, pos := "history.go:43", after := #[{ on := 14, ground := Ground.data }, { on := 3, ground := Ground.chain }], guard := none }) (v := .bool false) rfl (by kernel_rfl) (by kernel_rfl) (by kernel_rfl) (fun _ _ _ h => h) (Or.inl ⟨by rfl, by intro w hSw; go_simp⟩) hHeld ?_
                try simp only [Act.put, List.setIfInBounds_toArray, List.set_cons_zero, List.set_cons_succ]
                refine wpAnyH_done (by kernel_rfl) ?_ _
                have HBD := hidk HB2.out.drew
                have HRD : Hid (w2.drew.rangeAt w.heap.size 1 V.toList) := HRV.out w2 HG2.out
                go_wp2_with (first
                  | (show wpList _ _ _ ({ dst := some 42, op := _, type := _, pos := _, after := _, guard := _ } :: _) _ _; refine wpList_mid_w (by rfl) 46 (.tmp 41) rfl w.heap.size 1 rfl V _ HRD.out Tryd.underlying46 rfl HSV.out ?_; try simp only [Act.put, List.setIfInBounds_toArray, List.set_cons_zero, List.set_cons_succ])
                  | fail)
                refine (HOL.out _ HBD.out).mono ?_
                rintro e w3 ⟨rfl, hb3⟩
                have HB3 := hidk (HBD.out.trans (hb3.mono HBD.out.size))
                clear hb3
                go_wp2
                go_ret
                exact ⟨by rw [HE2.out]; rfl, HB3.out⟩
            · have bk : (kx == 1) = false := by simp [hk]
              have HE2 : Hid (mayE l x = 0) := by show _ = _; rw [HLA.out hlow hfull]; simp [hk]
              go_enter Tryd.func18, Tryd.ntmps18
              go_wp2_with fail
              refine (HRL.out _ HB.out).mono ?_
              rintro e w1 ⟨rfl, hb1⟩
              have HB1 := hidk (HB.out.trans (hb1.mono HB.out.size))
              have HG1 := hidk ((hb1.block _ (heap_lt HG.out)).trans HG.out)
              clear hb1
              go_wp2_with (first
                | (show wpList _ _ _ ({ dst := some 10, op := _, type := _, pos := _, after := _, guard := _ } :: _) _ _; refine wpList_load_row_w (by rfl) 48 (.tmp 3) rfl w.heap.size rfl 48 X (0, 0) _ HG1.out Tryd.underlying48 rfl HSX.out ?_; try simp only [Act.put, List.setIfInBounds_toArray, List.set_cons_zero, List.set_cons_succ])
                | fail)
              refine (HRI.out _).mono ?_
              rintro e w2 ⟨rfl, hb2⟩
              have HB2 := hidk (HB1.out.trans (hb2.mono HB1.out.size))
              have HG2 := hidk ((hb2.block _ (heap_lt HG1.out)).trans HG1.out)
              clear hb2
              obtain ⟨c0, c1, c2, c3⟩ := HCL.out _ _ HG2.out
              have hS : w2.cell? ⟨w.heap.size, 0, none⟩ = some (.int .i64 px) ∧ w2.cell? ⟨g, o + 110 * j, none⟩ = some (.int .i64 py) := ⟨c0, HCJ.out _ HB2.out⟩
              go_wp2
              refine wp_region_held_drew (S := (fun V => V.cell? ⟨w.heap.size, 0, none⟩ = some (.int .i64 px) ∧ V.cell? ⟨g, o + 110 * j, none⟩ = some (.int .i64 py))) (by kernel_rfl) hS (fun hHeld => ?_)
              refine wpAnyH_take (i := 0) (oi := { dst := some 15, op := Op.move (Operand.tmp 0), type := 22, pos := "history.go:43", after := #[], guard := none }) (v := .slice (some ⟨g, o, none⟩) len cap) rfl (by kernel_rfl) (by kernel_rfl) (by kernel_rfl) (fun _ _ _ h => h) (Or.inl ⟨by rfl, by intro w hSw; go_simp⟩) hHeld ?_
              try simp only [Act.put, List.setIfInBounds_toArray, List.set_cons_zero, List.set_cons_succ]
              refine wpAnyH_take (i := 1) (oi := { dst := some 16, op := Op.call { callee := Callee.builtin Builtin.len, args := #[Operand.tmp 15], argTypes := #[22] }, type := 3, pos := "history.go:43", after := #[{ on := 0, ground := Ground.data }], guard := none }) (v := .int .i64 len) rfl (by kernel_rfl) (by kernel_rfl) (by kernel_rfl) (fun _ _ _ h => h) (Or.inl ⟨by rfl, by intro w hSw; go_simp⟩) hHeld ?_
              try simp only [Act.put, List.setIfInBounds_toArray, List.set_cons_zero, List.set_cons_succ]
              refine wpAnyH_take (i := 2) (oi := { dst := some 17, op := Op.binOp BinOp.gtr 3 (Operand.tmp 16) (Operand.const (Value.int IntKind.i64 0)) 3, type := 4, pos := "history.go:43", after := #[{ on := 1, ground := Ground.data }], guard := none }) (v := .bool true) rfl (by kernel_rfl) (by kernel_rfl) (by kernel_rfl) (fun _ _ _ h => h) (Or.inl ⟨by rfl, by intro w hSw; go_simp⟩) hHeld ?_
              try simp only [Act.put, List.setIfInBounds_toArray, List.set_cons_zero, List.set_cons_succ]
              refine wpAnyH_take (i := 3) (oi := { dst := some 18, op := Op.move (Operand.tmp 17), type := 4, pos := "history.go:43", after := #[{ on := 2, ground := Ground.data }], guard := none }) (v := .bool true) rfl (by kernel_rfl) (by kernel_rfl) (by kernel_rfl) (fun _ _ _ h => h) (Or.inl ⟨by rfl, by intro w hSw; go_simp⟩) hHeld ?_
              try simp only [Act.put, List.setIfInBounds_toArray, List.set_cons_zero, List.set_cons_succ]
              refine wpAnyH_take (i := 4) (oi := { dst := some 19, op := Op.fieldAddr 48 (Operand.tmp 3) 0, type := 0, pos := "history.go:43", after := #[{ on := 3, ground := Ground.guard }], guard := some (3, true) }) (v := .pointer (some ⟨w.heap.size, 0, none⟩)) rfl (by kernel_rfl) (by kernel_rfl) (by kernel_rfl) (fun _ _ _ h => h) (Or.inl ⟨by rfl, by intro w hSw; go_simp⟩) hHeld ?_
              try simp only [Act.put, List.setIfInBounds_toArray, List.set_cons_zero, List.set_cons_succ]
              refine wpAnyH_take (i := 5) (oi := { dst := some 20, op := Op.load 3 (Operand.tmp 19), type := 3, pos := "history.go:43", after := #[{ on := 4, ground := Ground.data }, { on := 3, ground := Ground.guard }], guard := some (3, true) }) (v := .int .i64 px) rfl (by kernel_rfl) (by kernel_rfl) (by kernel_rfl) (fun _ _ _ h => h) (Or.inl ⟨by rfl, by intro W hSw; have h1 := hSw.1; go_simp⟩) hHeld ?_
              try simp only [Act.put, List.setIfInBounds_toArray, List.set_cons_zero, List.set_cons_succ]
              refine wpAnyH_take (i := 6) (oi := { dst := some 21, op := Op.move (Operand.tmp 0), type := 22, pos := "history.go:43", after := #[{ on := 3, ground := Ground.guard }], guard := some (3, true) }) (v := .slice (some ⟨g, o, none⟩) len cap) rfl (by kernel_rfl) (by kernel_rfl) (by kernel_rfl) (fun _ _ _ h => h) (Or.inl ⟨by rfl, by intro w hSw; go_simp⟩) hHeld ?_
              try simp only [Act.put, List.setIfInBounds_toArray, List.set_cons_zero, List.set_cons_succ]
              refine wpAnyH_take (i := 7) (oi := { dst := some 22, op := Op.move (Operand.tmp 0), type := 22, pos := "history.go:43", after := #[{ on := 3, ground := Ground.guard }], guard := some (3, true) }) (v := .slice (some ⟨g, o, none⟩) len cap) rfl (by kernel_rfl) (by kernel_rfl) (by kernel_rfl) (fun _ _ _ h => h) (Or.inl ⟨by rfl, by intro w hSw; go_simp⟩) hHeld ?_
              try simp only [Act.put, List.setIfInBounds_toArray, List.set_cons_zero, List.set_cons_succ]
              refine wpAnyH_take (i := 8) (oi := { dst := some 23, op := Op.call { callee := Callee.builtin Builtin.len, args := #[Operand.tmp 22], argTypes := #[22] }, type := 3, pos := "history.go:43", after := #[{ on := 7, ground := Ground.data }, { on := 3, ground := Ground.guard }], guard := some (3, true) }) (v := .int .i64 len) rfl (by kernel_rfl) (by kernel_rfl) (by kernel_rfl) (fun _ _ _ h => h) (Or.inl ⟨by rfl, by intro w hSw; go_simp⟩) hHeld ?_
              try simp only [Act.put, List.setIfInBounds_toArray, List.set_cons_zero, List.set_cons_succ]
              refine wpAnyH_take (i := 9) (oi := { dst := some 24, op := Op.binOp BinOp.sub 3 (Operand.tmp 23) (Operand.const (Value.int IntKind.i64 1)) 3, type := 3, pos := "history.go:43", after := #[{ on := 8, ground := Ground.data }, { on := 3, ground := Ground.guard }], guard := some (3, true) }) (v := .int .i64 j) rfl (by kernel_rfl) (by kernel_rfl) (by kernel_rfl) (fun _ _ _ h => h) (Or.inl ⟨by rfl, by intro W hSw; have := hsub; go_simp⟩) hHeld ?_
              try simp only [Act.put, List.setIfInBounds_toArray, List.set_cons_zero, List.set_cons_succ]
              refine wpAnyH_take (i := 10) (oi := { dst := some 25, op := Op.indexAddr 22 (Operand.tmp 21) (Operand.tmp 24), type := 0, pos := "history.go:43", after := #[{ on := 6, ground := Ground.data }, { on := 9, ground := Ground.data }, { on := 3, ground := Ground.guard }], guard := some (3, true) }) (v := .pointer (some ⟨g, o + 110 * j, none⟩)) rfl (by kernel_rfl) (by kernel_rfl) (by kernel_rfl) (fun _ _ _ h => h) (Or.inl ⟨by rfl, by intro W hSw; have := ix W; go_simp⟩) hHeld ?_
              try simp only [Act.put, List.setIfInBounds_toArray, List.set_cons_zero, List.set_cons_succ]
              refine wpAnyH_take (i := 11) (oi := { dst := some 26, op := Op.fieldAddr 48 (Operand.tmp 25) 0, type := 0, pos := "history.go:43", after := #[{ on := 10, ground := Ground.data }, { on := 3, ground := Ground.guard }], guard := some (3, true) }) (v := .pointer (some ⟨g, o + 110 * j, none⟩)) rfl (by kernel_rfl) (by kernel_rfl) (by kernel_rfl) (fun _ _ _ h => h) (Or.inl ⟨by rfl, by intro w hSw; go_simp⟩) hHeld ?_
              try simp only [Act.put, List.setIfInBounds_toArray, List.set_cons_zero, List.set_cons_succ]
              refine wpAnyH_take (i := 12) (oi := { dst := some 27, op := Op.load 3 (Operand.tmp 26), type := 3, pos := "history.go:43", after := #[{ on := 11, ground := Ground.data }, { on := 3, ground := Ground.guard }], guard := some (3, true) }) (v := .int .i64 py) rfl (by kernel_rfl) (by kernel_rfl) (by kernel_rfl) (fun _ _ _ h => h) (Or.inl ⟨by rfl, by intro W hSw; have h1 := hSw.2; go_simp⟩) hHeld ?_
              try simp only [Act.put, List.setIfInBounds_toArray, List.set_cons_zero, List.set_cons_succ]
              refine wpAnyH_take (i := 13) (oi := { dst := some 28, op := Op.binOp BinOp.lss 3 (Operand.tmp 20) (Operand.tmp 27) 3, type := 4, pos := "history.go:43", after := #[{ on := 5, ground := Ground.data }, { on := 12, ground := Ground.data }, { on := 3, ground := Ground.guard }], guard := some (3, true) }) (v := .bool false) rfl (by kernel_rfl) (by kernel_rfl) (by kernel_rfl) (fun _ _ _ h => h) (Or.inl ⟨by rfl, by intro w hSw; go_simp⟩) hHeld ?_
              try simp only [Act.put, List.setIfInBounds_toArray, List.set_cons_zero, List.set_cons_succ]
              refine wpAnyH_take (i := 14) (oi := { dst := some 29, op := Op.pick (Operand.tmp 18) (Operand.tmp 28) (Operand.const (Value.bool false)), type := 4, pos := "history.go:43", after := #[{ on := 3, ground := Ground.data }, { on := 13, ground := Ground.data }], guard := none }) (v := .bool false) rfl (by kernel_rfl) (by kernel_rfl) (by kernel_rfl) (fun _ _ _ h => h) (Or.inl ⟨by rfl, by intro w hSw; go_simp⟩) hHeld ?_
              try simp only [Act.put, List.setIfInBounds_toArray, List.set_cons_zero, List.set_cons_succ]
              refine wpAnyH_take (i := 15) (oi := { dst := some 14, op := Op.assign (Operand.tmp 29), type := 4, pos := "history.go:43", after := #[{ on := 14, ground := Ground.data }, { on := 3, ground := Ground.chain }], guard := none }) (v := .bool false) rfl (by kernel_rfl) (by kernel_rfl) (by kernel_rfl) (fun _ _ _ h => h) (Or.inl ⟨by rfl, by intro w hSw; go_simp⟩) hHeld ?_
              try simp only [Act.put, List.setIfInBounds_toArray, List.set_cons_zero, List.set_cons_succ]
              refine wpAnyH_done (by kernel_rfl) ?_ _
              have HBD := hidk HB2.out.drew
              have HRD : Hid (w2.drew.rangeAt w.heap.size 1 V.toList) := HRV.out w2 HG2.out
              go_wp2
              go_ret
              exact ⟨by rw [HE2.out]; rfl, HBD.out⟩
end Go.Proofs.YtjalebncfnekiaaDoor

/- What the calls of package history answer, at this commit of the code. -/
namespace Go.Proofs.YtjalebncfnekiaaDoor
open Go.RowKit Sums Nums
set_option maxRecDepth 100000
set_option linter.unusedVariables false
theorem historyC : HistoryC where
  check := fun a len cap l w h => hCheck entryC a len cap l w h
  may := fun a len cap l x w h hx X HX => hMay entryC a len cap l x hx w h X HX
  root := fun a len cap l n w h hn D HD hT => hRoot entryC a len cap l n w h hT D HD
  head := fun a len cap l n r e t w h hn hr he ht R HR hT => hHead entryC headC a len cap l n r e t w h hn hr he ht hT R HR
  cons := fun a len cap l m n w h hm hn hT => hCons entryC a len cap l m n w h hT
end Go.Proofs.YtjalebncfnekiaaDoor

/- What the calls of package anchors answer: all of them. -/
namespace Go.Proofs.YtjalebncfnekiaaDoor
open Go.RowKit Nums Sums
set_option maxRecDepth 100000
set_option linter.unusedVariables false
theorem anchorsC : AnchorsC where
  latest := fun a len cap l r w h hr R HR => anLatest a len cap l r w h R HR
  place := fun a len cap l r s w h hr hs => anPlace a len cap l r s w h
  adm := fun master a len cap l s m p pl pc proof w M C HM HC hm h hs im hp hT => anAdmit historyC headC P5.checkC master a len cap l s m p pl pc proof w M C HM HC hm h hs im hp hT
  apart := fun master s t w M C D HM HC HD hm hs ht hT => anApart headC master s t w M C D HM HC HD hm hs ht hT
end Go.Proofs.YtjalebncfnekiaaDoor
