/- Texts of our own that the row of TopJournal leans on, part 35. -/
import Derived.Test.YtgclohgcehhfnabGreatDoorTopJournalJ8
import Derived.Test.YtgclohgcehhfnabGreatDoorTopJournalJ34
import Derived.RangeFuncNested
import Derived.RangeFuncBound
import Derived.RangeFuncCalls
import Derived.RangeFuncLeaves
import Derived.RangeFuncBox
import Derived.Shelf.Abstract
import Derived.Shelf.RegionOpen
import Derived.WalkKit
import Derived.OwnWalkIn
import Derived.TacticsInMore
import Derived.LoopNIn
import Derived.LoopIn
/- The library's iterator slices.Backward, over a list of pending writes (an int and a slice each). -/
namespace Go.Proofs.YtgclohgcehhfnabGreatDoor
open Go.RowKit Go.Shelf Nums
set_option linter.unusedVariables false
set_option maxRecDepth 100000
attribute [local go_sem] Oper.semAt_some
structure PwT where
  at_ : Int
  a : Option Addr
  len : Nat
  cap : Nat
def encW (C : Nat → PwT) (i : Nat) : Array Value := #[.int .i64 (i : Int), .agg #[.int .i64 (C i).at_, .slice (C i).a (C i).len (C i).cap]]
def KpW (Bs b : Nat) (W W' : World) : Prop := W.heap.size ≤ W'.heap.size ∧ W'.heap[Bs]? = W.heap[Bs]? ∧ W'.heap[b]? = W.heap[b]?
theorem kpW_t {Bs b : Nat} {A B C : World} (h : KpW Bs b A B) (k : KpW Bs b B C) : KpW Bs b A C := ⟨Nat.le_trans h.1 k.1, k.2.1.trans h.2.1, k.2.2.trans h.2.2⟩
theorem kpW_b {Bs b : Nat} {w : World} (h1 : Bs < w.heap.size) (h2 : b < w.heap.size) (W : World) (l : Nat) (o o' : Obj) (hl : w.heap.size ≤ l) (h : W.heap[l]? = some o) (hc : o.isCells = false) (hw : o.isWalk = false) : KpW Bs b W (W.putObj l o') := by
  have hlt := (Array.getElem?_eq_some_iff.1 h).1
  have g := grownBy_putObj' W l o'
  exact ⟨g.size, g.block Bs (by omega) (fun e => by cases e; omega), g.block b (by omega) (fun e => by cases e; omega)⟩
theorem kpW_below {Bs b : Nat} {W W' : World} (h1 : Bs < W.heap.size) (h2 : b < W.heap.size) (h : Below W.heap.size W W') : KpW Bs b W W' := ⟨h.size, h.block Bs h1, h.block b h2⟩
theorem grown_of_below9 {w w' : World} (h : Below w.heap.size w w') : w.grownBy w' none := ⟨h.os, h.tape, h.output, h.size, fun k hk _ => h.block k hk⟩
def backL (m : Nat) : List Nat := (List.range m).reverse
theorem backL_next (k : Nat) : backL (k + 1) = k :: backL k := by unfold backL; rw [List.range_succ, List.reverse_append]; rfl
def PCells (W : World) (b off m : Nat) (C : Nat → PwT) : Prop := ∀ i, i < m → W.cell? ⟨b, off + i * 2, none⟩ = some (.int .i64 (C i).at_) ∧ W.cell? ⟨b, off + i * 2 + 1, none⟩ = some (.slice (C i).a (C i).len (C i).cap)
theorem PCells.kp {Bs b off m : Nat} {C : Nat → PwT} {W W' : World} (h : PCells W b off m C) (hk : KpW Bs b W W') : PCells W' b off m C := fun i hi => ⟨(World.cell?_of_block (a := ⟨b, off + i * 2, none⟩) hk.2.2).trans (h i hi).1, (World.cell?_of_block (a := ⟨b, off + i * 2 + 1, none⟩) hk.2.2).trans (h i hi).2⟩
set_option maxHeartbeats 4000000 in
theorem back1_in (n : Nat) (hn : 1 ≤ n) (l Bs b off m cap : Nat) (C : Nat → PwT) (hm : m ≤ 9223372036854775807) (J Jx : List Nat → World → Prop)
    (W : World) (hJ : AbidesFrom W.heap.size J) (hbW : b < W.heap.size) (hsW : Bs < W.heap.size)
    (hY : ∀ pre x W, J pre W → pre.length < m → YieldAt Fence.wide (n - 1) Tryz.prog l (encW C x) W fun e W' =>
      (e = .returned (.bool true) ∧ J (pre ++ [x]) W' ∧ KpW Bs b W W') ∨ (e = .returned (.bool false) ∧ Jx (pre ++ [x]) W'))
    (hBs : W.cell? ⟨Bs, 0, none⟩ = some (.slice (some ⟨b, off, none⟩) m cap)) (hc : PCells W b off m C) (h0 : J [] W) :
    CallsIn Fence.wide n Tryz.prog 58 #[.func (.yield l) #[] #[], .pointer (some ⟨Bs, 0, none⟩)] W fun e W' => (∃ v, e = .returned v) ∧
      ((∃ ys, ys = backL m ∧ J ys W') ∨ (∃ pre, pre <+: backL m ∧ Jx pre W')) := by
  have hz : ∀ w, (sizeOf 83).run Tryz.prog w = .ok 2 w := fun w => by
    have h : (Tryz.prog.info? 83).map (·.size) = some 2 := by kernel_rfl
    cases hq : Tryz.prog.info? 83 with
    | none => rw [hq] at h; cases h
    | some i =>
      rw [hq] at h
      simp only [Option.map_some, Option.some.injEq] at h
      simp [sizeOf, typeInfo, hq, h]
  have hw0 := wrap_int ((m : Int) - 1) (by omega) (by omega)
  refine callsIn_of_wp Tryz.func58 rfl trivial ?_ rfl
  simp only [Tryz.ntmps58, List.size_toArray, List.length_cons, List.length_nil, Nat.reduceAdd, Nat.reduceSub, Array.replicate_succ, Array.replicate_zero, List.push_toArray, List.append_toArray, List.nil_append, List.cons_append]
  gi_wp2
  gi_loopw [3] (fun i wr => ∃ (k : Nat) (z : Int) (pre : List Nat), k ≤ m ∧ i = .int .i64 z ∧ Hid (z = (k : Int) - 1) ∧ Hid (pre.length + k = m) ∧ Hid (backL m = pre ++ backL k) ∧ J pre wr ∧ KpW Bs b W wr)
    (fun i _ => (intOf i + 1).toNat)
  case atStart => exact ⟨m, _, [], Nat.le_refl _, rfl, rfl, by show 0 + m = m; omega, rfl, h0, ⟨Nat.le_refl _, rfl, rfl⟩⟩
  case round =>
    obtain ⟨k, z, pre, hk, rfl, HZ, HP, HL, hJs, hkp⟩ := hrel
    cases k with
    | zero =>
      have hd : decide ((0 : Int) ≤ z) = false := by rw [decide_eq_false_iff_not]; have := HZ.out; omega
      have HE : Hid (pre = backL m) := by show _ = _; rw [HL.out]; simp [backL]
      clear hY
      gi_wp2
      go_end0
      exact ⟨⟨_, rfl⟩, .inl ⟨pre, HE.out, hJs⟩⟩
    | succ j =>
      obtain rfl : z = (j : Int) := by have := HZ.out; omega
      have hd : decide ((0 : Int) ≤ (j : Int)) = true := by rw [decide_eq_true_eq]; omega
      have hlt : j < m := by omega
      have hw := wrap_int ((j : Int) - 1) (by omega) (by omega)
      have hbx : wr.cell? ⟨Bs, 0, none⟩ = some (.slice (some ⟨b, off, none⟩) m cap) := (World.cell?_of_block (a := ⟨Bs, 0, none⟩) hkp.2.1).trans hBs
      obtain ⟨c0, c1⟩ := hc.kp hkp j hlt
      have ix : ∀ V, (Instr.indexAt 60 (.slice (some ⟨b, off, none⟩) m cap) (.int .i64 (j : Int))).run Tryz.prog V = .ok (.pointer (some ⟨b, off + j * 2, none⟩)) V := fun V => by
        simp [Instr.indexAt, asIntOf, run_underlying Tryz.underlying60, hz, hlt]
        rw [add_plain]
      have HX : Hid (∀ W1, Below wr.heap.size wr W1 → ∃ fn tmps assign body, (Instr.yield l #[.int .i64 (j : Int), .agg #[.int .i64 (C j).at_, .slice (C j).a (C j).len (C j).cap]]).run Tryz.prog W1 = .ok (.round l fn tmps assign body) W1 ∧
            RoundIn Fence.wide (n - 1) Tryz.prog l fn tmps assign body W1 fun e W' => ∃ bb, e = .returned (.bool bb) ∧ ((bb = true ∧ J (pre ++ [j]) W' ∧ KpW Bs b W1 W') ∨ (bb = false ∧ Jx (pre ++ [j]) W'))) := by
        intro W1 hb1
        obtain ⟨fn, tmps, assign, body, hy, hR⟩ := hY pre j W1 (hJ pre wr W1 none hJs (grown_of_below9 hb1) (fun r e => by cases e)) (by have := HP.out; omega)
        refine ⟨fn, tmps, assign, body, hy, hR.mono ?_⟩
        rintro e W' (⟨he, h2, h3⟩ | ⟨he, h2⟩)
        · exact ⟨true, he, .inl ⟨rfl, h2, h3⟩⟩
        · exact ⟨false, he, .inr ⟨rfl, h2⟩⟩
      obtain ⟨fn, tmps, assign, body, hy, hR⟩ := HX.out wr (Below.refl _ _)
      clear hY hc hBs HX
      have hmo : Tryz.prog.follows Departure.mixedOrders = true := by kernel_rfl
      gi_wp2_with fail
      refine hR.mono ?_
      rintro e W3 ⟨bb, rfl, hbb⟩
      rcases hbb with ⟨rfl, hJ3, hk3⟩ | ⟨rfl, hJx3⟩
      · have HN : Hid (backL m = (pre ++ [j]) ++ backL j) := by show _ = _; rw [HL.out, backL_next]; simp
        have HP2 : Hid ((pre ++ [j]).length + j = m) := by show _ = _; have := HP.out; rw [List.length_append]; show pre.length + 1 + j = m; omega
        have HKP := kpW_t hkp hk3
        clear hy hR hkp hk3 c0 c1 hbx
        gi_wp2
        go_roundw
        case rel => exact ⟨j, _, pre ++ [j], by omega, rfl, rfl, HP2, HN, hJ3, HKP⟩
        case measure => simp [intOf]
      · have HPX : Hid ((pre ++ [j]) <+: backL m) := by show _ <+: _; rw [HL.out, backL_next]; exact ⟨backL j, by simp⟩
        clear hy hR hkp c0 c1 hbx
        gi_wp2
        refine bodyPost_ret (results_none rfl _ _ _) rfl ?_
        exact ⟨⟨_, rfl⟩, .inr ⟨_, HPX.out, hJx3⟩⟩
set_option maxHeartbeats 1000000 in
theorem back1_none (n : Nat) (l Bs cap : Nat) (a : Option Addr) (J : List Nat → World → Prop) (W : World) (hBs : W.cell? ⟨Bs, 0, none⟩ = some (.slice a 0 cap)) (h0 : J [] W) :
    CallsIn Fence.wide n Tryz.prog 58 #[.func (.yield l) #[] #[], .pointer (some ⟨Bs, 0, none⟩)] W fun e W' => (∃ v, e = .returned v) ∧ J [] W' := by
  refine callsIn_of_wp Tryz.func58 rfl trivial ?_ rfl
  simp only [Tryz.ntmps58, List.size_toArray, List.length_cons, List.length_nil, Nat.reduceAdd, Nat.reduceSub, Array.replicate_succ, Array.replicate_zero, List.push_toArray, List.append_toArray, List.nil_append, List.cons_append]
  gi_wp2
  gi_loopw [3] (fun i wr => i = .int .i64 (-1) ∧ J [] wr) (fun _ _ => 0)
  case atStart => exact ⟨rfl, h0⟩
  case round =>
    obtain ⟨rfl, hJs⟩ := hrel
    gi_wp2
    go_end0
    exact ⟨⟨_, rfl⟩, hJs⟩
set_option maxHeartbeats 1000000 in
theorem back_in (n : Nat) (a : Option Addr) (len cap : Nat) (w : World) :
    CallsIn Fence.wide n Tryz.prog 33 #[.slice a len cap] w fun e w' => e = .returned (.func (.func 58) #[] #[.pointer (some ⟨w.heap.size, 0, none⟩)]) ∧ w' = w.alloc (.cells #[.slice a len cap] 60) := by
  refine callsIn_of_wp Tryz.func33 rfl trivial ?_ rfl
  simp only [Tryz.ntmps33, List.size_toArray, List.length_cons, List.length_nil, Nat.reduceAdd, Nat.reduceSub, Array.replicate_succ, Array.replicate_zero, List.push_toArray, List.append_toArray, List.nil_append, List.cons_append]
  gi_wp2
  go_ret
  exact ⟨rfl, rfl⟩
theorem back_stops (n : Nat) (hn : 1 ≤ n) (Bs b off m cap : Nat) (C : Nat → PwT) (w : World) (hm : m ≤ 9223372036854775807) (hBs : Bs < w.heap.size) (hb : b < w.heap.size)
    (hc : w.cell? ⟨Bs, 0, none⟩ = some (.slice (some ⟨b, off, none⟩) m cap)) (hC : PCells w b off m C) :
    SeqStopsK Fence.wide n Tryz.prog 58 #[.pointer (some ⟨Bs, 0, none⟩)] (encW C) (KpW Bs b) (fun ys => ys = backL m) (fun pre => pre <+: backL m) m w := fun l J Jx W hW hJ _ hY h0 =>
  back1_in n hn l Bs b off m cap C hm J Jx W hJ (Nat.lt_of_lt_of_le hb hW.size) (Nat.lt_of_lt_of_le hBs hW.size) hY ((hW.cell (p := ⟨Bs, 0, none⟩) hBs).trans hc) (hC.kp (kpW_below (Bs := Bs) hBs hb hW)) h0
theorem back_none (n : Nat) (Bs cap : Nat) (a : Option Addr) (C : Nat → PwT) (Kp : World → World → Prop) (w : World) (hBs : Bs < w.heap.size) (hc : w.cell? ⟨Bs, 0, none⟩ = some (.slice a 0 cap)) :
    SeqStopsK Fence.wide n Tryz.prog 58 #[.pointer (some ⟨Bs, 0, none⟩)] (encW C) Kp (fun ys => ys = backL 0) (fun pre => pre <+: backL 0) 0 w := fun l J Jx W hW hJ _ hY h0 =>
  (back1_none n l Bs cap a J W ((hW.cell (p := ⟨Bs, 0, none⟩) hBs).trans hc) h0).mono fun e W' ⟨he, hj⟩ => ⟨he, .inl ⟨[], rfl, hj⟩⟩
end Go.Proofs.YtgclohgcehhfnabGreatDoor
/- The program's disk as it lies. -/
namespace Go.Proofs.YtgclohgcehhfnabGreatDoor
open Go.RowKit Nums
set_option linter.unusedVariables false
set_option linter.unusedSimpArgs false
set_option maxRecDepth 100000
def lfD (D : DkT) : Int := if D.stops = true then D.left else 0
def dCells (g n : Nat) (pv : Value) (D : DkT) : Array Value := #[.slice (some ⟨g, 0, none⟩) n n, pv, .bool D.stops, .int .i64 (lfD D)]
def pwCells (C : Nat → PwT) (m : Nat) : List Value := (List.range m).flatMap fun i => [.int .i64 (C i).at_, .slice (C i).a (C i).len (C i).cap]
structure LiesD (w : World) (p g : Nat) (pv : Value) (C : Nat → PwT) (D : DkT) : Prop where
  row : w.heap[p]? = some (.cells (dCells g D.safe.length pv D) 62 (0, 0))
  dn : D.down = (D.stops && decide (D.left = 0))
  now : w.heap[g]? = some (.cells (cellsOf (nowB D)).toArray 5 (0, 0))
  list : w.ownsRow 0 83 2 pv D.puts.length (pwCells C D.puts.length)
  old : ∀ i (h : i < D.puts.length), (C i).at_ = (D.puts[i].1 : Int) ∧ Reads w (C i).a (C i).len (C i).cap (oldB (foldK D i) D.puts[i])
  apart : ∀ i, i < D.puts.length → ∀ b off, (C i).a = some ⟨b, off, none⟩ → 0 < (C i).len → b ≠ p ∧ b ≠ g ∧ pv.ownBlock ≠ some b
def memS (p g : Nat) (pv : Value) (C : Nat → PwT) (m : Nat) (b : Nat) : Prop := b = p ∨ b = g ∨ pv.ownBlock = some b ∨ ∃ i, i < m ∧ ∃ off, (C i).a = some ⟨b, off, none⟩ ∧ 0 < (C i).len
structure OAt (w : World) (p : Nat) (D : DkT) (S : Nat → Prop) : Prop where
  ok : OkD D
  lies : ∃ g pv C, LiesD w p g pv C D ∧ ∀ b, S b ↔ memS p g pv C D.puts.length b
theorem own_lt {w : World} {t : TypeId} {pv : Value} {m : Nat} {xs : List Value} (h : w.ownsRow 0 t 2 pv m xs) : ∀ b, pv.ownBlock = some b → b < w.heap.size := by
  intro b e
  rcases h.2 with ⟨rfl, _⟩ | ⟨g, cap, cur, rfl, _, hg, _⟩
  · cases e
  · obtain rfl : g = b := Option.some.inj e
    exact heap_lt hg
theorem own_same {w w' : World} {t : TypeId} {pv : Value} {m : Nat} {xs : List Value} (h : w.ownsRow 0 t 2 pv m xs) (hb : ∀ b, pv.ownBlock = some b → w'.heap[b]? = w.heap[b]?) : w'.ownsRow 0 t 2 pv m xs := by
  refine ⟨h.1, ?_⟩
  rcases h.2 with ⟨rfl, h2⟩ | ⟨g, cap, cur, rfl, h0, hg, h3⟩
  · exact .inl ⟨rfl, h2⟩
  · exact .inr ⟨g, cap, cur, rfl, h0, (hb g rfl).trans hg, h3⟩
theorem reads_same {w w' : World} {a : Option Addr} {len cap : Nat} {l : List UInt8} (h : Reads w a len cap l) (hs : w.heap.size ≤ w'.heap.size) (hb : ∀ b off, a = some ⟨b, off, none⟩ → 0 < len → w'.heap[b]? = w.heap[b]?) : Reads w' a len cap l := by
  obtain ⟨h1, h2, h3, h4⟩ := h
  refine ⟨h1, h2, h3, ?_⟩
  rcases h4 with h4 | h4 | ⟨b, off, e, hlt, hc⟩
  · exact .inl h4
  · exact .inr (.inl h4)
  · by_cases h0 : len = 0
    · exact .inr (.inl ⟨_, e, h0⟩)
    · exact .inr (.inr ⟨b, off, e, Nat.lt_of_lt_of_le hlt hs, fun i hi => (World.cell?_of_block (a := ⟨b, off + i, none⟩) (hb b off e (by omega))).trans (hc i hi)⟩)
theorem reads_lt {w : World} {a : Option Addr} {len cap : Nat} {l : List UInt8} (h : Reads w a len cap l) (b off : Nat) (e : a = some ⟨b, off, none⟩) (h0 : 0 < len) : b < w.heap.size := by
  rcases h.2.2.2 with ⟨e2, _⟩ | ⟨ad, e2, h2⟩ | ⟨b', off', e2, hlt, _⟩
  · rw [e2] at e; cases e
  · omega
  · rw [e2] at e; cases e; exact hlt
theorem OAt.lt {w : World} {p : Nat} {D : DkT} {S : Nat → Prop} (h : OAt w p D S) : ∀ b, S b → b < w.heap.size := by
  obtain ⟨ok, g, pv, C, hL, hS⟩ := h
  intro b hb
  rcases (hS b).1 hb with rfl | rfl | e | ⟨i, hi, off, e, h0⟩
  · exact heap_lt hL.row
  · exact heap_lt hL.now
  · exact own_lt hL.list b e
  · exact reads_lt (hL.old i hi).2 b off e h0
theorem LiesD.keep {w w' : World} {p g : Nat} {pv : Value} {C : Nat → PwT} {D : DkT} (h : LiesD w p g pv C D) (hs : w.heap.size ≤ w'.heap.size) (hb : ∀ b, memS p g pv C D.puts.length b → w'.heap[b]? = w.heap[b]?) : LiesD w' p g pv C D :=
  ⟨(hb p (.inl rfl)).trans h.row, h.dn, (hb g (.inr (.inl rfl))).trans h.now, own_same h.list fun b e => hb b (.inr (.inr (.inl e))),
    fun i hi => ⟨(h.old i hi).1, reads_same (h.old i hi).2 hs fun b off e h0 => hb b (.inr (.inr (.inr ⟨i, hi, off, e, h0⟩)))⟩, h.apart⟩
theorem OAt.keep {w w' : World} {p : Nat} {D : DkT} {S : Nat → Prop} (h : OAt w p D S) (hs : w.heap.size ≤ w'.heap.size) (hb : ∀ b, S b → w'.heap[b]? = w.heap[b]?) : OAt w' p D S := by
  obtain ⟨ok, g, pv, C, hL, hS⟩ := h
  exact ⟨ok, g, pv, C, hL.keep hs fun b e => hb b ((hS b).2 e), hS⟩
theorem LiesD.c {w : World} {p g : Nat} {pv : Value} {C : Nat → PwT} {D : DkT} (h : LiesD w p g pv C D) : w.cell? ⟨p, 0, none⟩ = some (.slice (some ⟨g, 0, none⟩) D.safe.length D.safe.length) ∧ w.cell? ⟨p, 1, none⟩ = some pv ∧ w.cell? ⟨p, 2, none⟩ = some (.bool D.stops) ∧ w.cell? ⟨p, 3, none⟩ = some (.int .i64 (lfD D)) :=
  ⟨by rw [cell_of_row w p 0 _ _ (0, 0) h.row]; rfl, by rw [cell_of_row w p 1 _ _ (0, 0) h.row]; rfl, by rw [cell_of_row w p 2 _ _ (0, 0) h.row]; rfl, by rw [cell_of_row w p 3 _ _ (0, 0) h.row]; rfl⟩
set_option maxHeartbeats 1000000 in
theorem oRoom (w : World) (p : Nat) (D : DkT) (S : Nat → Prop) (h : OAt w p D S) : Calls Tryz.prog 17 #[ptr p] w fun e w' => e = .returned (.int .i64 D.safe.length) ∧ Below w.heap.size w w' := by
  have hr := h.ok.room
  obtain ⟨ok, g, pv, C, hL, hS⟩ := h
  obtain ⟨c0, c1, c2, c3⟩ := hL.c
  obtain ⟨n, Hn⟩ : ∃ n, Hid (n = D.safe.length) := ⟨_, hidd rfl⟩
  rw [← Hn.out] at c0 hr ⊢
  have hn : n ≤ 9223372036854775807 := by omega
  clear hL hS ok c1 c2 c3
  unfold ptr
  go_enter Tryz.func17, Tryz.ntmps17
  go_wp2
  go_ret
  exact ⟨rfl, Below.refl _ _⟩
set_option maxHeartbeats 1000000 in
theorem lDown (w : World) (p g : Nat) (pv : Value) (C : Nat → PwT) (D : DkT) (h : LiesD w p g pv C D) : Calls Tryz.prog 79 #[ptr p] w fun e w' => e = .returned (.bool D.down) ∧ w' = w := by
  have dn := h.dn
  obtain ⟨c0, c1, c2, c3⟩ := h.c
  unfold ptr
  unfold lfD at c3
  rw [dn]
  clear h c0 c1 dn
  cases hs : D.stops
  · rw [hs] at c2
    clear hs c3
    go_enter Tryz.func79, Tryz.ntmps79
    go_wp2
    go_ret
    exact ⟨rfl, rfl⟩
  · rw [hs] at c2
    rw [if_pos hs] at c3
    obtain ⟨l, Hl⟩ : ∃ l, Hid (l = D.left) := ⟨_, hidd rfl⟩
    rw [← Hl.out] at c3 ⊢
    clear hs
    go_enter Tryz.func79, Tryz.ntmps79
    go_wp2
    go_ret
    exact ⟨rfl, rfl⟩
theorem oDown (w : World) (p : Nat) (D : DkT) (S : Nat → Prop) (h : OAt w p D S) : Calls Tryz.prog 79 #[ptr p] w fun e w' => e = .returned (.bool D.down) ∧ Below w.heap.size w w' := by
  obtain ⟨ok, g, pv, C, hL, hS⟩ := h
  refine (lDown w p g pv C D hL).mono ?_
  rintro e w' ⟨rfl, rfl⟩
  exact ⟨rfl, Below.refl _ _⟩
def refE (b : Bool) : Int := if b = true then 80 else 0
set_option maxHeartbeats 1000000 in
theorem lRef (w : World) (p g : Nat) (pv : Value) (C : Nat → PwT) (D : DkT) (h : LiesD w p g pv C D) : Calls Tryz.prog 56 #[ptr p] w fun e w' => e = .returned (.int .i64 (refE D.down)) ∧ w' = w := by
  have HD := hidd (lDown w p g pv C D h)
  unfold ptr
  unfold ptr at HD
  clear h
  cases hd : D.down
  · rw [hd] at HD
    show Calls _ _ _ _ fun e w' => e = .returned (.int .i64 0) ∧ w' = w
    clear hd
    go_enter Tryz.func56, Tryz.ntmps56
    go_wp2_with fail
    refine HD.out.mono ?_
    rintro e W1 ⟨rfl, rfl⟩
    clear HD
    go_wp2
    go_ret
    exact ⟨rfl, rfl⟩
  · rw [hd] at HD
    show Calls _ _ _ _ fun e w' => e = .returned (.int .i64 80) ∧ w' = w
    clear hd
    go_enter Tryz.func56, Tryz.ntmps56
    go_wp2_with fail
    refine HD.out.mono ?_
    rintro e W1 ⟨rfl, rfl⟩
    clear HD
    go_wp2
    go_ret
    exact ⟨rfl, rfl⟩
set_option maxHeartbeats 2000000 in
theorem oHas (w : World) (p g : Nat) (pv : Value) (C : Nat → PwT) (D : DkT) (h : LiesD w p g pv C D) (hr : D.safe.length ≤ 1000000) (a k : Int) (ha : In64 a) (hk : In64 k) :
    Calls Tryz.prog 68 #[ptr p, .int .i64 a, .int .i64 k] w fun e w' => e = .returned (.bool (inB D.safe.length a k)) ∧ w' = w := by
  obtain ⟨c0, -⟩ := h.c
  obtain ⟨n, Hn⟩ : ∃ n, Hid (n = D.safe.length) := ⟨_, hidd rfl⟩
  unfold In64 at ha hk
  unfold ptr inB
  rw [← Hn.out] at c0 hr ⊢
  have hm : n ≤ 9223372036854775807 := by omega
  clear h Hn
  by_cases h1 : 0 ≤ a
  · have e1 : decide ((0 : Int) ≤ a) = true := by rw [decide_eq_true_eq]; exact h1
    by_cases h2 : 0 ≤ k
    · have e2 : decide ((0 : Int) ≤ k) = true := by rw [decide_eq_true_eq]; exact h2
      have hw1 := wrap_int ((n : Int) - a) (by omega) (by omega)
      by_cases h4 : k ≤ (n : Int) - a
      · have e4 : decide (k ≤ (n : Int) - a) = true := by rw [decide_eq_true_eq]; exact h4
        have hx : decide (0 ≤ a ∧ 0 ≤ k ∧ a ≤ (n : Int) ∧ k ≤ (n : Int) - a) = true := by rw [decide_eq_true_eq]; exact ⟨h1, h2, by omega, h4⟩
        rw [hx]
        clear hx
        go_enter Tryz.func68, Tryz.ntmps68
        go_wp2
        go_ret
        exact ⟨by simp [*], rfl⟩
      · have e4 : decide (k ≤ (n : Int) - a) = false := by rw [decide_eq_false_iff_not]; exact h4
        have hx : decide (0 ≤ a ∧ 0 ≤ k ∧ a ≤ (n : Int) ∧ k ≤ (n : Int) - a) = false := by rw [decide_eq_false_iff_not]; omega
        rw [hx]
        clear hx
        go_enter Tryz.func68, Tryz.ntmps68
        go_wp2
        go_ret
        exact ⟨by simp [*], rfl⟩
    · have e2 : decide ((0 : Int) ≤ k) = false := by rw [decide_eq_false_iff_not]; exact h2
      have hx : decide (0 ≤ a ∧ 0 ≤ k ∧ a ≤ (n : Int) ∧ k ≤ (n : Int) - a) = false := by rw [decide_eq_false_iff_not]; omega
      rw [hx]
      clear hx
      go_enter Tryz.func68, Tryz.ntmps68
      go_wp2
      go_ret
      exact ⟨by simp [*], rfl⟩
  · have e1 : decide ((0 : Int) ≤ a) = false := by rw [decide_eq_false_iff_not]; exact h1
    have hx : decide (0 ≤ a ∧ 0 ≤ k ∧ a ≤ (n : Int) ∧ k ≤ (n : Int) - a) = false := by rw [decide_eq_false_iff_not]; omega
    rw [hx]
    clear hx
    go_enter Tryz.func68, Tryz.ntmps68
    go_wp2
    go_ret
    exact ⟨by simp [*], rfl⟩
theorem LiesD.fz {w : World} {p g : Nat} {pv : Value} {C : Nat → PwT} {D : DkT} (h : LiesD w p g pv C D) (i : Nat) : w.frozen? ⟨p, i, none⟩ = false := frozen_of_row w p i _ _ h.row
theorem row_ne {w : World} {a b : Nat} {cs ds : Array Value} {t u : TypeId} {m n : Nat × Nat} (h : w.heap[a]? = some (.cells cs t m)) (k : w.heap[b]? = some (.cells ds u n)) (e : t ≠ u) : a ≠ b := by
  rintro rfl
  rw [h] at k
  injection k with k
  injection k with _ k
  exact e k
theorem LiesD.set {w w' : World} {p g : Nat} {pv : Value} {C : Nat → PwT} {D D' : DkT} (h : LiesD w p g pv C D) (hr : w'.heap[p]? = some (.cells (dCells g D.safe.length pv D') 62 (0, 0))) (hg : w.grownBy w' (some p)) (hs : D'.safe = D.safe) (hp : D'.puts = D.puts) (hdn : D'.down = (D'.stops && decide (D'.left = 0))) : LiesD w' p g pv C D' := by
  have hgp : g ≠ p := row_ne h.now h.row (by decide)
  have hlp : ∀ b, pv.ownBlock = some b → b ≠ p := by
    rintro b e rfl
    rcases h.list.2 with ⟨rfl, _⟩ | ⟨q, cap, cur, rfl, _, hq, _⟩
    · cases e
    · obtain rfl : q = b := Option.some.inj e
      exact row_ne hq h.row (by decide) rfl
  have hf : ∀ i, foldK D' i = foldK D i := fun i => by unfold foldK; rw [hs, hp]
  refine ⟨by rw [hs]; exact hr, hdn, ?_, ?_, ?_, ?_⟩
  · have : nowB D' = nowB D := by unfold nowB; rw [hs, hp]
    rw [this]
    exact (hg.block g (heap_lt h.now) (fun e => hgp (Option.some.inj e))).trans h.now
  · rw [hp]
    exact own_same h.list fun b e => hg.block b (own_lt h.list b e) (fun e2 => hlp b e (Option.some.inj e2))
  · intro i hi
    have hi' : i < D.puts.length := by rw [← hp]; exact hi
    have e : D'.puts[i] = D.puts[i] := by simp only [hp]
    rw [e, hf]
    exact ⟨(h.old i hi').1, reads_same (h.old i hi').2 hg.size fun b off e h0 => hg.block b (reads_lt (h.old i hi').2 b off e h0) (fun e2 => (h.apart i hi' b off e h0).1 (Option.some.inj e2))⟩
  · rw [hp]; exact h.apart
theorem stepD_dn {D : DkT} (ok : OkD D) (hd : D.down = false) (h : D.down = (D.stops && decide (D.left = 0))) : (stepD D).down = ((stepD D).stops && decide ((stepD D).left = 0)) := by
  unfold stepD
  by_cases hs : D.stops = true
  · rw [if_pos hs]
    have h1 := ok.stop hs hd
    show decide (D.left - 1 ≤ 0) = (D.stops && decide (D.left - 1 = 0))
    rw [hs, Bool.true_and]
    congr 1
    exact propext ⟨fun _ => by omega, fun _ => by omega⟩
  · rw [if_neg hs]; exact h
set_option maxHeartbeats 2000000 in
theorem oCount (w : World) (p g : Nat) (pv : Value) (C : Nat → PwT) (D : DkT) (h : LiesD w p g pv C D) (ok : OkD D) (hd : D.down = false) :
    Calls Tryz.prog 57 #[ptr p] w fun e w' => (∃ v, e = .returned v) ∧ LiesD w' p g pv C (stepD D) ∧ w.grownBy w' (some p) := by
  have HR := hidd h
  have hl := ok.left
  have hdn := stepD_dn ok hd h.dn
  obtain ⟨c0, c1, c2, c3⟩ := h.c
  have f3 := h.fz 3
  unfold lfD at c3
  unfold ptr
  by_cases hs : D.stops = true
  · rw [hs] at c2
    rw [if_pos hs] at c3
    have hw1 := wrap_int (D.left - 1) (by omega) (by omega)
    have h1 := Go.heap_setCell_same w p 3 _ _ (.int .i64 (D.left - 1)) h.row
    have HG := hidd (Lib.grownBy_setCell w p 3 (.int .i64 (D.left - 1)))
    have HM : Hid (LiesD (w.setCell ⟨p, 3, none⟩ (.int .i64 (D.left - 1))) p g pv C (stepD D)) := by
      refine HR.out.set ?_ HG.out (stepD_safe D).1 (stepD_safe D).2.1 hdn
      rw [h1]
      unfold stepD
      rw [if_pos hs]
      simp [dCells, lfD, hs]
    obtain ⟨l, hll⟩ : ∃ l, l = D.left := ⟨_, rfl⟩
    clear h1 hdn
    rw [← hll] at c3 hw1 hl HG HM
    clear h hs HR hll c0 c1 ok hd
    go_enter Tryz.func57, Tryz.ntmps57
    go_wp2
    refine bodyPost_end (results_none rfl _ _ _) rfl ?_
    exact ⟨⟨_, rfl⟩, HM.out, HG.out⟩
  · have hs' : D.stops = false := by cases hh : D.stops; rfl; exact absurd hh hs
    rw [hs'] at c2
    have e : stepD D = D := by unfold stepD; rw [if_neg hs]
    rw [e]
    clear h hs hs' e hdn c0 c1 c3 f3 ok hd hl
    go_enter Tryz.func57, Tryz.ntmps57
    go_wp2
    refine bodyPost_end (results_none rfl _ _ _) rfl ?_
    exact ⟨⟨_, rfl⟩, HR.out, World.grownBy.refl _ _⟩
end Go.Proofs.YtgclohgcehhfnabGreatDoor
