/- Texts of our own that the row of TopSigned leans on, part 3. -/
import Derived.Test.YtdnhnjimhbbababDoorTopSignedJ2
import Derived.RangeFuncNested
import Derived.RangeFuncBound
import Derived.RangeFuncCalls
import Derived.RangeFuncLeaves
import Derived.RangeFuncBox
import Derived.Shelf.Abstract
import Derived.Shelf.RegionOpen
import Derived.WalkKit
import Derived.OwnWalkIn
import Derived.TacticsInMore
import Derived.LoopNIn
import Derived.LoopIn

/- The iterator of pack.judged: each field of a row with what is wrong with it where it stands. -/
namespace Go.Proofs.YtdnhnjimhbbababDoor.P7
open Go.RowKit Go.Shelf Nums
set_option maxRecDepth 100000

attribute [local go_sem] Oper.semAt_some
def encJ (x : Jd) : Array Value := #[.agg #[.int .i64 x.tag, .string x.d], .int .i64 x.e]
/-- What a round keeps: all below n₀, and all fields' blocks. -/
def KpJ (n₀ : Nat) (W W' : World) : Prop := Below n₀ W W' ∧ ∀ (b : Nat) (c : Array Value) (m : Nat × Nat), W.heap[b]? = some (Obj.cells c 69 m) → W'.heap[b]? = some (Obj.cells c 69 m)
theorem kpJ_t {n₀ : Nat} {A B C : World} (h : KpJ n₀ A B) (k : KpJ n₀ B C) : KpJ n₀ A C := ⟨h.1.trans k.1, fun b c m hb => k.2 b c m (h.2 b c m hb)⟩
theorem kpJ_b {n₀ : Nat} {w : World} (hn : n₀ ≤ w.heap.size) (W : World) (l : Nat) (o o' : Obj) (hl : w.heap.size ≤ l) (h : W.heap[l]? = some o) (hc : o.isCells = false) (hw : o.isWalk = false) : KpJ n₀ W (W.putObj l o') := by
  refine ⟨belowK_b hn W l o o' hl h hc hw, fun b c m hb => ?_⟩
  have hne : some b ≠ some l := by
    intro e
    cases e
    rw [h] at hb
    cases hb
    cases hc
  rw [(grownBy_putObj' W l o').block b (Array.getElem?_eq_some_iff.1 hb).1 hne]
  exact hb
theorem grown_of_below {w w' : World} (h : Below w.heap.size w w') : w.grownBy w' none := ⟨h.os, h.tape, h.output, h.size, fun k hk _ => h.block k hk⟩
/-- A slice of fields that can be read: its fields are fs. -/
def FReads (n₀ : Nat) (w : World) (a : Option Addr) (len cap : Nat) (fs : List (Int × ByteArray)) : Prop :=
  fs.length = len ∧ len ≤ cap ∧ cap ≤ 9223372036854775807 ∧ (∀ f ∈ fs, f.2.size ≤ maxLen) ∧
  ((a = none ∧ cap = 0) ∨ (∃ ad, a = some ad ∧ len = 0) ∨ ∃ b off, a = some ⟨b, off, none⟩ ∧ b < n₀ ∧ ∀ (i : Nat) (h : i < fs.length), w.cell? ⟨b, off + i * 2, none⟩ = some (.int .i64 fs[i].1) ∧ w.cell? ⟨b, off + i * 2 + 1, none⟩ = some (.string fs[i].2))
set_option maxRecDepth 100000 in
set_option maxHeartbeats 2000000 in
theorem judged1_in (n : Nat) (hn : 1 ≤ n) (l Bs n₀ b off len cap : Nat) (fs : List (Int × ByteArray)) (hlen : fs.length = len) (hm : len ≤ 9223372036854775807) (hb : b < n₀) (hfs : ∀ f ∈ fs, f.2.size ≤ maxLen) (J Jx : List Jd → World → Prop)
    (W : World) (hJ : AbidesFrom W.heap.size J) (hn₀ : n₀ ≤ W.heap.size)
    (hY : ∀ pre x W, J pre W → pre.length < len → YieldAt Fence.wide (n - 1) Tryd.prog l (encJ x) W fun e W' =>
      (e = .returned (.bool true) ∧ J (pre ++ [x]) W' ∧ KpJ n₀ W W') ∨ (e = .returned (.bool false) ∧ Jx (pre ++ [x]) W'))
    (hBs : W.cell? ⟨Bs, 0, none⟩ = some (.slice (some ⟨b, off, none⟩) len cap))
    (hc : ∀ (i : Nat) (h : i < fs.length), W.cell? ⟨b, off + i * 2, none⟩ = some (.int .i64 fs[i].1) ∧ W.cell? ⟨b, off + i * 2 + 1, none⟩ = some (.string fs[i].2)) (h0 : J [] W) :
    CallsIn Fence.wide n Tryd.prog 81 #[.func (.yield l) #[] #[], .pointer (some ⟨Bs, 0, none⟩)] W fun e W' => (∃ v, e = .returned v) ∧
      ((∃ ys, ys = judge 0 fs ∧ J ys W') ∨ (∃ pre, pre <+: judge 0 fs ∧ Jx pre W')) := by
  refine callsIn_of_wp Tryd.func81 rfl trivial ?_ rfl
  simp only [Tryd.ntmps81, List.size_toArray, List.length_cons, List.length_nil, Nat.reduceAdd, Nat.reduceSub, Array.replicate_succ, Array.replicate_zero, List.push_toArray, List.append_toArray, List.nil_append, List.cons_append]
  gi_wp2
  gi_loopw [3, 8] (fun t i wr => ∃ (k : Nat) (last : Int) (pre : List Jd), k ≤ len ∧ i = .int .i64 k ∧ t = .int .i64 last ∧ Hid (pre.length = k) ∧ Hid (judge 0 fs = pre ++ judge last (fs.drop k)) ∧ J pre wr ∧ Below n₀ W wr ∧ W.heap.size ≤ wr.heap.size)
    (fun _ i _ => len - (intOf i).toNat)
  case atStart => exact ⟨0, 0, [], Nat.zero_le _, rfl, rfl, rfl, by simp [Hid], h0, Below.refl _ _, Nat.le_refl _⟩
  case round =>
    obtain ⟨k, last, pre, hk, rfl, rfl, HP, HJD, hJs, hnx, hsz⟩ := hrel
    by_cases hlt : k < len
    · obtain ⟨hc0, hc1⟩ := hc k (by omega)
      have hd0 : wr.cell? ⟨b, off + k * 2, none⟩ = some (.int .i64 (fs[k]'(by omega)).1) := (hnx.cell (p := ⟨b, off + k * 2, none⟩) hb).trans hc0
      have hd1 : wr.cell? ⟨b, off + k * 2 + 1, none⟩ = some (.string (fs[k]'(by omega)).2) := (hnx.cell (p := ⟨b, off + k * 2 + 1, none⟩) hb).trans hc1
      obtain ⟨f, hf⟩ : ∃ f, f = fs[k]'(by omega) := ⟨_, rfl⟩
      rw [← hf] at hd0 hd1
      have HF : Hid (fs.drop k = f :: fs.drop (k + 1)) := by show _ = _; rw [hf]; exact List.drop_eq_getElem_cons (by omega)
      have HM : Hid (f.2.size ≤ maxLen) := hfs f (by rw [hf]; exact List.getElem_mem _)
      have hlen' : (k : Int) < (len : Int) := by omega
      clear hc0 hc1 hc hf hBs
      have HX : Hid (∀ W1, Below (wr.heap.size + 1) (wr.alloc (.cells #[.int .i64 f.1, .string f.2] 69)).drew W1 → W1.cell? ⟨wr.heap.size, 0, none⟩ = some (.int .i64 f.1) ∧ W1.cell? ⟨wr.heap.size, 1, none⟩ = some (.string f.2) ∧
          W1.heap[wr.heap.size]? = some (.cells #[.int .i64 f.1, .string f.2] 69 (0, 0)) ∧ Below n₀ W W1 ∧ W.heap.size ≤ W1.heap.size ∧
          ∃ fn tmps assign body, (Instr.yield l #[.agg #[.int .i64 f.1, .string f.2], .int .i64 (faultOf last f.1 f.2.size)]).run Tryd.prog W1 = .ok (.round l fn tmps assign body) W1 ∧
            RoundIn Fence.wide (n - 1) Tryd.prog l fn tmps assign body W1 fun e W' => ∃ bb, e = .returned (.bool bb) ∧ ((bb = true ∧ J (pre ++ [⟨f.1, f.2, faultOf last f.1 f.2.size, fault_ok last f.1 f.2⟩]) W' ∧ KpJ n₀ W1 W') ∨ (bb = false ∧ Jx (pre ++ [⟨f.1, f.2, faultOf last f.1 f.2.size, fault_ok last f.1 f.2⟩]) W'))) := by
        intro W1 hb1
        have hbw : Below wr.heap.size wr W1 := (((Below.refl _ wr).alloc (Nat.le_refl _) _).drew).trans (hb1.mono (by omega))
        have hblk : W1.heap[wr.heap.size]? = some (.cells #[.int .i64 f.1, .string f.2] 69 (0, 0)) := (hb1.block wr.heap.size (by omega)).trans (World.alloc_heap_new wr _)
        obtain ⟨fn, tmps, assign, body, hy, hR⟩ := hY pre ⟨f.1, f.2, faultOf last f.1 f.2.size, fault_ok last f.1 f.2⟩ W1 (hJ pre wr W1 none hJs (grown_of_below hbw) (fun r e => by cases e)) (by rw [HP.out]; exact hlt)
        refine ⟨by simp [World.cell?, hblk], by simp [World.cell?, hblk], hblk, hnx.trans (hbw.mono (Nat.le_trans hn₀ hsz)), Nat.le_trans hsz hbw.size, fn, tmps, assign, body, hy, hR.mono ?_⟩
        rintro e W' (⟨he, h2, h3⟩ | ⟨he, h2⟩)
        · exact ⟨true, he, .inl ⟨rfl, h2, h3⟩⟩
        · exact ⟨false, he, .inr ⟨rfl, h2⟩⟩
      clear hY
      have hmo : Tryd.prog.follows Departure.mixedOrders = true := by kernel_rfl
      gi_wp2
      gi_region_with_o (first
        | (refine ⟨trivial, ?_⟩; gi_at_call 82; refine (callsIn_wide.2 (fault_any last f.1 f.2 _ HM.out)).mono ?_; rintro e W1 ⟨rfl, hb1⟩; obtain ⟨q0, q1, hblk, hn1, hs1, fn, tmps, assign, body, hy, hR⟩ := HX.out W1 (by simpa using hb1))
        | (refine hR.mono ?_; rintro e W3 ⟨bb, rfl, hbb⟩))
      all_goals
        rcases hbb with ⟨rfl, hJ3, hk3⟩ | ⟨rfl, hJx3⟩
        · have hq3 : W3.cell? ⟨wr.heap.size, 0, none⟩ = some (.int .i64 f.1) := by simp [World.cell?, hk3.2 _ _ _ hblk]
          have HN : Hid (judge 0 fs = (pre ++ [⟨f.1, f.2, faultOf last f.1 f.2.size, fault_ok last f.1 f.2⟩]) ++ judge f.1 (fs.drop (k + 1))) := by
            show _ = _
            rw [HJD.out, HF.out, judge]; simp
          have HL : Hid ((pre ++ [(⟨f.1, f.2, faultOf last f.1 f.2.size, fault_ok last f.1 f.2⟩ : Jd)]).length = k + 1) := by
            show _ = _
            rw [List.length_append, HP.out]; rfl
          have HB3 : Hid (Below n₀ W W3 ∧ W.heap.size ≤ W3.heap.size) := ⟨hn1.trans hk3.1, Nat.le_trans hs1 hk3.1.size⟩
          clear hy hR hn1 hs1 hk3 hblk q0 q1 hb1 hd0 hd1
          gi_wp2
          go_roundw
          case rel => exact ⟨k + 1, f.1, _, by omega, by go_num, rfl, HL, HN, hJ3, HB3.out.1, HB3.out.2⟩
          case measure => simp [intOf]; omega
        · have HPX : Hid ((pre ++ [(⟨f.1, f.2, faultOf last f.1 f.2.size, fault_ok last f.1 f.2⟩ : Jd)]) <+: judge 0 fs) := by
            show _ <+: _
            rw [HJD.out, HF.out, judge]; exact ⟨judge f.1 (fs.drop (k + 1)), by simp⟩
          clear hy hR hblk q0 q1 hb1 hd0 hd1
          gi_wp2
          refine bodyPost_ret (results_none rfl _ _ _) rfl ?_
          exact ⟨⟨_, rfl⟩, .inr ⟨_, HPX.out, hJx3⟩⟩
    · have HE : Hid (pre = judge 0 fs) := by
        show _ = _
        rw [HJD.out, List.drop_of_length_le (by omega), judge, List.append_nil]
      clear hY
      gi_wp2
      go_end0
      exact ⟨⟨_, rfl⟩, .inl ⟨pre, HE.out, hJs⟩⟩
set_option maxRecDepth 100000 in
set_option maxHeartbeats 1000000 in
theorem judged1_none (n : Nat) (l Bs cap : Nat) (a : Option Addr) (J : List Jd → World → Prop) (W : World) (hBs : W.cell? ⟨Bs, 0, none⟩ = some (.slice a 0 cap)) (h0 : J [] W) :
    CallsIn Fence.wide n Tryd.prog 81 #[.func (.yield l) #[] #[], .pointer (some ⟨Bs, 0, none⟩)] W fun e W' => (∃ v, e = .returned v) ∧ J [] W' := by
  refine callsIn_of_wp Tryd.func81 rfl trivial ?_ rfl
  simp only [Tryd.ntmps81, List.size_toArray, List.length_cons, List.length_nil, Nat.reduceAdd, Nat.reduceSub, Array.replicate_succ, Array.replicate_zero, List.push_toArray, List.append_toArray, List.nil_append, List.cons_append]
  gi_wp2
  gi_loopw [3, 8] (fun t i wr => t = .int .i64 0 ∧ i = .int .i64 0 ∧ J [] wr) (fun _ _ _ => 0)
  case atStart => exact ⟨rfl, rfl, h0⟩
  case round =>
    obtain ⟨rfl, rfl, hJs⟩ := hrel
    gi_wp2
    go_end0
    exact ⟨⟨_, rfl⟩, hJs⟩
set_option maxHeartbeats 1000000 in
theorem judged_in (n : Nat) (a : Option Addr) (len cap : Nat) (w : World) :
    CallsIn Fence.wide n Tryd.prog 59 #[.slice a len cap] w fun e w' => e = .returned (.func (.func 81) #[] #[.pointer (some ⟨w.heap.size, 0, none⟩)]) ∧ w' = w.alloc (.cells #[.slice a len cap] 72) := by
  refine callsIn_of_wp Tryd.func59 rfl trivial ?_ rfl
  simp only [Tryd.ntmps59, List.size_toArray, List.length_cons, List.length_nil, Nat.reduceAdd, Nat.reduceSub, Array.replicate_succ, Array.replicate_zero, List.push_toArray, List.append_toArray, List.nil_append, List.cons_append]
  gi_wp2
  go_ret
  exact ⟨rfl, rfl⟩
theorem FReads.below {n₀ : Nat} {A B : World} (h : Below n₀ A B) {a : Option Addr} {len cap : Nat} {fs : List (Int × ByteArray)} (hr : FReads n₀ A a len cap fs) : FReads n₀ B a len cap fs := by
  obtain ⟨h1, h2, h3, h4, h5⟩ := hr
  refine ⟨h1, h2, h3, h4, ?_⟩
  rcases h5 with h5 | h5 | ⟨b, off, e, hb, hc⟩
  · exact .inl h5
  · exact .inr (.inl h5)
  · exact .inr (.inr ⟨b, off, e, hb, fun i hi => ⟨(h.cell (p := ⟨b, off + i * 2, none⟩) hb).trans (hc i hi).1, (h.cell (p := ⟨b, off + i * 2 + 1, none⟩) hb).trans (hc i hi).2⟩⟩)
/-- judged hands back a value that goes through all, or through a part. -/
theorem judged_stops (n : Nat) (hn : 1 ≤ n) (Bs n₀ : Nat) (a : Option Addr) (len cap : Nat) (fs : List (Int × ByteArray)) (w : World) (hBs : Bs < w.heap.size) (hn₀ : n₀ ≤ w.heap.size)
    (hc : w.cell? ⟨Bs, 0, none⟩ = some (.slice a len cap)) (hI : FReads n₀ w a len cap fs) :
    SeqStopsK Fence.wide n Tryd.prog 81 #[.pointer (some ⟨Bs, 0, none⟩)] encJ (KpJ n₀) (fun ys => ys = judge 0 fs) (fun pre => pre <+: judge 0 fs) len w := fun l J Jx W hW hJ _ hY h0 => by
  have hc' := (hW.cell (p := ⟨Bs, 0, none⟩) hBs).trans hc
  obtain ⟨h1, h2, h3, h4, h5⟩ := hI.below (hW.mono hn₀)
  have hz : len = 0 → CallsIn Fence.wide n Tryd.prog 81 (#[.func (.yield l) #[] #[]] ++ #[.pointer (some ⟨Bs, 0, none⟩)]) W fun e W' => (∃ v, e = .returned v) ∧ ((∃ xs, xs = judge 0 fs ∧ J xs W') ∨ (∃ pre, pre <+: judge 0 fs ∧ Jx pre W')) := by
    intro hl
    subst hl
    have hf : fs = [] := List.eq_nil_of_length_eq_zero h1
    exact (judged1_none n l Bs cap a J W hc' h0).mono fun e W' ⟨he, hj⟩ => ⟨he, .inl ⟨_, by rw [hf]; rfl, hj⟩⟩
  rcases h5 with ⟨_, h⟩ | ⟨_, _, h⟩ | ⟨b, off, rfl, hb, hcs⟩
  · exact hz (by omega)
  · exact hz h
  · exact judged1_in n hn l Bs n₀ b off len cap fs h1 (by omega) hb h4 J Jx W hJ (Nat.le_trans hn₀ hW.size) hY hc' hcs h0
end Go.Proofs.YtdnhnjimhbbababDoor.P7

/- The iterator of pack.parsed: the fields that bytes are made of, each with what is wrong with it. -/
namespace Go.Proofs.YtdnhnjimhbbababDoor.P7
open Go.RowKit Go.Shelf Nums
set_option maxRecDepth 100000

attribute [local go_sem] Oper.semAt_some
def encP (x : Pd) : Array Value := #[.agg #[.int .i64 x.tag, .string ⟨x.d.toArray⟩], .int .i64 x.e]
/-- What a round keeps: all below n₀, and every field's block. -/
def KpP (n₀ : Nat) (W W' : World) : Prop := Below n₀ W W' ∧ ∀ (b : Nat) (x y : Value) (m : Nat × Nat), W.heap[b]? = some (Obj.cells #[x, y] 69 m) → W'.heap[b]? = some (Obj.cells #[x, y] 69 m)
theorem kpP_t {n₀ : Nat} {A B C : World} (h : KpP n₀ A B) (k : KpP n₀ B C) : KpP n₀ A C := ⟨h.1.trans k.1, fun b x y m hb => k.2 b x y m (h.2 b x y m hb)⟩
theorem kpP_b {n₀ : Nat} {w : World} (hn : n₀ ≤ w.heap.size) (W : World) (l : Nat) (o o' : Obj) (hl : w.heap.size ≤ l) (h : W.heap[l]? = some o) (hc : o.isCells = false) (hw : o.isWalk = false) : KpP n₀ W (W.putObj l o') := by
  refine ⟨belowK_b hn W l o o' hl h hc hw, fun b x y m hb => ?_⟩
  have hne : some b ≠ some l := by
    intro e
    cases e
    rw [h] at hb
    cases hb
    cases hc
  rw [(grownBy_putObj' W l o').block b (Array.getElem?_eq_some_iff.1 hb).1 hne]
  exact hb
/-- Bytes that can be read, in a block below n₀. -/
def LReads (n₀ : Nat) (w : World) (a : Option Addr) (len cap : Nat) (l : List UInt8) : Prop :=
  l.length = len ∧ len ≤ cap ∧ cap ≤ 9223372036854775807 ∧
  ((a = none ∧ cap = 0) ∨ (∃ ad, a = some ad ∧ len = 0) ∨ ∃ b off, a = some ⟨b, off, none⟩ ∧ b < n₀ ∧ ∀ (i : Nat) (h : i < l.length), w.cell? ⟨b, off + i, none⟩ = some (.int .u8 l[i].toNat))
theorem LReads.below {n₀ : Nat} {A B : World} (h : Below n₀ A B) {a : Option Addr} {len cap : Nat} {l : List UInt8} (hr : LReads n₀ A a len cap l) : LReads n₀ B a len cap l := by
  obtain ⟨h1, h2, h3, h5⟩ := hr
  refine ⟨h1, h2, h3, ?_⟩
  rcases h5 with h5 | h5 | ⟨b, off, e, hb, hc⟩
  · exact .inl h5
  · exact .inr (.inl h5)
  · exact .inr (.inr ⟨b, off, e, hb, fun i hi => (h.cell (p := ⟨b, off + i, none⟩) hb).trans (hc i hi)⟩)
theorem LReads.reads {n₀ : Nat} {A : World} {a : Option Addr} {len cap : Nat} {l : List UInt8} (hr : LReads n₀ A a len cap l) (hn : n₀ ≤ A.heap.size) : Reads A a len cap l := by
  obtain ⟨h1, h2, h3, h5⟩ := hr
  refine ⟨h1, h2, h3, ?_⟩
  rcases h5 with h5 | h5 | ⟨b, off, e, hb, hc⟩
  · exact .inl h5
  · exact .inr (.inl h5)
  · exact .inr (.inr ⟨b, off, e, Nat.lt_of_lt_of_le hb hn, hc⟩)
theorem Reads.lreads {A : World} {a : Option Addr} {len cap : Nat} {l : List UInt8} (hr : Reads A a len cap l) : LReads A.heap.size A a len cap l := hr
/-- The rest behind the first n bytes. -/
theorem LReads.drop {n₀ : Nat} {A : World} {b off len cap n : Nat} {l : List UInt8} (hr : LReads n₀ A (some ⟨b, off, none⟩) len cap l) (hn : n ≤ len) (h0 : 0 < len) :
    LReads n₀ A (if cap = n then some ⟨b, off, none⟩ else some ⟨b, off + n, none⟩) (len - n) (cap - n) (l.drop n) := by
  obtain ⟨h1, h2, h3, h5⟩ := hr
  refine ⟨by rw [List.length_drop]; omega, by omega, by omega, ?_⟩
  rcases h5 with ⟨h, _⟩ | ⟨_, _, h⟩ | ⟨b', off', e, hb, hc⟩
  · cases h
  · omega
  · cases e
    by_cases hcn : cap = n
    · rw [if_pos hcn]; exact .inr (.inl ⟨_, rfl, by omega⟩)
    · rw [if_neg hcn]
      refine .inr (.inr ⟨b, off + n, rfl, hb, fun i hi => ?_⟩)
      have := hc (n + i) (by rw [List.length_drop] at hi; omega)
      rw [← Nat.add_assoc] at this
      rw [this, List.getElem_drop]
end Go.Proofs.YtdnhnjimhbbababDoor.P7

/- pack.parsed goes through the fields that bytes are made of: all, or a part where a round says no more. -/
namespace Go.Proofs.YtdnhnjimhbbababDoor.P7
open Go.RowKit Go.Shelf Nums
set_option maxRecDepth 100000

attribute [local go_sem] Oper.semAt_some
theorem pE_bad {last : Nat} {l : List UInt8} (h : gE l ≠ 0) : pE last l = gE l := by rw [pE, if_neg h]
theorem pE_fault {last : Nat} {l : List UInt8} (h : gE l = 0) (hf : faultOf last (gT l) (gD l).length ≠ 0) : pE last l = 11 := by rw [pE, if_pos h, if_neg hf]
set_option maxRecDepth 100000 in
set_option maxHeartbeats 4000000 in
theorem parsed1_in (n : Nat) (hn : 1 ≤ n) (l Bs n₀ : Nat) (a : Option Addr) (len cap : Nat) (bs : List UInt8) (J Jx : List Pd → World → Prop)
    (W : World) (hJ : AbidesFrom W.heap.size J) (hn₀ : n₀ ≤ W.heap.size)
    (hY : ∀ pre x W, J pre W → pre.length < len + 1 → YieldAt Fence.wide (n - 1) Tryd.prog l (encP x) W fun e W' =>
      (e = .returned (.bool true) ∧ J (pre ++ [x]) W' ∧ KpP n₀ W W') ∨ (e = .returned (.bool false) ∧ Jx (pre ++ [x]) W'))
    (hBs : W.cell? ⟨Bs, 0, none⟩ = some (.slice a len cap)) (hR : LReads n₀ W a len cap bs) (h0 : J [] W) :
    CallsIn Fence.wide n Tryd.prog 89 #[.func (.yield l) #[] #[], .pointer (some ⟨Bs, 0, none⟩)] W fun e W' => (∃ v, e = .returned v) ∧
      ((∃ ys, ys = parse (len + 1) 0 bs ∧ J ys W') ∨ (∃ pre, pre <+: parse (len + 1) 0 bs ∧ Jx pre W')) := by
  refine callsIn_of_wp Tryd.func89 rfl trivial ?_ rfl
  simp only [Tryd.ntmps89, List.size_toArray, List.length_cons, List.length_nil, Nat.reduceAdd, Nat.reduceSub, Array.replicate_succ, Array.replicate_zero, List.push_toArray, List.append_toArray, List.nil_append, List.cons_append]
  gi_wp2
  gi_loopw [3, 4] (fun t s wr => ∃ (last : Nat) (pre : List Pd) (ra : Option Addr) (rlen rcap : Nat) (rl : List UInt8), s = .slice ra rlen rcap ∧ t = .int .i64 last ∧ Hid (LReads n₀ W ra rlen rcap rl) ∧ rlen + pre.length ≤ len ∧ Hid (parse (len + 1) 0 bs = pre ++ parse (rlen + 1) last rl) ∧ J pre wr ∧ Below n₀ W wr ∧ W.heap.size ≤ wr.heap.size)
    (fun _ s _ => match s with | .slice _ k _ => k | _ => 0)
  case atStart => exact ⟨0, [], a, len, cap, bs, rfl, rfl, hR, by simp, by simp [Hid], h0, Below.refl _ _, Nat.le_refl _⟩
  case round =>
    obtain ⟨last, pre, ra, rlen, rcap, rl, rfl, rfl, HR, hle, HP, hJs, hnx, hsz⟩ := hrel
    clear hBs
    have hrc : rlen ≤ rcap := HR.out.2.1
    have hrm : rcap ≤ 9223372036854775807 := HR.out.2.2.1
    by_cases hz : rlen = 0
    · subst hz
      clear hY
      gi_wp2
      go_end0
      have hl : rl = [] := List.eq_nil_of_length_eq_zero HR.out.1
      refine ⟨⟨_, rfl⟩, .inl ⟨pre, ?_, hJs⟩⟩
      rw [HP.out, hl]; simp [parse]
    · have hpos : (0 : Int) < (rlen : Int) := by omega
      have HNE : Hid (rl ≠ []) := by intro e; have := HR.out.1; rw [e] at this; simp at this; omega
      have HRD : Hid (Reads wr ra rlen rcap rl) := (HR.out.below hnx).reads (Nat.le_trans hn₀ hsz)
      have HX : Hid (∀ W2, Below wr.heap.size wr W2 → ∃ fn tmps assign body, (Instr.yield l #[.agg #[.int .i64 (gT rl), .string ⟨(gD rl).toArray⟩], .int .i64 (pE last rl)]).run Tryd.prog W2 = .ok (.round l fn tmps assign body) W2 ∧
            RoundIn Fence.wide (n - 1) Tryd.prog l fn tmps assign body W2 fun e W' => ∃ bb, e = .returned (.bool bb) ∧ ((bb = true ∧ J (pre ++ [pX last rl]) W' ∧ KpP n₀ W2 W') ∨ (bb = false ∧ Jx (pre ++ [pX last rl]) W'))) := by
        intro W2 hb2
        obtain ⟨fn, tmps, assign, body, hy, hR⟩ := hY pre (pX last rl) W2 (hJ pre wr W2 none hJs (grown_of_below hb2) (fun r e => by cases e)) (by omega)
        refine ⟨fn, tmps, assign, body, hy, hR.mono ?_⟩
        rintro e W' (⟨he, h2, h3⟩ | ⟨he, h2⟩)
        · exact ⟨true, he, .inl ⟨rfl, h2, h3⟩⟩
        · exact ⟨false, he, .inr ⟨rfl, h2⟩⟩
      have HPR : Hid ((pre ++ [pX last rl]) <+: parse (len + 1) 0 bs) := by
        show _ <+: _
        rw [HP.out, parse_cons HNE.out]
        exact ⟨if pE last rl = 0 then parse rlen (gT rl) (rl.drop (gN rl)) else [], by simp⟩
      clear hY
      by_cases hE : gE rl = 0
      · have hE1 : ((gE rl : Int) == 0) = true := by simpa using hE
        have hgn := gN_le hE
        obtain ⟨b, off, hra⟩ : ∃ b off, ra = some ⟨b, off, none⟩ := by
          rcases HR.out.2.2.2 with ⟨_, h⟩ | ⟨_, _, h⟩ | ⟨b, off, h, _⟩
          · omega
          · omega
          · exact ⟨b, off, h⟩
        subst hra
        have hds : (⟨(gD rl).toArray⟩ : ByteArray).size = (gD rl).length := by show (gD rl).toArray.size = _; simp
        have HFC : Hid (∀ w, Calls Tryd.prog 82 #[.int .i64 last, .agg #[.int .i64 (gT rl), .string ⟨(gD rl).toArray⟩]] w fun e w' => e = .returned (.int .i64 (faultOf last (gT rl) (gD rl).length)) ∧ Below w.heap.size w w') := fun w => by
          have := fault_any last (gT rl) ⟨(gD rl).toArray⟩ w (by rw [hds]; unfold maxLen; omega)
          rwa [hds] at this
        clear hds
        by_cases hF : faultOf last (gT rl) (gD rl).length = 0
        · have HPE : Hid (pE last rl = 0) := pE_ok hE hF
          have HPG : Hid (pE last rl = gE rl) := HPE.out.trans hE.symm
          have HFD : Hid (∀ w, Calls Tryd.prog 82 #[.int .i64 last, .agg #[.int .i64 (gT rl), .string ⟨(gD rl).toArray⟩]] w fun e w' => e = .returned (.int .i64 0) ∧ Below w.heap.size w w') := fun w => by
            have := HFC.out w
            rwa [hF] at this
          have hE3 : ((gE rl : Int) != 0) = false := by simpa using hE
          have HNX : Hid (parse (len + 1) 0 bs = (pre ++ [pX last rl]) ++ parse (rlen - gN rl + 1) (gT rl) (rl.drop (gN rl))) := by
            show _ = _
            rw [HP.out, parse_cons HNE.out, if_pos HPE.out, parse_fuel (rlen - gN rl + 1) rlen (gT rl) (rl.drop (gN rl)) (by rw [List.length_drop, HR.out.1]; omega) (by omega)]
            simp
          have HDR := HR.out.drop (n := gN rl) (by rw [← HR.out.1]; exact hgn.2.1) (by omega)
          have hgl : gN rl ≤ rlen := by rw [← HR.out.1]; exact hgn.2.1
          have hg4 : 4 ≤ gN rl := hgn.1
          have HZ : Hid (gE rl = 0) := hE
          have hmo : Tryd.prog.follows Departure.mixedOrders = true := by kernel_rfl
          clear hE hF HFC hgn
          have HDD : Hid (LReads n₀ W (if rcap = gN rl then some ⟨b, off, none⟩ else some ⟨b, off + gN rl, none⟩) (rlen - gN rl) (rcap - gN rl) (rl.drop (gN rl))) := HDR
          clear HDR
          gi_wp2_with (first
            | (refine ⟨trivial, ?_⟩; gi_at_call 90; refine (callsIn_wide.2 (get_any _ _ _ rl _ HRD.out)).mono ?_; rintro e W1 ⟨rfl, hb1⟩; unfold gotten)
            | (refine ⟨trivial, ?_⟩; gi_at_call 82; refine (callsIn_wide.2 (HFD.out _)).mono ?_; rintro e W2 ⟨rfl, hb2⟩; have hb3 : Below wr.heap.size wr W2 := (hb1.alloc hb1.size _).trans (hb2.mono (by have := hb1.size; simp; omega)); have hblk : W2.heap[W1.heap.size]? = some (.cells #[.int .i64 (gT rl), .string ⟨(gD rl).toArray⟩] 69 (0, 0)) := (hb2.block W1.heap.size (by simp)).trans (World.alloc_heap_new W1 _); have q0 : W2.cell? ⟨W1.heap.size, 0, none⟩ = some (.int .i64 (gT rl)) := (by simp [World.cell?, hblk]); have q1 : W2.cell? ⟨W1.heap.size, 1, none⟩ = some (.string ⟨(gD rl).toArray⟩) := (by simp [World.cell?, hblk]); obtain ⟨fn, tmps, assign, body, hy, hR⟩ := HX.out W2 hb3; rw [HPG.out] at hy))
          refine hR.mono ?_
          rintro e W3 ⟨bb, rfl, ⟨rfl, hJ3, hk3⟩ | ⟨rfl, hJx3⟩⟩
          · have hq3 : W3.cell? ⟨W1.heap.size, 0, none⟩ = some (.int .i64 (gT rl)) := by simp [World.cell?, hk3.2 _ _ _ _ hblk]
            have HB3 : Hid (Below n₀ W W3 ∧ W.heap.size ≤ W3.heap.size) := ⟨hnx.trans ((hb3.mono (Nat.le_trans hn₀ hsz)).trans hk3.1), Nat.le_trans hsz (Nat.le_trans hb3.size hk3.1.size)⟩
            clear hy hR hk3 hblk q0 q1 hb1 hb2 hb3 hnx hJs
            gi_wp2
            gi_region_with_o (fail)
            gi_wp2
            all_goals
              refine ⟨⟨gT rl, pre ++ [pX last rl], _, _, _, ⟨rfl, rfl, rfl⟩, rfl, rl.drop (gN rl), ?_, ?_, HNX, hJ _ W3 W3.drew none hJ3 (grown_of_below (Below.refl _ _).drew) (fun r e => by cases e), HB3.out.1.drew, HB3.out.2⟩, by omega⟩
              · have hdd := HDD.out
                first
                  | (have hp : rcap = gN rl := by assumption
                     rw [if_pos hp, show rcap - gN rl = 0 by omega] at hdd
                     exact hdd)
                  | (have hp : ¬ rcap = gN rl := by assumption
                     rw [if_neg hp] at hdd
                     exact hdd)
              · rw [List.length_append]; simp; omega
          · clear hy hR hblk q0 q1 hb1 hb2 hb3
            gi_wp2
            refine bodyPost_ret (results_none rfl _ _ _) rfl ?_
            exact ⟨⟨_, rfl⟩, .inr ⟨_, HPR.out, hJx3⟩⟩
        · have HPE : Hid (pE last rl = 11) := pE_fault hE hF
          have hF2 : (faultOf last (gT rl) (gD rl).length != 0) = true := by simpa using hF
          have HALL : Hid (pre ++ [pX last rl] = parse (len + 1) 0 bs) := by
            show _ = _
            rw [HP.out, parse_cons HNE.out, if_neg (by rw [HPE.out]; decide)]
          have HZ : Hid (gE rl = 0) := hE
          clear hE hF hgn
          gi_wp2_with (first
            | (refine ⟨trivial, ?_⟩; gi_at_call 90; refine (callsIn_wide.2 (get_any _ _ _ rl _ HRD.out)).mono ?_; rintro e W1 ⟨rfl, hb1⟩; unfold gotten)
            | (refine ⟨trivial, ?_⟩; gi_at_call 82; refine (callsIn_wide.2 (HFC.out _)).mono ?_; rintro e W2 ⟨rfl, hb2⟩; have hb3 : Below wr.heap.size wr W2 := (hb1.alloc hb1.size _).trans (hb2.mono (by have := hb1.size; simp; omega)); have hblk : W2.heap[W1.heap.size]? = some (.cells #[.int .i64 (gT rl), .string ⟨(gD rl).toArray⟩] 69 (0, 0)) := (hb2.block W1.heap.size (by simp)).trans (World.alloc_heap_new W1 _); have q0 : W2.cell? ⟨W1.heap.size, 0, none⟩ = some (.int .i64 (gT rl)) := (by simp [World.cell?, hblk]); have q1 : W2.cell? ⟨W1.heap.size, 1, none⟩ = some (.string ⟨(gD rl).toArray⟩) := (by simp [World.cell?, hblk]); obtain ⟨fn, tmps, assign, body, hy, hR⟩ := HX.out W2 hb3; rw [HPE.out] at hy; simp only [Int.cast_ofNat_Int] at hy))
          refine hR.mono ?_
          rintro e W3 ⟨bb, rfl, ⟨rfl, hJ3, _⟩ | ⟨rfl, hJx3⟩⟩
          · clear hy hR hblk q0 q1 hb1 hb2 hb3
            gi_wp2
            refine bodyPost_ret (results_none rfl _ _ _) rfl ?_
            exact ⟨⟨_, rfl⟩, .inl ⟨_, HALL.out, hJ3⟩⟩
          · clear hy hR hblk q0 q1 hb1 hb2 hb3
            gi_wp2
            refine bodyPost_ret (results_none rfl _ _ _) rfl ?_
            exact ⟨⟨_, rfl⟩, .inr ⟨_, HPR.out, hJx3⟩⟩
      · have hE1 : ((gE rl : Int) == 0) = false := by simpa using hE
        have hE2 : ((gE rl : Int) != 0) = true := by simpa using hE
        have HPE : Hid (pE last rl = gE rl) := pE_bad hE
        have HALL : Hid (pre ++ [pX last rl] = parse (len + 1) 0 bs) := by
          show _ = _
          rw [HP.out, parse_cons HNE.out, if_neg (by rw [HPE.out]; exact hE)]
        have HGE : Hid (¬ gE rl = 0) := hE
        clear hE
        gi_wp2_with (refine ⟨trivial, ?_⟩; gi_at_call 90; refine (callsIn_wide.2 (get_any _ _ _ rl _ HRD.out)).mono ?_; rintro e W1 ⟨rfl, hb1⟩; unfold gotten)
        refine ⟨trivial, ?_⟩
        obtain ⟨fn, tmps, assign, body, hy, hR⟩ := HX.out (W1.alloc (.cells #[.int .i64 (gT rl), .string ⟨(gD rl).toArray⟩] 69)) (hb1.alloc hb1.size _)
        rw [HPE.out] at hy
        gi_wp2
        refine hR.mono ?_
        rintro e W3 ⟨bb, rfl, ⟨rfl, hJ3, _⟩ | ⟨rfl, hJx3⟩⟩
        · clear hy hR
          gi_wp2
          refine bodyPost_ret (results_none rfl _ _ _) rfl ?_
          exact ⟨⟨_, rfl⟩, .inl ⟨_, HALL.out, hJ3⟩⟩
        · clear hy hR
          gi_wp2
          refine bodyPost_ret (results_none rfl _ _ _) rfl ?_
          exact ⟨⟨_, rfl⟩, .inr ⟨_, HPR.out, hJx3⟩⟩
set_option maxHeartbeats 1000000 in
theorem parsed_in (n : Nat) (a : Option Addr) (len cap : Nat) (w : World) :
    CallsIn Fence.wide n Tryd.prog 84 #[.slice a len cap] w fun e w' => e = .returned (.func (.func 89) #[] #[.pointer (some ⟨w.heap.size, 0, none⟩)]) ∧ w' = w.alloc (.cells #[.slice a len cap] 43) := by
  refine callsIn_of_wp Tryd.func84 rfl trivial ?_ rfl
  simp only [Tryd.ntmps84, List.size_toArray, List.length_cons, List.length_nil, Nat.reduceAdd, Nat.reduceSub, Array.replicate_succ, Array.replicate_zero, List.push_toArray, List.append_toArray, List.nil_append, List.cons_append]
  gi_wp2
  go_ret
  exact ⟨rfl, rfl⟩
theorem parsed_stops (n : Nat) (hn : 1 ≤ n) (Bs n₀ : Nat) (a : Option Addr) (len cap : Nat) (bs : List UInt8) (w : World) (hBs : Bs < w.heap.size) (hn₀ : n₀ ≤ w.heap.size)
    (hc : w.cell? ⟨Bs, 0, none⟩ = some (.slice a len cap)) (hI : LReads n₀ w a len cap bs) :
    SeqStopsK Fence.wide n Tryd.prog 89 #[.pointer (some ⟨Bs, 0, none⟩)] encP (KpP n₀) (fun ys => ys = parse (len + 1) 0 bs) (fun pre => pre <+: parse (len + 1) 0 bs) (len + 1) w := fun l J Jx W hW hJ _ hY h0 =>
  parsed1_in n hn l Bs n₀ a len cap bs J Jx W hJ (Nat.le_trans hn₀ hW.size) hY ((hW.cell (p := ⟨Bs, 0, none⟩) hBs).trans hc) (hI.below (hW.mono hn₀)) h0
end Go.Proofs.YtdnhnjimhbbababDoor.P7

/- What pack.Lay answers: the bytes of a row's fields, or the first field's fault. -/
namespace Go.Proofs.YtdnhnjimhbbababDoor.P7
open Go.RowKit Go.Shelf Nums
set_option maxRecDepth 100000

attribute [local go_sem] Oper.semAt_some
def outB (pre : List Jd) : List UInt8 := (pre.map fun x => fieldBytesI x.tag x.d.data.toList).flatten
theorem outB_snoc (pre : List Jd) (x : Jd) : outB (pre ++ [x]) = outB pre ++ fieldBytesI x.tag x.d.data.toList := by simp [outB]
theorem outB_length : ∀ (pre : List Jd), (∀ x ∈ pre, x.e = 0) → (outB pre).length ≤ pre.length * 65540
  | [], _ => by simp [outB]
  | x :: r, h => by
    have h1 := outB_length r (fun y hy => h y (List.mem_cons_of_mem _ hy))
    have h2 := x.ok (h x List.mem_cons_self)
    have e : outB (x :: r) = fieldBytesI x.tag x.d.data.toList ++ outB r := by simp [outB]
    rw [e, List.length_append, fieldBytesI_length]
    simp only [Array.length_toList, List.length_cons]
    have : x.d.data.size ≤ 65536 := h2
    omega
/-- A block of cells stays under the turn of a block that is none. -/
theorem cells_stay {W W' : World} {row : Option Nat} {b : Nat} {c : Array Value} {t : TypeId} {m : Nat × Nat} (h : W.heap[b]? = some (.cells c t m)) (hg : W.grownBy W' row) (hr : ∀ r, row = some r → ∃ o : Obj, W.heap[r]? = some o ∧ o.isCells = false) :
    W'.heap[b]? = some (.cells c t m) := by
  refine (hg.block b (Array.getElem?_eq_some_iff.1 h).1 ?_).trans h
  intro e
  obtain ⟨o, ho, hc⟩ := hr b e.symm
  rw [h] at ho; cases ho; cases hc
theorem spares_box {w w' : World} (h : Spares 5 w w') {b : Nat} {c : Array Value} {t : TypeId} {m : Nat × Nat} (ht : t ≠ 5) (hb : w.heap[b]? = some (.cells c t m)) : w'.heap[b]? = some (.cells c t m) :=
  h b _ hb (fun c' m' e => by cases e; exact ht rfl)
theorem spares_others {w w' : World} (h : Spares 5 w w') (hs : w.heap.size ≤ w'.heap.size) : KeepsOthers w w' := ⟨hs, fun k o hk ho => h k o hk (fun c m e => by subst e; cases ho)⟩
theorem set_other {W : World} {B B' : Nat} {c : Array Value} {t : TypeId} {m : Nat × Nat} (h : W.heap[B]? = some (.cells c t m)) (hne : B ≠ B') (v : Value) : (W.setCell ⟨B', 0, none⟩ v).heap[B]? = some (.cells c t m) :=
  (Below.heap_setCell W ⟨B', 0, none⟩ v B hne).trans h
set_option maxRecDepth 100000 in
set_option maxHeartbeats 4000000 in
theorem lay_in (n : Nat) (hn : 3 ≤ n) (a : Option Addr) (len cap : Nat) (fs : List (Int × ByteArray)) (w : World) (hR : FReads w.heap.size w a len cap fs) (hl : len ≤ 400) :
    CallsIn Fence.wide n Tryd.prog 27 #[.slice a len cap] w fun e W' =>
      ((∀ x ∈ judge 0 fs, x.e = 0) ∧ ∃ v, e = .returned (.tuple #[v, .int .i64 0]) ∧ W'.ownsRow w.heap.size 5 1 v (outB (judge 0 fs)).length (cellsOf (outB (judge 0 fs))) ∧ Below w.heap.size w W') ∨
      (∃ pre x, (pre ++ [x]) <+: judge 0 fs ∧ (∀ y ∈ pre, y.e = 0) ∧ x.e ≠ 0 ∧ e = .returned (.tuple #[.slice none 0 0, .int .i64 x.e]) ∧ Below w.heap.size w W') := by
  have h1 : 1 ≤ n := by omega
  refine callsIn_of_wp_marks Tryd.func27 rfl trivial ?_ rfl
  simp only [Tryd.ntmps27, List.size_toArray, List.length_cons, List.length_nil, Nat.reduceAdd, Nat.reduceSub, Array.replicate_succ, Array.replicate_zero, List.push_toArray, List.append_toArray, List.nil_append, List.cons_append]
  gi_wp2_with (refine ⟨trivial, ?_⟩; gi_at_call 59; refine (judged_in (n - 1) _ _ _ _).mono ?_; rintro e w' ⟨rfl, rfl⟩)
  have bR1 := (((Boxed.new w 43 (.slice none 0 0)).alloc (.cells #[.int .i64 0] 32)).alloc (.cells #[.slice none 0 0] 43)).alloc (.cells #[.slice a len cap] 72)
  have bR2 := ((Boxed.new (w.alloc (.cells #[.slice none 0 0] 43)) 32 (.int .i64 0)).alloc (.cells #[.slice none 0 0] 43)).alloc (.cells #[.slice a len cap] 72)
  have bO := (Boxed.new ((w.alloc (.cells #[.slice none 0 0] 43)).alloc (.cells #[.int .i64 0] 32)) 43 (.slice none 0 0)).alloc (.cells #[.slice a len cap] 72)
  have bA := Boxed.new (((w.alloc (.cells #[.slice none 0 0] 43)).alloc (.cells #[.int .i64 0] 32)).alloc (.cells #[.slice none 0 0] 43)) 72 (.slice a len cap)
  simp only [World.size_alloc] at bR2 bO bA
  have hB0 : Below w.heap.size w ((((w.alloc (.cells #[.slice none 0 0] 43)).alloc (.cells #[.int .i64 0] 32)).alloc (.cells #[.slice none 0 0] 43)).alloc (.cells #[.slice a len cap] 72)) :=
    ((((Below.refl _ w).alloc (Nat.le_refl _) _).alloc (by simp) _).alloc (by simp; omega) _).alloc (by simp; omega) _
  have hsz : ((((w.alloc (.cells #[.slice none 0 0] 43)).alloc (.cells #[.int .i64 0] 32)).alloc (.cells #[.slice none 0 0] 43)).alloc (.cells #[.slice a len cap] 72)).heap.size = w.heap.size + 4 := by simp
  obtain ⟨W0, hW0⟩ : ∃ W0, (((w.alloc (.cells #[.slice none 0 0] 43)).alloc (.cells #[.int .i64 0] 32)).alloc (.cells #[.slice none 0 0] 43)).alloc (.cells #[.slice a len cap] 72) = W0 := ⟨_, rfl⟩
  rw [hW0] at bR1 bR2 bO bA hB0 hsz ⊢
  clear hW0
  have hge : w.heap.size + 4 ≤ W0.heap.size := Nat.le_of_eq hsz.symm
  clear hsz
  refine wpIn_rangeFunc_ownH rfl h1 (gf := 81) (lb := #[.pointer (some ⟨w.heap.size + 1 + 1 + 1, 0, none⟩)]) rfl trivial (enters_of Tryd.func81 (by kernel_rfl) rfl)
    (judged_stops (n - 1) (by omega) (w.heap.size + 1 + 1 + 1) w.heap.size a len cap fs W0 (by omega) (by omega) bA.cell (hR.below hB0)) kpJ_t (kpJ_b (by omega)) (Below.refl _ _) (fun _ => rfl)
    (fun pre W => ((∃ v, Boxed W (w.heap.size + 1 + 1) 43 v ∧ W.ownsRow W0.heap.size 5 1 v (outB pre).length (cellsOf (outB pre)) ∧ True) ∧ (Boxed W w.heap.size 43 (.slice none 0 0) ∧ Boxed W (w.heap.size + 1) 32 (.int .i64 0))) ∧ ((∀ x ∈ pre, x.e = 0) ∧ Below w.heap.size w W))
    (fun c pre W => (c = .ret ∧ ∃ pre' x, pre = pre' ++ [x] ∧ (∀ y ∈ pre', y.e = 0) ∧ x.e ≠ 0 ∧ Boxed W w.heap.size 43 (.slice none 0 0) ∧ Boxed W (w.heap.size + 1) 32 (.int .i64 x.e)) ∧ Below w.heap.size w W)
    (OwnFrom.and (OwnFrom.and (Own.from (holdsRow_own W0.heap.size (w.heap.size + 1 + 1) 43 5 1 (fun pre => (outB pre).length) (fun pre => cellsOf (outB pre)) (fun _ _ => True)) _) (OwnFrom.and (Own.from (boxed_own _ _ _) _) (Own.from (boxed_own _ _ _) _))) (OwnFrom.and (ownFrom_pure _ _) (ownFrom_below (Nat.le_refl _) (by omega))))
    (fun c => OwnFrom.and (fun s X Y row hs hg hr => by
      obtain ⟨hc, pre', x, e1, e2, e3, b1, b2⟩ := hs
      exact ⟨hc, pre', x, e1, e2, e3, cells_stay b1 hg (fun r e => (hr r e).2), cells_stay b2 hg (fun r e => (hr r e).2)⟩) (ownFrom_below (Nat.le_refl _) (by omega)))
    ⟨⟨⟨_, bO, World.ownsRow_nil _ _ _ _, trivial⟩, bR1, bR2⟩, by simp, hB0⟩
    (fun x a' W => ∃ Bx, w.heap.size + 1 + 1 < Bx ∧ W.heap[Bx]? = some (.cells #[.int .i64 x.tag, .string x.d] 69 (0, 0)) ∧ a' = { tmps := #[.slice a len cap, undef, .pointer (some ⟨w.heap.size, 0, none⟩), .pointer (some ⟨w.heap.size + 1, 0, none⟩), .pointer (some ⟨w.heap.size + 1 + 1, 0, none⟩), .pointer (some ⟨Bx, 0, none⟩), .int .i64 x.e, .slice a len cap, .func (.func 81) #[] #[.pointer (some ⟨w.heap.size + 1 + 1 + 1, 0, none⟩)], .agg #[.int .i64 x.tag, .string x.d], .int .i64 x.e, undef, undef, undef, undef, undef, undef, undef], defers := [] })
    (fun x a' _ X Y row hs hg hr => by obtain ⟨Bx, h1, h2, h3⟩ := hs; exact ⟨Bx, h1, cells_stay h2 hg (fun r e => (hr r e).2), h3⟩)
    ?assign ?body ?done ?stop
  case assign =>
    rintro l pre x W K ⟨⟨⟨v, bO1, hrow, ht⟩, bR11, bR21⟩, hz, hB1⟩ hK
    dsimp only [encJ]
    gi_wp2
    refine hK _ _ ((KeepsOthers.alloc _ _).from _) ⟨(Below.refl _ W).alloc hB1.size _, fun b c m hb => (Below.heap_alloc W _ b (Array.getElem?_eq_some_iff.1 hb).1).trans hb⟩ ⟨⟨⟨v, bO1.alloc _, hrow.alloc _, ht⟩, bR11.alloc _, bR21.alloc _⟩, hz, hB1.alloc hB1.size _⟩ ⟨W.heap.size, bO1.lt, World.alloc_heap_new W _, rfl⟩
  case body =>
    rintro l pre x a' W hl0 ⟨r, hr⟩ ⟨⟨⟨v, bO1, hrow, ht⟩, bR11, bR21⟩, hz, hB1⟩ ⟨Bx, hBx, bX, rfl⟩ hlt
    have hsW := hB1.size
    have hlW : W0.heap.size ≤ W.heap.size := Nat.le_trans hl0 (Nat.le_of_lt (Array.getElem?_eq_some_iff.1 hr).1)
    clear hr
    have cO := bO1.cell
    have fO := bO1.frozen
    have cX0 : W.cell? ⟨Bx, 0, none⟩ = some (.int .i64 x.tag) := by simp [World.cell?, bX]
    have cX1 : W.cell? ⟨Bx, 1, none⟩ = some (.string x.d) := by simp [World.cell?, bX]
    have c1 := bR11.cell
    have f1 := bR11.frozen
    have c2 := bR21.cell
    have f2 := bR21.frozen
    by_cases he : x.e = 0
    · have HE : Hid (x.e = 0) := he
      have he' : (x.e != 0) = false := by rw [he]; rfl
      clear he
      have hd := x.ok HE.out
      have hol := outB_length pre hz
      gi_wp2
      refine ⟨trivial, fun h => (by cases h), ?_⟩
      refine (CallsIn.inRound l (callsIn_wide.2 (appendField_int v (outB pre) W0.heap.size x.tag x.d W hd (by omega) (by omega) hrow))).mono ?_
      rintro e W1 ⟨v', rfl, hown', hb', hs'⟩
      rw [← outB_snoc] at hown'
      have hs1 : W.heap.size ≤ W1.heap.size := hb'.size
      have bO2 : Boxed W1 (w.heap.size + 1 + 1) 43 v := spares_box hs' (by decide) bO1
      have cO2 := bO2.cell
      have fO2 := bO2.frozen
      obtain ⟨a', n', c', hv'⟩ : ∃ a' n' c', v' = .slice a' n' c' := by
        rcases hown'.2 with ⟨h, _⟩ | ⟨g, cp, _, h, _⟩
        · exact ⟨_, _, _, h⟩
        · exact ⟨_, _, _, h⟩
      have hne : ∀ (b : Nat) (c : Array Value) (m : Nat × Nat), W.heap[b]? = some (Obj.cells c 69 m) → b ≠ w.heap.size + 1 + 1 := by
        intro b c m hb e
        subst e
        rw [show W.heap[w.heap.size + 1 + 1]? = _ from bO1] at hb
        cases hb
      have FIN : Hid (KeepsFrom W0.heap.size W (W1.setCell ⟨w.heap.size + 1 + 1, 0, none⟩ v') ∧ KpJ w.heap.size W (W1.setCell ⟨w.heap.size + 1 + 1, 0, none⟩ v') ∧
          (((∃ v, Boxed (W1.setCell ⟨w.heap.size + 1 + 1, 0, none⟩ v') (w.heap.size + 1 + 1) 43 v ∧ (W1.setCell ⟨w.heap.size + 1 + 1, 0, none⟩ v').ownsRow W0.heap.size 5 1 v (outB (pre ++ [x])).length (cellsOf (outB (pre ++ [x]))) ∧ True) ∧
            (Boxed (W1.setCell ⟨w.heap.size + 1 + 1, 0, none⟩ v') w.heap.size 43 (.slice none 0 0) ∧ Boxed (W1.setCell ⟨w.heap.size + 1 + 1, 0, none⟩ v') (w.heap.size + 1) 32 (.int .i64 0))) ∧
          ((∀ y ∈ pre ++ [x], y.e = 0) ∧ Below w.heap.size w (W1.setCell ⟨w.heap.size + 1 + 1, 0, none⟩ v')))) := by
        refine ⟨((spares_others hs' hs1).trans (KeepsOthers.setCell _ _ _)).from _, ⟨(hb'.mono (by omega)).setCell (p := ⟨w.heap.size + 1 + 1, 0, none⟩) (by show w.heap.size ≤ w.heap.size + 1 + 1; omega) _, fun b c m hb => set_other (spares_box hs' (by decide) hb) (hne b c m hb) _⟩,
          ⟨⟨⟨v', bO2.set _, ?_, trivial⟩, set_other (spares_box hs' (by decide) bR11) (by omega) _, set_other (spares_box hs' (by decide) bR21) (by omega) _⟩, ?_, (hB1.trans (hb'.mono (by omega))).setCell (p := ⟨w.heap.size + 1 + 1, 0, none⟩) (by show w.heap.size ≤ w.heap.size + 1 + 1; omega) _⟩⟩
        · refine hown'.kept (grownBy_setCell' W1 _ v') ?_
          rcases hown'.2 with ⟨h, _⟩ | ⟨g, cp, _, h, hg, _⟩
          · left; rw [h]; rfl
          · right; rw [h]; intro e; simp [Value.ownBlock] at e; omega
        · intro y hy
          rcases List.mem_append.1 hy with h | h
          · exact hz y h
          · simp at h; subst h; exact HE.out
      subst hv'
      clear hown' hrow hs' hb'
      gi_wp2
      exact FIN.out
    · have HE : Hid (x.e ≠ 0) := he
      have he' : (x.e != 0) = true := by simpa using he
      clear he
      have FIN : Hid (KeepsFrom W0.heap.size W ((W.setCell ⟨w.heap.size, 0, none⟩ (.slice none 0 0)).setCell ⟨w.heap.size + 1, 0, none⟩ (.int .i64 x.e)) ∧
          ((∃ pre' x', pre ++ [x] = pre' ++ [x'] ∧ (∀ y ∈ pre', y.e = 0) ∧ x'.e ≠ 0 ∧ Boxed ((W.setCell ⟨w.heap.size, 0, none⟩ (.slice none 0 0)).setCell ⟨w.heap.size + 1, 0, none⟩ (.int .i64 x.e)) w.heap.size 43 (.slice none 0 0) ∧
            Boxed ((W.setCell ⟨w.heap.size, 0, none⟩ (.slice none 0 0)).setCell ⟨w.heap.size + 1, 0, none⟩ (.int .i64 x.e)) (w.heap.size + 1) 32 (.int .i64 x'.e)) ∧ Below w.heap.size w ((W.setCell ⟨w.heap.size, 0, none⟩ (.slice none 0 0)).setCell ⟨w.heap.size + 1, 0, none⟩ (.int .i64 x.e)))) :=
        ⟨((KeepsOthers.setCell _ _ _).trans (KeepsOthers.setCell _ _ _)).from _, ⟨pre, x, rfl, hz, HE.out, set_other (bR11.set _) (by omega) _, Boxed.set _ (show Boxed _ _ _ _ from set_other bR21 (by omega) _)⟩,
          (hB1.setCell (p := ⟨w.heap.size, 0, none⟩) (Nat.le_refl _) _).setCell (p := ⟨w.heap.size + 1, 0, none⟩) (by show w.heap.size ≤ w.heap.size + 1; omega) _⟩
      gi_wp2
      exact ⟨FIN.out.1, ⟨rfl, FIN.out.2.1⟩, FIN.out.2.2⟩
  case done =>
    rintro D ys W hD rfl ⟨⟨⟨v, bO1, hrow, ht⟩, bR11, bR21⟩, hz, hB1⟩ hK
    obtain ⟨a', n', c', hv'⟩ : ∃ a' n' c', v = .slice a' n' c' := by
      rcases hrow.2 with ⟨h, _⟩ | ⟨g, cp, _, h, _⟩
      · exact ⟨_, _, _, h⟩
      · exact ⟨_, _, _, h⟩
    subst hv'
    have cO := bO1.cell
    have c1 := bR11.cell
    have f1 := bR11.frozen
    have c2 := bR21.cell
    have f2 := bR21.frozen
    have HRW : Hid (W.ownsRow W0.heap.size 5 1 (.slice a' n' c') (outB (judge 0 fs)).length (cellsOf (outB (judge 0 fs)))) := hrow
    clear hrow
    gi_wp2
    have hK' := ((KeepsOthers.setCell W ⟨w.heap.size, 0, none⟩ (.slice a' n' c')).trans (KeepsOthers.setCell _ ⟨w.heap.size + 1, 0, none⟩ (.int .i64 0))).same D _ hK rfl
    refine ⟨by simp, .inl ⟨_, _, rfl, run_takeDeferred hK', ?_⟩⟩
    have b1 : Boxed ((W.setCell ⟨w.heap.size, 0, none⟩ (.slice a' n' c')).setCell ⟨w.heap.size + 1, 0, none⟩ (.int .i64 0)) w.heap.size 43 (.slice a' n' c') := set_other (bR11.set _) (by omega) _
    have b2 : Boxed ((W.setCell ⟨w.heap.size, 0, none⟩ (.slice a' n' c')).setCell ⟨w.heap.size + 1, 0, none⟩ (.int .i64 0)) (w.heap.size + 1) 32 (.int .i64 0) := Boxed.set _ (show Boxed _ _ _ _ from set_other bR21 (by omega) _)
    have q1 := cell_kept b1.cell (grownBy_putObj' _ D (.deferred none)) (fun r e => by cases e; exact ⟨_, hK', rfl⟩)
    have q2 := cell_kept b2.cell (grownBy_putObj' _ D (.deferred none)) (fun r e => by cases e; exact ⟨_, hK', rfl⟩)
    have hoff : ∀ B', B' < W0.heap.size → Value.ownBlock (.slice a' n' c') ≠ some B' := by
      intro B' hlt e
      have := (HRW.out.lt B' e).1
      omega
    have hrow2 := (HRW.out.kept (grownBy_setCell' W w.heap.size (.slice a' n' c')) (.inr (hoff _ (by omega)))).kept (grownBy_setCell' _ (w.heap.size + 1) (.int .i64 0)) (.inr (hoff _ (by omega)))
    refine ⟨.tuple #[.slice a' n' c', .int .i64 0], ?_, .inl ⟨hz, _, rfl, own_lower (ownsRow_putObj hrow2 _ hK' rfl) (by omega), ((hB1.setCell (p := ⟨w.heap.size, 0, none⟩) (Nat.le_refl _) _).setCell (p := ⟨w.heap.size + 1, 0, none⟩) (by show w.heap.size ≤ w.heap.size + 1; omega) _).trans (belowK_b (w := w) (Nat.le_refl _) _ D _ _ (by omega) hK' rfl rfl)⟩⟩
    simp [results, Tryd.f27, go_sem, q1, q2]
  case stop =>
    rintro D c pre W hD hpre ⟨⟨rfl, pre', x, rfl, hz, hx, bR11, bR21⟩, hB1⟩ hK
    gi_wp2
    refine ⟨by simp, .inl ⟨_, _, rfl, run_takeDeferred hK, ?_⟩⟩
    have q1 := cell_kept bR11.cell (grownBy_putObj' _ D (.deferred none)) (fun r e => by cases e; exact ⟨_, hK, rfl⟩)
    have q2 := cell_kept bR21.cell (grownBy_putObj' _ D (.deferred none)) (fun r e => by cases e; exact ⟨_, hK, rfl⟩)
    refine ⟨.tuple #[.slice none 0 0, .int .i64 x.e], ?_, .inr ⟨pre', x, hpre, hz, hx, rfl, hB1.trans (belowK_b (w := w) (Nat.le_refl _) W D _ _ (by omega) hK rfl rfl)⟩⟩
    simp [results, Tryd.f27, go_sem, q1, q2]
end Go.Proofs.YtdnhnjimhbbababDoor.P7

/- What pack.Read answers: the row of fields that bytes are made of, or what is wrong first. -/
namespace Go.Proofs.YtdnhnjimhbbababDoor.P7
open Go.RowKit Go.Shelf Nums
set_option maxRecDepth 100000

attribute [local go_sem] Oper.semAt_some
theorem info37 : (Tryd.prog.info? 69).map (fun i => (i.zero, i.size, i.bytes)) = some (some (.agg #[.int .i64 0, .string ⟨#[]⟩]), 2, 24) := by kernel_rfl
/-- Every field's block lies as it lay. -/
def Keep2 (W W' : World) : Prop := ∀ (b : Nat) (x y : Value) (m : Nat × Nat), W.heap[b]? = some (Obj.cells #[x, y] 69 m) → W'.heap[b]? = some (Obj.cells #[x, y] 69 m)
theorem Keep2.trans {A B C : World} (h : Keep2 A B) (k : Keep2 B C) : Keep2 A C := fun b x y m hb => k b x y m (h b x y m hb)
theorem Keep2.below {A B : World} (h : Below A.heap.size A B) : Keep2 A B := fun b _ _ _ hb => (h.block b (Array.getElem?_eq_some_iff.1 hb).1).trans hb
theorem Keep2.none {A B : World} (h : A.grownBy B none) : Keep2 A B := fun b _ _ _ hb => (h.block b (Array.getElem?_eq_some_iff.1 hb).1 (by simp)).trans hb
theorem run_append_field (W : World) (B : Nat) (v : Value) (fs : List (Int × ByteArray)) (f : Int × ByteArray) (hown : W.ownsRow B 69 2 v fs.length (fcells fs)) (hnil : v = .slice none 0 0 ↔ fs = []) (hB : B ≤ W.heap.size) (hl : fs.length ≤ 1048576) :
    ∃ v' w1, (Builtin.append_ #[72, 72] 72 #[v, .slice (some ⟨W.heap.size, 0, none⟩) 1 1]).run Tryd.prog (W.alloc (.cells #[.int .i64 f.1, .string f.2] 69)) = .ok v' w1 ∧
      w1.ownsRow B 69 2 v' (fs.length + 1) (fcells (fs ++ [f])) ∧ Below B W w1 ∧ Spares 69 W w1 ∧ Keep2 W w1 := by
  obtain ⟨i0, hi, hz0, hz1, hz2⟩ := info_parts info37
  have hb0 : Below W.heap.size W (W.alloc (.cells #[.int .i64 f.1, .string f.2] 69)) := (Below.refl _ _).alloc (Nat.le_refl _) _
  have hn : ∀ (j : Nat) (u : Value), (fcells [f])[j]? = some u → (W.alloc (.cells #[.int .i64 f.1, .string f.2] 69)).cell? ((⟨W.heap.size, 0, none⟩ : Addr).add j) = some u := by
    intro j u hj
    rw [add_plain]
    match j, hj with
    | 0, hj => simp [fcells] at hj; subst hj; simp
    | 1, hj => simp [fcells] at hj; subst hj; simp
    | j + 2, hj => simp [fcells] at hj
  have h1 : ∀ u ∈ fcells [f], u.oneCell' = true := by
    intro u hu
    simp [fcells] at hu
    rcases hu with rfl | rfl <;> rfl
  have hown1 := hown.alloc (.cells #[.int .i64 f.1, .string f.2] 69)
  have hsz : (W.alloc (.cells #[.int .i64 f.1, .string f.2] 69)).heap.size = W.heap.size + 1 := by simp
  rcases hown.2 with ⟨hv, h0⟩ | ⟨g, cap, cur, hv, hbg, hgb, hnc, hcm, hcs, htk⟩
  · obtain ⟨v', w1, hr, ho, hg, _⟩ := run_append_own (P := Tryd.prog) _ B 72 72 69 i0 (.agg #[.int .i64 0, .string ⟨#[]⟩]) 2 24 Tryd.underlying72 hi hz0 hz1 hz2 rfl (by decide) v fs.length _ hown1 ⟨W.heap.size, 0, none⟩ 1 1 (fcells [f]) (by simp [fcells]) hn h1 (by unfold maxLen; omega) (by omega) (by rw [hsz]; omega)
    rw [hv] at hg
    refine ⟨v', w1, hr, by rw [fcells_append]; exact ho, (hb0.mono hB).grown hg (by rw [hsz]; omega) (by intro k hk; cases hk), (Spares.alloc 69 W (.cells #[.int .i64 f.1, .string f.2] 69)).trans ?_, (Keep2.below hb0).trans (Keep2.none hg)⟩
    exact Spares.grown (v := .slice none 0 0) (by rw [← hv]; exact hown1) hg
  · have hfs : fs.length ≠ 0 := by
      intro e
      have : fs = [] := List.eq_nil_of_length_eq_zero e
      have := hnil.2 this
      rw [hv] at this; cases this
    by_cases hroom : fs.length + 1 ≤ cap
    · rw [hv] at hown1 ⊢
      obtain ⟨w1, hr, ho, hg⟩ := run_append_fits (P := Tryd.prog) _ B 72 72 69 i0 2 Tryd.underlying72 hi hz1 g fs.length cap _ hown1 ⟨W.heap.size, 0, none⟩ 1 1 (fcells [f]) (by simp [fcells]) hn h1 hroom
      refine ⟨_, w1, hr, by rw [fcells_append]; exact ho, (hb0.mono hB).grown hg (by rw [hsz]; omega) (by intro k hk; cases hk; exact hbg), (Spares.alloc 69 W (.cells #[.int .i64 f.1, .string f.2] 69)).trans (Spares.grown hown1 hg), (Keep2.below hb0).trans ?_⟩
      intro b x y m hb
      refine (hg.block b (Array.getElem?_eq_some_iff.1 hb).1 ?_).trans hb
      intro e
      cases e
      have hgb' : (W.alloc (.cells #[.int .i64 f.1, .string f.2] 69)).heap[g]? = some (.cells cur 69 (0, 0)) := (hb0.block g (Array.getElem?_eq_some_iff.1 hgb).1).trans hgb
      rw [hgb'] at hb
      cases hb
      simp at hcs
      omega
    · rw [hv]
      have hcells : ∀ (j : Nat) (u : Value), (fcells fs)[j]? = some u → (W.alloc (.cells #[.int .i64 f.1, .string f.2] 69)).cell? ((⟨g, 0, none⟩ : Addr).add j) = some u := hown1.cells (g := g) (by rw [hv]; rfl)
      obtain ⟨v', w1, hr, ho, hg⟩ := run_append_arg_grows (P := Tryd.prog) _ 72 72 69 i0 (.agg #[.int .i64 0, .string ⟨#[]⟩]) 2 24 Tryd.underlying72 hi hz0 hz1 hz2 rfl (by decide) ⟨g, 0, none⟩ fs.length cap (fcells fs) (fcells_length fs) hcells ⟨W.heap.size, 0, none⟩ 1 1 (fcells [f]) (by simp [fcells]) hn (by omega) (by unfold maxLen; omega) (by omega)
      refine ⟨v', w1, hr, by rw [fcells_append]; exact own_lower ho (by rw [hsz]; omega), (hb0.mono hB).grown hg (by rw [hsz]; omega) (by intro k hk; cases hk), (Spares.alloc 69 W (.cells #[.int .i64 f.1, .string f.2] 69)).trans ?_, (Keep2.below hb0).trans (Keep2.none hg)⟩
      intro i o hi2 _
      exact (hg.block i (Array.getElem?_eq_some_iff.1 hi2).1 (by simp)).trans hi2
theorem wpListIn_append_run {F : Fence} {n : Nat} {P : Program} {w : World} {ops : Array Oper} {rest : List Oper} {o : Oper} {a : Act} {Q : Exit → Act → World → Prop}
    (hg : o.guard = none) (s x : Operand) (t u : TypeId) (hop : o.op = Op.call { callee := Callee.builtin Builtin.append, args := #[s, x], argTypes := #[t, u] })
    (vs vx v' : Value) (w' : World) (hs : a.eval s = vs) (hx : a.eval x = vx) (hrun : (Builtin.append_ #[t, u] o.type #[vs, vx]).run P w = .ok v' w')
    (hK : wpListIn F n P ops Q rest (a.put o.dst v') w') : wpListIn F n P ops Q (o :: rest) a w := by
  refine wpListIn_plain hg fun K hK' => ?_
  unfold Oper.wpIn
  refine ⟨?_, ?_⟩
  · simp [Oper.about, hop, resolve, Target.leads, Sem.run_pure]
  · rw [Oper.semAt_plain F _ _ (by rw [hop]; intro c hc'; cases hc')]
    simp [execOp, hop, resolve, invoke, builtin, hs, hx, hrun, Result.andThen]
    exact hK' _ _ hK
theorem spares_boxT {T : TypeId} {w w' : World} (h : Spares T w w') {b : Nat} {c : Array Value} {t : TypeId} {m : Nat × Nat} (ht : t ≠ T) (hb : w.heap[b]? = some (.cells c t m)) : w'.heap[b]? = some (.cells c t m) :=
  h b _ hb (fun c' m' e => by cases e; exact ht rfl)
theorem spares_othersT {T : TypeId} {w w' : World} (h : Spares T w w') (hs : w.heap.size ≤ w'.heap.size) : KeepsOthers w w' := ⟨hs, fun k o hk ho => h k o hk (fun c m e => by subst e; cases ho)⟩
set_option maxRecDepth 100000 in
set_option maxHeartbeats 4000000 in
theorem read_in (n : Nat) (hn : 3 ≤ n) (a : Option Addr) (len cap : Nat) (bs : List UInt8) (w : World) (hR : Reads w a len cap bs) (hl : len ≤ 1000000) :
    CallsIn Fence.wide n Tryd.prog 63 #[.slice a len cap] w fun e W' =>
      ((∀ x ∈ parse (len + 1) 0 bs, x.e = 0) ∧ ∃ v, e = .returned (.tuple #[v, .int .i64 0]) ∧ W'.ownsRow w.heap.size 69 2 v (toF (parse (len + 1) 0 bs)).length (fcells (toF (parse (len + 1) 0 bs))) ∧ Below w.heap.size w W') ∨
      (∃ pre x, (pre ++ [x]) <+: parse (len + 1) 0 bs ∧ (∀ y ∈ pre, y.e = 0) ∧ x.e ≠ 0 ∧ e = .returned (.tuple #[.slice none 0 0, .int .i64 x.e]) ∧ Below w.heap.size w W') := by
  have h1 : 1 ≤ n := by omega
  refine callsIn_of_wp_marks Tryd.func63 rfl trivial ?_ rfl
  simp only [Tryd.ntmps63, List.size_toArray, List.length_cons, List.length_nil, Nat.reduceAdd, Nat.reduceSub, Array.replicate_succ, Array.replicate_zero, List.push_toArray, List.append_toArray, List.nil_append, List.cons_append]
  gi_wp2_with (refine ⟨trivial, ?_⟩; gi_at_call 84; refine (parsed_in (n - 1) _ _ _ _).mono ?_; rintro e w' ⟨rfl, rfl⟩)
  have bR1 := (((Boxed.new w 72 (.slice none 0 0)).alloc (.cells #[.int .i64 0] 32)).alloc (.cells #[.slice none 0 0] 72)).alloc (.cells #[.slice a len cap] 43)
  have bR2 := ((Boxed.new (w.alloc (.cells #[.slice none 0 0] 72)) 32 (.int .i64 0)).alloc (.cells #[.slice none 0 0] 72)).alloc (.cells #[.slice a len cap] 43)
  have bO := (Boxed.new ((w.alloc (.cells #[.slice none 0 0] 72)).alloc (.cells #[.int .i64 0] 32)) 72 (.slice none 0 0)).alloc (.cells #[.slice a len cap] 43)
  have bA := Boxed.new (((w.alloc (.cells #[.slice none 0 0] 72)).alloc (.cells #[.int .i64 0] 32)).alloc (.cells #[.slice none 0 0] 72)) 43 (.slice a len cap)
  simp only [World.size_alloc] at bR2 bO bA
  have hB0 : Below w.heap.size w ((((w.alloc (.cells #[.slice none 0 0] 72)).alloc (.cells #[.int .i64 0] 32)).alloc (.cells #[.slice none 0 0] 72)).alloc (.cells #[.slice a len cap] 43)) :=
    ((((Below.refl _ w).alloc (Nat.le_refl _) _).alloc (by simp) _).alloc (by simp; omega) _).alloc (by simp; omega) _
  have hsz : ((((w.alloc (.cells #[.slice none 0 0] 72)).alloc (.cells #[.int .i64 0] 32)).alloc (.cells #[.slice none 0 0] 72)).alloc (.cells #[.slice a len cap] 43)).heap.size = w.heap.size + 4 := by simp
  obtain ⟨W0, hW0⟩ : ∃ W0, (((w.alloc (.cells #[.slice none 0 0] 72)).alloc (.cells #[.int .i64 0] 32)).alloc (.cells #[.slice none 0 0] 72)).alloc (.cells #[.slice a len cap] 43) = W0 := ⟨_, rfl⟩
  rw [hW0] at bR1 bR2 bO bA hB0 hsz ⊢
  clear hW0
  have hge : w.heap.size + 4 ≤ W0.heap.size := Nat.le_of_eq hsz.symm
  clear hsz
  refine wpIn_rangeFunc_ownH rfl h1 (gf := 89) (lb := #[.pointer (some ⟨w.heap.size + 1 + 1 + 1, 0, none⟩)]) rfl trivial (enters_of Tryd.func89 (by kernel_rfl) rfl)
    (parsed_stops (n - 1) (by omega) (w.heap.size + 1 + 1 + 1) w.heap.size a len cap bs W0 (by omega) (by omega) bA.cell (LReads.below hB0 hR.lreads)) kpP_t (kpP_b (by omega)) (Below.refl _ _) (fun _ => rfl)
    (fun pre W => ((∃ v, Boxed W (w.heap.size + 1 + 1) 72 v ∧ W.ownsRow W0.heap.size 69 2 v (toF pre).length (fcells (toF pre)) ∧ (v = .slice none 0 0 ↔ toF pre = [])) ∧ (Boxed W w.heap.size 72 (.slice none 0 0) ∧ Boxed W (w.heap.size + 1) 32 (.int .i64 0))) ∧ ((∀ x ∈ pre, x.e = 0) ∧ Below w.heap.size w W))
    (fun c pre W => (c = .ret ∧ ∃ pre' x, pre = pre' ++ [x] ∧ (∀ y ∈ pre', y.e = 0) ∧ x.e ≠ 0 ∧ Boxed W w.heap.size 72 (.slice none 0 0) ∧ Boxed W (w.heap.size + 1) 32 (.int .i64 x.e)) ∧ Below w.heap.size w W)
    (OwnFrom.and (OwnFrom.and (Own.from (holdsRow_own W0.heap.size (w.heap.size + 1 + 1) 72 69 2 (fun pre => (toF pre).length) (fun pre => fcells (toF pre)) (fun pre v => v = .slice none 0 0 ↔ toF pre = [])) _) (OwnFrom.and (Own.from (boxed_own _ _ _) _) (Own.from (boxed_own _ _ _) _))) (OwnFrom.and (ownFrom_pure _ _) (ownFrom_below (Nat.le_refl _) (by omega))))
    (fun c => OwnFrom.and (fun s X Y row hs hg hr => by
      obtain ⟨hc, pre', x, e1, e2, e3, b1, b2⟩ := hs
      exact ⟨hc, pre', x, e1, e2, e3, cells_stay b1 hg (fun r e => (hr r e).2), cells_stay b2 hg (fun r e => (hr r e).2)⟩) (ownFrom_below (Nat.le_refl _) (by omega)))
    ⟨⟨⟨_, bO, World.ownsRow_nil _ _ _ _, by simp [toF]⟩, bR1, bR2⟩, by simp, hB0⟩
    (fun x a' W => ∃ Bx, w.heap.size + 1 + 1 < Bx ∧ W.heap[Bx]? = some (.cells #[.int .i64 x.tag, .string ⟨x.d.toArray⟩] 69 (0, 0)) ∧ a' = { tmps := #[.slice a len cap, undef, .pointer (some ⟨w.heap.size, 0, none⟩), .pointer (some ⟨w.heap.size + 1, 0, none⟩), .pointer (some ⟨w.heap.size + 1 + 1, 0, none⟩), .pointer (some ⟨Bx, 0, none⟩), .int .i64 x.e, .slice a len cap, .func (.func 89) #[] #[.pointer (some ⟨w.heap.size + 1 + 1 + 1, 0, none⟩)], .agg #[.int .i64 x.tag, .string ⟨x.d.toArray⟩], .int .i64 x.e, undef, undef, undef, undef, undef, undef, undef, undef], defers := [] })
    (fun x a' _ X Y row hs hg hr => by obtain ⟨Bx, h1, h2, h3⟩ := hs; exact ⟨Bx, h1, cells_stay h2 hg (fun r e => (hr r e).2), h3⟩)
    ?assign ?body ?done ?stop
  case assign =>
    rintro l pre x W K ⟨⟨⟨v, bO1, hrow, ht⟩, bR11, bR21⟩, hz, hB1⟩ hK
    dsimp only [encP]
    gi_wp2
    refine hK _ _ ((KeepsOthers.alloc _ _).from _) ⟨(Below.refl _ W).alloc hB1.size _, fun b c _ m hb => (Below.heap_alloc W _ b (Array.getElem?_eq_some_iff.1 hb).1).trans hb⟩ ⟨⟨⟨v, bO1.alloc _, hrow.alloc _, ht⟩, bR11.alloc _, bR21.alloc _⟩, hz, hB1.alloc hB1.size _⟩ ⟨W.heap.size, bO1.lt, World.alloc_heap_new W _, rfl⟩
  case body =>
    rintro l pre x a' W hl0 ⟨r, hr⟩ ⟨⟨⟨v, bO1, hrow, ht⟩, bR11, bR21⟩, hz, hB1⟩ ⟨Bx, hBx, bX, rfl⟩ hlt
    have hsW := hB1.size
    have hlW : W0.heap.size ≤ W.heap.size := Nat.le_trans hl0 (Nat.le_of_lt (Array.getElem?_eq_some_iff.1 hr).1)
    clear hr
    have cO := bO1.cell
    have fO := bO1.frozen
    have cX0 : W.cell? ⟨Bx, 0, none⟩ = some (.int .i64 x.tag) := by simp [World.cell?, bX]
    have cX1 : W.cell? ⟨Bx, 1, none⟩ = some (.string ⟨x.d.toArray⟩) := by simp [World.cell?, bX]
    have c1 := bR11.cell
    have f1 := bR11.frozen
    have c2 := bR21.cell
    have f2 := bR21.frozen
    by_cases he : x.e = 0
    · have HE : Hid (x.e = 0) := he
      have he' : ((x.e : Int) != 0) = false := by rw [he]; rfl
      clear he
      obtain ⟨v', W1, hrun, hown', hb', hs', hk'⟩ := run_append_field W W0.heap.size v (toF pre) ((x.tag : Int), ⟨x.d.toArray⟩) hrow ht hlW (by rw [toF_length]; omega)
      have HRUN : Hid _ := hrun
      clear hrun
      rw [← toF_snoc] at hown'
      have hl1 : (toF pre).length + 1 = (toF (pre ++ [x])).length := by rw [toF_length, toF_length, List.length_append]; rfl
      rw [hl1] at hown'
      have hs1 : W.heap.size ≤ W1.heap.size := hb'.size
      have bO2 : Boxed W1 (w.heap.size + 1 + 1) 72 v := spares_boxT hs' (by decide) bO1
      have cO2 := bO2.cell
      have fO2 := bO2.frozen
      have hpos : (toF (pre ++ [x])).length ≠ 0 := by rw [toF_length, List.length_append]; simp
      obtain ⟨a', n', c', hv'⟩ : ∃ a' n' c', v' = .slice (some a') n' c' := by
        rcases hown'.2 with ⟨_, h⟩ | ⟨g, cp, _, h, _⟩
        · exact absurd h hpos
        · exact ⟨_, _, _, h⟩
      have hne : ∀ (b : Nat) (c d : Value) (m : Nat × Nat), W.heap[b]? = some (Obj.cells #[c, d] 69 m) → b ≠ w.heap.size + 1 + 1 := by
        intro b c d m hb e
        subst e
        rw [show W.heap[w.heap.size + 1 + 1]? = _ from bO1] at hb
        cases hb
      have FIN : Hid (KeepsFrom W0.heap.size W (W1.setCell ⟨w.heap.size + 1 + 1, 0, none⟩ v') ∧ KpP w.heap.size W (W1.setCell ⟨w.heap.size + 1 + 1, 0, none⟩ v') ∧
          (((∃ v, Boxed (W1.setCell ⟨w.heap.size + 1 + 1, 0, none⟩ v') (w.heap.size + 1 + 1) 72 v ∧ (W1.setCell ⟨w.heap.size + 1 + 1, 0, none⟩ v').ownsRow W0.heap.size 69 2 v (toF (pre ++ [x])).length (fcells (toF (pre ++ [x]))) ∧ (v = .slice none 0 0 ↔ toF (pre ++ [x]) = [])) ∧
            (Boxed (W1.setCell ⟨w.heap.size + 1 + 1, 0, none⟩ v') w.heap.size 72 (.slice none 0 0) ∧ Boxed (W1.setCell ⟨w.heap.size + 1 + 1, 0, none⟩ v') (w.heap.size + 1) 32 (.int .i64 0))) ∧
          ((∀ y ∈ pre ++ [x], y.e = 0) ∧ Below w.heap.size w (W1.setCell ⟨w.heap.size + 1 + 1, 0, none⟩ v')))) := by
        refine ⟨((spares_othersT hs' hs1).trans (KeepsOthers.setCell _ _ _)).from _, ⟨(hb'.mono (by omega)).setCell (p := ⟨w.heap.size + 1 + 1, 0, none⟩) (by show w.heap.size ≤ w.heap.size + 1 + 1; omega) _, fun b c d m hb => set_other (hk' b c d m hb) (hne b c d m hb) _⟩,
          ⟨⟨⟨v', bO2.set _, ?_, ?_⟩, set_other (spares_boxT hs' (by decide) bR11) (by omega) _, set_other (spares_boxT hs' (by decide) bR21) (by omega) _⟩, ?_, (hB1.trans (hb'.mono (by omega))).setCell (p := ⟨w.heap.size + 1 + 1, 0, none⟩) (by show w.heap.size ≤ w.heap.size + 1 + 1; omega) _⟩⟩
        · refine hown'.kept (grownBy_setCell' W1 _ v') ?_
          rcases hown'.2 with ⟨h, _⟩ | ⟨g, cp, _, h, hg, _⟩
          · left; rw [h]; rfl
          · right; rw [h]; intro e; simp [Value.ownBlock] at e; omega
        · rw [hv']
          constructor
          · intro h; cases h
          · intro h; rw [h] at hpos; exact absurd rfl hpos
        · intro y hy
          rcases List.mem_append.1 hy with h | h
          · exact hz y h
          · simp at h; subst h; exact HE.out
      subst hv'
      clear hown' hrow hs' hb' hk' ht hl1 hpos
      gi_wp2_with (first
        | (gi_at_builtin; refine wpListIn_append_run (by rfl) (.tmp 14) (.tmp 16) 72 72 (by rfl) _ _ _ _ (by rfl) (by rfl) HRUN.out ?_)
        | fail)
      exact FIN.out
    · have HE : Hid (x.e ≠ 0) := he
      have he' : ((x.e : Int) != 0) = true := by simpa using he
      clear he
      have FIN : Hid (KeepsFrom W0.heap.size W ((W.setCell ⟨w.heap.size, 0, none⟩ (.slice none 0 0)).setCell ⟨w.heap.size + 1, 0, none⟩ (.int .i64 x.e)) ∧
          ((∃ pre' x', pre ++ [x] = pre' ++ [x'] ∧ (∀ y ∈ pre', y.e = 0) ∧ x'.e ≠ 0 ∧ Boxed ((W.setCell ⟨w.heap.size, 0, none⟩ (.slice none 0 0)).setCell ⟨w.heap.size + 1, 0, none⟩ (.int .i64 x.e)) w.heap.size 72 (.slice none 0 0) ∧
            Boxed ((W.setCell ⟨w.heap.size, 0, none⟩ (.slice none 0 0)).setCell ⟨w.heap.size + 1, 0, none⟩ (.int .i64 x.e)) (w.heap.size + 1) 32 (.int .i64 x'.e)) ∧ Below w.heap.size w ((W.setCell ⟨w.heap.size, 0, none⟩ (.slice none 0 0)).setCell ⟨w.heap.size + 1, 0, none⟩ (.int .i64 x.e)))) :=
        ⟨((KeepsOthers.setCell _ _ _).trans (KeepsOthers.setCell _ _ _)).from _, ⟨pre, x, rfl, hz, HE.out, set_other (bR11.set _) (by omega) _, Boxed.set _ (show Boxed _ _ _ _ from set_other bR21 (by omega) _)⟩,
          (hB1.setCell (p := ⟨w.heap.size, 0, none⟩) (Nat.le_refl _) _).setCell (p := ⟨w.heap.size + 1, 0, none⟩) (by show w.heap.size ≤ w.heap.size + 1; omega) _⟩
      gi_wp2
      exact ⟨FIN.out.1, ⟨rfl, FIN.out.2.1⟩, FIN.out.2.2⟩
  case done =>
    rintro D ys W hD rfl ⟨⟨⟨v, bO1, hrow, ht⟩, bR11, bR21⟩, hz, hB1⟩ hK
    obtain ⟨a', n', c', hv'⟩ : ∃ a' n' c', v = .slice a' n' c' := by
      rcases hrow.2 with ⟨h, _⟩ | ⟨g, cp, _, h, _⟩
      · exact ⟨_, _, _, h⟩
      · exact ⟨_, _, _, h⟩
    subst hv'
    have cO := bO1.cell
    have c1 := bR11.cell
    have f1 := bR11.frozen
    have c2 := bR21.cell
    have f2 := bR21.frozen
    have HRW : Hid (W.ownsRow W0.heap.size 69 2 (.slice a' n' c') (toF (parse (len + 1) 0 bs)).length (fcells (toF (parse (len + 1) 0 bs)))) := hrow
    clear hrow
    gi_wp2
    have hK' := ((KeepsOthers.setCell W ⟨w.heap.size, 0, none⟩ (.slice a' n' c')).trans (KeepsOthers.setCell _ ⟨w.heap.size + 1, 0, none⟩ (.int .i64 0))).same D _ hK rfl
    refine ⟨by simp, .inl ⟨_, _, rfl, run_takeDeferred hK', ?_⟩⟩
    have b1 : Boxed ((W.setCell ⟨w.heap.size, 0, none⟩ (.slice a' n' c')).setCell ⟨w.heap.size + 1, 0, none⟩ (.int .i64 0)) w.heap.size 72 (.slice a' n' c') := set_other (bR11.set _) (by omega) _
    have b2 : Boxed ((W.setCell ⟨w.heap.size, 0, none⟩ (.slice a' n' c')).setCell ⟨w.heap.size + 1, 0, none⟩ (.int .i64 0)) (w.heap.size + 1) 32 (.int .i64 0) := Boxed.set _ (show Boxed _ _ _ _ from set_other bR21 (by omega) _)
    have q1 := cell_kept b1.cell (grownBy_putObj' _ D (.deferred none)) (fun r e => by cases e; exact ⟨_, hK', rfl⟩)
    have q2 := cell_kept b2.cell (grownBy_putObj' _ D (.deferred none)) (fun r e => by cases e; exact ⟨_, hK', rfl⟩)
    have hoff : ∀ B', B' < W0.heap.size → Value.ownBlock (.slice a' n' c') ≠ some B' := by
      intro B' hlt e
      have := (HRW.out.lt B' e).1
      omega
    have hrow2 := (HRW.out.kept (grownBy_setCell' W w.heap.size (.slice a' n' c')) (.inr (hoff _ (by omega)))).kept (grownBy_setCell' _ (w.heap.size + 1) (.int .i64 0)) (.inr (hoff _ (by omega)))
    refine ⟨.tuple #[.slice a' n' c', .int .i64 0], ?_, .inl ⟨hz, _, rfl, own_lower (ownsRow_putObj hrow2 _ hK' rfl) (by omega), ((hB1.setCell (p := ⟨w.heap.size, 0, none⟩) (Nat.le_refl _) _).setCell (p := ⟨w.heap.size + 1, 0, none⟩) (by show w.heap.size ≤ w.heap.size + 1; omega) _).trans (belowK_b (w := w) (Nat.le_refl _) _ D _ _ (by omega) hK' rfl rfl)⟩⟩
    simp [results, Tryd.f63, go_sem, q1, q2]
  case stop =>
    rintro D c pre W hD hpre ⟨⟨rfl, pre', x, rfl, hz, hx, bR11, bR21⟩, hB1⟩ hK
    gi_wp2
    refine ⟨by simp, .inl ⟨_, _, rfl, run_takeDeferred hK, ?_⟩⟩
    have q1 := cell_kept bR11.cell (grownBy_putObj' _ D (.deferred none)) (fun r e => by cases e; exact ⟨_, hK, rfl⟩)
    have q2 := cell_kept bR21.cell (grownBy_putObj' _ D (.deferred none)) (fun r e => by cases e; exact ⟨_, hK, rfl⟩)
    refine ⟨.tuple #[.slice none 0 0, .int .i64 x.e], ?_, .inr ⟨pre', x, hpre, hz, hx, rfl, hB1.trans (belowK_b (w := w) (Nat.le_refl _) W D _ _ (by omega) hK rfl rfl)⟩⟩
    simp [results, Tryd.f63, go_sem, q1, q2]
end Go.Proofs.YtdnhnjimhbbababDoor.P7

/- What Lay and Read answer, as plain functions; pack.Lay and pack.Read answer so. -/
namespace Go.Proofs.YtdnhnjimhbbababDoor.P7
open Go.RowKit Go.Shelf Nums
set_option maxRecDepth 100000
theorem outB_judge : ∀ (last : Int) (fs : List (Int × ByteArray)), outB (judge last fs) = rowB fs
  | _, [] => rfl
  | last, f :: r => by
    have := outB_judge f.1 r
    simp only [judge, rowB]
    rw [← this]
    simp [outB]
theorem lay_any (a : Option Addr) (len cap : Nat) (fs : List (Int × ByteArray)) (w : World) (hR : FReads w.heap.size w a len cap fs) (hl : len ≤ 400) :
    Calls Tryd.prog 27 #[.slice a len cap] w fun e W' => ∃ v, e = .returned (.tuple #[v, .int .i64 (layE 0 fs)]) ∧ W'.ownsRow w.heap.size 5 1 v (rowOf fs).length (cellsOf (rowOf fs)) ∧ Below w.heap.size w W' := by
  refine ((callsIn_wide (n := 3)).1 (lay_in 3 (by decide) a len cap fs w hR hl)).mono ?_
  rintro e W' (⟨hz, v, rfl, hown, hb⟩ | ⟨pre, x, hp, hz, hx, rfl, hb⟩)
  · have h0 := layE_all 0 fs hz
    refine ⟨v, by rw [h0], ?_, hb⟩
    rw [rowOf, if_pos h0, ← outB_judge 0 fs]
    exact hown
  · have h0 := layE_first pre 0 fs x hp hz hx
    refine ⟨_, by rw [h0], ?_, hb⟩
    rw [rowOf, if_neg (by rw [h0]; exact hx)]
    exact World.ownsRow_nil _ _ _ _
theorem read_any (a : Option Addr) (len cap : Nat) (bs : List UInt8) (w : World) (hR : Reads w a len cap bs) (hl : len ≤ 1000000) :
    Calls Tryd.prog 63 #[.slice a len cap] w fun e W' => ∃ v, e = .returned (.tuple #[v, .int .i64 (readE bs)]) ∧ W'.ownsRow w.heap.size 69 2 v (readF bs).length (fcells (readF bs)) ∧ Below w.heap.size w W' := by
  refine ((callsIn_wide (n := 3)).1 (read_in 3 (by decide) a len cap bs w hR hl)).mono ?_
  have hlen : bs.length = len := hR.1
  rintro e W' (⟨hz, v, rfl, hown, hb⟩ | ⟨pre, x, hp, hz, hx, rfl, hb⟩)
  · have h0 : readE bs = 0 := by rw [readE, hlen]; exact firstE_all _ hz
    refine ⟨v, by rw [h0]; rfl, ?_, hb⟩
    rw [readF, if_pos h0, hlen]
    exact hown
  · have h0 : readE bs = x.e := by rw [readE, hlen]; exact firstE_first pre _ x hp hz hx
    refine ⟨_, by rw [h0], ?_, hb⟩
    rw [readF, if_neg (by rw [h0]; exact hx)]
    exact World.ownsRow_nil _ _ _ _
/-- A row of fields that is owned can be read. -/
theorem freads_own {w : World} {B : Nat} {v : Value} {fs : List (Int × ByteArray)} (h : w.ownsRow B 69 2 v fs.length (fcells fs)) (hm : ∀ f ∈ fs, f.2.size ≤ maxLen) : ∃ a cap, v = .slice a fs.length cap ∧ FReads w.heap.size w a fs.length cap fs := by
  have hcell : ∀ (fs : List (Int × ByteArray)) (i : Nat) (hi : i < fs.length), (fcells fs)[i * 2]? = some (.int .i64 fs[i].1) ∧ (fcells fs)[i * 2 + 1]? = some (.string fs[i].2) := by
    intro fs
    induction fs with
    | nil => intro i hi; simp at hi
    | cons f r ih =>
      intro i hi
      cases i with
      | zero => simp [fcells]
      | succ i =>
        have := ih i (by simpa using hi)
        have e1 : (i + 1) * 2 = i * 2 + 1 + 1 := by omega
        rw [e1]
        simpa [fcells] using this
  rcases h.2 with ⟨rfl, h0⟩ | ⟨g, cap, cur, rfl, hb, hg, hn, hcm, hs, ht⟩
  · exact ⟨none, 0, by rw [h0], rfl, by omega, by decide, hm, .inl ⟨rfl, rfl⟩⟩
  · have hlt := (h.lt g rfl).2
    refine ⟨_, _, rfl, rfl, hn, by unfold maxLen at hcm; omega, hm, .inr (.inr ⟨g, 0, rfl, hlt, fun i hi => ?_⟩)⟩
    have h1 := h.cellAt (i * 2) (by omega)
    have h2 := h.cellAt (i * 2 + 1) (by omega)
    have := hcell fs i hi
    rw [Nat.zero_add]
    exact ⟨h1.trans this.1, h2.trans this.2⟩
end Go.Proofs.YtdnhnjimhbbababDoor.P7

/- The examples of the document for rows hold, whatever the world. -/
namespace Go.Proofs.YtdnhnjimhbbababDoor.P7
open Go.RowKit Nums
set_option maxRecDepth 100000
theorem parse_small : ∀ (k last : Nat) (l : List UInt8), ∀ x ∈ parse k last l, x.d.length ≤ 65536
  | 0, _, _, x, h => by simp [parse] at h
  | k + 1, last, l, x, h => by
    rw [parse] at h
    by_cases hl : l = []
    · rw [if_pos hl] at h; simp at h
    · rw [if_neg hl] at h
      rcases List.mem_cons.1 h with rfl | h
      · exact gD_le l
      · by_cases he : pE last l = 0
        · rw [if_pos he] at h; exact parse_small k _ _ x h
        · rw [if_neg he] at h; simp at h
theorem readF_small (bs : List UInt8) : ∀ f ∈ readF bs, f.2.size ≤ maxLen := by
  intro f hf
  unfold readF at hf
  by_cases h : readE bs = 0
  · rw [if_pos h] at hf
    unfold toF at hf
    obtain ⟨x, hx, rfl⟩ := List.mem_map.1 hf
    have := parse_small _ _ _ x hx
    show x.d.toArray.size ≤ maxLen
    unfold maxLen
    simp
    omega
  · rw [if_neg h] at hf; simp at hf
theorem lay_reads (a : Option Addr) (len cap : Nat) (fs : List (Int × ByteArray)) (w : World) (hR : FReads w.heap.size w a len cap fs) (hl : len ≤ 400) {k : Int} {l : List UInt8} (hk : layE 0 fs = k) (hr : rowOf fs = l) :
    Calls Tryd.prog 27 #[.slice a len cap] w fun e W' => ∃ a' c', e = .returned (.tuple #[.slice a' l.length c', .int .i64 k]) ∧ Reads W' a' l.length c' l ∧ Below w.heap.size w W' := by
  refine (lay_any a len cap fs w hR hl).mono ?_
  rintro e W' ⟨v, rfl, hown, hb⟩
  rw [hr] at hown
  obtain ⟨a', c', rfl, hrd⟩ := reads_own hown
  exact ⟨a', c', by rw [hk], hrd, hb⟩
/-- A literal slice of fields can be read. -/
theorem freads_lit (w : World) (cs : Array Value) (m : Nat × Nat) (fs : List (Int × ByteArray)) (h : cs.toList = fcells fs) (hl : fs.length ≤ 1048576) (hm : ∀ f ∈ fs, f.2.size ≤ maxLen) :
    FReads (w.heap.size + 1) (w.alloc (.cells cs 69 m)) (some ⟨w.heap.size, 0, none⟩) fs.length fs.length fs := by
  have hcell : ∀ (fs : List (Int × ByteArray)) (i : Nat) (hi : i < fs.length), (fcells fs)[i * 2]? = some (.int .i64 fs[i].1) ∧ (fcells fs)[i * 2 + 1]? = some (.string fs[i].2) := by
    intro fs
    induction fs with
    | nil => intro i hi; simp at hi
    | cons f r ih =>
      intro i hi
      cases i with
      | zero => simp [fcells]
      | succ i =>
        have := ih i (by simpa using hi)
        have e1 : (i + 1) * 2 = i * 2 + 1 + 1 := by omega
        rw [e1]
        simpa [fcells] using this
  refine ⟨rfl, Nat.le_refl _, by omega, hm, .inr (.inr ⟨w.heap.size, 0, rfl, by omega, fun i hi => ?_⟩)⟩
  have e : ∀ j, (w.alloc (.cells cs 69 m)).cell? ⟨w.heap.size, j, none⟩ = (fcells fs)[j]? := fun j => by
    rw [World.cell?_alloc_mark w cs 69 m j, ← Array.getElem?_toList, h]
  rw [Nat.zero_add, e, e]
  exact hcell fs i hi
end Go.Proofs.YtdnhnjimhbbababDoor.P7

/- What the document's Get answers. -/
namespace Go.Proofs.YtdnhnjimhbbababDoor.P7
open Go.RowKit Sums Nums
set_option linter.unusedVariables false
set_option linter.unusedSimpArgs false
set_option maxRecDepth 100000
theorem builtH (h : HdT) (hd : h.d.length = 32) (D R : Array Value) (HD : Hid (D = (cellsOf h.d).toArray)) (HR : Hid (R = (hcells h).toArray)) : Tryd.prog.built 38 [(0, .int .i64 h.r), (1, .int .i64 h.e), (2, .int .i64 h.s), (3, .agg D), (4, .int .i64 h.t)] = some R := by
  have hi := infoH
  cases hq : Tryd.prog.info? 38 with
  | none => rw [hq] at hi; cases hi
  | some i =>
    rw [hq] at hi
    simp only [Option.map_some, Option.some.injEq, Prod.mk.injEq] at hi
    have hD := size23
    have h3 : (Tryd.prog.info? 3).map (·.size) = some 1 := by kernel_rfl
    cases hqD : Tryd.prog.info? 30 with
    | none => rw [hqD] at hD; cases hD
    | some iD =>
      cases hq3 : Tryd.prog.info? 3 with
      | none => rw [hq3] at h3; cases h3
      | some i3 =>
        rw [hqD] at hD
        rw [hq3] at h3
        simp only [Option.map_some, Option.some.injEq] at hD h3
        unfold Program.built
        simp only [hq, Tryd.underlying38, hi.1, List.mapM_cons, List.mapM_nil, hqD, hq3, hD, h3, Option.map_some, Option.bind_eq_bind, Option.bind_some, Option.pure_def]
        show Instr.fill _ (hcells zeroH).toArray _ = some R
        have hd32 : D.size = 32 := by rw [HD.out]; simp [cellsOf_length, hd]
        refine (fill_val _ 0 0 1 (.int .i64 h.r) #[.int .i64 h.r] _ [] [.int .i64 0] ([.int .i64 0, .int .i64 0] ++ cellsOf (List.replicate 32 0) ++ [.int .i64 0]) _ rfl rfl rfl (by simp [hcells, zeroH]) rfl rfl).trans ?_
        refine (fill_val _ 1 1 1 (.int .i64 h.e) #[.int .i64 h.e] _ [.int .i64 h.r] [.int .i64 0] ([.int .i64 0] ++ cellsOf (List.replicate 32 0) ++ [.int .i64 0]) _ rfl rfl rfl (by simp) rfl rfl).trans ?_
        refine (fill_val _ 2 2 1 (.int .i64 h.s) #[.int .i64 h.s] _ [.int .i64 h.r, .int .i64 h.e] [.int .i64 0] (cellsOf (List.replicate 32 0) ++ [.int .i64 0]) _ rfl rfl rfl (by simp) rfl rfl).trans ?_
        refine (fill_val _ 3 3 32 (.agg D) D _ [.int .i64 h.r, .int .i64 h.e, .int .i64 h.s] (cellsOf (List.replicate 32 0)) [.int .i64 0] _ rfl rfl hd32 (by simp) rfl (by simp [cellsOf_length])).trans ?_
        refine (fill_val _ 4 35 1 (.int .i64 h.t) #[.int .i64 h.t] _ ([.int .i64 h.r, .int .i64 h.e, .int .i64 h.s] ++ D.toList) [.int .i64 0] [] _ rfl rfl rfl (by simp) (by simp [hd32]) rfl).trans ?_
        simp only [Instr.fill, List.append_nil, Option.some.injEq]
        rw [HR.out, HD.out]
        rfl
def getHO (bs : List UInt8) : HdT := (getO bs).getD zeroH
def getHE (bs : List UInt8) : Int := if (getO bs).isSome then 0 else 70
theorem getHO_digs (bs : List UInt8) : (getHO bs).d.length = 32 := by
  unfold getHO
  cases h : getO bs with
  | none => rfl
  | some x => exact (getO_some h).2.1
end Go.Proofs.YtdnhnjimhbbababDoor.P7

/- What the document's GetSigned answers. -/
namespace Go.Proofs.YtdnhnjimhbbababDoor.P7
open Go.RowKit Sums Nums
set_option linter.unusedVariables false
set_option linter.unusedSimpArgs false
set_option maxRecDepth 100000
/-- '[]byte(s)': a new row that reads s. -/
theorem wpList_conv_text {P : Program} {ops : Array Oper} {rest : List Oper} {o : Oper} {a : Act} {w : World} {Q : Exit → Act → World → Prop} (hg : o.guard = none) (src dst e : TypeId) (x : Operand) (ho : o.op = .convert src dst x)
    (s : ByteArray) (hx : a.eval x = .string s) (hs : P.underlying src = some .string) (hd : P.underlying dst = some (.slice e)) (he : P.underlying e = some (.int .u8)) (hl : s.size ≤ maxLen)
    (h : ∀ b c w', Hid (Reads w' (some b) s.size c s.data.toList ∧ Below w.heap.size w w') → wpList P ops Q rest (a.put o.dst (.slice (some b) s.size c)) w') : wpList P ops Q (o :: rest) a w := by
  refine wpList_plain hg fun K hK => ?_
  have hr := run_bytes_of_string (P := P) w src dst e s hs hd he
  obtain ⟨c, hc⟩ : ∃ c, grownCap w s.size 0 e = c := ⟨_, rfl⟩
  have h1 : s.size ≤ c := by rw [← hc]; exact grownCap_ge w s.size 0 e
  have h2 : c ≤ maxLen := by rw [← hc]; exact grownCap_le_maxLen w s.size 0 e hl
  rw [hc] at hr
  obtain ⟨C, hC⟩ : ∃ C, bytesRow s c = C := ⟨_, rfl⟩
  rw [hC] at hr
  have hB : Below w.heap.size w (w.drew.alloc (.cells C e (C.size, C.size + 1))) := (Below.refl _ _).drew.alloc (Nat.le_refl _) _
  have hR : Reads (w.drew.alloc (.cells C e (C.size, C.size + 1))) (some ⟨w.heap.size, 0, none⟩) s.size c s.data.toList := by
    refine ⟨Array.length_toList, h1, by unfold maxLen at h2; omega, .inr (.inr ⟨w.heap.size, 0, rfl, ?_, fun i hi => ?_⟩)⟩
    · show w.heap.size < (w.heap.push _).size
      simp
    · have hn : (w.drew.alloc (.cells C e (C.size, C.size + 1))).heap[w.heap.size]? = some (.cells C e (C.size, C.size + 1)) := by
        show (w.heap.push _)[w.heap.size]? = _
        simp
      have hi' : i < s.data.size := by simpa using hi
      simp only [World.cell?, hn, Nat.zero_add]
      rw [← hC]
      unfold bytesRow
      rw [Array.getElem?_append_left (by simpa using hi')]
      simp
      exact ⟨s.data[i], Array.getElem?_eq_getElem hi', rfl⟩
  have hk := hK _ _ (h _ _ _ ⟨hR, hB⟩)
  unfold Oper.wp execOp
  simp only [ho]
  simp [hx, hr]
  exact hk
def getSO (bs : List UInt8) : SgT := (getS bs).getD zeroS
def getSE (bs : List UInt8) : Int := if (getS bs).isSome then 0 else 70
end Go.Proofs.YtdnhnjimhbbababDoor.P7

/- Heads and signed heads held against each other by == and !=. -/
namespace Go.Proofs.YtdnhnjimhbbababDoor.P7
open Go.RowKit Sums Nums
set_option linter.unusedVariables false
set_option linter.unusedSimpArgs false
set_option maxRecDepth 100000
theorem sizeOfDD (w : World) : (sizeOf 30).run Tryd.prog w = .ok 32 w := by
  cases hq : Tryd.prog.info? 30 with
  | none => have := size23; simp [hq] at this
  | some i => have := size23; simp [hq] at this; simp [sizeOf, typeInfo, hq, this]
theorem sizeOfHH (w : World) : (sizeOf 38).run Tryd.prog w = .ok 36 w := by
  cases hq : Tryd.prog.info? 38 with
  | none => have := sizeH; simp [hq] at this
  | some i => have := sizeH; simp [hq] at this; simp [sizeOf, typeInfo, hq, this]
theorem cut_list (l : List Value) (off n : Nat) (m : List Value) (h : (l.drop off).take n = m) : l.toArray.extract off (off + n) = m.toArray := by
  rw [← h, List.extract_toArray, List.extract_eq_take_drop, Nat.add_sub_cancel_left]
theorem part_dig (l : List Value) (off : Nat) (m : List Value) (h : (l.drop off).take 32 = m) (w : World) : (Go.part 30 l.toArray off).run Tryd.prog w = .ok (.agg m.toArray) w := by
  have e := cut_list l off 32 m h
  simp only [Go.part, isAgg, run_underlying Tryd.underlying30, sizeOfDD, Sem.run_bind, Sem.run_pure, Result.andThen_ok, if_true, e]
theorem part_head (l : List Value) (off : Nat) (m : List Value) (h : (l.drop off).take 36 = m) (w : World) : (Go.part 38 l.toArray off).run Tryd.prog w = .ok (.agg m.toArray) w := by
  have e := cut_list l off 36 m h
  simp only [Go.part, isAgg, run_underlying Tryd.underlying38, sizeOfHH, Sem.run_bind, Sem.run_pure, Result.andThen_ok, if_true, e]
theorem part_int (l : List Value) (off : Nat) (v : Value) (h : l[off]? = some v) (w : World) : (Go.part 3 l.toArray off).run Tryd.prog w = .ok v w := by
  simp [Go.part, isAgg, run_underlying Tryd.underlying3, h]
theorem heldH : Tryd.prog.stoodInHeld 38 = false := by kernel_rfl
theorem heldS : Tryd.prog.stoodInHeld 40 = false := by kernel_rfl
theorem hcells_d (h : HdT) (hd : h.d.length = 32) : ((hcells h).drop 3).take 32 = cellsOf h.d := by
  show (cellsOf h.d ++ [Value.int .i64 h.t]).take 32 = _
  rw [List.take_left' (by rw [cellsOf_length, hd])]
theorem hcells_t (h : HdT) (hd : h.d.length = 32) : (hcells h)[35]? = some (.int .i64 h.t) := by
  unfold hcells
  rw [List.getElem?_append_right (by simp [cellsOf_length, hd])]
  simp [cellsOf_length, hd]
theorem scells_h (s : SgT) (hd : s.h.d.length = 32) : ((scells s).drop 0).take 36 = hcells s.h := by
  unfold scells
  rw [List.drop_zero, List.append_assoc, List.take_left' (hcells_length _ hd)]
theorem scells_n (s : SgT) (hd : s.h.d.length = 32) : (scells s)[36]? = some (.int .i64 s.n) := by
  unfold scells
  rw [List.append_assoc, List.getElem?_append_right (by rw [hcells_length _ hd]; omega), hcells_length _ hd]
  rfl
theorem scells_g (s : SgT) (hd : s.h.d.length = 32) (hg : s.g.length = 32) : ((scells s).drop 37).take 32 = cellsOf s.g := by
  unfold scells
  rw [List.drop_left' (by simp [hcells_length _ hd]), List.take_of_length_le (by rw [cellsOf_length, hg]; omega)]
theorem equalHead (d : Nat) (a b : HdT) (ha : a.d.length = 32) (hb : b.d.length = 32) (x : Bool) (hx : x = true ↔ a = b) (w : World) : (Op.equalIn (d + 4) 38 (.agg (hcells a).toArray) (.agg (hcells b).toArray)).run Tryd.prog w = .ok x w := by
  have hf : Tryd.prog.fieldsOf 38 = #[{ name := "Region", type := 3, offset := 0, embedded := false, tag := "", pkgPath := "", byteOffset := 0 }, { name := "Epoch", type := 3, offset := 1, embedded := false, tag := "", pkgPath := "", byteOffset := 8 }, { name := "Size", type := 3, offset := 2, embedded := false, tag := "", pkgPath := "", byteOffset := 16 }, { name := "Root", type := 30, offset := 3, embedded := false, tag := "", pkgPath := "", byteOffset := 24 }, { name := "Tick", type := 3, offset := 35, embedded := false, tag := "", pkgPath := "", byteOffset := 56 }] := by
    unfold Program.fieldsOf; rw [Tryd.underlying38]
  have p0 := fun (h : HdT) W => part_int (hcells h) 0 (.int .i64 h.r) rfl W
  have p1 := fun (h : HdT) W => part_int (hcells h) 1 (.int .i64 h.e) rfl W
  have p2 := fun (h : HdT) W => part_int (hcells h) 2 (.int .i64 h.s) rfl W
  have p3a := fun W => part_dig (hcells a) 3 _ (hcells_d a ha) W
  have p3b := fun W => part_dig (hcells b) 3 _ (hcells_d b hb) W
  have p4a := fun W => part_int (hcells a) 35 _ (hcells_t a ha) W
  have p4b := fun W => part_int (hcells b) 35 _ (hcells_t b hb) W
  have ei := fun (x y : Int) W => run_equalIn_int (P := Tryd.prog) W (d + 2) 3 .i64 .i64 x y Tryd.underlying3
  have ed : ∀ W, (Op.equalIn (d + 3) 30 (.agg (cellsOf a.d).toArray) (.agg (cellsOf b.d).toArray)).run Tryd.prog W = .ok (a.d == b.d) W := fun W => run_equalIn_bytes (P := Tryd.prog) W (d + 1) 30 5 32 Tryd.underlying30 Tryd.underlying5 sizeOf5 a.d b.d ha hb
  rw [run_equalIn_struct w (d + 3) 38 _ _ (by rw [hf]; exact Tryd.underlying38) heldH, hf]
  obtain ⟨b0, h0⟩ : ∃ x, (a.r == b.r) = x := ⟨_, rfl⟩
  obtain ⟨b1, h1⟩ : ∃ x, (a.e == b.e) = x := ⟨_, rfl⟩
  obtain ⟨b2, h2⟩ : ∃ x, (a.s == b.s) = x := ⟨_, rfl⟩
  obtain ⟨b3, h3⟩ : ∃ x, (a.d == b.d) = x := ⟨_, rfl⟩
  obtain ⟨b4, h4⟩ : ∃ x, (a.t == b.t) = x := ⟨_, rfl⟩
  have hq : x = (b0 && b1 && b2 && b3 && b4) := by
    rw [← h0, ← h1, ← h2, ← h3, ← h4, Bool.eq_iff_iff]
    rw [hx]
    simp only [Bool.and_eq_true, beq_iff_eq]
    constructor
    · rintro rfl; simp
    · rintro ⟨⟨⟨⟨e0, e1⟩, e2⟩, e3⟩, e4⟩
      cases a; cases b
      simp only at e0 e1 e2 e3 e4
      rw [e0, e1, e2, e3, e4]
  have x0 := ei a.r b.r
  have x1 := ei a.e b.e
  have x2 := ei a.s b.s
  have x4 := ei a.t b.t
  rw [h0] at x0
  rw [h1] at x1
  rw [h2] at x2
  rw [h3] at ed
  rw [h4] at x4
  rw [hq]
  obtain ⟨A, hA⟩ : ∃ A, (hcells a).toArray = A := ⟨_, rfl⟩
  obtain ⟨B, hB⟩ : ∃ B, (hcells b).toArray = B := ⟨_, rfl⟩
  have p0a := p0 a
  have p0b := p0 b
  have p1a := p1 a
  have p1b := p1 b
  have p2a := p2 a
  have p2b := p2 b
  rw [hA] at p0a p1a p2a p3a p4a
  rw [hB] at p0b p1b p2b p3b p4b
  rw [hA, hB]
  obtain ⟨DA, hDA⟩ : ∃ D, (cellsOf a.d).toArray = D := ⟨_, rfl⟩
  obtain ⟨DB, hDB⟩ : ∃ D, (cellsOf b.d).toArray = D := ⟨_, rfl⟩
  rw [hDA] at p3a ed
  rw [hDB] at p3b ed
  simp [Op.eqFields, p0a, p0b, p1a, p1b, p2a, p2b, p3a, p3b, p4a, p4b, x0, x1, x2, x4, ed]
  cases b0 <;> cases b1 <;> cases b2 <;> cases b3 <;> cases b4 <;> simp
theorem equalSigned (d : Nat) (a b : SgT) (ha : a.h.d.length = 32) (hb : b.h.d.length = 32) (ga : a.g.length = 32) (gb : b.g.length = 32) (x : Bool) (hx : x = true ↔ a = b) (w : World) : (Op.equalIn (d + 5) 40 (.agg (scells a).toArray) (.agg (scells b).toArray)).run Tryd.prog w = .ok x w := by
  have hf : Tryd.prog.fieldsOf 40 = #[{ name := "Head", type := 38, offset := 0, embedded := false, tag := "", pkgPath := "", byteOffset := 0 }, { name := "Node", type := 3, offset := 36, embedded := false, tag := "", pkgPath := "", byteOffset := 64 }, { name := "Tag", type := 30, offset := 37, embedded := false, tag := "", pkgPath := "", byteOffset := 72 }] := by
    unfold Program.fieldsOf; rw [Tryd.underlying40]
  obtain ⟨b0, hb0⟩ : ∃ x : Bool, x = true ↔ a.h = b.h := by
    by_cases h : a.h = b.h
    · exact ⟨true, by simp [h]⟩
    · exact ⟨false, by simp [h]⟩
  have p0a := fun W => part_head (scells a) 0 _ (scells_h a ha) W
  have p0b := fun W => part_head (scells b) 0 _ (scells_h b hb) W
  have p1a := fun W => part_int (scells a) 36 _ (scells_n a ha) W
  have p1b := fun W => part_int (scells b) 36 _ (scells_n b hb) W
  have p2a := fun W => part_dig (scells a) 37 _ (scells_g a ha ga) W
  have p2b := fun W => part_dig (scells b) 37 _ (scells_g b hb gb) W
  have x0 : ∀ W, (Op.equalIn (d + 4) 38 (.agg (hcells a.h).toArray) (.agg (hcells b.h).toArray)).run Tryd.prog W = .ok b0 W := fun W => equalHead d a.h b.h ha hb b0 hb0 W
  have x1 := fun W => run_equalIn_int (P := Tryd.prog) W (d + 3) 3 .i64 .i64 a.n b.n Tryd.underlying3
  have x2 : ∀ W, (Op.equalIn (d + 4) 30 (.agg (cellsOf a.g).toArray) (.agg (cellsOf b.g).toArray)).run Tryd.prog W = .ok (a.g == b.g) W := fun W => run_equalIn_bytes (P := Tryd.prog) W (d + 2) 30 5 32 Tryd.underlying30 Tryd.underlying5 sizeOf5 a.g b.g ga gb
  rw [run_equalIn_struct w (d + 4) 40 _ _ (by rw [hf]; exact Tryd.underlying40) heldS, hf]
  obtain ⟨b1, h1⟩ : ∃ x, (a.n == b.n) = x := ⟨_, rfl⟩
  obtain ⟨b2, h2⟩ : ∃ x, (a.g == b.g) = x := ⟨_, rfl⟩
  have hq : x = (b0 && b1 && b2) := by
    rw [← h1, ← h2, Bool.eq_iff_iff]
    rw [hx]
    simp only [Bool.and_eq_true, beq_iff_eq, hb0]
    constructor
    · rintro rfl; simp
    · rintro ⟨⟨e0, e1⟩, e2⟩
      cases a; cases b
      simp only at e0 e1 e2
      rw [e0, e1, e2]
  rw [h1] at x1
  rw [h2] at x2
  rw [hq]
  obtain ⟨A, hA⟩ : ∃ A, (scells a).toArray = A := ⟨_, rfl⟩
  obtain ⟨B, hB⟩ : ∃ B, (scells b).toArray = B := ⟨_, rfl⟩
  rw [hA] at p0a p1a p2a
  rw [hB] at p0b p1b p2b
  rw [hA, hB]
  obtain ⟨DA, hDA⟩ : ∃ D, (cellsOf a.g).toArray = D := ⟨_, rfl⟩
  obtain ⟨DB, hDB⟩ : ∃ D, (cellsOf b.g).toArray = D := ⟨_, rfl⟩
  rw [hDA] at p2a x2
  rw [hDB] at p2b x2
  obtain ⟨EA, hEA⟩ : ∃ D, (hcells a.h).toArray = D := ⟨_, rfl⟩
  obtain ⟨EB, hEB⟩ : ∃ D, (hcells b.h).toArray = D := ⟨_, rfl⟩
  rw [hEA] at p0a x0
  rw [hEB] at p0b x0
  simp [Op.eqFields, p0a, p0b, p1a, p1b, p2a, p2b, x0, x1, x2]
  cases b0 <;> cases b1 <;> cases b2 <;> simp
theorem neqSigned (a b : SgT) (ha : a.h.d.length = 32) (hb : b.h.d.length = 32) (ga : a.g.length = 32) (gb : b.g.length = 32) (A B : Array Value) (HA : Hid (A = (scells a).toArray)) (HB : Hid (B = (scells b).toArray)) (x : Bool) (hx : x = false ↔ a = b) (w : World) : (binOp .neq 40 (.agg A) (.agg B)).run Tryd.prog w = .ok (.bool x) w := by
  rw [run_neq_struct, HA.out, HB.out, show (10000 : Nat) = 9995 + 5 from rfl, equalSigned 9995 a b ha hb ga gb (!x) (by rw [← hx]; simp)]; simp
end Go.Proofs.YtdnhnjimhbbababDoor.P7

/- What the calls of package head answer, as the document says (their proofs are of one commit of the code). -/
namespace Go.Proofs.YtdnhnjimhbbababDoor.P7
open Go.RowKit Sums Nums
set_option linter.unusedVariables false
set_option linter.unusedSimpArgs false
set_option maxRecDepth 100000
/-- The tables that head reads. -/
def TabH (w : World) : Prop := Table 0 w
theorem TabH.keep {w w' : World} (h : TabH w) (hb : Below w.heap.size w w') : TabH w' := Table.keep h hb
def In64 (z : Int) : Prop := -9223372036854775808 ≤ z ∧ z ≤ 9223372036854775807
/-- A head that lies in a variable. -/
structure InH (h : HdT) : Prop where
  d : h.d.length = 32
  r : In64 h.r
  e : In64 h.e
  s : In64 h.s
  t : In64 h.t
structure InS (s : SgT) : Prop where
  h : InH s.h
  n : In64 s.n
  g : s.g.length = 32
/-- A row of bytes and an error. -/
def BytesE (bs : List UInt8) (E : Int) (e : Ending) (w' : World) : Prop := ∃ a cap, e = .returned (.tuple #[.slice a bs.length cap, .int .i64 E]) ∧ Reads w' a bs.length cap bs
def putB (h : HdT) : List UInt8 := if rightH h = true then headB h else []
def putE (h : HdT) : Int := if rightH h = true then 0 else 70
def putSB (s : SgT) : List UInt8 := if mayS s = true then signB s else []
def putSE (s : SgT) : Int := if mayS s = true then 0 else 70
/-- What the calls of package head answer. -/
structure HeadC : Prop where
  check : ∀ (h : HdT) (hh : InH h) (w : World) (C : Array Value) (HC : Hid (C = (hcells h).toArray)),
    Calls Tryd.prog 56 #[.agg C] w fun e w' => e = .returned (.int .i64 (putE h)) ∧ Below w.heap.size w w'
  put : ∀ (h : HdT) (hh : InH h) (w : World) (C : Array Value) (HC : Hid (C = (hcells h).toArray)),
    Calls Tryd.prog 61 #[.agg C] w fun e w' => BytesE (putB h) (putE h) e w' ∧ Below w.heap.size w w'
  get : ∀ (a : Option Addr) (len cap : Nat) (bs : List UInt8) (w : World) (hR : Reads w a len cap bs) (hl : len ≤ 100000) (R : Array Value) (HR : Hid (R = (hcells (getHO bs)).toArray)),
    Calls Tryd.prog 65 #[.slice a len cap] w fun e w' => e = .returned (.tuple #[.agg R, .int .i64 (getHE bs)]) ∧ Below w.heap.size w w'
  sign : ∀ (master : List UInt8) (h : HdT) (n : Int) (w : World) (M C R : Array Value) (HM : Hid (M = (cellsOf master).toArray)) (HC : Hid (C = (hcells h).toArray)) (hm : master.length = 32) (hh : InH h) (hn : In64 n) (hT : TabH w) (HR : Hid (R = (scells (signO master h n)).toArray)),
    Calls Tryd.prog 8 #[.agg M, .agg C, .int .i64 n] w fun e w' => e = .returned (.tuple #[.agg R, .int .i64 (signE h n)]) ∧ Below w.heap.size w w'
  verify : ∀ (master : List UInt8) (s : SgT) (w : World) (M C : Array Value) (HM : Hid (M = (cellsOf master).toArray)) (HC : Hid (C = (scells s).toArray)) (hm : master.length = 32) (hs : InS s) (hT : TabH w),
    Calls Tryd.prog 11 #[.agg M, .agg C] w fun e w' => e = .returned (.int .i64 (verE master s)) ∧ Below w.heap.size w w'
  putS : ∀ (s : SgT) (hs : InS s) (w : World) (C : Array Value) (HC : Hid (C = (scells s).toArray)),
    Calls Tryd.prog 9 #[.agg C] w fun e w' => BytesE (putSB s) (putSE s) e w' ∧ Below w.heap.size w w'
  getS : ∀ (a : Option Addr) (len cap : Nat) (bs : List UInt8) (w : World) (hR : Reads w a len cap bs) (hl : len ≤ 100000) (R : Array Value) (HR : Hid (R = (scells (getSO bs)).toArray)),
    Calls Tryd.prog 10 #[.slice a len cap] w fun e w' => e = .returned (.tuple #[.agg R, .int .i64 (getSE bs)]) ∧ Below w.heap.size w w'
theorem wpList_build_two {P : Program} {ops : Array Oper} {rest : List Oper} {o : Oper} {a : Act} {w : World} {Q : Exit → Act → World → Prop} (hg : o.guard = none) (t : TypeId) (i j : Nat) (x y : Operand) (ho : o.op = .build t #[(i, x), (j, y)])
    (cs : Array Value) (v u : Value) (hv : a.eval x = v) (hu : a.eval y = u) (hb : P.built t [(i, v), (j, u)] = some cs) (h : wpList P ops Q rest (a.put o.dst (.agg cs)) w) : wpList P ops Q (o :: rest) a w :=
  wpList_build_row hg t #[(i, x), (j, y)] ho cs (by simpa [hv, hu] using hb) h
end Go.Proofs.YtdnhnjimhbbababDoor.P7

/- Lists of digests and of heads that grow in a call; heads read in them. -/
namespace Go.Proofs.YtdnhnjimhbbababDoor
open Go.RowKit Sums P7
set_option linter.unusedVariables false
set_option linter.unusedSimpArgs false
set_option maxRecDepth 100000
/-- One thing put behind a list of the call's own: the list lies where it lay, or in a new block. -/
theorem append_gen {tL tE : TypeId} {i0 : TypeInfo} {z : Value} {sz by' : Nat} (hu : Tryd.prog.underlying tL = some (.slice tE)) (hi : Tryd.prog.info? tE = some i0) (hz0 : i0.zero = some z) (hz1 : i0.size = sz) (hz2 : i0.bytes = by') (hzs : z.cells.size = sz) (hsz : 0 < sz) (hsz2 : sz ≤ 100) (hby : by' ≤ 100)
    (W : World) (B n : Nat) (v : Value) (xs : List Value) (hown : W.ownsRow B tE sz v n xs) (a : Addr) (news : List Value) (hl : news.length = sz)
    (hN : ∀ j u, news[j]? = some u → W.cell? (a.add j) = some u) (h1 : ∀ u ∈ news, u.oneCell' = true) (hB : B ≤ W.heap.size) (hlen : n + 1 ≤ 1000000) :
    ∃ v' w', (Builtin.append_ #[tL, tL] tL #[v, .slice (some a) 1 1]).run Tryd.prog W = .ok v' w' ∧ w'.ownsRow B tE sz v' (n + 1) (xs ++ news) ∧ W.grownBy w' v.ownBlock ∧ (v'.ownBlock = v.ownBlock ∨ ∃ q, v'.ownBlock = some q ∧ W.heap.size ≤ q) := by
  have hl1 : news.length = 1 * sz := by omega
  have hbb : (n + 1) * by' ≤ 100000000 := by
    have := Nat.mul_le_mul hlen hby
    omega
  obtain ⟨v', w', hr, ho, hg, _⟩ := run_append_own (P := Tryd.prog) W B tL tL tE i0 z sz by' hu hi hz0 hz1 hz2 hzs hsz v n _ hown a 1 1 news
    hl1 hN h1 (by unfold maxLen; omega) (by omega) hB
  refine ⟨v', w', hr, ho, hg, ?_⟩
  have hi1 : news.length = 1 * i0.size := by rw [hz1, hl1]
  rcases hown.2 with ⟨rfl, h0⟩ | ⟨g, cap, cur, rfl, hbg, hgg, hnc, hcm, hcs, htake⟩
  · have := run_append_nil (P := Tryd.prog) W tL tL tE i0 _ hu hi hz0 a 1 1 news hi1 hN (by omega) (by omega) (by omega)
    rw [hr] at this
    cases this
    exact .inr ⟨W.heap.size, rfl, Nat.le_refl _⟩
  · by_cases hroom : n + 1 ≤ cap
    · have hfit : n * i0.size + news.length ≤ cur.size := by
        rw [hz1, hl, hcs]
        have := Nat.mul_le_mul_right sz hroom
        rw [Nat.add_mul] at this
        omega
      have := run_append_room (P := Tryd.prog) W tL tL tE i0 hu hi g n cap cur hgg a 1 1 news hi1 hN h1 hroom hfit
      rw [hr] at this
      cases this
      exact .inl rfl
    · have hx : xs.length = n * i0.size := by rw [hz1]; exact hown.1
      have := run_append_grow (P := Tryd.prog) W tL tL tE i0 _ hu hi hz0 ⟨g, 0, none⟩ n cap xs hx (hown.cells (g := g) rfl) a 1 1 news hi1 hN (by omega) (by omega) (growslice_fits (by omega) (by rw [hz2]; omega))
      rw [hr] at this
      cases this
      exact .inr ⟨W.heap.size, rfl, Nat.le_refl _⟩
/-- What is written into a list of the call's own is not seen elsewhere. -/
theorem LReads.grown {W W' : World} {y : Option Addr} {m cy : Nat} {p : List (List UInt8)} {row : Option Nat} (h : LReads W y m cy p) (hg : W.grownBy W' row) (hne : ∀ g o, y = some ⟨g, o, none⟩ → 0 < m → some g ≠ row) : LReads W' y m cy p := by
  obtain ⟨h1, h2, h3, h4, h5⟩ := h
  refine ⟨h1, h2, h3, h4, ?_⟩
  by_cases h0 : m = 0
  · exact .inl h0
  · rcases h5 with h5 | ⟨g, o, ha, hl⟩
    · exact .inl h5
    · refine .inr ⟨g, o, ha, fun i hi => ?_⟩
      have hc := hl i hi
      have hlt := World.block_lt_of_cell? _ _ hc
      rw [World.cell?_of_block (hg.block g hlt (hne g o ha (by omega)))]
      exact hc
theorem LReads.wroteG {W W' : World} {y : Option Addr} {m cy gl : Nat} {p : List (List UInt8)} (h : LReads W y m cy p) (ho : ∀ k, k ≠ gl → W'.heap[k]? = W.heap[k]?) (hne : ∀ g o, y = some ⟨g, o, none⟩ → 0 < m → g ≠ gl) : LReads W' y m cy p := by
  obtain ⟨h1, h2, h3, h4, h5⟩ := h
  refine ⟨h1, h2, h3, h4, ?_⟩
  by_cases h0 : m = 0
  · exact .inl h0
  · rcases h5 with h5 | ⟨g, o, ha, hl⟩
    · exact .inl h5
    · refine .inr ⟨g, o, ha, fun i hi => ?_⟩
      have hc := hl i hi
      rw [World.cell?_of_block (ho g (hne g o ha (by omega)))]
      exact hc
theorem own_typed {B n sz : Nat} {tE : TypeId} {v : Value} {xs : List Value} {w : World} {b : Nat} {c : Array Value} {t : TypeId} {m : Nat × Nat} (h : w.ownsRow B tE sz v n xs) (hb : w.heap[b]? = some (.cells c t m)) (ht : t ≠ tE) : some b ≠ v.ownBlock := by
  intro e
  rcases h.2 with ⟨rfl, _⟩ | ⟨g, cap, cur, rfl, _, hgb, _⟩
  · simp [Value.ownBlock] at e
  · obtain rfl : b = g := by simpa [Value.ownBlock] using e
    rw [hgb] at hb
    cases hb
    exact ht rfl
theorem own_two {B n n' sz sz' : Nat} {tE tE' : TypeId} {v v' : Value} {xs xs' : List Value} {w : World} (h : w.ownsRow B tE sz v n xs) (h' : w.ownsRow B tE' sz' v' n' xs') (ht : tE ≠ tE') : v.ownBlock = none ∨ v.ownBlock ≠ v'.ownBlock := by
  rcases h.2 with ⟨rfl, _⟩ | ⟨g, cap, cur, rfl, _, hgb, _⟩
  · exact .inl rfl
  · refine .inr fun e => ?_
    exact own_typed h' hgb ht e
/-! Heads. -/
theorem infoHB : (Tryd.prog.info? 38).map (fun i => (i.zero, i.size, i.bytes)) = some (some (.agg (hcells zeroH).toArray), 36, 64) := by kernel_rfl
def hdsC (l : List HdT) : List Value := (l.map hcells).flatten
theorem hdsC_snoc (l : List HdT) (h : HdT) : hdsC (l ++ [h]) = hdsC l ++ hcells h := by unfold hdsC; simp
theorem hdsC_at : ∀ (l : List HdT) (hl : ∀ h ∈ l, h.d.length = 32) (k : Nat) (hk : k < l.length) (j : Nat) (hj : j < 36), (hdsC l)[36 * k + j]? = (hcells l[k])[j]?
  | h :: r, hl, 0, _, j, hj => by
    have h1 := hcells_length h (hl h (List.mem_cons_self ..))
    show (hcells h ++ hdsC r)[36 * 0 + j]? = (hcells h)[j]?
    rw [Nat.mul_zero, Nat.zero_add, List.getElem?_append_left (by omega)]
  | h :: r, hl, k + 1, hk, j, hj => by
    have h1 := hcells_length h (hl h (List.mem_cons_self ..))
    have hk' : k < r.length := by simpa using hk
    have ih := hdsC_at r (fun x hx => hl x (List.mem_cons_of_mem _ hx)) k hk' j hj
    show (hcells h ++ hdsC r)[36 * (k + 1) + j]? = (hcells (r[k]'hk'))[j]?
    rw [List.getElem?_append_right (by omega), h1, ← ih]
    congr 1
    omega
theorem append_head (W : World) (B : Nat) (v : Value) (l : List HdT) (h : HdT) (hd : h.d.length = 32) (hown : W.ownsRow B 38 36 v l.length (hdsC l)) (a : Addr)
    (hN : ∀ j u, (hcells h)[j]? = some u → W.cell? (a.add j) = some u) (hB : B ≤ W.heap.size) (hlen : l.length + 1 ≤ 1000000) :
    ∃ v' w', (Builtin.append_ #[29, 29] 29 #[v, .slice (some a) 1 1]).run Tryd.prog W = .ok v' w' ∧ w'.ownsRow B 38 36 v' (l ++ [h]).length (hdsC (l ++ [h])) ∧ W.grownBy w' v.ownBlock ∧ (v'.ownBlock = v.ownBlock ∨ ∃ q, v'.ownBlock = some q ∧ W.heap.size ≤ q) := by
  obtain ⟨i0, hi, hz0, hz1, hz2⟩ := info_parts infoHB
  have hu : Tryd.prog.underlying 29 = some (.slice 38) := Tryd.underlying29
  have := append_gen hu hi hz0 hz1 hz2 (by rfl) (by decide) (by decide) (by decide) W B l.length v _ hown a (hcells h) (hcells_length h hd) hN (fun u hu => by
    have := one_cells h
    rw [Array.all_eq_true'] at this
    exact this u (by simpa using hu)) hB hlen
  rw [List.length_append, hdsC_snoc]
  exact this
theorem append_dig (W : World) (B : Nat) (v : Value) (l : List (List UInt8)) (d : List UInt8) (hd : d.length = 32) (hown : W.ownsRow B 30 32 v l.length (cellsOf l.flatten)) (a : Addr)
    (hN : ∀ j u, (cellsOf d)[j]? = some u → W.cell? (a.add j) = some u) (hB : B ≤ W.heap.size) (hlen : l.length + 1 ≤ 1000000) :
    ∃ v' w', (Builtin.append_ #[26, 26] 26 #[v, .slice (some a) 1 1]).run Tryd.prog W = .ok v' w' ∧ w'.ownsRow B 30 32 v' (l ++ [d]).length (cellsOf (l ++ [d]).flatten) ∧ W.grownBy w' v.ownBlock ∧ (v'.ownBlock = v.ownBlock ∨ ∃ q, v'.ownBlock = some q ∧ W.heap.size ≤ q) := by
  obtain ⟨i0, hi, hz0, hz1, hz2⟩ := info_parts infoD
  have hu : Tryd.prog.underlying 26 = some (.slice 30) := Tryd.underlying26
  have := append_gen hu hi hz0 hz1 hz2 (by rfl) (by decide) (by decide) (by decide) W B l.length v _ hown a (cellsOf d) (by rw [cellsOf_length, hd]) hN (cellsOf_one _) hB hlen
  rw [List.length_append, List.flatten_append, cellsOf_append]
  simpa using this
theorem build_head (w : World) (h : HdT) (hd : h.d.length = 32) (C : Array Value) (HC : Hid (C = (hcells h).toArray)) :
    (Instr.buildSlice 29 1 #[(0, .agg C)]).run Tryd.prog w = .ok (.slice (some ⟨w.heap.size, 0, none⟩) 1 1) (w.alloc (.cells C 38)) := by
  obtain ⟨i0, hi, hz0, hz1, hz2⟩ := info_parts infoHB
  refine run_buildSlice w 29 38 1 _ _ i0 _ Tryd.underlying29 hi hz0 (by rw [hz1]; omega) (by rw [hz1]; omega) ?_
  rw [hz1]
  generalize hcs : Array.map _ (Array.range (1 * 36)) = cs
  have hcz : cs.size = 36 := by rw [← hcs]; simp
  have hC : C.size = 36 := by rw [HC.out]; simp [hcells_length h hd]
  refine (fill_val _ 0 0 36 (.agg C) C cs [] cs.toList [] [] rfl rfl hC (by simp) rfl (by simpa using hcz)).trans ?_
  simp [Instr.fill]
theorem sizeHd (w : World) : (sizeOf 38).run Tryd.prog w = .ok 36 w := by
  cases h : Tryd.prog.info? 38 with
  | none => have := infoHB; simp [h] at this
  | some i => have := infoHB; simp [h] at this; simp [sizeOf, typeInfo, h, this.2.1]
theorem index_heads (W : World) (g len cap i : Nat) (hi : i < len) : (Instr.indexAt 29 (.slice (some ⟨g, 0, none⟩) len cap) (.int .i64 i)).run Tryd.prog W = .ok (.pointer (some ⟨g, 36 * i, none⟩)) W := by
  simp [Instr.indexAt, asIntOf, run_underlying Tryd.underlying29, sizeHd, hi]
  rw [add_plain, Nat.mul_comm, Nat.zero_add]
/-- What a list of heads has. -/
theorem heads_row {W : World} {B g len cap : Nat} {l : List HdT} (hl : ∀ h ∈ l, h.d.length = 32) (h : W.ownsRow B 38 36 (.slice (some ⟨g, 0, none⟩) len cap) l.length (hdsC l)) (k : Nat) (hk : k < l.length) :
    W.cell? ⟨g, 36 * k + 2, none⟩ = some (.int .i64 l[k].s) ∧ W.rangeAt g (36 * k + 3) (cellsOf l[k].d) := by
  have hd := hl _ (List.getElem_mem hk)
  have hc := h.cells (g := g) rfl
  have each : ∀ j, j < 36 → ∀ u, (hcells l[k])[j]? = some u → W.cell? ⟨g, 36 * k + j, none⟩ = some u := fun j hj u hu => by
    have e := hdsC_at l hl k hk j hj
    have := hc (36 * k + j) u (by rw [e]; exact hu)
    rw [add_plain, Nat.zero_add] at this
    exact this
  refine ⟨each 2 (by omega) _ rfl, fun j v hj => ?_⟩
  have hj32 : j < 32 := by
    have := (List.getElem?_eq_some_iff.1 hj).1
    rw [cellsOf_length, hd] at this
    exact this
  have := each (3 + j) (by omega) v (by
    unfold hcells
    rw [List.append_assoc, List.getElem?_append_right (by simp), List.getElem?_append_left (by simp [cellsOf_length, hd]; omega)]
    simpa using hj)
  rw [← Nat.add_assoc] at this
  exact this
end Go.Proofs.YtdnhnjimhbbababDoor

/- The example of the whole's signed heads. -/
namespace Go.Proofs.YtdnhnjimhbbababDoor
open Go.RowKit Sums P7
set_option linter.unusedVariables false
set_option linter.unusedSimpArgs false
set_option maxRecDepth 100000
theorem builtY7 : Tryd.prog.built 24 [] = some (cellsOf (List.replicate 32 0)).toArray := by kernel_rfl
theorem master_any (w : World) (Z : Array Value) (HZ : Hid (Z = (cellsOf (List.replicate 32 0)).toArray)) : Calls Tryd.prog 16 #[] w fun e w' => e = .returned (.agg Z) ∧ Below w.heap.size w w' := by
  obtain ⟨Y, HY, HA, H32⟩ := noughtsY
  obtain rfl : Z = Y := by rw [HZ.out, HY.out]
  have HBY : Hid (Tryd.prog.built 24 [] = some Z) := by show _ = _; rw [HZ.out]; exact builtY7
  have HSZ : Hid ((Tryd.prog.info? 24).map (·.size) = some Z.size) := by show _ = _; rw [sizeY, H32.out]
  have H1Z : Hid (Z.all (·.oneCell') = true) := by show _ = _; rw [HZ.out]; exact cellsOf_all _
  clear HZ HY H32
  go_enter Tryd.func16, Tryd.ntmps16
  go_wp2_with (first
    | (show wpList _ _ _ ({ dst := some 0, op := _, type := _, pos := _, after := _, guard := _ } :: _) _ _; refine P7.wpList_new_var rfl 24 rfl Z HA.out ?_; intro g0 w1 HM0; try simp only [Act.put, List.setIfInBounds_toArray, List.set_cons_zero, List.set_cons_succ])
    | (show wpList _ _ _ ({ dst := some 1, op := _, type := _, pos := _, after := _, guard := _ } :: _) _ _; refine wpList_build_none rfl 24 rfl Z HBY.out ?_; try simp only [Act.put, List.setIfInBounds_toArray, List.set_cons_zero, List.set_cons_succ])
    | (refine P7.wpList_set_var rfl 24 (.tmp 0) (.tmp 1) rfl g0 Z rfl rfl 24 Z HM0.out.row HSZ.out rfl H1Z.out ?_; intro w2 HW0; try simp only [Act.put, List.setIfInBounds_toArray, List.set_cons_zero, List.set_cons_succ])
    | fail)
  refine bodyPost_ret (v := .agg Z) ?_ rfl ⟨rfl, HW0.out.below w.heap.size w HM0.out.below (Nat.le_of_eq HM0.out.new.symm)⟩
  exact results_cell_row (p := 0) (ty := 24) rfl _ _ g0 24 Z (0, 0) _ rfl HW0.out.row Tryd.underlying24 rfl HSZ.out
/-- A head whose tick is not named. -/
theorem builtH4 (r e s : Int) (d : List UInt8) (hd : d.length = 32) (D R : Array Value) (HD : Hid (D = (cellsOf d).toArray)) (HR : Hid (R = (hcells ⟨r, e, s, d, 0⟩).toArray)) : Tryd.prog.built 38 [(0, .int .i64 r), (1, .int .i64 e), (2, .int .i64 s), (3, .agg D)] = some R := by
  have hi := infoH
  cases hq : Tryd.prog.info? 38 with
  | none => rw [hq] at hi; cases hi
  | some i =>
    rw [hq] at hi
    simp only [Option.map_some, Option.some.injEq, Prod.mk.injEq] at hi
    have hD := size23
    have h3 : (Tryd.prog.info? 3).map (·.size) = some 1 := by kernel_rfl
    cases hqD : Tryd.prog.info? 30 with
    | none => rw [hqD] at hD; cases hD
    | some iD =>
      cases hq3 : Tryd.prog.info? 3 with
      | none => rw [hq3] at h3; cases h3
      | some i3 =>
        rw [hqD] at hD
        rw [hq3] at h3
        simp only [Option.map_some, Option.some.injEq] at hD h3
        unfold Program.built
        simp only [hq, Tryd.underlying38, hi.1, List.mapM_cons, List.mapM_nil, hqD, hq3, hD, h3, Option.map_some, Option.bind_eq_bind, Option.bind_some, Option.pure_def]
        show Instr.fill _ (hcells zeroH).toArray _ = some R
        have hd32 : D.size = 32 := by rw [HD.out]; simp [cellsOf_length, hd]
        refine (fill_val _ 0 0 1 (.int .i64 r) #[.int .i64 r] _ [] [.int .i64 0] ([.int .i64 0, .int .i64 0] ++ cellsOf (List.replicate 32 0) ++ [.int .i64 0]) _ rfl rfl rfl (by simp [hcells, zeroH]) rfl rfl).trans ?_
        refine (fill_val _ 1 1 1 (.int .i64 e) #[.int .i64 e] _ [.int .i64 r] [.int .i64 0] ([.int .i64 0] ++ cellsOf (List.replicate 32 0) ++ [.int .i64 0]) _ rfl rfl rfl (by simp) rfl rfl).trans ?_
        refine (fill_val _ 2 2 1 (.int .i64 s) #[.int .i64 s] _ [.int .i64 r, .int .i64 e] [.int .i64 0] (cellsOf (List.replicate 32 0) ++ [.int .i64 0]) _ rfl rfl rfl (by simp) rfl rfl).trans ?_
        refine (fill_val _ 3 3 32 (.agg D) D _ [.int .i64 r, .int .i64 e, .int .i64 s] (cellsOf (List.replicate 32 0)) [.int .i64 0] _ rfl rfl hd32 (by simp) rfl (by simp [cellsOf_length])).trans ?_
        simp only [Instr.fill, List.append_nil, Option.some.injEq]
        rw [HR.out, HD.out]
        rfl
theorem head_range {W : World} {g : Nat} {t : TypeId} {X : Array Value} (s : SgT) (hd : s.h.d.length = 32) (HX : Hid (X = (scells s).toArray)) (h : W.heap[g]? = some (.cells X t (0, 0))) : W.cell? ⟨g, 36, none⟩ = some (.int .i64 s.n) ∧ W.rangeAt g 3 (cellsOf s.h.d) ∧ W.rangeAt g 0 (hcells s.h) := by
  have hl := hcells_length s.h hd
  have each : ∀ j u, (scells s)[j]? = some u → W.cell? ⟨g, j, none⟩ = some u := fun j u hj => by
    rw [cell_of_row W g j _ t (0, 0) h, HX.out]
    simpa using hj
  have hh : ∀ j u, (hcells s.h)[j]? = some u → (scells s)[j]? = some u := fun j u hj => by
    have := (List.getElem?_eq_some_iff.1 hj).1
    unfold scells
    rw [List.append_assoc, List.getElem?_append_left this]
    exact hj
  refine ⟨each 36 _ (scells_n s hd), fun j v hj => ?_, fun j v hj => ?_⟩
  · have hj32 : j < 32 := by
      have := (List.getElem?_eq_some_iff.1 hj).1
      rw [cellsOf_length, hd] at this
      exact this
    refine each (3 + j) v (hh _ _ ?_)
    unfold hcells
    rw [List.append_assoc, List.getElem?_append_right (by simp), List.getElem?_append_left (by simp [cellsOf_length, hd]; omega)]
    simpa using hj
  · rw [Nat.zero_add]
    exact each j v (hh j v hj)
theorem leaf_apart : sumD [0, 97] ≠ sumD [] := by decide +kernel
theorem mk_one (x : List UInt8) : mkR [] 1 0 x = (x, true) := by
  have h := mkR_incl 1 [x] 0 rfl (by simp)
  have e1 : incl [x] 0 = [] := incl_one _ _ (by simp)
  have e2 : root [x] = x := root_one [x] rfl
  rw [e1, e2] at h
  exact h
set_option maxHeartbeats 16000000 in
theorem proves_true (hc : HeadC) (ck : CheckC) (w : World) (hT : TabC w) : Calls Tryd.prog 4 #[] w fun e w' => e = .returned (.bool true) ∧ Below w.heap.size w w' := by
  have h32 : (sumD [0, 97]).length = 32 := sumD_length _
  have h32e : (sumD []).length = 32 := sumD_length _
  obtain ⟨D, HD, HSD, H1D, H32D⟩ := dig_row' (sumD [0, 97]) h32
  obtain ⟨X, HX, HSX, H1X, H32X⟩ := dig_row' (sumD []) h32e
  obtain ⟨ZD, HZD, HAD, HSZD, H1ZD, H32Z⟩ := noughts27
  have HZDD : Hid (ZD.size = D.size) := by show _ = _; rw [H32Z.out, H32D.out]
  obtain ⟨Z, HZ, HA, HBZ, H69⟩ := noughtsS
  obtain ⟨Ky, HKy⟩ : ∃ K : Array Value, Hid (K = (cellsOf (List.replicate 32 0)).toArray) := ⟨_, hidk rfl⟩
  obtain ⟨h1, Hh1⟩ : ∃ h : HdT, Hid (h = ⟨1, 1, 1, sumD [0, 97], 0⟩) := ⟨_, hidk rfl⟩
  have hin : InH h1 := by rw [Hh1.out]; exact ⟨h32, by unfold In64; decide, by unfold In64; decide, by unfold In64; decide, by unfold In64; decide⟩
  have hd1 : h1.d = sumD [0, 97] := by rw [Hh1.out]
  obtain ⟨C, HC⟩ : ∃ C : Array Value, Hid (C = (hcells h1).toArray) := ⟨_, hidk rfl⟩
  obtain ⟨s1, Hs1⟩ : ∃ s : SgT, Hid (s = ⟨h1, 2, tagD (List.replicate 32 0) h1 2⟩) := ⟨_, hidk rfl⟩
  have hs1 : signO (List.replicate 32 0) h1 2 = s1 := by
    rw [Hs1.out]
    unfold signO
    rw [if_pos (by rw [Hh1.out]; rfl)]
  have hse : signE h1 2 = 0 := by unfold signE; rw [if_pos (by rw [Hh1.out]; rfl)]
  have hsd : s1.h.d.length = 32 := by rw [Hs1.out]; exact hin.d
  have hsg : s1.g.length = 32 := by rw [Hs1.out]; exact tagD_length sumD_length _ _ _
  have hsn : s1.n = 2 := by rw [Hs1.out]
  have hsh : s1.h = h1 := by rw [Hs1.out]
  have hsin : InS s1 := ⟨by rw [hsh]; exact hin, by rw [hsn]; unfold In64; decide, hsg⟩
  have hver : verE (List.replicate 32 0) s1 = 0 := by
    unfold verE
    rw [if_pos (by rw [Hs1.out, Hh1.out]; rfl), if_pos (by rw [Hs1.out])]
  obtain ⟨R, HR, HSR, H1R, H69R⟩ := sign_row s1 hsd hsg
  have HZR : Hid (Z.size = R.size) := by show _ = _; rw [H69.out, H69R.out]
  have LF : Hid (∀ W, Below w.heap.size w W → Calls Tryd.prog 5 #[.string ⟨#[97]⟩] W fun e w' => e = .returned (.agg D) ∧ Below W.heap.size W w') := fun W hb => leaf_any ⟨#[97]⟩ W (by decide) (hT.keep hb).sha D HD
  have EM : Hid (∀ W, Below w.heap.size w W → Calls Tryd.prog 17 #[] W fun e w' => e = .returned (.agg X) ∧ Below W.heap.size W w') := fun W hb => empty_any W (hT.keep hb).sha X HX
  have MS : Hid (∀ W, Calls Tryd.prog 16 #[] W fun e w' => e = .returned (.agg Ky) ∧ Below W.heap.size W w') := fun W => master_any W Ky HKy
  have SG : Hid (∀ W, Below w.heap.size w W → Calls Tryd.prog 8 #[.agg Ky, .agg C, .int .i64 2] W fun e w' => e = .returned (.tuple #[.agg R, .int .i64 0]) ∧ Below W.heap.size W w') := fun W hb => by
    have := hc.sign (List.replicate 32 0) h1 2 W Ky C R HKy HC rfl hin (by unfold In64; decide) (hT.keep hb) (by show _ = _; rw [HR.out, hs1])
    rwa [hse] at this
  have VF : Hid (∀ W, Below w.heap.size w W → Calls Tryd.prog 11 #[.agg Ky, .agg R] W fun e w' => e = .returned (.int .i64 0) ∧ Below W.heap.size W w') := fun W hb => by
    have := hc.verify (List.replicate 32 0) s1 W Ky R HKy HR rfl hsin (hT.keep hb)
    rwa [hver] at this
  have hnil : ∀ W, LReads W none 0 0 [] := fun W => ⟨rfl, (fun x hx => absurd hx (by simp) : ∀ x ∈ ([] : List (List UInt8)), x.length = 32), Nat.le_refl _, Nat.zero_le _, Or.inl rfl⟩
  have I1 : Hid (∀ W, Below w.heap.size w W → Calls Tryd.prog 14 #[.agg D, .int .i64 1, .int .i64 0, .agg D, .slice none 0 0] W fun e w' => e = .returned (.int .i64 0) ∧ Below W.heap.size W w') := fun W hb => by
    have := ck.included (sumD [0, 97]) 1 0 (sumD [0, 97]) [] none 0 0 W D D HD HD h32 h32 (by decide) (by decide) (hnil W) (hT.keep hb)
    have e : incE (sumD [0, 97]) 1 0 (sumD [0, 97]) [] = 0 := by
      have q := incE_in (sumD [0, 97]) 1 0 (sumD [0, 97]) [] (by decide) (by decide) (by decide)
      rw [List.reverse_nil, mk_one] at q
      simpa using q
    rwa [e] at this
  have I2 : Hid (∀ W, Below w.heap.size w W → Calls Tryd.prog 14 #[.agg D, .int .i64 1, .int .i64 0, .agg X, .slice none 0 0] W fun e w' => e = .returned (.int .i64 41) ∧ Below W.heap.size W w') := fun W hb => by
    have := ck.included (sumD [0, 97]) 1 0 (sumD []) [] none 0 0 W D X HD HX h32 h32e (by decide) (by decide) (hnil W) (hT.keep hb)
    have e : incE (sumD [0, 97]) 1 0 (sumD []) [] = 41 := by
      have q := incE_in (sumD [0, 97]) 1 0 (sumD []) [] (by decide) (by decide) (by decide)
      rw [List.reverse_nil, mk_one, if_pos rfl, if_neg (fun e => leaf_apart e.symm)] at q
      simpa using q
    rwa [e] at this
  have HBH : Hid (∀ W : World, (Instr.build 38 #[(0, .int .i64 1), (1, .int .i64 1), (2, .int .i64 1), (3, .agg D)]).run Tryd.prog W = .ok (.agg C) W) := fun W => run_build W _ _ C (builtH4 1 1 1 (sumD [0, 97]) h32 D C HD (by show _ = _; rw [HC.out, Hh1.out]))
  have HG : Hid (∀ (W : World) (g : Nat), W.heap[g]? = some (.cells R 40 (0, 0)) → W.cell? ⟨g, 36, none⟩ = some (.int .i64 2) ∧ W.rangeAt g 3 D.toList) := fun W g hr => by
    have := head_range s1 hsd HR hr
    rw [hsn, hsh, hd1] at this
    exact ⟨this.1, by rw [HD.out]; simpa using this.2.1⟩
  have EQ : ∀ W, (binOp .eql 30 (.agg D) (.agg D)).run Tryd.prog W = .ok (.bool true) W := fun W => eqSelf D _ h32 HD W
  clear hT HD HX HKy Hh1 hin hd1 HC Hs1 hs1 hse hsd hsg hsn hsh hsin hver HR hnil HZ HBZ H69 HZD
  go_enter Tryd.func4, Tryd.ntmps4
  go_wp2_with fail
  refine (LF.out _ (Below.refl _ _)).mono ?_
  rintro e w1 ⟨rfl, hb1⟩
  have HB1 := hidk hb1
  clear hb1 LF
  go_wp2_with (first
    | (refine wpList_new_row rfl rfl 30 rfl (.tmp 1) (.tmp 4) rfl ZD D HAD.out (fun _ => rfl) (fun _ => rfl) HSD.out HZDD.out H1D.out ?_; intro g1 w2 F2; try simp only [Act.put, List.setIfInBounds_toArray, List.set_cons_zero, List.set_cons_succ])
    | fail)
  have HB2 : Hid (w2.heap[g1]? = some (.cells D 30 (0, 0)) ∧ Below w.heap.size w w2) := ⟨F2.out.2.1, HB1.out.trans (F2.out.2.2.mono HB1.out.size)⟩
  clear F2 HB1
  refine wp_region_held_drew (S := (fun W => W.heap[g1]? = some (.cells D 30 (0, 0)) ∧ Below w.heap.size w W)) (by kernel_rfl) ⟨HB2.out.1, HB2.out.2.drew⟩ (fun hHeld => ?_)
  refine wpAnyH_take (i := 1) (oi := { dst := some 7, op := Op.load 30 (Operand.tmp 1), type := 30, pos := "top07.go:15", after := #[], guard := none }) (v := .agg D) rfl (by kernel_rfl) (by kernel_rfl) (by kernel_rfl) (fun _ _ _ h => h) (yieldsIf_row (by rfl) 30 (.tmp 1) rfl g1 rfl 30 D (0, 0) _ (fun _ h => h.1) Tryd.underlying30 rfl HSD.out) hHeld ?_
  try simp only [Act.put, List.setIfInBounds_toArray, List.set_cons_zero, List.set_cons_succ]
  refine wpAnyH_take (i := 2) (oi := { dst := some 8, op := Op.build 38 #[(0, Operand.const (Value.int IntKind.i64 1)), (1, Operand.const (Value.int IntKind.i64 1)), (2, Operand.const (Value.int IntKind.i64 1)), (3, Operand.tmp 7)], type := 38, pos := "top07.go:15", after := #[{ on := 1, ground := Ground.data }], guard := none }) (v := .agg C) rfl (by kernel_rfl) (by kernel_rfl) (by kernel_rfl) (fun _ _ _ h => h) (yieldsIf_build (by rfl) 38 _ rfl #[(0, .int .i64 1), (1, .int .i64 1), (2, .int .i64 1), (3, .agg D)] (by rfl) (.agg C) HBH.out) hHeld ?_
  try simp only [Act.put, List.setIfInBounds_toArray, List.set_cons_zero, List.set_cons_succ]
  refine wpAnyH_ready (rs := [0, 7]) (by kernel_rfl) (by simp) ?_
  refine (AllReadyH.cons (o := { dst := some 6, op := Op.call { callee := Callee.value (Operand.func 16), args := #[], argTypes := #[] }, type := 24, pos := "top07.go:15", after := #[], guard := none }) rfl (fun K hK => ?_) (AllReadyH.cons (o := { dst := some 2, op := Op.alloc 40, type := 0, pos := "top07.go:15", after := #[], guard := none }) rfl (fun K hK => ?_) AllReadyH.nil))
  · go_simp
    refine (MS.out _).mono ?_
    rintro e wc0 ⟨rfl, hb0⟩
    try replace HG2 := hidk ((hb0.block _ (heap_lt HG2.out)).trans HG2.out)
    go_wp2_with fail
    refine hK.out _ _ ⟨(hb0.block _ (heap_lt hHeld.1)).trans hHeld.1, hHeld.2.trans (hb0.mono hHeld.2.size)⟩ (fun hHeld => ?_)
    clear hK K
    try simp only [Act.put, List.setIfInBounds_toArray, List.set_cons_zero, List.set_cons_succ]
    refine wpAnyH_ready (rs := [3, 7]) (by kernel_rfl) (by simp) ?_
    refine (AllReadyH.cons (o := { dst := some 9, op := Op.call { callee := Callee.value (Operand.func 8), args := #[Operand.tmp 6, Operand.tmp 8, Operand.const (Value.int IntKind.i64 2)], argTypes := #[24, 38, 3] }, type := 41, pos := "top07.go:15", after := #[{ on := 0, ground := Ground.data }, { on := 2, ground := Ground.data }, { on := 0, ground := Ground.chain }], guard := none }) rfl (fun K hK => ?_) (AllReadyH.cons (o := { dst := some 2, op := Op.alloc 40, type := 0, pos := "top07.go:15", after := #[], guard := none }) rfl (fun K hK => ?_) AllReadyH.nil))
    · go_simp
      refine (SG.out _ hHeld.2).mono ?_
      rintro e wc3 ⟨rfl, hb3⟩
      try replace HG2 := hidk ((hb3.block _ (heap_lt HG2.out)).trans HG2.out)
      go_wp2_with fail
      refine hK.out _ _ ⟨(hb3.block _ (heap_lt hHeld.1)).trans hHeld.1, hHeld.2.trans (hb3.mono hHeld.2.size)⟩ (fun hHeld => ?_)
      clear hK K
      try simp only [Act.put, List.setIfInBounds_toArray, List.set_cons_zero, List.set_cons_succ]
      refine wpAnyH_take (i := 4) (oi := { dst := some 5, op := Op.move (Operand.tmp 9), type := 41, pos := "top07.go:15", after := #[{ on := 3, ground := Ground.data }], guard := none }) (v := .tuple #[.agg R, .int .i64 0]) rfl (by kernel_rfl) (by kernel_rfl) (by kernel_rfl) (fun _ _ _ h => h) (Or.inl ⟨by rfl, by intro W hSw; go_simp⟩) hHeld ?_
      try simp only [Act.put, List.setIfInBounds_toArray, List.set_cons_zero, List.set_cons_succ]
      refine wpAnyH_take (i := 5) (oi := { dst := some 10, op := Op.extract (Operand.tmp 5) 0, type := 40, pos := "top07.go:15", after := #[{ on := 4, ground := Ground.data }], guard := none }) (v := .agg R) rfl (by kernel_rfl) (by kernel_rfl) (by kernel_rfl) (fun _ _ _ h => h) (Or.inl ⟨by rfl, by intro W hSw; go_simp⟩) hHeld ?_
      try simp only [Act.put, List.setIfInBounds_toArray, List.set_cons_zero, List.set_cons_succ]
      refine wpAnyH_take (i := 6) (oi := { dst := some 11, op := Op.extract (Operand.tmp 5) 1, type := 32, pos := "top07.go:15", after := #[{ on := 4, ground := Ground.data }, { on := 8, ground := Ground.gcOnly Departure.lateStores }], guard := none }) (v := .int .i64 0) rfl (by kernel_rfl) (by kernel_rfl) (by kernel_rfl) (fun _ _ _ h => h) (Or.inl ⟨by rfl, by intro W hSw; go_simp⟩) hHeld ?_
      try simp only [Act.put, List.setIfInBounds_toArray, List.set_cons_zero, List.set_cons_succ]
      refine wpAnyH_ready (rs := [7]) (by kernel_rfl) (by simp) ?_
      refine (AllReadyH.cons (o := { dst := some 2, op := Op.alloc 40, type := 0, pos := "top07.go:15", after := #[], guard := none }) rfl (fun K hK => ?_) AllReadyH.nil)
      refine step_new_var (by rfl) 40 rfl Z HA.out ?_
      intro g2 wn HM2
      have HG2 := hidk HM2.out.row
      have hg2 : w.heap.size ≤ g2 := (by rw [HM2.out.new]; exact hHeld.2.size)
      have hg12 : g1 ≠ g2 := (by have h1 := heap_lt hHeld.1; have h2 := HM2.out.new; omega)
      refine hK.out _ _ ⟨(HM2.out.below.block _ (heap_lt hHeld.1)).trans hHeld.1, hHeld.2.trans (HM2.out.below.mono hHeld.2.size)⟩ (fun hHeld => ?_)
      clear hK K
      try simp only [Act.put, List.setIfInBounds_toArray, List.set_cons_zero, List.set_cons_succ]
      refine wpAnyH_ready (rs := [8]) (by kernel_rfl) (by simp) ?_
      refine (AllReadyH.cons (o := { dst := none, op := Op.store 40 (Operand.tmp 2) (Operand.tmp 10), type := 0, pos := "top07.go:15", after := #[{ on := 7, ground := Ground.data }, { on := 5, ground := Ground.data }, { on := 3, ground := Ground.chain }, { on := 0, ground := Ground.phase }, { on := 1, ground := Ground.phase }, { on := 2, ground := Ground.phase }, { on := 3, ground := Ground.phase }, { on := 4, ground := Ground.phase }, { on := 5, ground := Ground.phase }, { on := 6, ground := Ground.textOnly Departure.lateStores }, { on := 7, ground := Ground.phase }], guard := none }) rfl (fun K hK => ?_) AllReadyH.nil)
      refine step_set_var (by rfl) 40 (.tmp 2) (.tmp 10) rfl g2 R rfl rfl 40 Z HG2.out HSR.out HZR.out H1R.out ?_
      intro wz HW2
      refine hK.out _ _ ⟨(HW2.out.other g1 hg12).trans hHeld.1, HW2.out.below _ _ hHeld.2 hg2⟩ (fun hHeld => ?_)
      clear hK K
      try simp only [Act.put, List.setIfInBounds_toArray, List.set_cons_zero, List.set_cons_succ]
      refine wpAnyH_take (i := 9) (oi := { dst := some 3, op := Op.assign (Operand.tmp 11), type := 32, pos := "top07.go:15", after := #[{ on := 6, ground := Ground.data }, { on := 8, ground := Ground.chain }, { on := 0, ground := Ground.phase }, { on := 1, ground := Ground.phase }, { on := 2, ground := Ground.phase }, { on := 3, ground := Ground.phase }, { on := 4, ground := Ground.phase }, { on := 5, ground := Ground.phase }, { on := 6, ground := Ground.phase }, { on := 7, ground := Ground.phase }, { on := 8, ground := Ground.phase }], guard := none }) (v := .int .i64 0) rfl (by kernel_rfl) (by kernel_rfl) (by kernel_rfl) (fun _ _ _ h => h) (Or.inl ⟨by rfl, by intro W hSw; go_simp⟩) hHeld ?_
      try simp only [Act.put, List.setIfInBounds_toArray, List.set_cons_zero, List.set_cons_succ]
      refine wpAnyH_done (by kernel_rfl) ?_ _
      have HB3 : Hid (wz.heap[g1]? = some (.cells D 30 (0, 0)) ∧ wz.heap[g2]? = some (.cells R 40 (0, 0)) ∧ Below w.heap.size w wz) := ⟨hHeld.1, HW2.out.row, hHeld.2⟩
      clear hHeld HW2 HB2 HBH SG
      go_wp2_with fail
      refine wp_region_held_drew (S := (fun W => W.heap[g1]? = some (.cells D 30 (0, 0)) ∧ W.heap[g2]? = some (.cells R 40 (0, 0)) ∧ Below w.heap.size w W)) (by kernel_rfl) ⟨HB3.out.1, HB3.out.2.1, HB3.out.2.2.drew⟩ (fun hHeld => ?_)
      refine wpAnyH_take (i := 0) (oi := { dst := some 12, op := Op.move (Operand.tmp 3), type := 32, pos := "top07.go:16", after := #[], guard := none }) (v := .int .i64 0) rfl (by kernel_rfl) (by kernel_rfl) (by kernel_rfl) (fun _ _ _ h => h) (Or.inl ⟨by rfl, by intro w hSw; go_simp⟩) hHeld ?_
      try simp only [Act.put, List.setIfInBounds_toArray, List.set_cons_zero, List.set_cons_succ]
      refine wpAnyH_take (i := 1) (oi := { dst := some 13, op := Op.binOp BinOp.eql 32 (Operand.tmp 12) (Operand.const (Value.int IntKind.i64 0)) 32, type := 4, pos := "top07.go:16", after := #[{ on := 0, ground := Ground.data }], guard := none }) (v := .bool true) rfl (by kernel_rfl) (by kernel_rfl) (by kernel_rfl) (fun _ _ _ h => h) (Or.inl ⟨by rfl, by intro w hSw; go_simp⟩) hHeld ?_
      try simp only [Act.put, List.setIfInBounds_toArray, List.set_cons_zero, List.set_cons_succ]
      refine wpAnyH_take (i := 2) (oi := { dst := some 14, op := Op.move (Operand.tmp 13), type := 4, pos := "top07.go:16", after := #[{ on := 1, ground := Ground.data }], guard := none }) (v := .bool true) rfl (by kernel_rfl) (by kernel_rfl) (by kernel_rfl) (fun _ _ _ h => h) (Or.inl ⟨by rfl, by intro w hSw; go_simp⟩) hHeld ?_
      try simp only [Act.put, List.setIfInBounds_toArray, List.set_cons_zero, List.set_cons_succ]
      refine wpAnyH_take (i := 3) (oi := { dst := some 15, op := Op.fieldAddr 40 (Operand.tmp 2) 1, type := 0, pos := "top07.go:16", after := #[{ on := 2, ground := Ground.guard }], guard := some (2, true) }) (v := .pointer (some ⟨g2, 36, none⟩)) rfl (by kernel_rfl) (by kernel_rfl) (by kernel_rfl) (fun _ _ _ h => h) (Or.inl ⟨by rfl, by intro w hSw; go_simp⟩) hHeld ?_
      try simp only [Act.put, List.setIfInBounds_toArray, List.set_cons_zero, List.set_cons_succ]
      refine wpAnyH_take (i := 4) (oi := { dst := some 16, op := Op.load 3 (Operand.tmp 15), type := 3, pos := "top07.go:16", after := #[{ on := 3, ground := Ground.data }, { on := 2, ground := Ground.guard }], guard := some (2, true) }) (v := .int .i64 2) rfl (by kernel_rfl) (by kernel_rfl) (by kernel_rfl) (fun _ _ _ h => h) (Or.inl ⟨by rfl, by intro W hSw; have := (HG.out W g2 hSw.2.1).1; go_simp⟩) hHeld ?_
      try simp only [Act.put, List.setIfInBounds_toArray, List.set_cons_zero, List.set_cons_succ]
      refine wpAnyH_take (i := 5) (oi := { dst := some 17, op := Op.binOp BinOp.eql 3 (Operand.tmp 16) (Operand.const (Value.int IntKind.i64 2)) 3, type := 4, pos := "top07.go:16", after := #[{ on := 4, ground := Ground.data }, { on := 2, ground := Ground.guard }], guard := some (2, true) }) (v := .bool true) rfl (by kernel_rfl) (by kernel_rfl) (by kernel_rfl) (fun _ _ _ h => h) (Or.inl ⟨by rfl, by intro w hSw; go_simp⟩) hHeld ?_
      try simp only [Act.put, List.setIfInBounds_toArray, List.set_cons_zero, List.set_cons_succ]
      refine wpAnyH_take (i := 6) (oi := { dst := some 18, op := Op.pick (Operand.tmp 14) (Operand.tmp 17) (Operand.const (Value.bool false)), type := 4, pos := "top07.go:16", after := #[{ on := 2, ground := Ground.data }, { on := 5, ground := Ground.data }], guard := none }) (v := .bool true) rfl (by kernel_rfl) (by kernel_rfl) (by kernel_rfl) (fun _ _ _ h => h) (Or.inl ⟨by rfl, by intro w hSw; go_simp⟩) hHeld ?_
      try simp only [Act.put, List.setIfInBounds_toArray, List.set_cons_zero, List.set_cons_succ]
      refine wpAnyH_take (i := 7) (oi := { dst := some 19, op := Op.move (Operand.tmp 18), type := 4, pos := "top07.go:16", after := #[{ on := 6, ground := Ground.data }, { on := 2, ground := Ground.chain }], guard := none }) (v := .bool true) rfl (by kernel_rfl) (by kernel_rfl) (by kernel_rfl) (fun _ _ _ h => h) (Or.inl ⟨by rfl, by intro w hSw; go_simp⟩) hHeld ?_
      try simp only [Act.put, List.setIfInBounds_toArray, List.set_cons_zero, List.set_cons_succ]
      refine wpAnyH_take (i := 8) (oi := { dst := some 20, op := Op.fieldAddr 40 (Operand.tmp 2) 0, type := 0, pos := "top07.go:16", after := #[{ on := 7, ground := Ground.guard }], guard := some (7, true) }) (v := .pointer (some ⟨g2, 0, none⟩)) rfl (by kernel_rfl) (by kernel_rfl) (by kernel_rfl) (fun _ _ _ h => h) (Or.inl ⟨by rfl, by intro w hSw; go_simp⟩) hHeld ?_
      try simp only [Act.put, List.setIfInBounds_toArray, List.set_cons_zero, List.set_cons_succ]
      refine wpAnyH_take (i := 9) (oi := { dst := some 21, op := Op.fieldAddr 38 (Operand.tmp 20) 3, type := 0, pos := "top07.go:16", after := #[{ on := 8, ground := Ground.data }, { on := 7, ground := Ground.guard }], guard := some (7, true) }) (v := .pointer (some ⟨g2, 3, none⟩)) rfl (by kernel_rfl) (by kernel_rfl) (by kernel_rfl) (fun _ _ _ h => h) (Or.inl ⟨by rfl, by intro w hSw; go_simp⟩) hHeld ?_
      try simp only [Act.put, List.setIfInBounds_toArray, List.set_cons_zero, List.set_cons_succ]
      refine wpAnyH_take (i := 10) (oi := { dst := some 22, op := Op.load 30 (Operand.tmp 21), type := 30, pos := "top07.go:16", after := #[{ on := 9, ground := Ground.data }, { on := 7, ground := Ground.guard }], guard := some (7, true) }) (v := .agg D) rfl (by kernel_rfl) (by kernel_rfl) (by kernel_rfl) (fun _ _ _ h => h) (yieldsIf_mid (by rfl) 30 (.tmp 21) rfl g2 3 rfl D _ (fun W h => (HG.out W g2 h.2.1).2) Tryd.underlying30 rfl HSD.out) hHeld ?_
      try simp only [Act.put, List.setIfInBounds_toArray, List.set_cons_zero, List.set_cons_succ]
      refine wpAnyH_take (i := 11) (oi := { dst := some 23, op := Op.load 30 (Operand.tmp 1), type := 30, pos := "top07.go:16", after := #[{ on := 7, ground := Ground.guard }], guard := some (7, true) }) (v := .agg D) rfl (by kernel_rfl) (by kernel_rfl) (by kernel_rfl) (fun _ _ _ h => h) (yieldsIf_row (by rfl) 30 (.tmp 1) rfl g1 rfl 30 D (0, 0) _ (fun _ h => h.1) Tryd.underlying30 rfl HSD.out) hHeld ?_
      try simp only [Act.put, List.setIfInBounds_toArray, List.set_cons_zero, List.set_cons_succ]
      refine wpAnyH_take (i := 12) (oi := { dst := some 24, op := Op.binOp BinOp.eql 30 (Operand.tmp 22) (Operand.tmp 23) 30, type := 4, pos := "top07.go:16", after := #[{ on := 10, ground := Ground.data }, { on := 11, ground := Ground.data }, { on := 7, ground := Ground.guard }], guard := some (7, true) }) (v := .bool true) rfl (by kernel_rfl) (by kernel_rfl) (by kernel_rfl) (fun _ _ _ h => h) (Or.inl ⟨by rfl, by intro W hSw; have := EQ W; go_simp⟩) hHeld ?_
      try simp only [Act.put, List.setIfInBounds_toArray, List.set_cons_zero, List.set_cons_succ]
      refine wpAnyH_take (i := 13) (oi := { dst := some 25, op := Op.pick (Operand.tmp 19) (Operand.tmp 24) (Operand.const (Value.bool false)), type := 4, pos := "top07.go:16", after := #[{ on := 7, ground := Ground.data }, { on := 12, ground := Ground.data }], guard := none }) (v := .bool true) rfl (by kernel_rfl) (by kernel_rfl) (by kernel_rfl) (fun _ _ _ h => h) (Or.inl ⟨by rfl, by intro w hSw; go_simp⟩) hHeld ?_
      try simp only [Act.put, List.setIfInBounds_toArray, List.set_cons_zero, List.set_cons_succ]
      refine wpAnyH_take (i := 14) (oi := { dst := some 26, op := Op.move (Operand.tmp 25), type := 4, pos := "top07.go:16", after := #[{ on := 13, ground := Ground.data }, { on := 7, ground := Ground.chain }], guard := none }) (v := .bool true) rfl (by kernel_rfl) (by kernel_rfl) (by kernel_rfl) (fun _ _ _ h => h) (Or.inl ⟨by rfl, by intro w hSw; go_simp⟩) hHeld ?_
      try simp only [Act.put, List.setIfInBounds_toArray, List.set_cons_zero, List.set_cons_succ]
      refine wpAnyH_take (i := 16) (oi := { dst := some 28, op := Op.load 40 (Operand.tmp 2), type := 40, pos := "top07.go:16", after := #[{ on := 14, ground := Ground.guard }], guard := some (14, true) }) (v := .agg R) rfl (by kernel_rfl) (by kernel_rfl) (by kernel_rfl) (fun _ _ _ h => h) (yieldsIf_row (by rfl) 40 (.tmp 2) rfl g2 rfl 40 R (0, 0) _ (fun _ h => h.2.1) Tryd.underlying40 rfl HSR.out) hHeld ?_
      try simp only [Act.put, List.setIfInBounds_toArray, List.set_cons_zero, List.set_cons_succ]
      refine wpAnyH_ready (rs := [15]) (by kernel_rfl) (by simp) ?_
      refine AllReadyH.cons (o := { dst := some 27, op := Op.call { callee := Callee.value (Operand.func 16), args := #[], argTypes := #[] }, type := 24, pos := "top07.go:16", after := #[{ on := 14, ground := Ground.chain }, { on := 14, ground := Ground.guard }], guard := some (14, true) }) rfl (fun K hK => ?_) AllReadyH.nil
      go_simp
      refine (MS.out _).mono ?_
      rintro e wd ⟨rfl, hbd⟩
      go_wp2_with fail
      refine hK.out _ _ ⟨(hbd.block _ (heap_lt hHeld.1)).trans hHeld.1, (hbd.block _ (heap_lt hHeld.2.1)).trans hHeld.2.1, hHeld.2.2.trans (hbd.mono hHeld.2.2.size)⟩ (fun hHeld => ?_)
      clear hK K
      try simp only [Act.put, List.setIfInBounds_toArray, List.set_cons_zero, List.set_cons_succ]
      refine wpAnyH_ready (rs := [17]) (by kernel_rfl) (by simp) ?_
      refine AllReadyH.cons (o := { dst := some 29, op := Op.call { callee := Callee.value (Operand.func 11), args := #[Operand.tmp 27, Operand.tmp 28], argTypes := #[24, 40] }, type := 32, pos := "top07.go:16", after := #[{ on := 15, ground := Ground.data }, { on := 16, ground := Ground.data }, { on := 15, ground := Ground.chain }, { on := 14, ground := Ground.guard }], guard := some (14, true) }) rfl (fun K hK => ?_) AllReadyH.nil
      go_simp
      refine (VF.out _ hHeld.2.2).mono ?_
      rintro e we ⟨rfl, hbe⟩
      go_wp2_with fail
      refine hK.out _ _ ⟨(hbe.block _ (heap_lt hHeld.1)).trans hHeld.1, (hbe.block _ (heap_lt hHeld.2.1)).trans hHeld.2.1, hHeld.2.2.trans (hbe.mono hHeld.2.2.size)⟩ (fun hHeld => ?_)
      clear hK K
      try simp only [Act.put, List.setIfInBounds_toArray, List.set_cons_zero, List.set_cons_succ]
      refine wpAnyH_take (i := 18) (oi := { dst := some 30, op := Op.binOp BinOp.eql 32 (Operand.tmp 29) (Operand.const (Value.int IntKind.i64 0)) 32, type := 4, pos := "top07.go:16", after := #[{ on := 17, ground := Ground.data }, { on := 14, ground := Ground.guard }], guard := some (14, true) }) (v := .bool true) rfl (by kernel_rfl) (by kernel_rfl) (by kernel_rfl) (fun _ _ _ h => h) (Or.inl ⟨by rfl, by intro w hSw; go_simp⟩) hHeld ?_
      try simp only [Act.put, List.setIfInBounds_toArray, List.set_cons_zero, List.set_cons_succ]
      refine wpAnyH_take (i := 19) (oi := { dst := some 31, op := Op.pick (Operand.tmp 26) (Operand.tmp 30) (Operand.const (Value.bool false)), type := 4, pos := "top07.go:16", after := #[{ on := 14, ground := Ground.data }, { on := 18, ground := Ground.data }], guard := none }) (v := .bool true) rfl (by kernel_rfl) (by kernel_rfl) (by kernel_rfl) (fun _ _ _ h => h) (Or.inl ⟨by rfl, by intro w hSw; go_simp⟩) hHeld ?_
      try simp only [Act.put, List.setIfInBounds_toArray, List.set_cons_zero, List.set_cons_succ]
      refine wpAnyH_take (i := 20) (oi := { dst := some 32, op := Op.move (Operand.tmp 31), type := 4, pos := "top07.go:16", after := #[{ on := 19, ground := Ground.data }, { on := 17, ground := Ground.chain }], guard := none }) (v := .bool true) rfl (by kernel_rfl) (by kernel_rfl) (by kernel_rfl) (fun _ _ _ h => h) (Or.inl ⟨by rfl, by intro w hSw; go_simp⟩) hHeld ?_
      try simp only [Act.put, List.setIfInBounds_toArray, List.set_cons_zero, List.set_cons_succ]
      refine wpAnyH_take (i := 21) (oi := { dst := some 33, op := Op.fieldAddr 40 (Operand.tmp 2) 0, type := 0, pos := "top07.go:16", after := #[{ on := 20, ground := Ground.guard }], guard := some (20, true) }) (v := .pointer (some ⟨g2, 0, none⟩)) rfl (by kernel_rfl) (by kernel_rfl) (by kernel_rfl) (fun _ _ _ h => h) (Or.inl ⟨by rfl, by intro w hSw; go_simp⟩) hHeld ?_
      try simp only [Act.put, List.setIfInBounds_toArray, List.set_cons_zero, List.set_cons_succ]
      refine wpAnyH_take (i := 22) (oi := { dst := some 34, op := Op.fieldAddr 38 (Operand.tmp 33) 3, type := 0, pos := "top07.go:16", after := #[{ on := 21, ground := Ground.data }, { on := 20, ground := Ground.guard }], guard := some (20, true) }) (v := .pointer (some ⟨g2, 3, none⟩)) rfl (by kernel_rfl) (by kernel_rfl) (by kernel_rfl) (fun _ _ _ h => h) (Or.inl ⟨by rfl, by intro w hSw; go_simp⟩) hHeld ?_
      try simp only [Act.put, List.setIfInBounds_toArray, List.set_cons_zero, List.set_cons_succ]
      refine wpAnyH_take (i := 23) (oi := { dst := some 35, op := Op.load 30 (Operand.tmp 34), type := 30, pos := "top07.go:16", after := #[{ on := 22, ground := Ground.data }, { on := 20, ground := Ground.guard }], guard := some (20, true) }) (v := .agg D) rfl (by kernel_rfl) (by kernel_rfl) (by kernel_rfl) (fun _ _ _ h => h) (yieldsIf_mid (by rfl) 30 (.tmp 34) rfl g2 3 rfl D _ (fun W h => (HG.out W g2 h.2.1).2) Tryd.underlying30 rfl HSD.out) hHeld ?_
      try simp only [Act.put, List.setIfInBounds_toArray, List.set_cons_zero, List.set_cons_succ]
      refine wpAnyH_take (i := 24) (oi := { dst := some 36, op := Op.load 30 (Operand.tmp 1), type := 30, pos := "top07.go:16", after := #[{ on := 20, ground := Ground.guard }], guard := some (20, true) }) (v := .agg D) rfl (by kernel_rfl) (by kernel_rfl) (by kernel_rfl) (fun _ _ _ h => h) (yieldsIf_row (by rfl) 30 (.tmp 1) rfl g1 rfl 30 D (0, 0) _ (fun _ h => h.1) Tryd.underlying30 rfl HSD.out) hHeld ?_
      try simp only [Act.put, List.setIfInBounds_toArray, List.set_cons_zero, List.set_cons_succ]
      refine wpAnyH_ready (rs := [25]) (by kernel_rfl) (by simp) ?_
      refine AllReadyH.cons (o := { dst := some 37, op := Op.call { callee := Callee.value (Operand.func 14), args := #[Operand.tmp 35, Operand.const (Value.int IntKind.i64 1), Operand.const (Value.int IntKind.i64 0), Operand.tmp 36, Operand.const (Value.slice none 0 0)], argTypes := #[30, 3, 3, 30, 26] }, type := 32, pos := "top07.go:16", after := #[{ on := 23, ground := Ground.data }, { on := 24, ground := Ground.data }, { on := 20, ground := Ground.chain }, { on := 20, ground := Ground.guard }], guard := some (20, true) }) rfl (fun K hK => ?_) AllReadyH.nil
      go_simp
      refine (I1.out _ hHeld.2.2).mono ?_
      rintro e wf ⟨rfl, hbf⟩
      go_wp2_with fail
      refine hK.out _ _ ⟨(hbf.block _ (heap_lt hHeld.1)).trans hHeld.1, (hbf.block _ (heap_lt hHeld.2.1)).trans hHeld.2.1, hHeld.2.2.trans (hbf.mono hHeld.2.2.size)⟩ (fun hHeld => ?_)
      clear hK K
      try simp only [Act.put, List.setIfInBounds_toArray, List.set_cons_zero, List.set_cons_succ]
      refine wpAnyH_take (i := 26) (oi := { dst := some 38, op := Op.binOp BinOp.eql 32 (Operand.tmp 37) (Operand.const (Value.int IntKind.i64 0)) 32, type := 4, pos := "top07.go:16", after := #[{ on := 25, ground := Ground.data }, { on := 20, ground := Ground.guard }], guard := some (20, true) }) (v := .bool true) rfl (by kernel_rfl) (by kernel_rfl) (by kernel_rfl) (fun _ _ _ h => h) (Or.inl ⟨by rfl, by intro w hSw; go_simp⟩) hHeld ?_
      try simp only [Act.put, List.setIfInBounds_toArray, List.set_cons_zero, List.set_cons_succ]
      refine wpAnyH_take (i := 27) (oi := { dst := some 39, op := Op.pick (Operand.tmp 32) (Operand.tmp 38) (Operand.const (Value.bool false)), type := 4, pos := "top07.go:16", after := #[{ on := 20, ground := Ground.data }, { on := 26, ground := Ground.data }], guard := none }) (v := .bool true) rfl (by kernel_rfl) (by kernel_rfl) (by kernel_rfl) (fun _ _ _ h => h) (Or.inl ⟨by rfl, by intro w hSw; go_simp⟩) hHeld ?_
      try simp only [Act.put, List.setIfInBounds_toArray, List.set_cons_zero, List.set_cons_succ]
      refine wpAnyH_take (i := 28) (oi := { dst := some 40, op := Op.move (Operand.tmp 39), type := 4, pos := "top07.go:16", after := #[{ on := 27, ground := Ground.data }, { on := 25, ground := Ground.chain }], guard := none }) (v := .bool true) rfl (by kernel_rfl) (by kernel_rfl) (by kernel_rfl) (fun _ _ _ h => h) (Or.inl ⟨by rfl, by intro w hSw; go_simp⟩) hHeld ?_
      try simp only [Act.put, List.setIfInBounds_toArray, List.set_cons_zero, List.set_cons_succ]
      refine wpAnyH_take (i := 29) (oi := { dst := some 41, op := Op.fieldAddr 40 (Operand.tmp 2) 0, type := 0, pos := "top07.go:16", after := #[{ on := 28, ground := Ground.guard }], guard := some (28, true) }) (v := .pointer (some ⟨g2, 0, none⟩)) rfl (by kernel_rfl) (by kernel_rfl) (by kernel_rfl) (fun _ _ _ h => h) (Or.inl ⟨by rfl, by intro w hSw; go_simp⟩) hHeld ?_
      try simp only [Act.put, List.setIfInBounds_toArray, List.set_cons_zero, List.set_cons_succ]
      refine wpAnyH_take (i := 30) (oi := { dst := some 42, op := Op.fieldAddr 38 (Operand.tmp 41) 3, type := 0, pos := "top07.go:16", after := #[{ on := 29, ground := Ground.data }, { on := 28, ground := Ground.guard }], guard := some (28, true) }) (v := .pointer (some ⟨g2, 3, none⟩)) rfl (by kernel_rfl) (by kernel_rfl) (by kernel_rfl) (fun _ _ _ h => h) (Or.inl ⟨by rfl, by intro w hSw; go_simp⟩) hHeld ?_
      try simp only [Act.put, List.setIfInBounds_toArray, List.set_cons_zero, List.set_cons_succ]
      refine wpAnyH_take (i := 31) (oi := { dst := some 43, op := Op.load 30 (Operand.tmp 42), type := 30, pos := "top07.go:16", after := #[{ on := 30, ground := Ground.data }, { on := 28, ground := Ground.guard }], guard := some (28, true) }) (v := .agg D) rfl (by kernel_rfl) (by kernel_rfl) (by kernel_rfl) (fun _ _ _ h => h) (yieldsIf_mid (by rfl) 30 (.tmp 42) rfl g2 3 rfl D _ (fun W h => (HG.out W g2 h.2.1).2) Tryd.underlying30 rfl HSD.out) hHeld ?_
      try simp only [Act.put, List.setIfInBounds_toArray, List.set_cons_zero, List.set_cons_succ]
      refine wpAnyH_ready (rs := [32]) (by kernel_rfl) (by simp) ?_
      refine AllReadyH.cons (o := { dst := some 44, op := Op.call { callee := Callee.value (Operand.func 17), args := #[], argTypes := #[] }, type := 30, pos := "top07.go:16", after := #[{ on := 28, ground := Ground.chain }, { on := 28, ground := Ground.guard }], guard := some (28, true) }) rfl (fun K hK => ?_) AllReadyH.nil
      go_simp
      refine (EM.out _ hHeld.2.2).mono ?_
      rintro e wg ⟨rfl, hbg⟩
      go_wp2_with fail
      refine hK.out _ _ ⟨(hbg.block _ (heap_lt hHeld.1)).trans hHeld.1, (hbg.block _ (heap_lt hHeld.2.1)).trans hHeld.2.1, hHeld.2.2.trans (hbg.mono hHeld.2.2.size)⟩ (fun hHeld => ?_)
      clear hK K
      try simp only [Act.put, List.setIfInBounds_toArray, List.set_cons_zero, List.set_cons_succ]
      refine wpAnyH_ready (rs := [33]) (by kernel_rfl) (by simp) ?_
      refine AllReadyH.cons (o := { dst := some 45, op := Op.call { callee := Callee.value (Operand.func 14), args := #[Operand.tmp 43, Operand.const (Value.int IntKind.i64 1), Operand.const (Value.int IntKind.i64 0), Operand.tmp 44, Operand.const (Value.slice none 0 0)], argTypes := #[30, 3, 3, 30, 26] }, type := 32, pos := "top07.go:16", after := #[{ on := 31, ground := Ground.data }, { on := 32, ground := Ground.data }, { on := 32, ground := Ground.chain }, { on := 28, ground := Ground.guard }], guard := some (28, true) }) rfl (fun K hK => ?_) AllReadyH.nil
      go_simp
      refine (I2.out _ hHeld.2.2).mono ?_
      rintro e wh ⟨rfl, hbh⟩
      go_wp2_with fail
      refine hK.out _ _ ⟨(hbh.block _ (heap_lt hHeld.1)).trans hHeld.1, (hbh.block _ (heap_lt hHeld.2.1)).trans hHeld.2.1, hHeld.2.2.trans (hbh.mono hHeld.2.2.size)⟩ (fun hHeld => ?_)
      clear hK K
      try simp only [Act.put, List.setIfInBounds_toArray, List.set_cons_zero, List.set_cons_succ]
      refine wpAnyH_take (i := 34) (oi := { dst := some 46, op := Op.binOp BinOp.eql 32 (Operand.tmp 45) (Operand.const (Value.int IntKind.i64 41)) 32, type := 4, pos := "top07.go:16", after := #[{ on := 33, ground := Ground.data }, { on := 28, ground := Ground.guard }], guard := some (28, true) }) (v := .bool true) rfl (by kernel_rfl) (by kernel_rfl) (by kernel_rfl) (fun _ _ _ h => h) (Or.inl ⟨by rfl, by intro w hSw; go_simp⟩) hHeld ?_
      try simp only [Act.put, List.setIfInBounds_toArray, List.set_cons_zero, List.set_cons_succ]
      refine wpAnyH_take (i := 35) (oi := { dst := some 47, op := Op.pick (Operand.tmp 40) (Operand.tmp 46) (Operand.const (Value.bool false)), type := 4, pos := "top07.go:16", after := #[{ on := 28, ground := Ground.data }, { on := 34, ground := Ground.data }], guard := none }) (v := .bool true) rfl (by kernel_rfl) (by kernel_rfl) (by kernel_rfl) (fun _ _ _ h => h) (Or.inl ⟨by rfl, by intro w hSw; go_simp⟩) hHeld ?_
      try simp only [Act.put, List.setIfInBounds_toArray, List.set_cons_zero, List.set_cons_succ]
      refine wpAnyH_take (i := 36) (oi := { dst := some 0, op := Op.assign (Operand.tmp 47), type := 4, pos := "top07.go:16", after := #[{ on := 35, ground := Ground.data }, { on := 33, ground := Ground.chain }, { on := 0, ground := Ground.phase }, { on := 1, ground := Ground.phase }, { on := 2, ground := Ground.phase }, { on := 3, ground := Ground.phase }, { on := 4, ground := Ground.phase }, { on := 5, ground := Ground.phase }, { on := 6, ground := Ground.phase }, { on := 7, ground := Ground.phase }, { on := 8, ground := Ground.phase }, { on := 9, ground := Ground.phase }, { on := 10, ground := Ground.phase }, { on := 11, ground := Ground.phase }, { on := 12, ground := Ground.phase }, { on := 13, ground := Ground.phase }, { on := 14, ground := Ground.phase }, { on := 15, ground := Ground.phase }, { on := 16, ground := Ground.phase }, { on := 17, ground := Ground.phase }, { on := 18, ground := Ground.phase }, { on := 19, ground := Ground.phase }, { on := 20, ground := Ground.phase }, { on := 21, ground := Ground.phase }, { on := 22, ground := Ground.phase }, { on := 23, ground := Ground.phase }, { on := 24, ground := Ground.phase }, { on := 25, ground := Ground.phase }, { on := 26, ground := Ground.phase }, { on := 27, ground := Ground.phase }, { on := 28, ground := Ground.phase }, { on := 29, ground := Ground.phase }, { on := 30, ground := Ground.phase }, { on := 31, ground := Ground.phase }, { on := 32, ground := Ground.phase }, { on := 33, ground := Ground.phase }, { on := 34, ground := Ground.phase }, { on := 35, ground := Ground.phase }], guard := none }) (v := .bool true) rfl (by kernel_rfl) (by kernel_rfl) (by kernel_rfl) (fun _ _ _ h => h) (Or.inl ⟨by rfl, by intro w hSw; go_simp⟩) hHeld ?_
      try simp only [Act.put, List.setIfInBounds_toArray, List.set_cons_zero, List.set_cons_succ]
      refine wpAnyH_done (by kernel_rfl) ?_ _
      have HBF := hidk hHeld.2.2
      clear hHeld
      go_wp2_with fail
      go_ret
      exact ⟨rfl, HBF.out⟩
    · refine step_new_var (by rfl) 40 rfl Z HA.out ?_
      intro g2 wn HM2
      have HG2 := hidk HM2.out.row
      have hg2 : w.heap.size ≤ g2 := (by rw [HM2.out.new]; exact hHeld.2.size)
      have hg12 : g1 ≠ g2 := (by have h1 := heap_lt hHeld.1; have h2 := HM2.out.new; omega)
      refine hK.out _ _ ⟨(HM2.out.below.block _ (heap_lt hHeld.1)).trans hHeld.1, hHeld.2.trans (HM2.out.below.mono hHeld.2.size)⟩ (fun hHeld => ?_)
      clear hK K
      try simp only [Act.put, List.setIfInBounds_toArray, List.set_cons_zero, List.set_cons_succ]
      refine wpAnyH_ready (rs := [3]) (by kernel_rfl) (by simp) ?_
      refine (AllReadyH.cons (o := { dst := some 9, op := Op.call { callee := Callee.value (Operand.func 8), args := #[Operand.tmp 6, Operand.tmp 8, Operand.const (Value.int IntKind.i64 2)], argTypes := #[24, 38, 3] }, type := 41, pos := "top07.go:15", after := #[{ on := 0, ground := Ground.data }, { on := 2, ground := Ground.data }, { on := 0, ground := Ground.chain }], guard := none }) rfl (fun K hK => ?_) AllReadyH.nil)
      go_simp
      refine (SG.out _ hHeld.2).mono ?_
      rintro e wc3 ⟨rfl, hb3⟩
      try replace HG2 := hidk ((hb3.block _ (heap_lt HG2.out)).trans HG2.out)
      go_wp2_with fail
      refine hK.out _ _ ⟨(hb3.block _ (heap_lt hHeld.1)).trans hHeld.1, hHeld.2.trans (hb3.mono hHeld.2.size)⟩ (fun hHeld => ?_)
      clear hK K
      try simp only [Act.put, List.setIfInBounds_toArray, List.set_cons_zero, List.set_cons_succ]
      refine wpAnyH_take (i := 4) (oi := { dst := some 5, op := Op.move (Operand.tmp 9), type := 41, pos := "top07.go:15", after := #[{ on := 3, ground := Ground.data }], guard := none }) (v := .tuple #[.agg R, .int .i64 0]) rfl (by kernel_rfl) (by kernel_rfl) (by kernel_rfl) (fun _ _ _ h => h) (Or.inl ⟨by rfl, by intro W hSw; go_simp⟩) hHeld ?_
      try simp only [Act.put, List.setIfInBounds_toArray, List.set_cons_zero, List.set_cons_succ]
      refine wpAnyH_take (i := 5) (oi := { dst := some 10, op := Op.extract (Operand.tmp 5) 0, type := 40, pos := "top07.go:15", after := #[{ on := 4, ground := Ground.data }], guard := none }) (v := .agg R) rfl (by kernel_rfl) (by kernel_rfl) (by kernel_rfl) (fun _ _ _ h => h) (Or.inl ⟨by rfl, by intro W hSw; go_simp⟩) hHeld ?_
      try simp only [Act.put, List.setIfInBounds_toArray, List.set_cons_zero, List.set_cons_succ]
      refine wpAnyH_take (i := 6) (oi := { dst := some 11, op := Op.extract (Operand.tmp 5) 1, type := 32, pos := "top07.go:15", after := #[{ on := 4, ground := Ground.data }, { on := 8, ground := Ground.gcOnly Departure.lateStores }], guard := none }) (v := .int .i64 0) rfl (by kernel_rfl) (by kernel_rfl) (by kernel_rfl) (fun _ _ _ h => h) (Or.inl ⟨by rfl, by intro W hSw; go_simp⟩) hHeld ?_
      try simp only [Act.put, List.setIfInBounds_toArray, List.set_cons_zero, List.set_cons_succ]
      refine wpAnyH_ready (rs := [8]) (by kernel_rfl) (by simp) ?_
      refine (AllReadyH.cons (o := { dst := none, op := Op.store 40 (Operand.tmp 2) (Operand.tmp 10), type := 0, pos := "top07.go:15", after := #[{ on := 7, ground := Ground.data }, { on := 5, ground := Ground.data }, { on := 3, ground := Ground.chain }, { on := 0, ground := Ground.phase }, { on := 1, ground := Ground.phase }, { on := 2, ground := Ground.phase }, { on := 3, ground := Ground.phase }, { on := 4, ground := Ground.phase }, { on := 5, ground := Ground.phase }, { on := 6, ground := Ground.textOnly Departure.lateStores }, { on := 7, ground := Ground.phase }], guard := none }) rfl (fun K hK => ?_) AllReadyH.nil)
      refine step_set_var (by rfl) 40 (.tmp 2) (.tmp 10) rfl g2 R rfl rfl 40 Z HG2.out HSR.out HZR.out H1R.out ?_
      intro wz HW2
      refine hK.out _ _ ⟨(HW2.out.other g1 hg12).trans hHeld.1, HW2.out.below _ _ hHeld.2 hg2⟩ (fun hHeld => ?_)
      clear hK K
      try simp only [Act.put, List.setIfInBounds_toArray, List.set_cons_zero, List.set_cons_succ]
      refine wpAnyH_take (i := 9) (oi := { dst := some 3, op := Op.assign (Operand.tmp 11), type := 32, pos := "top07.go:15", after := #[{ on := 6, ground := Ground.data }, { on := 8, ground := Ground.chain }, { on := 0, ground := Ground.phase }, { on := 1, ground := Ground.phase }, { on := 2, ground := Ground.phase }, { on := 3, ground := Ground.phase }, { on := 4, ground := Ground.phase }, { on := 5, ground := Ground.phase }, { on := 6, ground := Ground.phase }, { on := 7, ground := Ground.phase }, { on := 8, ground := Ground.phase }], guard := none }) (v := .int .i64 0) rfl (by kernel_rfl) (by kernel_rfl) (by kernel_rfl) (fun _ _ _ h => h) (Or.inl ⟨by rfl, by intro W hSw; go_simp⟩) hHeld ?_
      try simp only [Act.put, List.setIfInBounds_toArray, List.set_cons_zero, List.set_cons_succ]
      refine wpAnyH_done (by kernel_rfl) ?_ _
      have HB3 : Hid (wz.heap[g1]? = some (.cells D 30 (0, 0)) ∧ wz.heap[g2]? = some (.cells R 40 (0, 0)) ∧ Below w.heap.size w wz) := ⟨hHeld.1, HW2.out.row, hHeld.2⟩
      clear hHeld HW2 HB2 HBH SG
      go_wp2_with fail
      refine wp_region_held_drew (S := (fun W => W.heap[g1]? = some (.cells D 30 (0, 0)) ∧ W.heap[g2]? = some (.cells R 40 (0, 0)) ∧ Below w.heap.size w W)) (by kernel_rfl) ⟨HB3.out.1, HB3.out.2.1, HB3.out.2.2.drew⟩ (fun hHeld => ?_)
      refine wpAnyH_take (i := 0) (oi := { dst := some 12, op := Op.move (Operand.tmp 3), type := 32, pos := "top07.go:16", after := #[], guard := none }) (v := .int .i64 0) rfl (by kernel_rfl) (by kernel_rfl) (by kernel_rfl) (fun _ _ _ h => h) (Or.inl ⟨by rfl, by intro w hSw; go_simp⟩) hHeld ?_
      try simp only [Act.put, List.setIfInBounds_toArray, List.set_cons_zero, List.set_cons_succ]
      refine wpAnyH_take (i := 1) (oi := { dst := some 13, op := Op.binOp BinOp.eql 32 (Operand.tmp 12) (Operand.const (Value.int IntKind.i64 0)) 32, type := 4, pos := "top07.go:16", after := #[{ on := 0, ground := Ground.data }], guard := none }) (v := .bool true) rfl (by kernel_rfl) (by kernel_rfl) (by kernel_rfl) (fun _ _ _ h => h) (Or.inl ⟨by rfl, by intro w hSw; go_simp⟩) hHeld ?_
      try simp only [Act.put, List.setIfInBounds_toArray, List.set_cons_zero, List.set_cons_succ]
      refine wpAnyH_take (i := 2) (oi := { dst := some 14, op := Op.move (Operand.tmp 13), type := 4, pos := "top07.go:16", after := #[{ on := 1, ground := Ground.data }], guard := none }) (v := .bool true) rfl (by kernel_rfl) (by kernel_rfl) (by kernel_rfl) (fun _ _ _ h => h) (Or.inl ⟨by rfl, by intro w hSw; go_simp⟩) hHeld ?_
      try simp only [Act.put, List.setIfInBounds_toArray, List.set_cons_zero, List.set_cons_succ]
      refine wpAnyH_take (i := 3) (oi := { dst := some 15, op := Op.fieldAddr 40 (Operand.tmp 2) 1, type := 0, pos := "top07.go:16", after := #[{ on := 2, ground := Ground.guard }], guard := some (2, true) }) (v := .pointer (some ⟨g2, 36, none⟩)) rfl (by kernel_rfl) (by kernel_rfl) (by kernel_rfl) (fun _ _ _ h => h) (Or.inl ⟨by rfl, by intro w hSw; go_simp⟩) hHeld ?_
      try simp only [Act.put, List.setIfInBounds_toArray, List.set_cons_zero, List.set_cons_succ]
      refine wpAnyH_take (i := 4) (oi := { dst := some 16, op := Op.load 3 (Operand.tmp 15), type := 3, pos := "top07.go:16", after := #[{ on := 3, ground := Ground.data }, { on := 2, ground := Ground.guard }], guard := some (2, true) }) (v := .int .i64 2) rfl (by kernel_rfl) (by kernel_rfl) (by kernel_rfl) (fun _ _ _ h => h) (Or.inl ⟨by rfl, by intro W hSw; have := (HG.out W g2 hSw.2.1).1; go_simp⟩) hHeld ?_
      try simp only [Act.put, List.setIfInBounds_toArray, List.set_cons_zero, List.set_cons_succ]
      refine wpAnyH_take (i := 5) (oi := { dst := some 17, op := Op.binOp BinOp.eql 3 (Operand.tmp 16) (Operand.const (Value.int IntKind.i64 2)) 3, type := 4, pos := "top07.go:16", after := #[{ on := 4, ground := Ground.data }, { on := 2, ground := Ground.guard }], guard := some (2, true) }) (v := .bool true) rfl (by kernel_rfl) (by kernel_rfl) (by kernel_rfl) (fun _ _ _ h => h) (Or.inl ⟨by rfl, by intro w hSw; go_simp⟩) hHeld ?_
      try simp only [Act.put, List.setIfInBounds_toArray, List.set_cons_zero, List.set_cons_succ]
      refine wpAnyH_take (i := 6) (oi := { dst := some 18, op := Op.pick (Operand.tmp 14) (Operand.tmp 17) (Operand.const (Value.bool false)), type := 4, pos := "top07.go:16", after := #[{ on := 2, ground := Ground.data }, { on := 5, ground := Ground.data }], guard := none }) (v := .bool true) rfl (by kernel_rfl) (by kernel_rfl) (by kernel_rfl) (fun _ _ _ h => h) (Or.inl ⟨by rfl, by intro w hSw; go_simp⟩) hHeld ?_
      try simp only [Act.put, List.setIfInBounds_toArray, List.set_cons_zero, List.set_cons_succ]
      refine wpAnyH_take (i := 7) (oi := { dst := some 19, op := Op.move (Operand.tmp 18), type := 4, pos := "top07.go:16", after := #[{ on := 6, ground := Ground.data }, { on := 2, ground := Ground.chain }], guard := none }) (v := .bool true) rfl (by kernel_rfl) (by kernel_rfl) (by kernel_rfl) (fun _ _ _ h => h) (Or.inl ⟨by rfl, by intro w hSw; go_simp⟩) hHeld ?_
      try simp only [Act.put, List.setIfInBounds_toArray, List.set_cons_zero, List.set_cons_succ]
      refine wpAnyH_take (i := 8) (oi := { dst := some 20, op := Op.fieldAddr 40 (Operand.tmp 2) 0, type := 0, pos := "top07.go:16", after := #[{ on := 7, ground := Ground.guard }], guard := some (7, true) }) (v := .pointer (some ⟨g2, 0, none⟩)) rfl (by kernel_rfl) (by kernel_rfl) (by kernel_rfl) (fun _ _ _ h => h) (Or.inl ⟨by rfl, by intro w hSw; go_simp⟩) hHeld ?_
      try simp only [Act.put, List.setIfInBounds_toArray, List.set_cons_zero, List.set_cons_succ]
      refine wpAnyH_take (i := 9) (oi := { dst := some 21, op := Op.fieldAddr 38 (Operand.tmp 20) 3, type := 0, pos := "top07.go:16", after := #[{ on := 8, ground := Ground.data }, { on := 7, ground := Ground.guard }], guard := some (7, true) }) (v := .pointer (some ⟨g2, 3, none⟩)) rfl (by kernel_rfl) (by kernel_rfl) (by kernel_rfl) (fun _ _ _ h => h) (Or.inl ⟨by rfl, by intro w hSw; go_simp⟩) hHeld ?_
      try simp only [Act.put, List.setIfInBounds_toArray, List.set_cons_zero, List.set_cons_succ]
      refine wpAnyH_take (i := 10) (oi := { dst := some 22, op := Op.load 30 (Operand.tmp 21), type := 30, pos := "top07.go:16", after := #[{ on := 9, ground := Ground.data }, { on := 7, ground := Ground.guard }], guard := some (7, true) }) (v := .agg D) rfl (by kernel_rfl) (by kernel_rfl) (by kernel_rfl) (fun _ _ _ h => h) (yieldsIf_mid (by rfl) 30 (.tmp 21) rfl g2 3 rfl D _ (fun W h => (HG.out W g2 h.2.1).2) Tryd.underlying30 rfl HSD.out) hHeld ?_
      try simp only [Act.put, List.setIfInBounds_toArray, List.set_cons_zero, List.set_cons_succ]
      refine wpAnyH_take (i := 11) (oi := { dst := some 23, op := Op.load 30 (Operand.tmp 1), type := 30, pos := "top07.go:16", after := #[{ on := 7, ground := Ground.guard }], guard := some (7, true) }) (v := .agg D) rfl (by kernel_rfl) (by kernel_rfl) (by kernel_rfl) (fun _ _ _ h => h) (yieldsIf_row (by rfl) 30 (.tmp 1) rfl g1 rfl 30 D (0, 0) _ (fun _ h => h.1) Tryd.underlying30 rfl HSD.out) hHeld ?_
      try simp only [Act.put, List.setIfInBounds_toArray, List.set_cons_zero, List.set_cons_succ]
      refine wpAnyH_take (i := 12) (oi := { dst := some 24, op := Op.binOp BinOp.eql 30 (Operand.tmp 22) (Operand.tmp 23) 30, type := 4, pos := "top07.go:16", after := #[{ on := 10, ground := Ground.data }, { on := 11, ground := Ground.data }, { on := 7, ground := Ground.guard }], guard := some (7, true) }) (v := .bool true) rfl (by kernel_rfl) (by kernel_rfl) (by kernel_rfl) (fun _ _ _ h => h) (Or.inl ⟨by rfl, by intro W hSw; have := EQ W; go_simp⟩) hHeld ?_
      try simp only [Act.put, List.setIfInBounds_toArray, List.set_cons_zero, List.set_cons_succ]
      refine wpAnyH_take (i := 13) (oi := { dst := some 25, op := Op.pick (Operand.tmp 19) (Operand.tmp 24) (Operand.const (Value.bool false)), type := 4, pos := "top07.go:16", after := #[{ on := 7, ground := Ground.data }, { on := 12, ground := Ground.data }], guard := none }) (v := .bool true) rfl (by kernel_rfl) (by kernel_rfl) (by kernel_rfl) (fun _ _ _ h => h) (Or.inl ⟨by rfl, by intro w hSw; go_simp⟩) hHeld ?_
      try simp only [Act.put, List.setIfInBounds_toArray, List.set_cons_zero, List.set_cons_succ]
      refine wpAnyH_take (i := 14) (oi := { dst := some 26, op := Op.move (Operand.tmp 25), type := 4, pos := "top07.go:16", after := #[{ on := 13, ground := Ground.data }, { on := 7, ground := Ground.chain }], guard := none }) (v := .bool true) rfl (by kernel_rfl) (by kernel_rfl) (by kernel_rfl) (fun _ _ _ h => h) (Or.inl ⟨by rfl, by intro w hSw; go_simp⟩) hHeld ?_
      try simp only [Act.put, List.setIfInBounds_toArray, List.set_cons_zero, List.set_cons_succ]
      refine wpAnyH_take (i := 16) (oi := { dst := some 28, op := Op.load 40 (Operand.tmp 2), type := 40, pos := "top07.go:16", after := #[{ on := 14, ground := Ground.guard }], guard := some (14, true) }) (v := .agg R) rfl (by kernel_rfl) (by kernel_rfl) (by kernel_rfl) (fun _ _ _ h => h) (yieldsIf_row (by rfl) 40 (.tmp 2) rfl g2 rfl 40 R (0, 0) _ (fun _ h => h.2.1) Tryd.underlying40 rfl HSR.out) hHeld ?_
      try simp only [Act.put, List.setIfInBounds_toArray, List.set_cons_zero, List.set_cons_succ]
      refine wpAnyH_ready (rs := [15]) (by kernel_rfl) (by simp) ?_
      refine AllReadyH.cons (o := { dst := some 27, op := Op.call { callee := Callee.value (Operand.func 16), args := #[], argTypes := #[] }, type := 24, pos := "top07.go:16", after := #[{ on := 14, ground := Ground.chain }, { on := 14, ground := Ground.guard }], guard := some (14, true) }) rfl (fun K hK => ?_) AllReadyH.nil
      go_simp
      refine (MS.out _).mono ?_
      rintro e wd ⟨rfl, hbd⟩
      go_wp2_with fail
      refine hK.out _ _ ⟨(hbd.block _ (heap_lt hHeld.1)).trans hHeld.1, (hbd.block _ (heap_lt hHeld.2.1)).trans hHeld.2.1, hHeld.2.2.trans (hbd.mono hHeld.2.2.size)⟩ (fun hHeld => ?_)
      clear hK K
      try simp only [Act.put, List.setIfInBounds_toArray, List.set_cons_zero, List.set_cons_succ]
      refine wpAnyH_ready (rs := [17]) (by kernel_rfl) (by simp) ?_
      refine AllReadyH.cons (o := { dst := some 29, op := Op.call { callee := Callee.value (Operand.func 11), args := #[Operand.tmp 27, Operand.tmp 28], argTypes := #[24, 40] }, type := 32, pos := "top07.go:16", after := #[{ on := 15, ground := Ground.data }, { on := 16, ground := Ground.data }, { on := 15, ground := Ground.chain }, { on := 14, ground := Ground.guard }], guard := some (14, true) }) rfl (fun K hK => ?_) AllReadyH.nil
      go_simp
      refine (VF.out _ hHeld.2.2).mono ?_
      rintro e we ⟨rfl, hbe⟩
      go_wp2_with fail
      refine hK.out _ _ ⟨(hbe.block _ (heap_lt hHeld.1)).trans hHeld.1, (hbe.block _ (heap_lt hHeld.2.1)).trans hHeld.2.1, hHeld.2.2.trans (hbe.mono hHeld.2.2.size)⟩ (fun hHeld => ?_)
      clear hK K
      try simp only [Act.put, List.setIfInBounds_toArray, List.set_cons_zero, List.set_cons_succ]
      refine wpAnyH_take (i := 18) (oi := { dst := some 30, op := Op.binOp BinOp.eql 32 (Operand.tmp 29) (Operand.const (Value.int IntKind.i64 0)) 32, type := 4, pos := "top07.go:16", after := #[{ on := 17, ground := Ground.data }, { on := 14, ground := Ground.guard }], guard := some (14, true) }) (v := .bool true) rfl (by kernel_rfl) (by kernel_rfl) (by kernel_rfl) (fun _ _ _ h => h) (Or.inl ⟨by rfl, by intro w hSw; go_simp⟩) hHeld ?_
      try simp only [Act.put, List.setIfInBounds_toArray, List.set_cons_zero, List.set_cons_succ]
      refine wpAnyH_take (i := 19) (oi := { dst := some 31, op := Op.pick (Operand.tmp 26) (Operand.tmp 30) (Operand.const (Value.bool false)), type := 4, pos := "top07.go:16", after := #[{ on := 14, ground := Ground.data }, { on := 18, ground := Ground.data }], guard := none }) (v := .bool true) rfl (by kernel_rfl) (by kernel_rfl) (by kernel_rfl) (fun _ _ _ h => h) (Or.inl ⟨by rfl, by intro w hSw; go_simp⟩) hHeld ?_
      try simp only [Act.put, List.setIfInBounds_toArray, List.set_cons_zero, List.set_cons_succ]
      refine wpAnyH_take (i := 20) (oi := { dst := some 32, op := Op.move (Operand.tmp 31), type := 4, pos := "top07.go:16", after := #[{ on := 19, ground := Ground.data }, { on := 17, ground := Ground.chain }], guard := none }) (v := .bool true) rfl (by kernel_rfl) (by kernel_rfl) (by kernel_rfl) (fun _ _ _ h => h) (Or.inl ⟨by rfl, by intro w hSw; go_simp⟩) hHeld ?_
      try simp only [Act.put, List.setIfInBounds_toArray, List.set_cons_zero, List.set_cons_succ]
      refine wpAnyH_take (i := 21) (oi := { dst := some 33, op := Op.fieldAddr 40 (Operand.tmp 2) 0, type := 0, pos := "top07.go:16", after := #[{ on := 20, ground := Ground.guard }], guard := some (20, true) }) (v := .pointer (some ⟨g2, 0, none⟩)) rfl (by kernel_rfl) (by kernel_rfl) (by kernel_rfl) (fun _ _ _ h => h) (Or.inl ⟨by rfl, by intro w hSw; go_simp⟩) hHeld ?_
      try simp only [Act.put, List.setIfInBounds_toArray, List.set_cons_zero, List.set_cons_succ]
      refine wpAnyH_take (i := 22) (oi := { dst := some 34, op := Op.fieldAddr 38 (Operand.tmp 33) 3, type := 0, pos := "top07.go:16", after := #[{ on := 21, ground := Ground.data }, { on := 20, ground := Ground.guard }], guard := some (20, true) }) (v := .pointer (some ⟨g2, 3, none⟩)) rfl (by kernel_rfl) (by kernel_rfl) (by kernel_rfl) (fun _ _ _ h => h) (Or.inl ⟨by rfl, by intro w hSw; go_simp⟩) hHeld ?_
      try simp only [Act.put, List.setIfInBounds_toArray, List.set_cons_zero, List.set_cons_succ]
      refine wpAnyH_take (i := 23) (oi := { dst := some 35, op := Op.load 30 (Operand.tmp 34), type := 30, pos := "top07.go:16", after := #[{ on := 22, ground := Ground.data }, { on := 20, ground := Ground.guard }], guard := some (20, true) }) (v := .agg D) rfl (by kernel_rfl) (by kernel_rfl) (by kernel_rfl) (fun _ _ _ h => h) (yieldsIf_mid (by rfl) 30 (.tmp 34) rfl g2 3 rfl D _ (fun W h => (HG.out W g2 h.2.1).2) Tryd.underlying30 rfl HSD.out) hHeld ?_
      try simp only [Act.put, List.setIfInBounds_toArray, List.set_cons_zero, List.set_cons_succ]
      refine wpAnyH_take (i := 24) (oi := { dst := some 36, op := Op.load 30 (Operand.tmp 1), type := 30, pos := "top07.go:16", after := #[{ on := 20, ground := Ground.guard }], guard := some (20, true) }) (v := .agg D) rfl (by kernel_rfl) (by kernel_rfl) (by kernel_rfl) (fun _ _ _ h => h) (yieldsIf_row (by rfl) 30 (.tmp 1) rfl g1 rfl 30 D (0, 0) _ (fun _ h => h.1) Tryd.underlying30 rfl HSD.out) hHeld ?_
      try simp only [Act.put, List.setIfInBounds_toArray, List.set_cons_zero, List.set_cons_succ]
      refine wpAnyH_ready (rs := [25]) (by kernel_rfl) (by simp) ?_
      refine AllReadyH.cons (o := { dst := some 37, op := Op.call { callee := Callee.value (Operand.func 14), args := #[Operand.tmp 35, Operand.const (Value.int IntKind.i64 1), Operand.const (Value.int IntKind.i64 0), Operand.tmp 36, Operand.const (Value.slice none 0 0)], argTypes := #[30, 3, 3, 30, 26] }, type := 32, pos := "top07.go:16", after := #[{ on := 23, ground := Ground.data }, { on := 24, ground := Ground.data }, { on := 20, ground := Ground.chain }, { on := 20, ground := Ground.guard }], guard := some (20, true) }) rfl (fun K hK => ?_) AllReadyH.nil
      go_simp
      refine (I1.out _ hHeld.2.2).mono ?_
      rintro e wf ⟨rfl, hbf⟩
      go_wp2_with fail
      refine hK.out _ _ ⟨(hbf.block _ (heap_lt hHeld.1)).trans hHeld.1, (hbf.block _ (heap_lt hHeld.2.1)).trans hHeld.2.1, hHeld.2.2.trans (hbf.mono hHeld.2.2.size)⟩ (fun hHeld => ?_)
      clear hK K
      try simp only [Act.put, List.setIfInBounds_toArray, List.set_cons_zero, List.set_cons_succ]
      refine wpAnyH_take (i := 26) (oi := { dst := some 38, op := Op.binOp BinOp.eql 32 (Operand.tmp 37) (Operand.const (Value.int IntKind.i64 0)) 32, type := 4, pos := "top07.go:16", after := #[{ on := 25, ground := Ground.data }, { on := 20, ground := Ground.guard }], guard := some (20, true) }) (v := .bool true) rfl (by kernel_rfl) (by kernel_rfl) (by kernel_rfl) (fun _ _ _ h => h) (Or.inl ⟨by rfl, by intro w hSw; go_simp⟩) hHeld ?_
      try simp only [Act.put, List.setIfInBounds_toArray, List.set_cons_zero, List.set_cons_succ]
      refine wpAnyH_take (i := 27) (oi := { dst := some 39, op := Op.pick (Operand.tmp 32) (Operand.tmp 38) (Operand.const (Value.bool false)), type := 4, pos := "top07.go:16", after := #[{ on := 20, ground := Ground.data }, { on := 26, ground := Ground.data }], guard := none }) (v := .bool true) rfl (by kernel_rfl) (by kernel_rfl) (by kernel_rfl) (fun _ _ _ h => h) (Or.inl ⟨by rfl, by intro w hSw; go_simp⟩) hHeld ?_
      try simp only [Act.put, List.setIfInBounds_toArray, List.set_cons_zero, List.set_cons_succ]
      refine wpAnyH_take (i := 28) (oi := { dst := some 40, op := Op.move (Operand.tmp 39), type := 4, pos := "top07.go:16", after := #[{ on := 27, ground := Ground.data }, { on := 25, ground := Ground.chain }], guard := none }) (v := .bool true) rfl (by kernel_rfl) (by kernel_rfl) (by kernel_rfl) (fun _ _ _ h => h) (Or.inl ⟨by rfl, by intro w hSw; go_simp⟩) hHeld ?_
      try simp only [Act.put, List.setIfInBounds_toArray, List.set_cons_zero, List.set_cons_succ]
      refine wpAnyH_take (i := 29) (oi := { dst := some 41, op := Op.fieldAddr 40 (Operand.tmp 2) 0, type := 0, pos := "top07.go:16", after := #[{ on := 28, ground := Ground.guard }], guard := some (28, true) }) (v := .pointer (some ⟨g2, 0, none⟩)) rfl (by kernel_rfl) (by kernel_rfl) (by kernel_rfl) (fun _ _ _ h => h) (Or.inl ⟨by rfl, by intro w hSw; go_simp⟩) hHeld ?_
      try simp only [Act.put, List.setIfInBounds_toArray, List.set_cons_zero, List.set_cons_succ]
      refine wpAnyH_take (i := 30) (oi := { dst := some 42, op := Op.fieldAddr 38 (Operand.tmp 41) 3, type := 0, pos := "top07.go:16", after := #[{ on := 29, ground := Ground.data }, { on := 28, ground := Ground.guard }], guard := some (28, true) }) (v := .pointer (some ⟨g2, 3, none⟩)) rfl (by kernel_rfl) (by kernel_rfl) (by kernel_rfl) (fun _ _ _ h => h) (Or.inl ⟨by rfl, by intro w hSw; go_simp⟩) hHeld ?_
      try simp only [Act.put, List.setIfInBounds_toArray, List.set_cons_zero, List.set_cons_succ]
      refine wpAnyH_take (i := 31) (oi := { dst := some 43, op := Op.load 30 (Operand.tmp 42), type := 30, pos := "top07.go:16", after := #[{ on := 30, ground := Ground.data }, { on := 28, ground := Ground.guard }], guard := some (28, true) }) (v := .agg D) rfl (by kernel_rfl) (by kernel_rfl) (by kernel_rfl) (fun _ _ _ h => h) (yieldsIf_mid (by rfl) 30 (.tmp 42) rfl g2 3 rfl D _ (fun W h => (HG.out W g2 h.2.1).2) Tryd.underlying30 rfl HSD.out) hHeld ?_
      try simp only [Act.put, List.setIfInBounds_toArray, List.set_cons_zero, List.set_cons_succ]
      refine wpAnyH_ready (rs := [32]) (by kernel_rfl) (by simp) ?_
      refine AllReadyH.cons (o := { dst := some 44, op := Op.call { callee := Callee.value (Operand.func 17), args := #[], argTypes := #[] }, type := 30, pos := "top07.go:16", after := #[{ on := 28, ground := Ground.chain }, { on := 28, ground := Ground.guard }], guard := some (28, true) }) rfl (fun K hK => ?_) AllReadyH.nil
      go_simp
      refine (EM.out _ hHeld.2.2).mono ?_
      rintro e wg ⟨rfl, hbg⟩
      go_wp2_with fail
      refine hK.out _ _ ⟨(hbg.block _ (heap_lt hHeld.1)).trans hHeld.1, (hbg.block _ (heap_lt hHeld.2.1)).trans hHeld.2.1, hHeld.2.2.trans (hbg.mono hHeld.2.2.size)⟩ (fun hHeld => ?_)
      clear hK K
      try simp only [Act.put, List.setIfInBounds_toArray, List.set_cons_zero, List.set_cons_succ]
      refine wpAnyH_ready (rs := [33]) (by kernel_rfl) (by simp) ?_
      refine AllReadyH.cons (o := { dst := some 45, op := Op.call { callee := Callee.value (Operand.func 14), args := #[Operand.tmp 43, Operand.const (Value.int IntKind.i64 1), Operand.const (Value.int IntKind.i64 0), Operand.tmp 44, Operand.const (Value.slice none 0 0)], argTypes := #[30, 3, 3, 30, 26] }, type := 32, pos := "top07.go:16", after := #[{ on := 31, ground := Ground.data }, { on := 32, ground := Ground.data }, { on := 32, ground := Ground.chain }, { on := 28, ground := Ground.guard }], guard := some (28, true) }) rfl (fun K hK => ?_) AllReadyH.nil
      go_simp
      refine (I2.out _ hHeld.2.2).mono ?_
      rintro e wh ⟨rfl, hbh⟩
      go_wp2_with fail
      refine hK.out _ _ ⟨(hbh.block _ (heap_lt hHeld.1)).trans hHeld.1, (hbh.block _ (heap_lt hHeld.2.1)).trans hHeld.2.1, hHeld.2.2.trans (hbh.mono hHeld.2.2.size)⟩ (fun hHeld => ?_)
      clear hK K
      try simp only [Act.put, List.setIfInBounds_toArray, List.set_cons_zero, List.set_cons_succ]
      refine wpAnyH_take (i := 34) (oi := { dst := some 46, op := Op.binOp BinOp.eql 32 (Operand.tmp 45) (Operand.const (Value.int IntKind.i64 41)) 32, type := 4, pos := "top07.go:16", after := #[{ on := 33, ground := Ground.data }, { on := 28, ground := Ground.guard }], guard := some (28, true) }) (v := .bool true) rfl (by kernel_rfl) (by kernel_rfl) (by kernel_rfl) (fun _ _ _ h => h) (Or.inl ⟨by rfl, by intro w hSw; go_simp⟩) hHeld ?_
      try simp only [Act.put, List.setIfInBounds_toArray, List.set_cons_zero, List.set_cons_succ]
      refine wpAnyH_take (i := 35) (oi := { dst := some 47, op := Op.pick (Operand.tmp 40) (Operand.tmp 46) (Operand.const (Value.bool false)), type := 4, pos := "top07.go:16", after := #[{ on := 28, ground := Ground.data }, { on := 34, ground := Ground.data }], guard := none }) (v := .bool true) rfl (by kernel_rfl) (by kernel_rfl) (by kernel_rfl) (fun _ _ _ h => h) (Or.inl ⟨by rfl, by intro w hSw; go_simp⟩) hHeld ?_
      try simp only [Act.put, List.setIfInBounds_toArray, List.set_cons_zero, List.set_cons_succ]
      refine wpAnyH_take (i := 36) (oi := { dst := some 0, op := Op.assign (Operand.tmp 47), type := 4, pos := "top07.go:16", after := #[{ on := 35, ground := Ground.data }, { on := 33, ground := Ground.chain }, { on := 0, ground := Ground.phase }, { on := 1, ground := Ground.phase }, { on := 2, ground := Ground.phase }, { on := 3, ground := Ground.phase }, { on := 4, ground := Ground.phase }, { on := 5, ground := Ground.phase }, { on := 6, ground := Ground.phase }, { on := 7, ground := Ground.phase }, { on := 8, ground := Ground.phase }, { on := 9, ground := Ground.phase }, { on := 10, ground := Ground.phase }, { on := 11, ground := Ground.phase }, { on := 12, ground := Ground.phase }, { on := 13, ground := Ground.phase }, { on := 14, ground := Ground.phase }, { on := 15, ground := Ground.phase }, { on := 16, ground := Ground.phase }, { on := 17, ground := Ground.phase }, { on := 18, ground := Ground.phase }, { on := 19, ground := Ground.phase }, { on := 20, ground := Ground.phase }, { on := 21, ground := Ground.phase }, { on := 22, ground := Ground.phase }, { on := 23, ground := Ground.phase }, { on := 24, ground := Ground.phase }, { on := 25, ground := Ground.phase }, { on := 26, ground := Ground.phase }, { on := 27, ground := Ground.phase }, { on := 28, ground := Ground.phase }, { on := 29, ground := Ground.phase }, { on := 30, ground := Ground.phase }, { on := 31, ground := Ground.phase }, { on := 32, ground := Ground.phase }, { on := 33, ground := Ground.phase }, { on := 34, ground := Ground.phase }, { on := 35, ground := Ground.phase }], guard := none }) (v := .bool true) rfl (by kernel_rfl) (by kernel_rfl) (by kernel_rfl) (fun _ _ _ h => h) (Or.inl ⟨by rfl, by intro w hSw; go_simp⟩) hHeld ?_
      try simp only [Act.put, List.setIfInBounds_toArray, List.set_cons_zero, List.set_cons_succ]
      refine wpAnyH_done (by kernel_rfl) ?_ _
      have HBF := hidk hHeld.2.2
      clear hHeld
      go_wp2_with fail
      go_ret
      exact ⟨rfl, HBF.out⟩
  · refine step_new_var (by rfl) 40 rfl Z HA.out ?_
    intro g2 wn HM2
    have HG2 := hidk HM2.out.row
    have hg2 : w.heap.size ≤ g2 := (by rw [HM2.out.new]; exact hHeld.2.size)
    have hg12 : g1 ≠ g2 := (by have h1 := heap_lt hHeld.1; have h2 := HM2.out.new; omega)
    refine hK.out _ _ ⟨(HM2.out.below.block _ (heap_lt hHeld.1)).trans hHeld.1, hHeld.2.trans (HM2.out.below.mono hHeld.2.size)⟩ (fun hHeld => ?_)
    clear hK K
    try simp only [Act.put, List.setIfInBounds_toArray, List.set_cons_zero, List.set_cons_succ]
    refine wpAnyH_ready (rs := [0]) (by kernel_rfl) (by simp) ?_
    refine (AllReadyH.cons (o := { dst := some 6, op := Op.call { callee := Callee.value (Operand.func 16), args := #[], argTypes := #[] }, type := 24, pos := "top07.go:15", after := #[], guard := none }) rfl (fun K hK => ?_) AllReadyH.nil)
    go_simp
    refine (MS.out _).mono ?_
    rintro e wc0 ⟨rfl, hb0⟩
    try replace HG2 := hidk ((hb0.block _ (heap_lt HG2.out)).trans HG2.out)
    go_wp2_with fail
    refine hK.out _ _ ⟨(hb0.block _ (heap_lt hHeld.1)).trans hHeld.1, hHeld.2.trans (hb0.mono hHeld.2.size)⟩ (fun hHeld => ?_)
    clear hK K
    try simp only [Act.put, List.setIfInBounds_toArray, List.set_cons_zero, List.set_cons_succ]
    refine wpAnyH_ready (rs := [3]) (by kernel_rfl) (by simp) ?_
    refine (AllReadyH.cons (o := { dst := some 9, op := Op.call { callee := Callee.value (Operand.func 8), args := #[Operand.tmp 6, Operand.tmp 8, Operand.const (Value.int IntKind.i64 2)], argTypes := #[24, 38, 3] }, type := 41, pos := "top07.go:15", after := #[{ on := 0, ground := Ground.data }, { on := 2, ground := Ground.data }, { on := 0, ground := Ground.chain }], guard := none }) rfl (fun K hK => ?_) AllReadyH.nil)
    go_simp
    refine (SG.out _ hHeld.2).mono ?_
    rintro e wc3 ⟨rfl, hb3⟩
    try replace HG2 := hidk ((hb3.block _ (heap_lt HG2.out)).trans HG2.out)
    go_wp2_with fail
    refine hK.out _ _ ⟨(hb3.block _ (heap_lt hHeld.1)).trans hHeld.1, hHeld.2.trans (hb3.mono hHeld.2.size)⟩ (fun hHeld => ?_)
    clear hK K
    try simp only [Act.put, List.setIfInBounds_toArray, List.set_cons_zero, List.set_cons_succ]
    refine wpAnyH_take (i := 4) (oi := { dst := some 5, op := Op.move (Operand.tmp 9), type := 41, pos := "top07.go:15", after := #[{ on := 3, ground := Ground.data }], guard := none }) (v := .tuple #[.agg R, .int .i64 0]) rfl (by kernel_rfl) (by kernel_rfl) (by kernel_rfl) (fun _ _ _ h => h) (Or.inl ⟨by rfl, by intro W hSw; go_simp⟩) hHeld ?_
    try simp only [Act.put, List.setIfInBounds_toArray, List.set_cons_zero, List.set_cons_succ]
    refine wpAnyH_take (i := 5) (oi := { dst := some 10, op := Op.extract (Operand.tmp 5) 0, type := 40, pos := "top07.go:15", after := #[{ on := 4, ground := Ground.data }], guard := none }) (v := .agg R) rfl (by kernel_rfl) (by kernel_rfl) (by kernel_rfl) (fun _ _ _ h => h) (Or.inl ⟨by rfl, by intro W hSw; go_simp⟩) hHeld ?_
    try simp only [Act.put, List.setIfInBounds_toArray, List.set_cons_zero, List.set_cons_succ]
    refine wpAnyH_take (i := 6) (oi := { dst := some 11, op := Op.extract (Operand.tmp 5) 1, type := 32, pos := "top07.go:15", after := #[{ on := 4, ground := Ground.data }, { on := 8, ground := Ground.gcOnly Departure.lateStores }], guard := none }) (v := .int .i64 0) rfl (by kernel_rfl) (by kernel_rfl) (by kernel_rfl) (fun _ _ _ h => h) (Or.inl ⟨by rfl, by intro W hSw; go_simp⟩) hHeld ?_
    try simp only [Act.put, List.setIfInBounds_toArray, List.set_cons_zero, List.set_cons_succ]
    refine wpAnyH_ready (rs := [8]) (by kernel_rfl) (by simp) ?_
    refine (AllReadyH.cons (o := { dst := none, op := Op.store 40 (Operand.tmp 2) (Operand.tmp 10), type := 0, pos := "top07.go:15", after := #[{ on := 7, ground := Ground.data }, { on := 5, ground := Ground.data }, { on := 3, ground := Ground.chain }, { on := 0, ground := Ground.phase }, { on := 1, ground := Ground.phase }, { on := 2, ground := Ground.phase }, { on := 3, ground := Ground.phase }, { on := 4, ground := Ground.phase }, { on := 5, ground := Ground.phase }, { on := 6, ground := Ground.textOnly Departure.lateStores }, { on := 7, ground := Ground.phase }], guard := none }) rfl (fun K hK => ?_) AllReadyH.nil)
    refine step_set_var (by rfl) 40 (.tmp 2) (.tmp 10) rfl g2 R rfl rfl 40 Z HG2.out HSR.out HZR.out H1R.out ?_
    intro wz HW2
    refine hK.out _ _ ⟨(HW2.out.other g1 hg12).trans hHeld.1, HW2.out.below _ _ hHeld.2 hg2⟩ (fun hHeld => ?_)
    clear hK K
    try simp only [Act.put, List.setIfInBounds_toArray, List.set_cons_zero, List.set_cons_succ]
    refine wpAnyH_take (i := 9) (oi := { dst := some 3, op := Op.assign (Operand.tmp 11), type := 32, pos := "top07.go:15", after := #[{ on := 6, ground := Ground.data }, { on := 8, ground := Ground.chain }, { on := 0, ground := Ground.phase }, { on := 1, ground := Ground.phase }, { on := 2, ground := Ground.phase }, { on := 3, ground := Ground.phase }, { on := 4, ground := Ground.phase }, { on := 5, ground := Ground.phase }, { on := 6, ground := Ground.phase }, { on := 7, ground := Ground.phase }, { on := 8, ground := Ground.phase }], guard := none }) (v := .int .i64 0) rfl (by kernel_rfl) (by kernel_rfl) (by kernel_rfl) (fun _ _ _ h => h) (Or.inl ⟨by rfl, by intro W hSw; go_simp⟩) hHeld ?_
    try simp only [Act.put, List.setIfInBounds_toArray, List.set_cons_zero, List.set_cons_succ]
    refine wpAnyH_done (by kernel_rfl) ?_ _
    have HB3 : Hid (wz.heap[g1]? = some (.cells D 30 (0, 0)) ∧ wz.heap[g2]? = some (.cells R 40 (0, 0)) ∧ Below w.heap.size w wz) := ⟨hHeld.1, HW2.out.row, hHeld.2⟩
    clear hHeld HW2 HB2 HBH SG
    go_wp2_with fail
    refine wp_region_held_drew (S := (fun W => W.heap[g1]? = some (.cells D 30 (0, 0)) ∧ W.heap[g2]? = some (.cells R 40 (0, 0)) ∧ Below w.heap.size w W)) (by kernel_rfl) ⟨HB3.out.1, HB3.out.2.1, HB3.out.2.2.drew⟩ (fun hHeld => ?_)
    refine wpAnyH_take (i := 0) (oi := { dst := some 12, op := Op.move (Operand.tmp 3), type := 32, pos := "top07.go:16", after := #[], guard := none }) (v := .int .i64 0) rfl (by kernel_rfl) (by kernel_rfl) (by kernel_rfl) (fun _ _ _ h => h) (Or.inl ⟨by rfl, by intro w hSw; go_simp⟩) hHeld ?_
    try simp only [Act.put, List.setIfInBounds_toArray, List.set_cons_zero, List.set_cons_succ]
    refine wpAnyH_take (i := 1) (oi := { dst := some 13, op := Op.binOp BinOp.eql 32 (Operand.tmp 12) (Operand.const (Value.int IntKind.i64 0)) 32, type := 4, pos := "top07.go:16", after := #[{ on := 0, ground := Ground.data }], guard := none }) (v := .bool true) rfl (by kernel_rfl) (by kernel_rfl) (by kernel_rfl) (fun _ _ _ h => h) (Or.inl ⟨by rfl, by intro w hSw; go_simp⟩) hHeld ?_
    try simp only [Act.put, List.setIfInBounds_toArray, List.set_cons_zero, List.set_cons_succ]
    refine wpAnyH_take (i := 2) (oi := { dst := some 14, op := Op.move (Operand.tmp 13), type := 4, pos := "top07.go:16", after := #[{ on := 1, ground := Ground.data }], guard := none }) (v := .bool true) rfl (by kernel_rfl) (by kernel_rfl) (by kernel_rfl) (fun _ _ _ h => h) (Or.inl ⟨by rfl, by intro w hSw; go_simp⟩) hHeld ?_
    try simp only [Act.put, List.setIfInBounds_toArray, List.set_cons_zero, List.set_cons_succ]
    refine wpAnyH_take (i := 3) (oi := { dst := some 15, op := Op.fieldAddr 40 (Operand.tmp 2) 1, type := 0, pos := "top07.go:16", after := #[{ on := 2, ground := Ground.guard }], guard := some (2, true) }) (v := .pointer (some ⟨g2, 36, none⟩)) rfl (by kernel_rfl) (by kernel_rfl) (by kernel_rfl) (fun _ _ _ h => h) (Or.inl ⟨by rfl, by intro w hSw; go_simp⟩) hHeld ?_
    try simp only [Act.put, List.setIfInBounds_toArray, List.set_cons_zero, List.set_cons_succ]
    refine wpAnyH_take (i := 4) (oi := { dst := some 16, op := Op.load 3 (Operand.tmp 15), type := 3, pos := "top07.go:16", after := #[{ on := 3, ground := Ground.data }, { on := 2, ground := Ground.guard }], guard := some (2, true) }) (v := .int .i64 2) rfl (by kernel_rfl) (by kernel_rfl) (by kernel_rfl) (fun _ _ _ h => h) (Or.inl ⟨by rfl, by intro W hSw; have := (HG.out W g2 hSw.2.1).1; go_simp⟩) hHeld ?_
    try simp only [Act.put, List.setIfInBounds_toArray, List.set_cons_zero, List.set_cons_succ]
    refine wpAnyH_take (i := 5) (oi := { dst := some 17, op := Op.binOp BinOp.eql 3 (Operand.tmp 16) (Operand.const (Value.int IntKind.i64 2)) 3, type := 4, pos := "top07.go:16", after := #[{ on := 4, ground := Ground.data }, { on := 2, ground := Ground.guard }], guard := some (2, true) }) (v := .bool true) rfl (by kernel_rfl) (by kernel_rfl) (by kernel_rfl) (fun _ _ _ h => h) (Or.inl ⟨by rfl, by intro w hSw; go_simp⟩) hHeld ?_
    try simp only [Act.put, List.setIfInBounds_toArray, List.set_cons_zero, List.set_cons_succ]
    refine wpAnyH_take (i := 6) (oi := { dst := some 18, op := Op.pick (Operand.tmp 14) (Operand.tmp 17) (Operand.const (Value.bool false)), type := 4, pos := "top07.go:16", after := #[{ on := 2, ground := Ground.data }, { on := 5, ground := Ground.data }], guard := none }) (v := .bool true) rfl (by kernel_rfl) (by kernel_rfl) (by kernel_rfl) (fun _ _ _ h => h) (Or.inl ⟨by rfl, by intro w hSw; go_simp⟩) hHeld ?_
    try simp only [Act.put, List.setIfInBounds_toArray, List.set_cons_zero, List.set_cons_succ]
    refine wpAnyH_take (i := 7) (oi := { dst := some 19, op := Op.move (Operand.tmp 18), type := 4, pos := "top07.go:16", after := #[{ on := 6, ground := Ground.data }, { on := 2, ground := Ground.chain }], guard := none }) (v := .bool true) rfl (by kernel_rfl) (by kernel_rfl) (by kernel_rfl) (fun _ _ _ h => h) (Or.inl ⟨by rfl, by intro w hSw; go_simp⟩) hHeld ?_
    try simp only [Act.put, List.setIfInBounds_toArray, List.set_cons_zero, List.set_cons_succ]
    refine wpAnyH_take (i := 8) (oi := { dst := some 20, op := Op.fieldAddr 40 (Operand.tmp 2) 0, type := 0, pos := "top07.go:16", after := #[{ on := 7, ground := Ground.guard }], guard := some (7, true) }) (v := .pointer (some ⟨g2, 0, none⟩)) rfl (by kernel_rfl) (by kernel_rfl) (by kernel_rfl) (fun _ _ _ h => h) (Or.inl ⟨by rfl, by intro w hSw; go_simp⟩) hHeld ?_
    try simp only [Act.put, List.setIfInBounds_toArray, List.set_cons_zero, List.set_cons_succ]
    refine wpAnyH_take (i := 9) (oi := { dst := some 21, op := Op.fieldAddr 38 (Operand.tmp 20) 3, type := 0, pos := "top07.go:16", after := #[{ on := 8, ground := Ground.data }, { on := 7, ground := Ground.guard }], guard := some (7, true) }) (v := .pointer (some ⟨g2, 3, none⟩)) rfl (by kernel_rfl) (by kernel_rfl) (by kernel_rfl) (fun _ _ _ h => h) (Or.inl ⟨by rfl, by intro w hSw; go_simp⟩) hHeld ?_
    try simp only [Act.put, List.setIfInBounds_toArray, List.set_cons_zero, List.set_cons_succ]
    refine wpAnyH_take (i := 10) (oi := { dst := some 22, op := Op.load 30 (Operand.tmp 21), type := 30, pos := "top07.go:16", after := #[{ on := 9, ground := Ground.data }, { on := 7, ground := Ground.guard }], guard := some (7, true) }) (v := .agg D) rfl (by kernel_rfl) (by kernel_rfl) (by kernel_rfl) (fun _ _ _ h => h) (yieldsIf_mid (by rfl) 30 (.tmp 21) rfl g2 3 rfl D _ (fun W h => (HG.out W g2 h.2.1).2) Tryd.underlying30 rfl HSD.out) hHeld ?_
    try simp only [Act.put, List.setIfInBounds_toArray, List.set_cons_zero, List.set_cons_succ]
    refine wpAnyH_take (i := 11) (oi := { dst := some 23, op := Op.load 30 (Operand.tmp 1), type := 30, pos := "top07.go:16", after := #[{ on := 7, ground := Ground.guard }], guard := some (7, true) }) (v := .agg D) rfl (by kernel_rfl) (by kernel_rfl) (by kernel_rfl) (fun _ _ _ h => h) (yieldsIf_row (by rfl) 30 (.tmp 1) rfl g1 rfl 30 D (0, 0) _ (fun _ h => h.1) Tryd.underlying30 rfl HSD.out) hHeld ?_
    try simp only [Act.put, List.setIfInBounds_toArray, List.set_cons_zero, List.set_cons_succ]
    refine wpAnyH_take (i := 12) (oi := { dst := some 24, op := Op.binOp BinOp.eql 30 (Operand.tmp 22) (Operand.tmp 23) 30, type := 4, pos := "top07.go:16", after := #[{ on := 10, ground := Ground.data }, { on := 11, ground := Ground.data }, { on := 7, ground := Ground.guard }], guard := some (7, true) }) (v := .bool true) rfl (by kernel_rfl) (by kernel_rfl) (by kernel_rfl) (fun _ _ _ h => h) (Or.inl ⟨by rfl, by intro W hSw; have := EQ W; go_simp⟩) hHeld ?_
    try simp only [Act.put, List.setIfInBounds_toArray, List.set_cons_zero, List.set_cons_succ]
    refine wpAnyH_take (i := 13) (oi := { dst := some 25, op := Op.pick (Operand.tmp 19) (Operand.tmp 24) (Operand.const (Value.bool false)), type := 4, pos := "top07.go:16", after := #[{ on := 7, ground := Ground.data }, { on := 12, ground := Ground.data }], guard := none }) (v := .bool true) rfl (by kernel_rfl) (by kernel_rfl) (by kernel_rfl) (fun _ _ _ h => h) (Or.inl ⟨by rfl, by intro w hSw; go_simp⟩) hHeld ?_
    try simp only [Act.put, List.setIfInBounds_toArray, List.set_cons_zero, List.set_cons_succ]
    refine wpAnyH_take (i := 14) (oi := { dst := some 26, op := Op.move (Operand.tmp 25), type := 4, pos := "top07.go:16", after := #[{ on := 13, ground := Ground.data }, { on := 7, ground := Ground.chain }], guard := none }) (v := .bool true) rfl (by kernel_rfl) (by kernel_rfl) (by kernel_rfl) (fun _ _ _ h => h) (Or.inl ⟨by rfl, by intro w hSw; go_simp⟩) hHeld ?_
    try simp only [Act.put, List.setIfInBounds_toArray, List.set_cons_zero, List.set_cons_succ]
    refine wpAnyH_take (i := 16) (oi := { dst := some 28, op := Op.load 40 (Operand.tmp 2), type := 40, pos := "top07.go:16", after := #[{ on := 14, ground := Ground.guard }], guard := some (14, true) }) (v := .agg R) rfl (by kernel_rfl) (by kernel_rfl) (by kernel_rfl) (fun _ _ _ h => h) (yieldsIf_row (by rfl) 40 (.tmp 2) rfl g2 rfl 40 R (0, 0) _ (fun _ h => h.2.1) Tryd.underlying40 rfl HSR.out) hHeld ?_
    try simp only [Act.put, List.setIfInBounds_toArray, List.set_cons_zero, List.set_cons_succ]
    refine wpAnyH_ready (rs := [15]) (by kernel_rfl) (by simp) ?_
    refine AllReadyH.cons (o := { dst := some 27, op := Op.call { callee := Callee.value (Operand.func 16), args := #[], argTypes := #[] }, type := 24, pos := "top07.go:16", after := #[{ on := 14, ground := Ground.chain }, { on := 14, ground := Ground.guard }], guard := some (14, true) }) rfl (fun K hK => ?_) AllReadyH.nil
    go_simp
    refine (MS.out _).mono ?_
    rintro e wd ⟨rfl, hbd⟩
    go_wp2_with fail
    refine hK.out _ _ ⟨(hbd.block _ (heap_lt hHeld.1)).trans hHeld.1, (hbd.block _ (heap_lt hHeld.2.1)).trans hHeld.2.1, hHeld.2.2.trans (hbd.mono hHeld.2.2.size)⟩ (fun hHeld => ?_)
    clear hK K
    try simp only [Act.put, List.setIfInBounds_toArray, List.set_cons_zero, List.set_cons_succ]
    refine wpAnyH_ready (rs := [17]) (by kernel_rfl) (by simp) ?_
    refine AllReadyH.cons (o := { dst := some 29, op := Op.call { callee := Callee.value (Operand.func 11), args := #[Operand.tmp 27, Operand.tmp 28], argTypes := #[24, 40] }, type := 32, pos := "top07.go:16", after := #[{ on := 15, ground := Ground.data }, { on := 16, ground := Ground.data }, { on := 15, ground := Ground.chain }, { on := 14, ground := Ground.guard }], guard := some (14, true) }) rfl (fun K hK => ?_) AllReadyH.nil
    go_simp
    refine (VF.out _ hHeld.2.2).mono ?_
    rintro e we ⟨rfl, hbe⟩
    go_wp2_with fail
    refine hK.out _ _ ⟨(hbe.block _ (heap_lt hHeld.1)).trans hHeld.1, (hbe.block _ (heap_lt hHeld.2.1)).trans hHeld.2.1, hHeld.2.2.trans (hbe.mono hHeld.2.2.size)⟩ (fun hHeld => ?_)
    clear hK K
    try simp only [Act.put, List.setIfInBounds_toArray, List.set_cons_zero, List.set_cons_succ]
    refine wpAnyH_take (i := 18) (oi := { dst := some 30, op := Op.binOp BinOp.eql 32 (Operand.tmp 29) (Operand.const (Value.int IntKind.i64 0)) 32, type := 4, pos := "top07.go:16", after := #[{ on := 17, ground := Ground.data }, { on := 14, ground := Ground.guard }], guard := some (14, true) }) (v := .bool true) rfl (by kernel_rfl) (by kernel_rfl) (by kernel_rfl) (fun _ _ _ h => h) (Or.inl ⟨by rfl, by intro w hSw; go_simp⟩) hHeld ?_
    try simp only [Act.put, List.setIfInBounds_toArray, List.set_cons_zero, List.set_cons_succ]
    refine wpAnyH_take (i := 19) (oi := { dst := some 31, op := Op.pick (Operand.tmp 26) (Operand.tmp 30) (Operand.const (Value.bool false)), type := 4, pos := "top07.go:16", after := #[{ on := 14, ground := Ground.data }, { on := 18, ground := Ground.data }], guard := none }) (v := .bool true) rfl (by kernel_rfl) (by kernel_rfl) (by kernel_rfl) (fun _ _ _ h => h) (Or.inl ⟨by rfl, by intro w hSw; go_simp⟩) hHeld ?_
    try simp only [Act.put, List.setIfInBounds_toArray, List.set_cons_zero, List.set_cons_succ]
    refine wpAnyH_take (i := 20) (oi := { dst := some 32, op := Op.move (Operand.tmp 31), type := 4, pos := "top07.go:16", after := #[{ on := 19, ground := Ground.data }, { on := 17, ground := Ground.chain }], guard := none }) (v := .bool true) rfl (by kernel_rfl) (by kernel_rfl) (by kernel_rfl) (fun _ _ _ h => h) (Or.inl ⟨by rfl, by intro w hSw; go_simp⟩) hHeld ?_
    try simp only [Act.put, List.setIfInBounds_toArray, List.set_cons_zero, List.set_cons_succ]
    refine wpAnyH_take (i := 21) (oi := { dst := some 33, op := Op.fieldAddr 40 (Operand.tmp 2) 0, type := 0, pos := "top07.go:16", after := #[{ on := 20, ground := Ground.guard }], guard := some (20, true) }) (v := .pointer (some ⟨g2, 0, none⟩)) rfl (by kernel_rfl) (by kernel_rfl) (by kernel_rfl) (fun _ _ _ h => h) (Or.inl ⟨by rfl, by intro w hSw; go_simp⟩) hHeld ?_
    try simp only [Act.put, List.setIfInBounds_toArray, List.set_cons_zero, List.set_cons_succ]
    refine wpAnyH_take (i := 22) (oi := { dst := some 34, op := Op.fieldAddr 38 (Operand.tmp 33) 3, type := 0, pos := "top07.go:16", after := #[{ on := 21, ground := Ground.data }, { on := 20, ground := Ground.guard }], guard := some (20, true) }) (v := .pointer (some ⟨g2, 3, none⟩)) rfl (by kernel_rfl) (by kernel_rfl) (by kernel_rfl) (fun _ _ _ h => h) (Or.inl ⟨by rfl, by intro w hSw; go_simp⟩) hHeld ?_
    try simp only [Act.put, List.setIfInBounds_toArray, List.set_cons_zero, List.set_cons_succ]
    refine wpAnyH_take (i := 23) (oi := { dst := some 35, op := Op.load 30 (Operand.tmp 34), type := 30, pos := "top07.go:16", after := #[{ on := 22, ground := Ground.data }, { on := 20, ground := Ground.guard }], guard := some (20, true) }) (v := .agg D) rfl (by kernel_rfl) (by kernel_rfl) (by kernel_rfl) (fun _ _ _ h => h) (yieldsIf_mid (by rfl) 30 (.tmp 34) rfl g2 3 rfl D _ (fun W h => (HG.out W g2 h.2.1).2) Tryd.underlying30 rfl HSD.out) hHeld ?_
    try simp only [Act.put, List.setIfInBounds_toArray, List.set_cons_zero, List.set_cons_succ]
    refine wpAnyH_take (i := 24) (oi := { dst := some 36, op := Op.load 30 (Operand.tmp 1), type := 30, pos := "top07.go:16", after := #[{ on := 20, ground := Ground.guard }], guard := some (20, true) }) (v := .agg D) rfl (by kernel_rfl) (by kernel_rfl) (by kernel_rfl) (fun _ _ _ h => h) (yieldsIf_row (by rfl) 30 (.tmp 1) rfl g1 rfl 30 D (0, 0) _ (fun _ h => h.1) Tryd.underlying30 rfl HSD.out) hHeld ?_
    try simp only [Act.put, List.setIfInBounds_toArray, List.set_cons_zero, List.set_cons_succ]
    refine wpAnyH_ready (rs := [25]) (by kernel_rfl) (by simp) ?_
    refine AllReadyH.cons (o := { dst := some 37, op := Op.call { callee := Callee.value (Operand.func 14), args := #[Operand.tmp 35, Operand.const (Value.int IntKind.i64 1), Operand.const (Value.int IntKind.i64 0), Operand.tmp 36, Operand.const (Value.slice none 0 0)], argTypes := #[30, 3, 3, 30, 26] }, type := 32, pos := "top07.go:16", after := #[{ on := 23, ground := Ground.data }, { on := 24, ground := Ground.data }, { on := 20, ground := Ground.chain }, { on := 20, ground := Ground.guard }], guard := some (20, true) }) rfl (fun K hK => ?_) AllReadyH.nil
    go_simp
    refine (I1.out _ hHeld.2.2).mono ?_
    rintro e wf ⟨rfl, hbf⟩
    go_wp2_with fail
    refine hK.out _ _ ⟨(hbf.block _ (heap_lt hHeld.1)).trans hHeld.1, (hbf.block _ (heap_lt hHeld.2.1)).trans hHeld.2.1, hHeld.2.2.trans (hbf.mono hHeld.2.2.size)⟩ (fun hHeld => ?_)
    clear hK K
    try simp only [Act.put, List.setIfInBounds_toArray, List.set_cons_zero, List.set_cons_succ]
    refine wpAnyH_take (i := 26) (oi := { dst := some 38, op := Op.binOp BinOp.eql 32 (Operand.tmp 37) (Operand.const (Value.int IntKind.i64 0)) 32, type := 4, pos := "top07.go:16", after := #[{ on := 25, ground := Ground.data }, { on := 20, ground := Ground.guard }], guard := some (20, true) }) (v := .bool true) rfl (by kernel_rfl) (by kernel_rfl) (by kernel_rfl) (fun _ _ _ h => h) (Or.inl ⟨by rfl, by intro w hSw; go_simp⟩) hHeld ?_
    try simp only [Act.put, List.setIfInBounds_toArray, List.set_cons_zero, List.set_cons_succ]
    refine wpAnyH_take (i := 27) (oi := { dst := some 39, op := Op.pick (Operand.tmp 32) (Operand.tmp 38) (Operand.const (Value.bool false)), type := 4, pos := "top07.go:16", after := #[{ on := 20, ground := Ground.data }, { on := 26, ground := Ground.data }], guard := none }) (v := .bool true) rfl (by kernel_rfl) (by kernel_rfl) (by kernel_rfl) (fun _ _ _ h => h) (Or.inl ⟨by rfl, by intro w hSw; go_simp⟩) hHeld ?_
    try simp only [Act.put, List.setIfInBounds_toArray, List.set_cons_zero, List.set_cons_succ]
    refine wpAnyH_take (i := 28) (oi := { dst := some 40, op := Op.move (Operand.tmp 39), type := 4, pos := "top07.go:16", after := #[{ on := 27, ground := Ground.data }, { on := 25, ground := Ground.chain }], guard := none }) (v := .bool true) rfl (by kernel_rfl) (by kernel_rfl) (by kernel_rfl) (fun _ _ _ h => h) (Or.inl ⟨by rfl, by intro w hSw; go_simp⟩) hHeld ?_
    try simp only [Act.put, List.setIfInBounds_toArray, List.set_cons_zero, List.set_cons_succ]
    refine wpAnyH_take (i := 29) (oi := { dst := some 41, op := Op.fieldAddr 40 (Operand.tmp 2) 0, type := 0, pos := "top07.go:16", after := #[{ on := 28, ground := Ground.guard }], guard := some (28, true) }) (v := .pointer (some ⟨g2, 0, none⟩)) rfl (by kernel_rfl) (by kernel_rfl) (by kernel_rfl) (fun _ _ _ h => h) (Or.inl ⟨by rfl, by intro w hSw; go_simp⟩) hHeld ?_
    try simp only [Act.put, List.setIfInBounds_toArray, List.set_cons_zero, List.set_cons_succ]
    refine wpAnyH_take (i := 30) (oi := { dst := some 42, op := Op.fieldAddr 38 (Operand.tmp 41) 3, type := 0, pos := "top07.go:16", after := #[{ on := 29, ground := Ground.data }, { on := 28, ground := Ground.guard }], guard := some (28, true) }) (v := .pointer (some ⟨g2, 3, none⟩)) rfl (by kernel_rfl) (by kernel_rfl) (by kernel_rfl) (fun _ _ _ h => h) (Or.inl ⟨by rfl, by intro w hSw; go_simp⟩) hHeld ?_
    try simp only [Act.put, List.setIfInBounds_toArray, List.set_cons_zero, List.set_cons_succ]
    refine wpAnyH_take (i := 31) (oi := { dst := some 43, op := Op.load 30 (Operand.tmp 42), type := 30, pos := "top07.go:16", after := #[{ on := 30, ground := Ground.data }, { on := 28, ground := Ground.guard }], guard := some (28, true) }) (v := .agg D) rfl (by kernel_rfl) (by kernel_rfl) (by kernel_rfl) (fun _ _ _ h => h) (yieldsIf_mid (by rfl) 30 (.tmp 42) rfl g2 3 rfl D _ (fun W h => (HG.out W g2 h.2.1).2) Tryd.underlying30 rfl HSD.out) hHeld ?_
    try simp only [Act.put, List.setIfInBounds_toArray, List.set_cons_zero, List.set_cons_succ]
    refine wpAnyH_ready (rs := [32]) (by kernel_rfl) (by simp) ?_
    refine AllReadyH.cons (o := { dst := some 44, op := Op.call { callee := Callee.value (Operand.func 17), args := #[], argTypes := #[] }, type := 30, pos := "top07.go:16", after := #[{ on := 28, ground := Ground.chain }, { on := 28, ground := Ground.guard }], guard := some (28, true) }) rfl (fun K hK => ?_) AllReadyH.nil
    go_simp
    refine (EM.out _ hHeld.2.2).mono ?_
    rintro e wg ⟨rfl, hbg⟩
    go_wp2_with fail
    refine hK.out _ _ ⟨(hbg.block _ (heap_lt hHeld.1)).trans hHeld.1, (hbg.block _ (heap_lt hHeld.2.1)).trans hHeld.2.1, hHeld.2.2.trans (hbg.mono hHeld.2.2.size)⟩ (fun hHeld => ?_)
    clear hK K
    try simp only [Act.put, List.setIfInBounds_toArray, List.set_cons_zero, List.set_cons_succ]
    refine wpAnyH_ready (rs := [33]) (by kernel_rfl) (by simp) ?_
    refine AllReadyH.cons (o := { dst := some 45, op := Op.call { callee := Callee.value (Operand.func 14), args := #[Operand.tmp 43, Operand.const (Value.int IntKind.i64 1), Operand.const (Value.int IntKind.i64 0), Operand.tmp 44, Operand.const (Value.slice none 0 0)], argTypes := #[30, 3, 3, 30, 26] }, type := 32, pos := "top07.go:16", after := #[{ on := 31, ground := Ground.data }, { on := 32, ground := Ground.data }, { on := 32, ground := Ground.chain }, { on := 28, ground := Ground.guard }], guard := some (28, true) }) rfl (fun K hK => ?_) AllReadyH.nil
    go_simp
    refine (I2.out _ hHeld.2.2).mono ?_
    rintro e wh ⟨rfl, hbh⟩
    go_wp2_with fail
    refine hK.out _ _ ⟨(hbh.block _ (heap_lt hHeld.1)).trans hHeld.1, (hbh.block _ (heap_lt hHeld.2.1)).trans hHeld.2.1, hHeld.2.2.trans (hbh.mono hHeld.2.2.size)⟩ (fun hHeld => ?_)
    clear hK K
    try simp only [Act.put, List.setIfInBounds_toArray, List.set_cons_zero, List.set_cons_succ]
    refine wpAnyH_take (i := 34) (oi := { dst := some 46, op := Op.binOp BinOp.eql 32 (Operand.tmp 45) (Operand.const (Value.int IntKind.i64 41)) 32, type := 4, pos := "top07.go:16", after := #[{ on := 33, ground := Ground.data }, { on := 28, ground := Ground.guard }], guard := some (28, true) }) (v := .bool true) rfl (by kernel_rfl) (by kernel_rfl) (by kernel_rfl) (fun _ _ _ h => h) (Or.inl ⟨by rfl, by intro w hSw; go_simp⟩) hHeld ?_
    try simp only [Act.put, List.setIfInBounds_toArray, List.set_cons_zero, List.set_cons_succ]
    refine wpAnyH_take (i := 35) (oi := { dst := some 47, op := Op.pick (Operand.tmp 40) (Operand.tmp 46) (Operand.const (Value.bool false)), type := 4, pos := "top07.go:16", after := #[{ on := 28, ground := Ground.data }, { on := 34, ground := Ground.data }], guard := none }) (v := .bool true) rfl (by kernel_rfl) (by kernel_rfl) (by kernel_rfl) (fun _ _ _ h => h) (Or.inl ⟨by rfl, by intro w hSw; go_simp⟩) hHeld ?_
    try simp only [Act.put, List.setIfInBounds_toArray, List.set_cons_zero, List.set_cons_succ]
    refine wpAnyH_take (i := 36) (oi := { dst := some 0, op := Op.assign (Operand.tmp 47), type := 4, pos := "top07.go:16", after := #[{ on := 35, ground := Ground.data }, { on := 33, ground := Ground.chain }, { on := 0, ground := Ground.phase }, { on := 1, ground := Ground.phase }, { on := 2, ground := Ground.phase }, { on := 3, ground := Ground.phase }, { on := 4, ground := Ground.phase }, { on := 5, ground := Ground.phase }, { on := 6, ground := Ground.phase }, { on := 7, ground := Ground.phase }, { on := 8, ground := Ground.phase }, { on := 9, ground := Ground.phase }, { on := 10, ground := Ground.phase }, { on := 11, ground := Ground.phase }, { on := 12, ground := Ground.phase }, { on := 13, ground := Ground.phase }, { on := 14, ground := Ground.phase }, { on := 15, ground := Ground.phase }, { on := 16, ground := Ground.phase }, { on := 17, ground := Ground.phase }, { on := 18, ground := Ground.phase }, { on := 19, ground := Ground.phase }, { on := 20, ground := Ground.phase }, { on := 21, ground := Ground.phase }, { on := 22, ground := Ground.phase }, { on := 23, ground := Ground.phase }, { on := 24, ground := Ground.phase }, { on := 25, ground := Ground.phase }, { on := 26, ground := Ground.phase }, { on := 27, ground := Ground.phase }, { on := 28, ground := Ground.phase }, { on := 29, ground := Ground.phase }, { on := 30, ground := Ground.phase }, { on := 31, ground := Ground.phase }, { on := 32, ground := Ground.phase }, { on := 33, ground := Ground.phase }, { on := 34, ground := Ground.phase }, { on := 35, ground := Ground.phase }], guard := none }) (v := .bool true) rfl (by kernel_rfl) (by kernel_rfl) (by kernel_rfl) (fun _ _ _ h => h) (Or.inl ⟨by rfl, by intro w hSw; go_simp⟩) hHeld ?_
    try simp only [Act.put, List.setIfInBounds_toArray, List.set_cons_zero, List.set_cons_succ]
    refine wpAnyH_done (by kernel_rfl) ?_ _
    have HBF := hidk hHeld.2.2
    clear hHeld
    go_wp2_with fail
    go_ret
    exact ⟨rfl, HBF.out⟩
end Go.Proofs.YtdnhnjimhbbababDoor

/- What the loop of TopSigned holds: the front, the leaves and the heads that have come. -/
namespace Go.Proofs.YtdnhnjimhbbababDoor
open Go.RowKit Sums P7
set_option linter.unusedVariables false
set_option linter.unusedSimpArgs false
set_option maxRecDepth 100000
theorem LReads.lt {W : World} {y : Option Addr} {m cy : Nat} {p : List (List UInt8)} (h : LReads W y m cy p) : ∀ g o, y = some ⟨g, o, none⟩ → 0 < m → g < W.heap.size := fun g o e h0 => by
  obtain ⟨h1, h2, h3, h4, h5⟩ := h
  rcases h5 with h5 | ⟨g', o', ha, hl⟩
  · omega
  · rw [e] at ha
    cases ha
    have hf := flat_length h2
    exact World.block_lt_of_cell? _ _ (hl 0 (by omega))
theorem own_wrote {B n sz g : Nat} {tE t : TypeId} {v : Value} {xs : List Value} {W W' : World} {D : Array Value} (h : W.ownsRow B tE sz v n xs) (hw : Wrote g D t W W') (hg : some g ≠ v.ownBlock) : W'.ownsRow B tE sz v n xs := by
  have hb := hw.below 0 W (Below.refl _ _) (Nat.zero_le _)
  exact h.kept (row := some g) ⟨hb.os, hb.tape, hb.output, hb.size, fun k _ hk => hw.other k (fun e => hk (by rw [e]))⟩ (.inr (Ne.symm hg))
structure TI (w : World) (M : Array Value) (k pm : Nat) (pk : List (List UInt8)) (y : Option Addr) (cy : Nat) (v10 v11 : Value) (l : List (List UInt8)) (hs : List HdT) (W : World) : Prop where
  below : Below w.heap.size w W
  key : W.heap[w.heap.size]? = some (.cells M 24 (0, 0))
  fr : W.heap[w.heap.size + 1]? = some (.cells #[.int .i64 (k : Int), .slice y pm cy] 28 (0, 0))
  peaks : LReads W y pm cy pk
  own10 : W.ownsRow (w.heap.size + 2) 30 32 v10 l.length (cellsOf l.flatten)
  own11 : W.ownsRow (w.heap.size + 2) 38 36 v11 hs.length (hdsC hs)
  ap9 : ∀ g o, y = some ⟨g, o, none⟩ → 0 < pm → g ≠ w.heap.size + 1
  ap10 : ∀ g o, y = some ⟨g, o, none⟩ → 0 < pm → some g ≠ v10.ownBlock
  ap11 : ∀ g o, y = some ⟨g, o, none⟩ → 0 < pm → some g ≠ v11.ownBlock
theorem TI.size {w W : World} {M : Array Value} {k pm cy : Nat} {pk l : List (List UInt8)} {y : Option Addr} {v10 v11 : Value} {hs : List HdT} (h : TI w M k pm pk y cy v10 v11 l hs W) : w.heap.size + 2 ≤ W.heap.size := by
  have := heap_lt h.fr
  omega
theorem TI.keep {w W W' : World} {M : Array Value} {k pm cy : Nat} {pk l : List (List UInt8)} {y : Option Addr} {v10 v11 : Value} {hs : List HdT} (h : TI w M k pm pk y cy v10 v11 l hs W) (hb : Below W.heap.size W W') : TI w M k pm pk y cy v10 v11 l hs W' :=
  ⟨h.below.trans (hb.mono h.below.size), (hb.block _ (heap_lt h.key)).trans h.key, (hb.block _ (heap_lt h.fr)).trans h.fr, h.peaks.keep hb, own_below h.own10 hb, own_below h.own11 hb, h.ap9, h.ap10, h.ap11⟩
theorem TI.app10 {w W : World} {M : Array Value} {k pm cy : Nat} {pk l : List (List UInt8)} {y : Option Addr} {v10 v11 : Value} {hs : List HdT} (h : TI w M k pm pk y cy v10 v11 l hs W) (hlen : l.length + 1 ≤ 1000000) (d : List UInt8) (hd : d.length = 32) (D : Array Value) (HD : Hid (D = (cellsOf d).toArray)) :
    ∃ v' w', (Builtin.append_ #[26, 26] 26 #[v10, .slice (some ⟨W.heap.size, 0, none⟩) 1 1]).run Tryd.prog (W.alloc (.cells D 30)) = .ok v' w' ∧ TI w M k pm pk y cy v' v11 (l ++ [d]) hs w' ∧ (∀ b, b < W.heap.size → some b ≠ v10.ownBlock → w'.heap[b]? = W.heap[b]?) := by
  have hb0 : Below W.heap.size W (W.alloc (.cells D 30)) := (Below.refl _ _).alloc (Nat.le_refl _) _
  have h' := h.keep hb0
  have hsz : (W.alloc (.cells D 30)).heap.size = W.heap.size + 1 := by simp
  obtain ⟨v', w', hr, ho, hg, hm⟩ := append_dig (W.alloc (.cells D 30)) (w.heap.size + 2) v10 l d hd h'.own10 ⟨W.heap.size, 0, none⟩ (by
    intro j u hj
    rw [add_plain, Nat.zero_add, cell_of_row _ _ j _ 30 (0, 0) (heap_alloc_new W _), HD.out]
    simpa using hj) h'.size hlen
  refine ⟨v', w', hr, ⟨?_, ?_, ?_, ?_, ho, ?_, h.ap9, ?_, h.ap11⟩, ?_⟩
  · exact h'.below.grown hg h'.below.size (fun q e => by have := (h'.own10.lt q e).1; omega)
  · exact (hg.block _ (heap_lt h'.key) (own_typed h'.own10 h'.key (by decide))).trans h'.key
  · exact (hg.block _ (heap_lt h'.fr) (own_typed h'.own10 h'.fr (by decide))).trans h'.fr
  · exact h'.peaks.grown hg h'.ap10
  · exact h'.own11.kept hg (own_two h'.own11 h'.own10 (by decide))
  · intro g o e h0
    rcases hm with q | ⟨q, e', hq⟩
    · rw [q]; exact h.ap10 g o e h0
    · rw [e']
      have := h.peaks.lt g o e h0
      intro e2
      cases e2
      omega
  · intro b hb hne
    exact (hg.block b (by omega) hne).trans (hb0.block b hb)
theorem TI.app11 {w W : World} {M : Array Value} {k pm cy : Nat} {pk l : List (List UInt8)} {y : Option Addr} {v10 v11 : Value} {hs : List HdT} (h : TI w M k pm pk y cy v10 v11 l hs W) (hlen : hs.length + 1 ≤ 1000000) (z : HdT) (hd : z.d.length = 32) (C : Array Value) (HC : Hid (C = (hcells z).toArray)) :
    ∃ v' w', (Builtin.append_ #[29, 29] 29 #[v11, .slice (some ⟨W.heap.size, 0, none⟩) 1 1]).run Tryd.prog (W.alloc (.cells C 38)) = .ok v' w' ∧ TI w M k pm pk y cy v10 v' l (hs ++ [z]) w' := by
  have hb0 : Below W.heap.size W (W.alloc (.cells C 38)) := (Below.refl _ _).alloc (Nat.le_refl _) _
  have h' := h.keep hb0
  have hsz : (W.alloc (.cells C 38)).heap.size = W.heap.size + 1 := by simp
  obtain ⟨v', w', hr, ho, hg, hm⟩ := append_head (W.alloc (.cells C 38)) (w.heap.size + 2) v11 hs z hd h'.own11 ⟨W.heap.size, 0, none⟩ (by
    intro j u hj
    rw [add_plain, Nat.zero_add, cell_of_row _ _ j _ 38 (0, 0) (heap_alloc_new W _), HC.out]
    simpa using hj) h'.size hlen
  refine ⟨v', w', hr, ⟨?_, ?_, ?_, ?_, ?_, ho, h.ap9, h.ap10, ?_⟩⟩
  · exact h'.below.grown hg h'.below.size (fun q e => by have := (h'.own11.lt q e).1; omega)
  · exact (hg.block _ (heap_lt h'.key) (own_typed h'.own11 h'.key (by decide))).trans h'.key
  · exact (hg.block _ (heap_lt h'.fr) (own_typed h'.own11 h'.fr (by decide))).trans h'.fr
  · exact h'.peaks.grown hg h'.ap11
  · exact h'.own10.kept hg (own_two h'.own10 h'.own11 (by decide))
  · intro g o e h0
    rcases hm with q | ⟨q, e', hq⟩
    · rw [q]; exact h.ap11 g o e h0
    · rw [e']
      have := h.peaks.lt g o e h0
      intro e2
      cases e2
      omega
theorem TI.setF {w W W' : World} {M : Array Value} {k pm cy : Nat} {pk l : List (List UInt8)} {y : Option Addr} {v10 v11 : Value} {hs : List HdT} (h : TI w M k pm pk y cy v10 v11 l hs W) {k2 pm2 cy2 : Nat} {pk2 : List (List UInt8)} {y2 : Option Addr}
    (hw : Wrote (w.heap.size + 1) #[.int .i64 (k2 : Int), .slice y2 pm2 cy2] 28 W W') (h2 : LReads W y2 pm2 cy2 pk2) (B' : Nat) (hB : B' ≤ W.heap.size) (hB0 : w.heap.size + 2 ≤ B') (h10 : ∀ q, v10.ownBlock = some q → q < B') (h11 : ∀ q, v11.ownBlock = some q → q < B') (hy : ∀ g o, y2 = some ⟨g, o, none⟩ → 0 < pm2 → B' ≤ g) :
    TI w M k2 pm2 pk2 y2 cy2 v10 v11 l hs W' := by
  have h9 : ∀ g o, y2 = some ⟨g, o, none⟩ → 0 < pm2 → g ≠ w.heap.size + 1 := fun g o e h0 => by have := hy g o e h0; omega
  refine ⟨hw.below _ _ h.below (by omega), (hw.other _ (by omega)).trans h.key, hw.row, ?_, ?_, ?_, h9, ?_, ?_⟩
  · exact h2.wroteG hw.other h9
  · exact own_wrote h.own10 hw (fun e => by have := (h.own10.lt _ e.symm).1; omega)
  · exact own_wrote h.own11 hw (fun e => by have := (h.own11.lt _ e.symm).1; omega)
  · intro g o e h0 e2
    have := hy g o e h0
    have := h10 g e2.symm
    omega
  · intro g o e h0 e2
    have := hy g o e h0
    have := h11 g e2.symm
    omega
end Go.Proofs.YtdnhnjimhbbababDoor
