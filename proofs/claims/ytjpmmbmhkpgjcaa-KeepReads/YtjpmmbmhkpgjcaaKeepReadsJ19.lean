/- Texts of our own that the row of KeepReads leans on, part 19. -/
import Derived.Test.YtjpmmbmhkpgjcaaKeepReadsJ3
import Derived.Test.YtjpmmbmhkpgjcaaKeepReadsJ9
import Derived.Test.YtjpmmbmhkpgjcaaKeepReadsJ17
import Derived.RangeFuncNested
import Derived.RangeFuncBound
import Derived.RangeFuncCalls
import Derived.RangeFuncLeaves
import Derived.RangeFuncBox
import Derived.Shelf.Abstract
import Derived.Shelf.RegionOpen
import Derived.WalkKit
import Derived.OwnWalkIn
import Derived.TacticsInMore
import Derived.LoopNIn
import Derived.LoopIn
import Derived.Deep.RegionHeld3

/- The iterator of pack.judged: each field of a row with what is wrong with it where it stands. -/
namespace Go.Proofs.Ytjpmmbmhkpgjcaa
open Go.RowKit Go.Shelf Nums
set_option maxRecDepth 100000

attribute [local go_sem] Oper.semAt_some
def encJ (x : Jd) : Array Value := #[.agg #[.int .i64 x.tag, .string x.d], .int .i64 x.e]
/-- What a round keeps: all below n₀, and all fields' blocks. -/
def KpJ (n₀ : Nat) (W W' : World) : Prop := Below n₀ W W' ∧ ∀ (b : Nat) (c : Array Value) (m : Nat × Nat), W.heap[b]? = some (Obj.cells c 85 m) → W'.heap[b]? = some (Obj.cells c 85 m)
theorem kpJ_t {n₀ : Nat} {A B C : World} (h : KpJ n₀ A B) (k : KpJ n₀ B C) : KpJ n₀ A C := ⟨h.1.trans k.1, fun b c m hb => k.2 b c m (h.2 b c m hb)⟩
theorem kpJ_b {n₀ : Nat} {w : World} (hn : n₀ ≤ w.heap.size) (W : World) (l : Nat) (o o' : Obj) (hl : w.heap.size ≤ l) (h : W.heap[l]? = some o) (hc : o.isCells = false) (hw : o.isWalk = false) : KpJ n₀ W (W.putObj l o') := by
  refine ⟨belowK_b hn W l o o' hl h hc hw, fun b c m hb => ?_⟩
  have hne : some b ≠ some l := by
    intro e
    cases e
    rw [h] at hb
    cases hb
    cases hc
  rw [(grownBy_putObj' W l o').block b (Array.getElem?_eq_some_iff.1 hb).1 hne]
  exact hb
theorem grown_of_below {w w' : World} (h : Below w.heap.size w w') : w.grownBy w' none := ⟨h.os, h.tape, h.output, h.size, fun k hk _ => h.block k hk⟩
/-- A slice of fields that can be read: its fields are fs. -/
def FReads (n₀ : Nat) (w : World) (a : Option Addr) (len cap : Nat) (fs : List (Int × ByteArray)) : Prop :=
  fs.length = len ∧ len ≤ cap ∧ cap ≤ 9223372036854775807 ∧ (∀ f ∈ fs, f.2.size ≤ maxLen) ∧
  ((a = none ∧ cap = 0) ∨ (∃ ad, a = some ad ∧ len = 0) ∨ ∃ b off, a = some ⟨b, off, none⟩ ∧ b < n₀ ∧ ∀ (i : Nat) (h : i < fs.length), w.cell? ⟨b, off + i * 2, none⟩ = some (.int .i64 fs[i].1) ∧ w.cell? ⟨b, off + i * 2 + 1, none⟩ = some (.string fs[i].2))
set_option maxRecDepth 100000 in
set_option maxHeartbeats 2000000 in
theorem judged1_in (n : Nat) (hn : 1 ≤ n) (l Bs n₀ b off len cap : Nat) (fs : List (Int × ByteArray)) (hlen : fs.length = len) (hm : len ≤ 9223372036854775807) (hb : b < n₀) (hfs : ∀ f ∈ fs, f.2.size ≤ maxLen) (J Jx : List Jd → World → Prop)
    (W : World) (hJ : AbidesFrom W.heap.size J) (hn₀ : n₀ ≤ W.heap.size)
    (hY : ∀ pre x W, J pre W → pre.length < len → YieldAt Fence.wide (n - 1) Try.prog l (encJ x) W fun e W' =>
      (e = .returned (.bool true) ∧ J (pre ++ [x]) W' ∧ KpJ n₀ W W') ∨ (e = .returned (.bool false) ∧ Jx (pre ++ [x]) W'))
    (hBs : W.cell? ⟨Bs, 0, none⟩ = some (.slice (some ⟨b, off, none⟩) len cap))
    (hc : ∀ (i : Nat) (h : i < fs.length), W.cell? ⟨b, off + i * 2, none⟩ = some (.int .i64 fs[i].1) ∧ W.cell? ⟨b, off + i * 2 + 1, none⟩ = some (.string fs[i].2)) (h0 : J [] W) :
    CallsIn Fence.wide n Try.prog 88 #[.func (.yield l) #[] #[], .pointer (some ⟨Bs, 0, none⟩)] W fun e W' => (∃ v, e = .returned v) ∧
      ((∃ ys, ys = judge 0 fs ∧ J ys W') ∨ (∃ pre, pre <+: judge 0 fs ∧ Jx pre W')) := by
  refine callsIn_of_wp Try.func88 rfl trivial ?_ rfl
  simp only [Try.ntmps88, List.size_toArray, List.length_cons, List.length_nil, Nat.reduceAdd, Nat.reduceSub, Array.replicate_succ, Array.replicate_zero, List.push_toArray, List.append_toArray, List.nil_append, List.cons_append]
  gi_wp2
  gi_loopw [3, 8] (fun t i wr => ∃ (k : Nat) (last : Int) (pre : List Jd), k ≤ len ∧ i = .int .i64 k ∧ t = .int .i64 last ∧ Hid (pre.length = k) ∧ Hid (judge 0 fs = pre ++ judge last (fs.drop k)) ∧ J pre wr ∧ Below n₀ W wr ∧ W.heap.size ≤ wr.heap.size)
    (fun _ i _ => len - (intOf i).toNat)
  case atStart => exact ⟨0, 0, [], Nat.zero_le _, rfl, rfl, rfl, by simp [Hid], h0, Below.refl _ _, Nat.le_refl _⟩
  case round =>
    obtain ⟨k, last, pre, hk, rfl, rfl, HP, HJD, hJs, hnx, hsz⟩ := hrel
    by_cases hlt : k < len
    · obtain ⟨hc0, hc1⟩ := hc k (by omega)
      have hd0 : wr.cell? ⟨b, off + k * 2, none⟩ = some (.int .i64 (fs[k]'(by omega)).1) := (hnx.cell (p := ⟨b, off + k * 2, none⟩) hb).trans hc0
      have hd1 : wr.cell? ⟨b, off + k * 2 + 1, none⟩ = some (.string (fs[k]'(by omega)).2) := (hnx.cell (p := ⟨b, off + k * 2 + 1, none⟩) hb).trans hc1
      obtain ⟨f, hf⟩ : ∃ f, f = fs[k]'(by omega) := ⟨_, rfl⟩
      rw [← hf] at hd0 hd1
      have HF : Hid (fs.drop k = f :: fs.drop (k + 1)) := by show _ = _; rw [hf]; exact List.drop_eq_getElem_cons (by omega)
      have HM : Hid (f.2.size ≤ maxLen) := hfs f (by rw [hf]; exact List.getElem_mem _)
      have hlen' : (k : Int) < (len : Int) := by omega
      clear hc0 hc1 hc hf hBs
      have HX : Hid (∀ W1, Below (wr.heap.size + 1) (wr.alloc (.cells #[.int .i64 f.1, .string f.2] 85)).drew W1 → W1.cell? ⟨wr.heap.size, 0, none⟩ = some (.int .i64 f.1) ∧ W1.cell? ⟨wr.heap.size, 1, none⟩ = some (.string f.2) ∧
          W1.heap[wr.heap.size]? = some (.cells #[.int .i64 f.1, .string f.2] 85 (0, 0)) ∧ Below n₀ W W1 ∧ W.heap.size ≤ W1.heap.size ∧
          ∃ fn tmps assign body, (Instr.yield l #[.agg #[.int .i64 f.1, .string f.2], .int .i64 (faultOf last f.1 f.2.size)]).run Try.prog W1 = .ok (.round l fn tmps assign body) W1 ∧
            RoundIn Fence.wide (n - 1) Try.prog l fn tmps assign body W1 fun e W' => ∃ bb, e = .returned (.bool bb) ∧ ((bb = true ∧ J (pre ++ [⟨f.1, f.2, faultOf last f.1 f.2.size, fault_ok last f.1 f.2⟩]) W' ∧ KpJ n₀ W1 W') ∨ (bb = false ∧ Jx (pre ++ [⟨f.1, f.2, faultOf last f.1 f.2.size, fault_ok last f.1 f.2⟩]) W'))) := by
        intro W1 hb1
        have hbw : Below wr.heap.size wr W1 := (((Below.refl _ wr).alloc (Nat.le_refl _) _).drew).trans (hb1.mono (by omega))
        have hblk : W1.heap[wr.heap.size]? = some (.cells #[.int .i64 f.1, .string f.2] 85 (0, 0)) := (hb1.block wr.heap.size (by omega)).trans (World.alloc_heap_new wr _)
        obtain ⟨fn, tmps, assign, body, hy, hR⟩ := hY pre ⟨f.1, f.2, faultOf last f.1 f.2.size, fault_ok last f.1 f.2⟩ W1 (hJ pre wr W1 none hJs (grown_of_below hbw) (fun r e => by cases e)) (by rw [HP.out]; exact hlt)
        refine ⟨by simp [World.cell?, hblk], by simp [World.cell?, hblk], hblk, hnx.trans (hbw.mono (Nat.le_trans hn₀ hsz)), Nat.le_trans hsz hbw.size, fn, tmps, assign, body, hy, hR.mono ?_⟩
        rintro e W' (⟨he, h2, h3⟩ | ⟨he, h2⟩)
        · exact ⟨true, he, .inl ⟨rfl, h2, h3⟩⟩
        · exact ⟨false, he, .inr ⟨rfl, h2⟩⟩
      clear hY
      have hmo : Try.prog.follows Departure.mixedOrders = true := by kernel_rfl
      gi_wp2
      gi_region_with_o (first
        | (refine ⟨trivial, ?_⟩; gi_at_call 89; refine (callsIn_wide.2 (fault_any last f.1 f.2 _ HM.out)).mono ?_; rintro e W1 ⟨rfl, hb1⟩; obtain ⟨q0, q1, hblk, hn1, hs1, fn, tmps, assign, body, hy, hR⟩ := HX.out W1 (by simpa using hb1))
        | (refine hR.mono ?_; rintro e W3 ⟨bb, rfl, hbb⟩))
      all_goals
        rcases hbb with ⟨rfl, hJ3, hk3⟩ | ⟨rfl, hJx3⟩
        · have hq3 : W3.cell? ⟨wr.heap.size, 0, none⟩ = some (.int .i64 f.1) := by simp [World.cell?, hk3.2 _ _ _ hblk]
          have HN : Hid (judge 0 fs = (pre ++ [⟨f.1, f.2, faultOf last f.1 f.2.size, fault_ok last f.1 f.2⟩]) ++ judge f.1 (fs.drop (k + 1))) := by
            show _ = _
            rw [HJD.out, HF.out, judge]; simp
          have HL : Hid ((pre ++ [(⟨f.1, f.2, faultOf last f.1 f.2.size, fault_ok last f.1 f.2⟩ : Jd)]).length = k + 1) := by
            show _ = _
            rw [List.length_append, HP.out]; rfl
          have HB3 : Hid (Below n₀ W W3 ∧ W.heap.size ≤ W3.heap.size) := ⟨hn1.trans hk3.1, Nat.le_trans hs1 hk3.1.size⟩
          clear hy hR hn1 hs1 hk3 hblk q0 q1 hb1 hd0 hd1
          gi_wp2
          go_roundw
          case rel => exact ⟨k + 1, f.1, _, by omega, by go_num, rfl, HL, HN, hJ3, HB3.out.1, HB3.out.2⟩
          case measure => simp [intOf]; omega
        · have HPX : Hid ((pre ++ [(⟨f.1, f.2, faultOf last f.1 f.2.size, fault_ok last f.1 f.2⟩ : Jd)]) <+: judge 0 fs) := by
            show _ <+: _
            rw [HJD.out, HF.out, judge]; exact ⟨judge f.1 (fs.drop (k + 1)), by simp⟩
          clear hy hR hblk q0 q1 hb1 hd0 hd1
          gi_wp2
          refine bodyPost_ret (results_none rfl _ _ _) rfl ?_
          exact ⟨⟨_, rfl⟩, .inr ⟨_, HPX.out, hJx3⟩⟩
    · have HE : Hid (pre = judge 0 fs) := by
        show _ = _
        rw [HJD.out, List.drop_of_length_le (by omega), judge, List.append_nil]
      clear hY
      gi_wp2
      go_end0
      exact ⟨⟨_, rfl⟩, .inl ⟨pre, HE.out, hJs⟩⟩
set_option maxRecDepth 100000 in
set_option maxHeartbeats 1000000 in
theorem judged1_none (n : Nat) (l Bs cap : Nat) (a : Option Addr) (J : List Jd → World → Prop) (W : World) (hBs : W.cell? ⟨Bs, 0, none⟩ = some (.slice a 0 cap)) (h0 : J [] W) :
    CallsIn Fence.wide n Try.prog 88 #[.func (.yield l) #[] #[], .pointer (some ⟨Bs, 0, none⟩)] W fun e W' => (∃ v, e = .returned v) ∧ J [] W' := by
  refine callsIn_of_wp Try.func88 rfl trivial ?_ rfl
  simp only [Try.ntmps88, List.size_toArray, List.length_cons, List.length_nil, Nat.reduceAdd, Nat.reduceSub, Array.replicate_succ, Array.replicate_zero, List.push_toArray, List.append_toArray, List.nil_append, List.cons_append]
  gi_wp2
  gi_loopw [3, 8] (fun t i wr => t = .int .i64 0 ∧ i = .int .i64 0 ∧ J [] wr) (fun _ _ _ => 0)
  case atStart => exact ⟨rfl, rfl, h0⟩
  case round =>
    obtain ⟨rfl, rfl, hJs⟩ := hrel
    gi_wp2
    go_end0
    exact ⟨⟨_, rfl⟩, hJs⟩
set_option maxHeartbeats 1000000 in
theorem judged_in (n : Nat) (a : Option Addr) (len cap : Nat) (w : World) :
    CallsIn Fence.wide n Try.prog 72 #[.slice a len cap] w fun e w' => e = .returned (.func (.func 88) #[] #[.pointer (some ⟨w.heap.size, 0, none⟩)]) ∧ w' = w.alloc (.cells #[.slice a len cap] 88) := by
  refine callsIn_of_wp Try.func72 rfl trivial ?_ rfl
  simp only [Try.ntmps72, List.size_toArray, List.length_cons, List.length_nil, Nat.reduceAdd, Nat.reduceSub, Array.replicate_succ, Array.replicate_zero, List.push_toArray, List.append_toArray, List.nil_append, List.cons_append]
  gi_wp2
  go_ret
  exact ⟨rfl, rfl⟩
theorem FReads.below {n₀ : Nat} {A B : World} (h : Below n₀ A B) {a : Option Addr} {len cap : Nat} {fs : List (Int × ByteArray)} (hr : FReads n₀ A a len cap fs) : FReads n₀ B a len cap fs := by
  obtain ⟨h1, h2, h3, h4, h5⟩ := hr
  refine ⟨h1, h2, h3, h4, ?_⟩
  rcases h5 with h5 | h5 | ⟨b, off, e, hb, hc⟩
  · exact .inl h5
  · exact .inr (.inl h5)
  · exact .inr (.inr ⟨b, off, e, hb, fun i hi => ⟨(h.cell (p := ⟨b, off + i * 2, none⟩) hb).trans (hc i hi).1, (h.cell (p := ⟨b, off + i * 2 + 1, none⟩) hb).trans (hc i hi).2⟩⟩)
/-- judged hands back a value that goes through all, or through a part. -/
theorem judged_stops (n : Nat) (hn : 1 ≤ n) (Bs n₀ : Nat) (a : Option Addr) (len cap : Nat) (fs : List (Int × ByteArray)) (w : World) (hBs : Bs < w.heap.size) (hn₀ : n₀ ≤ w.heap.size)
    (hc : w.cell? ⟨Bs, 0, none⟩ = some (.slice a len cap)) (hI : FReads n₀ w a len cap fs) :
    SeqStopsK Fence.wide n Try.prog 88 #[.pointer (some ⟨Bs, 0, none⟩)] encJ (KpJ n₀) (fun ys => ys = judge 0 fs) (fun pre => pre <+: judge 0 fs) len w := fun l J Jx W hW hJ _ hY h0 => by
  have hc' := (hW.cell (p := ⟨Bs, 0, none⟩) hBs).trans hc
  obtain ⟨h1, h2, h3, h4, h5⟩ := hI.below (hW.mono hn₀)
  have hz : len = 0 → CallsIn Fence.wide n Try.prog 88 (#[.func (.yield l) #[] #[]] ++ #[.pointer (some ⟨Bs, 0, none⟩)]) W fun e W' => (∃ v, e = .returned v) ∧ ((∃ xs, xs = judge 0 fs ∧ J xs W') ∨ (∃ pre, pre <+: judge 0 fs ∧ Jx pre W')) := by
    intro hl
    subst hl
    have hf : fs = [] := List.eq_nil_of_length_eq_zero h1
    exact (judged1_none n l Bs cap a J W hc' h0).mono fun e W' ⟨he, hj⟩ => ⟨he, .inl ⟨_, by rw [hf]; rfl, hj⟩⟩
  rcases h5 with ⟨_, h⟩ | ⟨_, _, h⟩ | ⟨b, off, rfl, hb, hcs⟩
  · exact hz (by omega)
  · exact hz h
  · exact judged1_in n hn l Bs n₀ b off len cap fs h1 (by omega) hb h4 J Jx W hJ (Nat.le_trans hn₀ hW.size) hY hc' hcs h0
end Go.Proofs.Ytjpmmbmhkpgjcaa

/- The iterator of pack.parsed: the fields that bytes are made of, each with what is wrong with it. -/
namespace Go.Proofs.Ytjpmmbmhkpgjcaa
open Go.RowKit Go.Shelf Nums
set_option maxRecDepth 100000

attribute [local go_sem] Oper.semAt_some
def encP (x : Pd) : Array Value := #[.agg #[.int .i64 x.tag, .string ⟨x.d.toArray⟩], .int .i64 x.e]
/-- What a round keeps: all below n₀, and every field's block. -/
def KpP (n₀ : Nat) (W W' : World) : Prop := Below n₀ W W' ∧ ∀ (b : Nat) (x y : Value) (m : Nat × Nat), W.heap[b]? = some (Obj.cells #[x, y] 85 m) → W'.heap[b]? = some (Obj.cells #[x, y] 85 m)
theorem kpP_t {n₀ : Nat} {A B C : World} (h : KpP n₀ A B) (k : KpP n₀ B C) : KpP n₀ A C := ⟨h.1.trans k.1, fun b x y m hb => k.2 b x y m (h.2 b x y m hb)⟩
theorem kpP_b {n₀ : Nat} {w : World} (hn : n₀ ≤ w.heap.size) (W : World) (l : Nat) (o o' : Obj) (hl : w.heap.size ≤ l) (h : W.heap[l]? = some o) (hc : o.isCells = false) (hw : o.isWalk = false) : KpP n₀ W (W.putObj l o') := by
  refine ⟨belowK_b hn W l o o' hl h hc hw, fun b x y m hb => ?_⟩
  have hne : some b ≠ some l := by
    intro e
    cases e
    rw [h] at hb
    cases hb
    cases hc
  rw [(grownBy_putObj' W l o').block b (Array.getElem?_eq_some_iff.1 hb).1 hne]
  exact hb
/-- Bytes that can be read, in a block below n₀. -/
def PReads (n₀ : Nat) (w : World) (a : Option Addr) (len cap : Nat) (l : List UInt8) : Prop :=
  l.length = len ∧ len ≤ cap ∧ cap ≤ 9223372036854775807 ∧
  ((a = none ∧ cap = 0) ∨ (∃ ad, a = some ad ∧ len = 0) ∨ ∃ b off, a = some ⟨b, off, none⟩ ∧ b < n₀ ∧ ∀ (i : Nat) (h : i < l.length), w.cell? ⟨b, off + i, none⟩ = some (.int .u8 l[i].toNat))
theorem PReads.below {n₀ : Nat} {A B : World} (h : Below n₀ A B) {a : Option Addr} {len cap : Nat} {l : List UInt8} (hr : PReads n₀ A a len cap l) : PReads n₀ B a len cap l := by
  obtain ⟨h1, h2, h3, h5⟩ := hr
  refine ⟨h1, h2, h3, ?_⟩
  rcases h5 with h5 | h5 | ⟨b, off, e, hb, hc⟩
  · exact .inl h5
  · exact .inr (.inl h5)
  · exact .inr (.inr ⟨b, off, e, hb, fun i hi => (h.cell (p := ⟨b, off + i, none⟩) hb).trans (hc i hi)⟩)
theorem PReads.reads {n₀ : Nat} {A : World} {a : Option Addr} {len cap : Nat} {l : List UInt8} (hr : PReads n₀ A a len cap l) (hn : n₀ ≤ A.heap.size) : Reads A a len cap l := by
  obtain ⟨h1, h2, h3, h5⟩ := hr
  refine ⟨h1, h2, h3, ?_⟩
  rcases h5 with h5 | h5 | ⟨b, off, e, hb, hc⟩
  · exact .inl h5
  · exact .inr (.inl h5)
  · exact .inr (.inr ⟨b, off, e, Nat.lt_of_lt_of_le hb hn, hc⟩)
theorem Reads.lreads {A : World} {a : Option Addr} {len cap : Nat} {l : List UInt8} (hr : Reads A a len cap l) : PReads A.heap.size A a len cap l := hr
/-- The rest behind the first n bytes. -/
theorem PReads.drop {n₀ : Nat} {A : World} {b off len cap n : Nat} {l : List UInt8} (hr : PReads n₀ A (some ⟨b, off, none⟩) len cap l) (hn : n ≤ len) (h0 : 0 < len) :
    PReads n₀ A (if cap = n then some ⟨b, off, none⟩ else some ⟨b, off + n, none⟩) (len - n) (cap - n) (l.drop n) := by
  obtain ⟨h1, h2, h3, h5⟩ := hr
  refine ⟨by rw [List.length_drop]; omega, by omega, by omega, ?_⟩
  rcases h5 with ⟨h, _⟩ | ⟨_, _, h⟩ | ⟨b', off', e, hb, hc⟩
  · cases h
  · omega
  · cases e
    by_cases hcn : cap = n
    · rw [if_pos hcn]; exact .inr (.inl ⟨_, rfl, by omega⟩)
    · rw [if_neg hcn]
      refine .inr (.inr ⟨b, off + n, rfl, hb, fun i hi => ?_⟩)
      have := hc (n + i) (by rw [List.length_drop] at hi; omega)
      rw [← Nat.add_assoc] at this
      rw [this, List.getElem_drop]
end Go.Proofs.Ytjpmmbmhkpgjcaa

/- pack.parsed goes through the fields that bytes are made of: all, or a part where a round says no more. -/
namespace Go.Proofs.Ytjpmmbmhkpgjcaa
open Go.RowKit Go.Shelf Nums
set_option maxRecDepth 100000

attribute [local go_sem] Oper.semAt_some
theorem pE_bad {last : Nat} {l : List UInt8} (h : gE l ≠ 0) : pE last l = gE l := by rw [pE, if_neg h]
theorem pE_fault {last : Nat} {l : List UInt8} (h : gE l = 0) (hf : faultOf last (gT l) (gD l).length ≠ 0) : pE last l = 11 := by rw [pE, if_pos h, if_neg hf]
set_option maxRecDepth 100000 in
set_option maxHeartbeats 4000000 in
theorem parsed1_in (n : Nat) (hn : 1 ≤ n) (l Bs n₀ : Nat) (a : Option Addr) (len cap : Nat) (bs : List UInt8) (J Jx : List Pd → World → Prop)
    (W : World) (hJ : AbidesFrom W.heap.size J) (hn₀ : n₀ ≤ W.heap.size)
    (hY : ∀ pre x W, J pre W → pre.length < len + 1 → YieldAt Fence.wide (n - 1) Try.prog l (encP x) W fun e W' =>
      (e = .returned (.bool true) ∧ J (pre ++ [x]) W' ∧ KpP n₀ W W') ∨ (e = .returned (.bool false) ∧ Jx (pre ++ [x]) W'))
    (hBs : W.cell? ⟨Bs, 0, none⟩ = some (.slice a len cap)) (hR : PReads n₀ W a len cap bs) (h0 : J [] W) :
    CallsIn Fence.wide n Try.prog 138 #[.func (.yield l) #[] #[], .pointer (some ⟨Bs, 0, none⟩)] W fun e W' => (∃ v, e = .returned v) ∧
      ((∃ ys, ys = parse (len + 1) 0 bs ∧ J ys W') ∨ (∃ pre, pre <+: parse (len + 1) 0 bs ∧ Jx pre W')) := by
  refine callsIn_of_wp Try.func138 rfl trivial ?_ rfl
  simp only [Try.ntmps138, List.size_toArray, List.length_cons, List.length_nil, Nat.reduceAdd, Nat.reduceSub, Array.replicate_succ, Array.replicate_zero, List.push_toArray, List.append_toArray, List.nil_append, List.cons_append]
  gi_wp2
  gi_loopw [3, 4] (fun t s wr => ∃ (last : Nat) (pre : List Pd) (ra : Option Addr) (rlen rcap : Nat) (rl : List UInt8), s = .slice ra rlen rcap ∧ t = .int .i64 last ∧ Hid (PReads n₀ W ra rlen rcap rl) ∧ rlen + pre.length ≤ len ∧ Hid (parse (len + 1) 0 bs = pre ++ parse (rlen + 1) last rl) ∧ J pre wr ∧ Below n₀ W wr ∧ W.heap.size ≤ wr.heap.size)
    (fun _ s _ => match s with | .slice _ k _ => k | _ => 0)
  case atStart => exact ⟨0, [], a, len, cap, bs, rfl, rfl, hR, by simp, by simp [Hid], h0, Below.refl _ _, Nat.le_refl _⟩
  case round =>
    obtain ⟨last, pre, ra, rlen, rcap, rl, rfl, rfl, HR, hle, HP, hJs, hnx, hsz⟩ := hrel
    clear hBs
    have hrc : rlen ≤ rcap := HR.out.2.1
    have hrm : rcap ≤ 9223372036854775807 := HR.out.2.2.1
    by_cases hz : rlen = 0
    · subst hz
      clear hY
      gi_wp2
      go_end0
      have hl : rl = [] := List.eq_nil_of_length_eq_zero HR.out.1
      refine ⟨⟨_, rfl⟩, .inl ⟨pre, ?_, hJs⟩⟩
      rw [HP.out, hl]; simp [parse]
    · have hpos : (0 : Int) < (rlen : Int) := by omega
      have HNE : Hid (rl ≠ []) := by intro e; have := HR.out.1; rw [e] at this; simp at this; omega
      have HRD : Hid (Reads wr ra rlen rcap rl) := (HR.out.below hnx).reads (Nat.le_trans hn₀ hsz)
      have HX : Hid (∀ W2, Below wr.heap.size wr W2 → ∃ fn tmps assign body, (Instr.yield l #[.agg #[.int .i64 (gT rl), .string ⟨(gD rl).toArray⟩], .int .i64 (pE last rl)]).run Try.prog W2 = .ok (.round l fn tmps assign body) W2 ∧
            RoundIn Fence.wide (n - 1) Try.prog l fn tmps assign body W2 fun e W' => ∃ bb, e = .returned (.bool bb) ∧ ((bb = true ∧ J (pre ++ [pX last rl]) W' ∧ KpP n₀ W2 W') ∨ (bb = false ∧ Jx (pre ++ [pX last rl]) W'))) := by
        intro W2 hb2
        obtain ⟨fn, tmps, assign, body, hy, hR⟩ := hY pre (pX last rl) W2 (hJ pre wr W2 none hJs (grown_of_below hb2) (fun r e => by cases e)) (by omega)
        refine ⟨fn, tmps, assign, body, hy, hR.mono ?_⟩
        rintro e W' (⟨he, h2, h3⟩ | ⟨he, h2⟩)
        · exact ⟨true, he, .inl ⟨rfl, h2, h3⟩⟩
        · exact ⟨false, he, .inr ⟨rfl, h2⟩⟩
      have HPR : Hid ((pre ++ [pX last rl]) <+: parse (len + 1) 0 bs) := by
        show _ <+: _
        rw [HP.out, parse_cons HNE.out]
        exact ⟨if pE last rl = 0 then parse rlen (gT rl) (rl.drop (gN rl)) else [], by simp⟩
      clear hY
      by_cases hE : gE rl = 0
      · have hE1 : ((gE rl : Int) == 0) = true := by simpa using hE
        have hgn := gN_le hE
        obtain ⟨b, off, hra⟩ : ∃ b off, ra = some ⟨b, off, none⟩ := by
          rcases HR.out.2.2.2 with ⟨_, h⟩ | ⟨_, _, h⟩ | ⟨b, off, h, _⟩
          · omega
          · omega
          · exact ⟨b, off, h⟩
        subst hra
        have hds : (⟨(gD rl).toArray⟩ : ByteArray).size = (gD rl).length := by show (gD rl).toArray.size = _; simp
        have HFC : Hid (∀ w, Calls Try.prog 89 #[.int .i64 last, .agg #[.int .i64 (gT rl), .string ⟨(gD rl).toArray⟩]] w fun e w' => e = .returned (.int .i64 (faultOf last (gT rl) (gD rl).length)) ∧ Below w.heap.size w w') := fun w => by
          have := fault_any last (gT rl) ⟨(gD rl).toArray⟩ w (by rw [hds]; unfold maxLen; omega)
          rwa [hds] at this
        clear hds
        by_cases hF : faultOf last (gT rl) (gD rl).length = 0
        · have HPE : Hid (pE last rl = 0) := pE_ok hE hF
          have HPG : Hid (pE last rl = gE rl) := HPE.out.trans hE.symm
          have HFD : Hid (∀ w, Calls Try.prog 89 #[.int .i64 last, .agg #[.int .i64 (gT rl), .string ⟨(gD rl).toArray⟩]] w fun e w' => e = .returned (.int .i64 0) ∧ Below w.heap.size w w') := fun w => by
            have := HFC.out w
            rwa [hF] at this
          have hE3 : ((gE rl : Int) != 0) = false := by simpa using hE
          have HNX : Hid (parse (len + 1) 0 bs = (pre ++ [pX last rl]) ++ parse (rlen - gN rl + 1) (gT rl) (rl.drop (gN rl))) := by
            show _ = _
            rw [HP.out, parse_cons HNE.out, if_pos HPE.out, parse_fuel (rlen - gN rl + 1) rlen (gT rl) (rl.drop (gN rl)) (by rw [List.length_drop, HR.out.1]; omega) (by omega)]
            simp
          have HDR := HR.out.drop (n := gN rl) (by rw [← HR.out.1]; exact hgn.2.1) (by omega)
          have hgl : gN rl ≤ rlen := by rw [← HR.out.1]; exact hgn.2.1
          have hg4 : 4 ≤ gN rl := hgn.1
          have HZ : Hid (gE rl = 0) := hE
          have hmo : Try.prog.follows Departure.mixedOrders = true := by kernel_rfl
          clear hE hF HFC hgn
          have HDD : Hid (PReads n₀ W (if rcap = gN rl then some ⟨b, off, none⟩ else some ⟨b, off + gN rl, none⟩) (rlen - gN rl) (rcap - gN rl) (rl.drop (gN rl))) := HDR
          clear HDR
          gi_wp2_with (first
            | (refine ⟨trivial, ?_⟩; gi_at_call 81; refine (callsIn_wide.2 (get_any _ _ _ rl _ HRD.out)).mono ?_; rintro e W1 ⟨rfl, hb1⟩; unfold gotten)
            | (refine ⟨trivial, ?_⟩; gi_at_call 89; refine (callsIn_wide.2 (HFD.out _)).mono ?_; rintro e W2 ⟨rfl, hb2⟩; have hb3 : Below wr.heap.size wr W2 := (hb1.alloc hb1.size _).trans (hb2.mono (by have := hb1.size; simp; omega)); have hblk : W2.heap[W1.heap.size]? = some (.cells #[.int .i64 (gT rl), .string ⟨(gD rl).toArray⟩] 85 (0, 0)) := (hb2.block W1.heap.size (by simp)).trans (World.alloc_heap_new W1 _); have q0 : W2.cell? ⟨W1.heap.size, 0, none⟩ = some (.int .i64 (gT rl)) := (by simp [World.cell?, hblk]); have q1 : W2.cell? ⟨W1.heap.size, 1, none⟩ = some (.string ⟨(gD rl).toArray⟩) := (by simp [World.cell?, hblk]); obtain ⟨fn, tmps, assign, body, hy, hR⟩ := HX.out W2 hb3; rw [HPG.out] at hy))
          refine hR.mono ?_
          rintro e W3 ⟨bb, rfl, ⟨rfl, hJ3, hk3⟩ | ⟨rfl, hJx3⟩⟩
          · have hq3 : W3.cell? ⟨W1.heap.size, 0, none⟩ = some (.int .i64 (gT rl)) := by simp [World.cell?, hk3.2 _ _ _ _ hblk]
            have HB3 : Hid (Below n₀ W W3 ∧ W.heap.size ≤ W3.heap.size) := ⟨hnx.trans ((hb3.mono (Nat.le_trans hn₀ hsz)).trans hk3.1), Nat.le_trans hsz (Nat.le_trans hb3.size hk3.1.size)⟩
            clear hy hR hk3 hblk q0 q1 hb1 hb2 hb3 hnx hJs
            gi_wp2
            gi_region_with_o (fail)
            gi_wp2
            all_goals
              refine ⟨⟨gT rl, pre ++ [pX last rl], _, _, _, ⟨rfl, rfl, rfl⟩, rfl, rl.drop (gN rl), ?_, ?_, HNX, hJ _ W3 W3.drew none hJ3 (grown_of_below (Below.refl _ _).drew) (fun r e => by cases e), HB3.out.1.drew, HB3.out.2⟩, by omega⟩
              · have hdd := HDD.out
                first
                  | (have hp : rcap = gN rl := by assumption
                     rw [if_pos hp, show rcap - gN rl = 0 by omega] at hdd
                     exact hdd)
                  | (have hp : ¬ rcap = gN rl := by assumption
                     rw [if_neg hp] at hdd
                     exact hdd)
              · rw [List.length_append]; simp; omega
          · clear hy hR hblk q0 q1 hb1 hb2 hb3
            gi_wp2
            refine bodyPost_ret (results_none rfl _ _ _) rfl ?_
            exact ⟨⟨_, rfl⟩, .inr ⟨_, HPR.out, hJx3⟩⟩
        · have HPE : Hid (pE last rl = 11) := pE_fault hE hF
          have hF2 : (faultOf last (gT rl) (gD rl).length != 0) = true := by simpa using hF
          have HALL : Hid (pre ++ [pX last rl] = parse (len + 1) 0 bs) := by
            show _ = _
            rw [HP.out, parse_cons HNE.out, if_neg (by rw [HPE.out]; decide)]
          have HZ : Hid (gE rl = 0) := hE
          clear hE hF hgn
          gi_wp2_with (first
            | (refine ⟨trivial, ?_⟩; gi_at_call 81; refine (callsIn_wide.2 (get_any _ _ _ rl _ HRD.out)).mono ?_; rintro e W1 ⟨rfl, hb1⟩; unfold gotten)
            | (refine ⟨trivial, ?_⟩; gi_at_call 89; refine (callsIn_wide.2 (HFC.out _)).mono ?_; rintro e W2 ⟨rfl, hb2⟩; have hb3 : Below wr.heap.size wr W2 := (hb1.alloc hb1.size _).trans (hb2.mono (by have := hb1.size; simp; omega)); have hblk : W2.heap[W1.heap.size]? = some (.cells #[.int .i64 (gT rl), .string ⟨(gD rl).toArray⟩] 85 (0, 0)) := (hb2.block W1.heap.size (by simp)).trans (World.alloc_heap_new W1 _); have q0 : W2.cell? ⟨W1.heap.size, 0, none⟩ = some (.int .i64 (gT rl)) := (by simp [World.cell?, hblk]); have q1 : W2.cell? ⟨W1.heap.size, 1, none⟩ = some (.string ⟨(gD rl).toArray⟩) := (by simp [World.cell?, hblk]); obtain ⟨fn, tmps, assign, body, hy, hR⟩ := HX.out W2 hb3; rw [HPE.out] at hy; simp only [Int.cast_ofNat_Int] at hy))
          refine hR.mono ?_
          rintro e W3 ⟨bb, rfl, ⟨rfl, hJ3, _⟩ | ⟨rfl, hJx3⟩⟩
          · clear hy hR hblk q0 q1 hb1 hb2 hb3
            gi_wp2
            refine bodyPost_ret (results_none rfl _ _ _) rfl ?_
            exact ⟨⟨_, rfl⟩, .inl ⟨_, HALL.out, hJ3⟩⟩
          · clear hy hR hblk q0 q1 hb1 hb2 hb3
            gi_wp2
            refine bodyPost_ret (results_none rfl _ _ _) rfl ?_
            exact ⟨⟨_, rfl⟩, .inr ⟨_, HPR.out, hJx3⟩⟩
      · have hE1 : ((gE rl : Int) == 0) = false := by simpa using hE
        have hE2 : ((gE rl : Int) != 0) = true := by simpa using hE
        have HPE : Hid (pE last rl = gE rl) := pE_bad hE
        have HALL : Hid (pre ++ [pX last rl] = parse (len + 1) 0 bs) := by
          show _ = _
          rw [HP.out, parse_cons HNE.out, if_neg (by rw [HPE.out]; exact hE)]
        have HGE : Hid (¬ gE rl = 0) := hE
        clear hE
        gi_wp2_with (refine ⟨trivial, ?_⟩; gi_at_call 81; refine (callsIn_wide.2 (get_any _ _ _ rl _ HRD.out)).mono ?_; rintro e W1 ⟨rfl, hb1⟩; unfold gotten)
        refine ⟨trivial, ?_⟩
        obtain ⟨fn, tmps, assign, body, hy, hR⟩ := HX.out (W1.alloc (.cells #[.int .i64 (gT rl), .string ⟨(gD rl).toArray⟩] 85)) (hb1.alloc hb1.size _)
        rw [HPE.out] at hy
        gi_wp2
        refine hR.mono ?_
        rintro e W3 ⟨bb, rfl, ⟨rfl, hJ3, _⟩ | ⟨rfl, hJx3⟩⟩
        · clear hy hR
          gi_wp2
          refine bodyPost_ret (results_none rfl _ _ _) rfl ?_
          exact ⟨⟨_, rfl⟩, .inl ⟨_, HALL.out, hJ3⟩⟩
        · clear hy hR
          gi_wp2
          refine bodyPost_ret (results_none rfl _ _ _) rfl ?_
          exact ⟨⟨_, rfl⟩, .inr ⟨_, HPR.out, hJx3⟩⟩
set_option maxHeartbeats 1000000 in
theorem parsed_in (n : Nat) (a : Option Addr) (len cap : Nat) (w : World) :
    CallsIn Fence.wide n Try.prog 127 #[.slice a len cap] w fun e w' => e = .returned (.func (.func 138) #[] #[.pointer (some ⟨w.heap.size, 0, none⟩)]) ∧ w' = w.alloc (.cells #[.slice a len cap] 61) := by
  refine callsIn_of_wp Try.func127 rfl trivial ?_ rfl
  simp only [Try.ntmps127, List.size_toArray, List.length_cons, List.length_nil, Nat.reduceAdd, Nat.reduceSub, Array.replicate_succ, Array.replicate_zero, List.push_toArray, List.append_toArray, List.nil_append, List.cons_append]
  gi_wp2
  go_ret
  exact ⟨rfl, rfl⟩
theorem parsed_stops (n : Nat) (hn : 1 ≤ n) (Bs n₀ : Nat) (a : Option Addr) (len cap : Nat) (bs : List UInt8) (w : World) (hBs : Bs < w.heap.size) (hn₀ : n₀ ≤ w.heap.size)
    (hc : w.cell? ⟨Bs, 0, none⟩ = some (.slice a len cap)) (hI : PReads n₀ w a len cap bs) :
    SeqStopsK Fence.wide n Try.prog 138 #[.pointer (some ⟨Bs, 0, none⟩)] encP (KpP n₀) (fun ys => ys = parse (len + 1) 0 bs) (fun pre => pre <+: parse (len + 1) 0 bs) (len + 1) w := fun l J Jx W hW hJ _ hY h0 =>
  parsed1_in n hn l Bs n₀ a len cap bs J Jx W hJ (Nat.le_trans hn₀ hW.size) hY ((hW.cell (p := ⟨Bs, 0, none⟩) hBs).trans hc) (hI.below (hW.mono hn₀)) h0
end Go.Proofs.Ytjpmmbmhkpgjcaa

/- What pack.Lay answers: the bytes of a row's fields, or the first field's fault. -/
namespace Go.Proofs.Ytjpmmbmhkpgjcaa
open Go.RowKit Go.Shelf Nums
set_option maxRecDepth 100000

attribute [local go_sem] Oper.semAt_some
def outB (pre : List Jd) : List UInt8 := (pre.map fun x => fieldBytesI x.tag x.d.data.toList).flatten
theorem outB_snoc (pre : List Jd) (x : Jd) : outB (pre ++ [x]) = outB pre ++ fieldBytesI x.tag x.d.data.toList := by simp [outB]
theorem outB_length : ∀ (pre : List Jd), (∀ x ∈ pre, x.e = 0) → (outB pre).length ≤ pre.length * 65540
  | [], _ => by simp [outB]
  | x :: r, h => by
    have h1 := outB_length r (fun y hy => h y (List.mem_cons_of_mem _ hy))
    have h2 := x.ok (h x List.mem_cons_self)
    have e : outB (x :: r) = fieldBytesI x.tag x.d.data.toList ++ outB r := by simp [outB]
    rw [e, List.length_append, fieldBytesI_length]
    simp only [Array.length_toList, List.length_cons]
    have : x.d.data.size ≤ 65536 := h2
    omega
/-- A block of cells stays under the turn of a block that is none. -/
theorem cells_stay {W W' : World} {row : Option Nat} {b : Nat} {c : Array Value} {t : TypeId} {m : Nat × Nat} (h : W.heap[b]? = some (.cells c t m)) (hg : W.grownBy W' row) (hr : ∀ r, row = some r → ∃ o : Obj, W.heap[r]? = some o ∧ o.isCells = false) :
    W'.heap[b]? = some (.cells c t m) := by
  refine (hg.block b (Array.getElem?_eq_some_iff.1 h).1 ?_).trans h
  intro e
  obtain ⟨o, ho, hc⟩ := hr b e.symm
  rw [h] at ho; cases ho; cases hc
theorem spares_box {w w' : World} (h : Spares 5 w w') {b : Nat} {c : Array Value} {t : TypeId} {m : Nat × Nat} (ht : t ≠ 5) (hb : w.heap[b]? = some (.cells c t m)) : w'.heap[b]? = some (.cells c t m) :=
  h b _ hb (fun c' m' e => by cases e; exact ht rfl)
theorem spares_others {w w' : World} (h : Spares 5 w w') (hs : w.heap.size ≤ w'.heap.size) : KeepsOthers w w' := ⟨hs, fun k o hk ho => h k o hk (fun c m e => by subst e; cases ho)⟩
theorem set_other {W : World} {B B' : Nat} {c : Array Value} {t : TypeId} {m : Nat × Nat} (h : W.heap[B]? = some (.cells c t m)) (hne : B ≠ B') (v : Value) : (W.setCell ⟨B', 0, none⟩ v).heap[B]? = some (.cells c t m) :=
  (Below.heap_setCell W ⟨B', 0, none⟩ v B hne).trans h
set_option maxRecDepth 100000 in
set_option maxHeartbeats 4000000 in
theorem lay_in (n : Nat) (hn : 3 ≤ n) (a : Option Addr) (len cap : Nat) (fs : List (Int × ByteArray)) (w : World) (hR : FReads w.heap.size w a len cap fs) (hl : len ≤ 400) :
    CallsIn Fence.wide n Try.prog 46 #[.slice a len cap] w fun e W' =>
      ((∀ x ∈ judge 0 fs, x.e = 0) ∧ ∃ v, e = .returned (.tuple #[v, .int .i64 0]) ∧ W'.ownsRow w.heap.size 5 1 v (outB (judge 0 fs)).length (cellsOf (outB (judge 0 fs))) ∧ Below w.heap.size w W') ∨
      (∃ pre x, (pre ++ [x]) <+: judge 0 fs ∧ (∀ y ∈ pre, y.e = 0) ∧ x.e ≠ 0 ∧ e = .returned (.tuple #[.slice none 0 0, .int .i64 x.e]) ∧ Below w.heap.size w W') := by
  have h1 : 1 ≤ n := by omega
  refine callsIn_of_wp_marks Try.func46 rfl trivial ?_ rfl
  simp only [Try.ntmps46, List.size_toArray, List.length_cons, List.length_nil, Nat.reduceAdd, Nat.reduceSub, Array.replicate_succ, Array.replicate_zero, List.push_toArray, List.append_toArray, List.nil_append, List.cons_append]
  gi_wp2_with (refine ⟨trivial, ?_⟩; gi_at_call 72; refine (judged_in (n - 1) _ _ _ _).mono ?_; rintro e w' ⟨rfl, rfl⟩)
  have bR1 := (((Boxed.new w 61 (.slice none 0 0)).alloc (.cells #[.int .i64 0] 44)).alloc (.cells #[.slice none 0 0] 61)).alloc (.cells #[.slice a len cap] 88)
  have bR2 := ((Boxed.new (w.alloc (.cells #[.slice none 0 0] 61)) 44 (.int .i64 0)).alloc (.cells #[.slice none 0 0] 61)).alloc (.cells #[.slice a len cap] 88)
  have bO := (Boxed.new ((w.alloc (.cells #[.slice none 0 0] 61)).alloc (.cells #[.int .i64 0] 44)) 61 (.slice none 0 0)).alloc (.cells #[.slice a len cap] 88)
  have bA := Boxed.new (((w.alloc (.cells #[.slice none 0 0] 61)).alloc (.cells #[.int .i64 0] 44)).alloc (.cells #[.slice none 0 0] 61)) 88 (.slice a len cap)
  simp only [World.size_alloc] at bR2 bO bA
  have hB0 : Below w.heap.size w ((((w.alloc (.cells #[.slice none 0 0] 61)).alloc (.cells #[.int .i64 0] 44)).alloc (.cells #[.slice none 0 0] 61)).alloc (.cells #[.slice a len cap] 88)) :=
    ((((Below.refl _ w).alloc (Nat.le_refl _) _).alloc (by simp) _).alloc (by simp; omega) _).alloc (by simp; omega) _
  have hsz : ((((w.alloc (.cells #[.slice none 0 0] 61)).alloc (.cells #[.int .i64 0] 44)).alloc (.cells #[.slice none 0 0] 61)).alloc (.cells #[.slice a len cap] 88)).heap.size = w.heap.size + 4 := by simp
  obtain ⟨W0, hW0⟩ : ∃ W0, (((w.alloc (.cells #[.slice none 0 0] 61)).alloc (.cells #[.int .i64 0] 44)).alloc (.cells #[.slice none 0 0] 61)).alloc (.cells #[.slice a len cap] 88) = W0 := ⟨_, rfl⟩
  rw [hW0] at bR1 bR2 bO bA hB0 hsz ⊢
  clear hW0
  have hge : w.heap.size + 4 ≤ W0.heap.size := Nat.le_of_eq hsz.symm
  clear hsz
  refine wpIn_rangeFunc_ownH rfl h1 (gf := 88) (lb := #[.pointer (some ⟨w.heap.size + 1 + 1 + 1, 0, none⟩)]) rfl trivial (enters_of Try.func88 (by kernel_rfl) rfl)
    (judged_stops (n - 1) (by omega) (w.heap.size + 1 + 1 + 1) w.heap.size a len cap fs W0 (by omega) (by omega) bA.cell (hR.below hB0)) kpJ_t (kpJ_b (by omega)) (Below.refl _ _) (fun _ => rfl)
    (fun pre W => ((∃ v, Boxed W (w.heap.size + 1 + 1) 61 v ∧ W.ownsRow W0.heap.size 5 1 v (outB pre).length (cellsOf (outB pre)) ∧ True) ∧ (Boxed W w.heap.size 61 (.slice none 0 0) ∧ Boxed W (w.heap.size + 1) 44 (.int .i64 0))) ∧ ((∀ x ∈ pre, x.e = 0) ∧ Below w.heap.size w W))
    (fun c pre W => (c = .ret ∧ ∃ pre' x, pre = pre' ++ [x] ∧ (∀ y ∈ pre', y.e = 0) ∧ x.e ≠ 0 ∧ Boxed W w.heap.size 61 (.slice none 0 0) ∧ Boxed W (w.heap.size + 1) 44 (.int .i64 x.e)) ∧ Below w.heap.size w W)
    (OwnFrom.and (OwnFrom.and (Own.from (holdsRow_own W0.heap.size (w.heap.size + 1 + 1) 61 5 1 (fun pre => (outB pre).length) (fun pre => cellsOf (outB pre)) (fun _ _ => True)) _) (OwnFrom.and (Own.from (boxed_own _ _ _) _) (Own.from (boxed_own _ _ _) _))) (OwnFrom.and (ownFrom_pure _ _) (ownFrom_below (Nat.le_refl _) (by omega))))
    (fun c => OwnFrom.and (fun s X Y row hs hg hr => by
      obtain ⟨hc, pre', x, e1, e2, e3, b1, b2⟩ := hs
      exact ⟨hc, pre', x, e1, e2, e3, cells_stay b1 hg (fun r e => (hr r e).2), cells_stay b2 hg (fun r e => (hr r e).2)⟩) (ownFrom_below (Nat.le_refl _) (by omega)))
    ⟨⟨⟨_, bO, World.ownsRow_nil _ _ _ _, trivial⟩, bR1, bR2⟩, by simp, hB0⟩
    (fun x a' W => ∃ Bx, w.heap.size + 1 + 1 < Bx ∧ W.heap[Bx]? = some (.cells #[.int .i64 x.tag, .string x.d] 85 (0, 0)) ∧ a' = { tmps := #[.slice a len cap, undef, .pointer (some ⟨w.heap.size, 0, none⟩), .pointer (some ⟨w.heap.size + 1, 0, none⟩), .pointer (some ⟨w.heap.size + 1 + 1, 0, none⟩), .pointer (some ⟨Bx, 0, none⟩), .int .i64 x.e, .slice a len cap, .func (.func 88) #[] #[.pointer (some ⟨w.heap.size + 1 + 1 + 1, 0, none⟩)], .agg #[.int .i64 x.tag, .string x.d], .int .i64 x.e, undef, undef, undef, undef, undef, undef, undef], defers := [] })
    (fun x a' _ X Y row hs hg hr => by obtain ⟨Bx, h1, h2, h3⟩ := hs; exact ⟨Bx, h1, cells_stay h2 hg (fun r e => (hr r e).2), h3⟩)
    ?assign ?body ?done ?stop
  case assign =>
    rintro l pre x W K ⟨⟨⟨v, bO1, hrow, ht⟩, bR11, bR21⟩, hz, hB1⟩ hK
    dsimp only [encJ]
    gi_wp2
    refine hK _ _ ((KeepsOthers.alloc _ _).from _) ⟨(Below.refl _ W).alloc hB1.size _, fun b c m hb => (Below.heap_alloc W _ b (Array.getElem?_eq_some_iff.1 hb).1).trans hb⟩ ⟨⟨⟨v, bO1.alloc _, hrow.alloc _, ht⟩, bR11.alloc _, bR21.alloc _⟩, hz, hB1.alloc hB1.size _⟩ ⟨W.heap.size, bO1.lt, World.alloc_heap_new W _, rfl⟩
  case body =>
    rintro l pre x a' W hl0 ⟨r, hr⟩ ⟨⟨⟨v, bO1, hrow, ht⟩, bR11, bR21⟩, hz, hB1⟩ ⟨Bx, hBx, bX, rfl⟩ hlt
    have hsW := hB1.size
    have hlW : W0.heap.size ≤ W.heap.size := Nat.le_trans hl0 (Nat.le_of_lt (Array.getElem?_eq_some_iff.1 hr).1)
    clear hr
    have cO := bO1.cell
    have fO := bO1.frozen
    have cX0 : W.cell? ⟨Bx, 0, none⟩ = some (.int .i64 x.tag) := by simp [World.cell?, bX]
    have cX1 : W.cell? ⟨Bx, 1, none⟩ = some (.string x.d) := by simp [World.cell?, bX]
    have c1 := bR11.cell
    have f1 := bR11.frozen
    have c2 := bR21.cell
    have f2 := bR21.frozen
    by_cases he : x.e = 0
    · have HE : Hid (x.e = 0) := he
      have he' : (x.e != 0) = false := by rw [he]; rfl
      clear he
      have hd := x.ok HE.out
      have hol := outB_length pre hz
      gi_wp2
      refine ⟨trivial, fun h => (by cases h), ?_⟩
      refine (CallsIn.inRound l (callsIn_wide.2 (appendField_int v (outB pre) W0.heap.size x.tag x.d W hd (by omega) (by omega) hrow))).mono ?_
      rintro e W1 ⟨v', rfl, hown', hb', hs'⟩
      rw [← outB_snoc] at hown'
      have hs1 : W.heap.size ≤ W1.heap.size := hb'.size
      have bO2 : Boxed W1 (w.heap.size + 1 + 1) 61 v := spares_box hs' (by decide) bO1
      have cO2 := bO2.cell
      have fO2 := bO2.frozen
      obtain ⟨a', n', c', hv'⟩ : ∃ a' n' c', v' = .slice a' n' c' := by
        rcases hown'.2 with ⟨h, _⟩ | ⟨g, cp, _, h, _⟩
        · exact ⟨_, _, _, h⟩
        · exact ⟨_, _, _, h⟩
      have hne : ∀ (b : Nat) (c : Array Value) (m : Nat × Nat), W.heap[b]? = some (Obj.cells c 85 m) → b ≠ w.heap.size + 1 + 1 := by
        intro b c m hb e
        subst e
        rw [show W.heap[w.heap.size + 1 + 1]? = _ from bO1] at hb
        cases hb
      have FIN : Hid (KeepsFrom W0.heap.size W (W1.setCell ⟨w.heap.size + 1 + 1, 0, none⟩ v') ∧ KpJ w.heap.size W (W1.setCell ⟨w.heap.size + 1 + 1, 0, none⟩ v') ∧
          (((∃ v, Boxed (W1.setCell ⟨w.heap.size + 1 + 1, 0, none⟩ v') (w.heap.size + 1 + 1) 61 v ∧ (W1.setCell ⟨w.heap.size + 1 + 1, 0, none⟩ v').ownsRow W0.heap.size 5 1 v (outB (pre ++ [x])).length (cellsOf (outB (pre ++ [x]))) ∧ True) ∧
            (Boxed (W1.setCell ⟨w.heap.size + 1 + 1, 0, none⟩ v') w.heap.size 61 (.slice none 0 0) ∧ Boxed (W1.setCell ⟨w.heap.size + 1 + 1, 0, none⟩ v') (w.heap.size + 1) 44 (.int .i64 0))) ∧
          ((∀ y ∈ pre ++ [x], y.e = 0) ∧ Below w.heap.size w (W1.setCell ⟨w.heap.size + 1 + 1, 0, none⟩ v')))) := by
        refine ⟨((spares_others hs' hs1).trans (KeepsOthers.setCell _ _ _)).from _, ⟨(hb'.mono (by omega)).setCell (p := ⟨w.heap.size + 1 + 1, 0, none⟩) (by show w.heap.size ≤ w.heap.size + 1 + 1; omega) _, fun b c m hb => set_other (spares_box hs' (by decide) hb) (hne b c m hb) _⟩,
          ⟨⟨⟨v', bO2.set _, ?_, trivial⟩, set_other (spares_box hs' (by decide) bR11) (by omega) _, set_other (spares_box hs' (by decide) bR21) (by omega) _⟩, ?_, (hB1.trans (hb'.mono (by omega))).setCell (p := ⟨w.heap.size + 1 + 1, 0, none⟩) (by show w.heap.size ≤ w.heap.size + 1 + 1; omega) _⟩⟩
        · refine hown'.kept (grownBy_setCell' W1 _ v') ?_
          rcases hown'.2 with ⟨h, _⟩ | ⟨g, cp, _, h, hg, _⟩
          · left; rw [h]; rfl
          · right; rw [h]; intro e; simp [Value.ownBlock] at e; omega
        · intro y hy
          rcases List.mem_append.1 hy with h | h
          · exact hz y h
          · simp at h; subst h; exact HE.out
      subst hv'
      clear hown' hrow hs' hb'
      gi_wp2
      exact FIN.out
    · have HE : Hid (x.e ≠ 0) := he
      have he' : (x.e != 0) = true := by simpa using he
      clear he
      have FIN : Hid (KeepsFrom W0.heap.size W ((W.setCell ⟨w.heap.size, 0, none⟩ (.slice none 0 0)).setCell ⟨w.heap.size + 1, 0, none⟩ (.int .i64 x.e)) ∧
          ((∃ pre' x', pre ++ [x] = pre' ++ [x'] ∧ (∀ y ∈ pre', y.e = 0) ∧ x'.e ≠ 0 ∧ Boxed ((W.setCell ⟨w.heap.size, 0, none⟩ (.slice none 0 0)).setCell ⟨w.heap.size + 1, 0, none⟩ (.int .i64 x.e)) w.heap.size 61 (.slice none 0 0) ∧
            Boxed ((W.setCell ⟨w.heap.size, 0, none⟩ (.slice none 0 0)).setCell ⟨w.heap.size + 1, 0, none⟩ (.int .i64 x.e)) (w.heap.size + 1) 44 (.int .i64 x'.e)) ∧ Below w.heap.size w ((W.setCell ⟨w.heap.size, 0, none⟩ (.slice none 0 0)).setCell ⟨w.heap.size + 1, 0, none⟩ (.int .i64 x.e)))) :=
        ⟨((KeepsOthers.setCell _ _ _).trans (KeepsOthers.setCell _ _ _)).from _, ⟨pre, x, rfl, hz, HE.out, set_other (bR11.set _) (by omega) _, Boxed.set _ (show Boxed _ _ _ _ from set_other bR21 (by omega) _)⟩,
          (hB1.setCell (p := ⟨w.heap.size, 0, none⟩) (Nat.le_refl _) _).setCell (p := ⟨w.heap.size + 1, 0, none⟩) (by show w.heap.size ≤ w.heap.size + 1; omega) _⟩
      gi_wp2
      exact ⟨FIN.out.1, ⟨rfl, FIN.out.2.1⟩, FIN.out.2.2⟩
  case done =>
    rintro D ys W hD rfl ⟨⟨⟨v, bO1, hrow, ht⟩, bR11, bR21⟩, hz, hB1⟩ hK
    obtain ⟨a', n', c', hv'⟩ : ∃ a' n' c', v = .slice a' n' c' := by
      rcases hrow.2 with ⟨h, _⟩ | ⟨g, cp, _, h, _⟩
      · exact ⟨_, _, _, h⟩
      · exact ⟨_, _, _, h⟩
    subst hv'
    have cO := bO1.cell
    have c1 := bR11.cell
    have f1 := bR11.frozen
    have c2 := bR21.cell
    have f2 := bR21.frozen
    have HRW : Hid (W.ownsRow W0.heap.size 5 1 (.slice a' n' c') (outB (judge 0 fs)).length (cellsOf (outB (judge 0 fs)))) := hrow
    clear hrow
    gi_wp2
    have hK' := ((KeepsOthers.setCell W ⟨w.heap.size, 0, none⟩ (.slice a' n' c')).trans (KeepsOthers.setCell _ ⟨w.heap.size + 1, 0, none⟩ (.int .i64 0))).same D _ hK rfl
    refine ⟨by simp, .inl ⟨_, _, rfl, run_takeDeferred hK', ?_⟩⟩
    have b1 : Boxed ((W.setCell ⟨w.heap.size, 0, none⟩ (.slice a' n' c')).setCell ⟨w.heap.size + 1, 0, none⟩ (.int .i64 0)) w.heap.size 61 (.slice a' n' c') := set_other (bR11.set _) (by omega) _
    have b2 : Boxed ((W.setCell ⟨w.heap.size, 0, none⟩ (.slice a' n' c')).setCell ⟨w.heap.size + 1, 0, none⟩ (.int .i64 0)) (w.heap.size + 1) 44 (.int .i64 0) := Boxed.set _ (show Boxed _ _ _ _ from set_other bR21 (by omega) _)
    have q1 := cell_kept b1.cell (grownBy_putObj' _ D (.deferred none)) (fun r e => by cases e; exact ⟨_, hK', rfl⟩)
    have q2 := cell_kept b2.cell (grownBy_putObj' _ D (.deferred none)) (fun r e => by cases e; exact ⟨_, hK', rfl⟩)
    have hoff : ∀ B', B' < W0.heap.size → Value.ownBlock (.slice a' n' c') ≠ some B' := by
      intro B' hlt e
      have := (HRW.out.lt B' e).1
      omega
    have hrow2 := (HRW.out.kept (grownBy_setCell' W w.heap.size (.slice a' n' c')) (.inr (hoff _ (by omega)))).kept (grownBy_setCell' _ (w.heap.size + 1) (.int .i64 0)) (.inr (hoff _ (by omega)))
    refine ⟨.tuple #[.slice a' n' c', .int .i64 0], ?_, .inl ⟨hz, _, rfl, own_lower (ownsRow_putObj hrow2 _ hK' rfl) (by omega), ((hB1.setCell (p := ⟨w.heap.size, 0, none⟩) (Nat.le_refl _) _).setCell (p := ⟨w.heap.size + 1, 0, none⟩) (by show w.heap.size ≤ w.heap.size + 1; omega) _).trans (belowK_b (w := w) (Nat.le_refl _) _ D _ _ (by omega) hK' rfl rfl)⟩⟩
    simp [results, Try.f46, go_sem, q1, q2]
  case stop =>
    rintro D c pre W hD hpre ⟨⟨rfl, pre', x, rfl, hz, hx, bR11, bR21⟩, hB1⟩ hK
    gi_wp2
    refine ⟨by simp, .inl ⟨_, _, rfl, run_takeDeferred hK, ?_⟩⟩
    have q1 := cell_kept bR11.cell (grownBy_putObj' _ D (.deferred none)) (fun r e => by cases e; exact ⟨_, hK, rfl⟩)
    have q2 := cell_kept bR21.cell (grownBy_putObj' _ D (.deferred none)) (fun r e => by cases e; exact ⟨_, hK, rfl⟩)
    refine ⟨.tuple #[.slice none 0 0, .int .i64 x.e], ?_, .inr ⟨pre', x, hpre, hz, hx, rfl, hB1.trans (belowK_b (w := w) (Nat.le_refl _) W D _ _ (by omega) hK rfl rfl)⟩⟩
    simp [results, Try.f46, go_sem, q1, q2]
end Go.Proofs.Ytjpmmbmhkpgjcaa

/- What pack.Read answers: the row of fields that bytes are made of, or what is wrong first. -/
namespace Go.Proofs.Ytjpmmbmhkpgjcaa
open Go.RowKit Go.Shelf Nums
set_option maxRecDepth 100000

attribute [local go_sem] Oper.semAt_some
theorem info37 : (Try.prog.info? 85).map (fun i => (i.zero, i.size, i.bytes)) = some (some (.agg #[.int .i64 0, .string ⟨#[]⟩]), 2, 24) := by kernel_rfl
/-- Every field's block lies as it lay. -/
def Keep2 (W W' : World) : Prop := ∀ (b : Nat) (x y : Value) (m : Nat × Nat), W.heap[b]? = some (Obj.cells #[x, y] 85 m) → W'.heap[b]? = some (Obj.cells #[x, y] 85 m)
theorem Keep2.trans {A B C : World} (h : Keep2 A B) (k : Keep2 B C) : Keep2 A C := fun b x y m hb => k b x y m (h b x y m hb)
theorem Keep2.below {A B : World} (h : Below A.heap.size A B) : Keep2 A B := fun b _ _ _ hb => (h.block b (Array.getElem?_eq_some_iff.1 hb).1).trans hb
theorem Keep2.none {A B : World} (h : A.grownBy B none) : Keep2 A B := fun b _ _ _ hb => (h.block b (Array.getElem?_eq_some_iff.1 hb).1 (by simp)).trans hb
theorem run_append_field (W : World) (B : Nat) (v : Value) (fs : List (Int × ByteArray)) (f : Int × ByteArray) (hown : W.ownsRow B 85 2 v fs.length (fcells fs)) (hnil : v = .slice none 0 0 ↔ fs = []) (hB : B ≤ W.heap.size) (hl : fs.length ≤ 1048576) :
    ∃ v' w1, (Builtin.append_ #[88, 88] 88 #[v, .slice (some ⟨W.heap.size, 0, none⟩) 1 1]).run Try.prog (W.alloc (.cells #[.int .i64 f.1, .string f.2] 85)) = .ok v' w1 ∧
      w1.ownsRow B 85 2 v' (fs.length + 1) (fcells (fs ++ [f])) ∧ Below B W w1 ∧ Spares 85 W w1 ∧ Keep2 W w1 := by
  obtain ⟨i0, hi, hz0, hz1, hz2⟩ := info_parts info37
  have hb0 : Below W.heap.size W (W.alloc (.cells #[.int .i64 f.1, .string f.2] 85)) := (Below.refl _ _).alloc (Nat.le_refl _) _
  have hn : ∀ (j : Nat) (u : Value), (fcells [f])[j]? = some u → (W.alloc (.cells #[.int .i64 f.1, .string f.2] 85)).cell? ((⟨W.heap.size, 0, none⟩ : Addr).add j) = some u := by
    intro j u hj
    rw [add_plain]
    match j, hj with
    | 0, hj => simp [fcells] at hj; subst hj; simp
    | 1, hj => simp [fcells] at hj; subst hj; simp
    | j + 2, hj => simp [fcells] at hj
  have h1 : ∀ u ∈ fcells [f], u.oneCell' = true := by
    intro u hu
    simp [fcells] at hu
    rcases hu with rfl | rfl <;> rfl
  have hown1 := hown.alloc (.cells #[.int .i64 f.1, .string f.2] 85)
  have hsz : (W.alloc (.cells #[.int .i64 f.1, .string f.2] 85)).heap.size = W.heap.size + 1 := by simp
  rcases hown.2 with ⟨hv, h0⟩ | ⟨g, cap, cur, hv, hbg, hgb, hnc, hcm, hcs, htk⟩
  · obtain ⟨v', w1, hr, ho, hg, _⟩ := run_append_own (P := Try.prog) _ B 88 88 85 i0 (.agg #[.int .i64 0, .string ⟨#[]⟩]) 2 24 Try.underlying88 hi hz0 hz1 hz2 rfl (by decide) v fs.length _ hown1 ⟨W.heap.size, 0, none⟩ 1 1 (fcells [f]) (by simp [fcells]) hn h1 (by unfold maxLen; omega) (by omega) (by rw [hsz]; omega)
    rw [hv] at hg
    refine ⟨v', w1, hr, by rw [fcells_append]; exact ho, (hb0.mono hB).grown hg (by rw [hsz]; omega) (by intro k hk; cases hk), (Spares.alloc 85 W (.cells #[.int .i64 f.1, .string f.2] 85)).trans ?_, (Keep2.below hb0).trans (Keep2.none hg)⟩
    exact Spares.grown (v := .slice none 0 0) (by rw [← hv]; exact hown1) hg
  · have hfs : fs.length ≠ 0 := by
      intro e
      have : fs = [] := List.eq_nil_of_length_eq_zero e
      have := hnil.2 this
      rw [hv] at this; cases this
    by_cases hroom : fs.length + 1 ≤ cap
    · rw [hv] at hown1 ⊢
      obtain ⟨w1, hr, ho, hg⟩ := run_append_fits (P := Try.prog) _ B 88 88 85 i0 2 Try.underlying88 hi hz1 g fs.length cap _ hown1 ⟨W.heap.size, 0, none⟩ 1 1 (fcells [f]) (by simp [fcells]) hn h1 hroom
      refine ⟨_, w1, hr, by rw [fcells_append]; exact ho, (hb0.mono hB).grown hg (by rw [hsz]; omega) (by intro k hk; cases hk; exact hbg), (Spares.alloc 85 W (.cells #[.int .i64 f.1, .string f.2] 85)).trans (Spares.grown hown1 hg), (Keep2.below hb0).trans ?_⟩
      intro b x y m hb
      refine (hg.block b (Array.getElem?_eq_some_iff.1 hb).1 ?_).trans hb
      intro e
      cases e
      have hgb' : (W.alloc (.cells #[.int .i64 f.1, .string f.2] 85)).heap[g]? = some (.cells cur 85 (0, 0)) := (hb0.block g (Array.getElem?_eq_some_iff.1 hgb).1).trans hgb
      rw [hgb'] at hb
      cases hb
      simp at hcs
      omega
    · rw [hv]
      have hcells : ∀ (j : Nat) (u : Value), (fcells fs)[j]? = some u → (W.alloc (.cells #[.int .i64 f.1, .string f.2] 85)).cell? ((⟨g, 0, none⟩ : Addr).add j) = some u := hown1.cells (g := g) (by rw [hv]; rfl)
      obtain ⟨v', w1, hr, ho, hg⟩ := run_append_arg_grows (P := Try.prog) _ 88 88 85 i0 (.agg #[.int .i64 0, .string ⟨#[]⟩]) 2 24 Try.underlying88 hi hz0 hz1 hz2 rfl (by decide) ⟨g, 0, none⟩ fs.length cap (fcells fs) (fcells_length fs) hcells ⟨W.heap.size, 0, none⟩ 1 1 (fcells [f]) (by simp [fcells]) hn (by omega) (by unfold maxLen; omega) (by omega)
      refine ⟨v', w1, hr, by rw [fcells_append]; exact own_lower ho (by rw [hsz]; omega), (hb0.mono hB).grown hg (by rw [hsz]; omega) (by intro k hk; cases hk), (Spares.alloc 85 W (.cells #[.int .i64 f.1, .string f.2] 85)).trans ?_, (Keep2.below hb0).trans (Keep2.none hg)⟩
      intro i o hi2 _
      exact (hg.block i (Array.getElem?_eq_some_iff.1 hi2).1 (by simp)).trans hi2
theorem wpListIn_append_run {F : Fence} {n : Nat} {P : Program} {w : World} {ops : Array Oper} {rest : List Oper} {o : Oper} {a : Act} {Q : Exit → Act → World → Prop}
    (hg : o.guard = none) (s x : Operand) (t u : TypeId) (hop : o.op = Op.call { callee := Callee.builtin Builtin.append, args := #[s, x], argTypes := #[t, u] })
    (vs vx v' : Value) (w' : World) (hs : a.eval s = vs) (hx : a.eval x = vx) (hrun : (Builtin.append_ #[t, u] o.type #[vs, vx]).run P w = .ok v' w')
    (hK : wpListIn F n P ops Q rest (a.put o.dst v') w') : wpListIn F n P ops Q (o :: rest) a w := by
  refine wpListIn_plain hg fun K hK' => ?_
  unfold Oper.wpIn
  refine ⟨?_, ?_⟩
  · simp [Oper.about, hop, resolve, Target.leads, Sem.run_pure]
  · rw [Oper.semAt_plain F _ _ (by rw [hop]; intro c hc'; cases hc')]
    simp [execOp, hop, resolve, invoke, builtin, hs, hx, hrun, Result.andThen]
    exact hK' _ _ hK
theorem spares_boxT {T : TypeId} {w w' : World} (h : Spares T w w') {b : Nat} {c : Array Value} {t : TypeId} {m : Nat × Nat} (ht : t ≠ T) (hb : w.heap[b]? = some (.cells c t m)) : w'.heap[b]? = some (.cells c t m) :=
  h b _ hb (fun c' m' e => by cases e; exact ht rfl)
theorem spares_othersT {T : TypeId} {w w' : World} (h : Spares T w w') (hs : w.heap.size ≤ w'.heap.size) : KeepsOthers w w' := ⟨hs, fun k o hk ho => h k o hk (fun c m e => by subst e; cases ho)⟩
set_option maxRecDepth 100000 in
set_option maxHeartbeats 4000000 in
theorem read_in (n : Nat) (hn : 3 ≤ n) (a : Option Addr) (len cap : Nat) (bs : List UInt8) (w : World) (hR : Reads w a len cap bs) (hl : len ≤ 1000000) :
    CallsIn Fence.wide n Try.prog 112 #[.slice a len cap] w fun e W' =>
      ((∀ x ∈ parse (len + 1) 0 bs, x.e = 0) ∧ ∃ v, e = .returned (.tuple #[v, .int .i64 0]) ∧ W'.ownsRow w.heap.size 85 2 v (toF (parse (len + 1) 0 bs)).length (fcells (toF (parse (len + 1) 0 bs))) ∧ Below w.heap.size w W') ∨
      (∃ pre x, (pre ++ [x]) <+: parse (len + 1) 0 bs ∧ (∀ y ∈ pre, y.e = 0) ∧ x.e ≠ 0 ∧ e = .returned (.tuple #[.slice none 0 0, .int .i64 x.e]) ∧ Below w.heap.size w W') := by
  have h1 : 1 ≤ n := by omega
  refine callsIn_of_wp_marks Try.func112 rfl trivial ?_ rfl
  simp only [Try.ntmps112, List.size_toArray, List.length_cons, List.length_nil, Nat.reduceAdd, Nat.reduceSub, Array.replicate_succ, Array.replicate_zero, List.push_toArray, List.append_toArray, List.nil_append, List.cons_append]
  gi_wp2_with (refine ⟨trivial, ?_⟩; gi_at_call 127; refine (parsed_in (n - 1) _ _ _ _).mono ?_; rintro e w' ⟨rfl, rfl⟩)
  have bR1 := (((Boxed.new w 88 (.slice none 0 0)).alloc (.cells #[.int .i64 0] 44)).alloc (.cells #[.slice none 0 0] 88)).alloc (.cells #[.slice a len cap] 61)
  have bR2 := ((Boxed.new (w.alloc (.cells #[.slice none 0 0] 88)) 44 (.int .i64 0)).alloc (.cells #[.slice none 0 0] 88)).alloc (.cells #[.slice a len cap] 61)
  have bO := (Boxed.new ((w.alloc (.cells #[.slice none 0 0] 88)).alloc (.cells #[.int .i64 0] 44)) 88 (.slice none 0 0)).alloc (.cells #[.slice a len cap] 61)
  have bA := Boxed.new (((w.alloc (.cells #[.slice none 0 0] 88)).alloc (.cells #[.int .i64 0] 44)).alloc (.cells #[.slice none 0 0] 88)) 61 (.slice a len cap)
  simp only [World.size_alloc] at bR2 bO bA
  have hB0 : Below w.heap.size w ((((w.alloc (.cells #[.slice none 0 0] 88)).alloc (.cells #[.int .i64 0] 44)).alloc (.cells #[.slice none 0 0] 88)).alloc (.cells #[.slice a len cap] 61)) :=
    ((((Below.refl _ w).alloc (Nat.le_refl _) _).alloc (by simp) _).alloc (by simp; omega) _).alloc (by simp; omega) _
  have hsz : ((((w.alloc (.cells #[.slice none 0 0] 88)).alloc (.cells #[.int .i64 0] 44)).alloc (.cells #[.slice none 0 0] 88)).alloc (.cells #[.slice a len cap] 61)).heap.size = w.heap.size + 4 := by simp
  obtain ⟨W0, hW0⟩ : ∃ W0, (((w.alloc (.cells #[.slice none 0 0] 88)).alloc (.cells #[.int .i64 0] 44)).alloc (.cells #[.slice none 0 0] 88)).alloc (.cells #[.slice a len cap] 61) = W0 := ⟨_, rfl⟩
  rw [hW0] at bR1 bR2 bO bA hB0 hsz ⊢
  clear hW0
  have hge : w.heap.size + 4 ≤ W0.heap.size := Nat.le_of_eq hsz.symm
  clear hsz
  refine wpIn_rangeFunc_ownH rfl h1 (gf := 138) (lb := #[.pointer (some ⟨w.heap.size + 1 + 1 + 1, 0, none⟩)]) rfl trivial (enters_of Try.func138 (by kernel_rfl) rfl)
    (parsed_stops (n - 1) (by omega) (w.heap.size + 1 + 1 + 1) w.heap.size a len cap bs W0 (by omega) (by omega) bA.cell (PReads.below hB0 hR.lreads)) kpP_t (kpP_b (by omega)) (Below.refl _ _) (fun _ => rfl)
    (fun pre W => ((∃ v, Boxed W (w.heap.size + 1 + 1) 88 v ∧ W.ownsRow W0.heap.size 85 2 v (toF pre).length (fcells (toF pre)) ∧ (v = .slice none 0 0 ↔ toF pre = [])) ∧ (Boxed W w.heap.size 88 (.slice none 0 0) ∧ Boxed W (w.heap.size + 1) 44 (.int .i64 0))) ∧ ((∀ x ∈ pre, x.e = 0) ∧ Below w.heap.size w W))
    (fun c pre W => (c = .ret ∧ ∃ pre' x, pre = pre' ++ [x] ∧ (∀ y ∈ pre', y.e = 0) ∧ x.e ≠ 0 ∧ Boxed W w.heap.size 88 (.slice none 0 0) ∧ Boxed W (w.heap.size + 1) 44 (.int .i64 x.e)) ∧ Below w.heap.size w W)
    (OwnFrom.and (OwnFrom.and (Own.from (holdsRow_own W0.heap.size (w.heap.size + 1 + 1) 88 85 2 (fun pre => (toF pre).length) (fun pre => fcells (toF pre)) (fun pre v => v = .slice none 0 0 ↔ toF pre = [])) _) (OwnFrom.and (Own.from (boxed_own _ _ _) _) (Own.from (boxed_own _ _ _) _))) (OwnFrom.and (ownFrom_pure _ _) (ownFrom_below (Nat.le_refl _) (by omega))))
    (fun c => OwnFrom.and (fun s X Y row hs hg hr => by
      obtain ⟨hc, pre', x, e1, e2, e3, b1, b2⟩ := hs
      exact ⟨hc, pre', x, e1, e2, e3, cells_stay b1 hg (fun r e => (hr r e).2), cells_stay b2 hg (fun r e => (hr r e).2)⟩) (ownFrom_below (Nat.le_refl _) (by omega)))
    ⟨⟨⟨_, bO, World.ownsRow_nil _ _ _ _, by simp [toF]⟩, bR1, bR2⟩, by simp, hB0⟩
    (fun x a' W => ∃ Bx, w.heap.size + 1 + 1 < Bx ∧ W.heap[Bx]? = some (.cells #[.int .i64 x.tag, .string ⟨x.d.toArray⟩] 85 (0, 0)) ∧ a' = { tmps := #[.slice a len cap, undef, .pointer (some ⟨w.heap.size, 0, none⟩), .pointer (some ⟨w.heap.size + 1, 0, none⟩), .pointer (some ⟨w.heap.size + 1 + 1, 0, none⟩), .pointer (some ⟨Bx, 0, none⟩), .int .i64 x.e, .slice a len cap, .func (.func 138) #[] #[.pointer (some ⟨w.heap.size + 1 + 1 + 1, 0, none⟩)], .agg #[.int .i64 x.tag, .string ⟨x.d.toArray⟩], .int .i64 x.e, undef, undef, undef, undef, undef, undef, undef, undef], defers := [] })
    (fun x a' _ X Y row hs hg hr => by obtain ⟨Bx, h1, h2, h3⟩ := hs; exact ⟨Bx, h1, cells_stay h2 hg (fun r e => (hr r e).2), h3⟩)
    ?assign ?body ?done ?stop
  case assign =>
    rintro l pre x W K ⟨⟨⟨v, bO1, hrow, ht⟩, bR11, bR21⟩, hz, hB1⟩ hK
    dsimp only [encP]
    gi_wp2
    refine hK _ _ ((KeepsOthers.alloc _ _).from _) ⟨(Below.refl _ W).alloc hB1.size _, fun b c _ m hb => (Below.heap_alloc W _ b (Array.getElem?_eq_some_iff.1 hb).1).trans hb⟩ ⟨⟨⟨v, bO1.alloc _, hrow.alloc _, ht⟩, bR11.alloc _, bR21.alloc _⟩, hz, hB1.alloc hB1.size _⟩ ⟨W.heap.size, bO1.lt, World.alloc_heap_new W _, rfl⟩
  case body =>
    rintro l pre x a' W hl0 ⟨r, hr⟩ ⟨⟨⟨v, bO1, hrow, ht⟩, bR11, bR21⟩, hz, hB1⟩ ⟨Bx, hBx, bX, rfl⟩ hlt
    have hsW := hB1.size
    have hlW : W0.heap.size ≤ W.heap.size := Nat.le_trans hl0 (Nat.le_of_lt (Array.getElem?_eq_some_iff.1 hr).1)
    clear hr
    have cO := bO1.cell
    have fO := bO1.frozen
    have cX0 : W.cell? ⟨Bx, 0, none⟩ = some (.int .i64 x.tag) := by simp [World.cell?, bX]
    have cX1 : W.cell? ⟨Bx, 1, none⟩ = some (.string ⟨x.d.toArray⟩) := by simp [World.cell?, bX]
    have c1 := bR11.cell
    have f1 := bR11.frozen
    have c2 := bR21.cell
    have f2 := bR21.frozen
    by_cases he : x.e = 0
    · have HE : Hid (x.e = 0) := he
      have he' : ((x.e : Int) != 0) = false := by rw [he]; rfl
      clear he
      obtain ⟨v', W1, hrun, hown', hb', hs', hk'⟩ := run_append_field W W0.heap.size v (toF pre) ((x.tag : Int), ⟨x.d.toArray⟩) hrow ht hlW (by rw [toF_length]; omega)
      have HRUN : Hid _ := hrun
      clear hrun
      rw [← toF_snoc] at hown'
      have hl1 : (toF pre).length + 1 = (toF (pre ++ [x])).length := by rw [toF_length, toF_length, List.length_append]; rfl
      rw [hl1] at hown'
      have hs1 : W.heap.size ≤ W1.heap.size := hb'.size
      have bO2 : Boxed W1 (w.heap.size + 1 + 1) 88 v := spares_boxT hs' (by decide) bO1
      have cO2 := bO2.cell
      have fO2 := bO2.frozen
      have hpos : (toF (pre ++ [x])).length ≠ 0 := by rw [toF_length, List.length_append]; simp
      obtain ⟨a', n', c', hv'⟩ : ∃ a' n' c', v' = .slice (some a') n' c' := by
        rcases hown'.2 with ⟨_, h⟩ | ⟨g, cp, _, h, _⟩
        · exact absurd h hpos
        · exact ⟨_, _, _, h⟩
      have hne : ∀ (b : Nat) (c d : Value) (m : Nat × Nat), W.heap[b]? = some (Obj.cells #[c, d] 85 m) → b ≠ w.heap.size + 1 + 1 := by
        intro b c d m hb e
        subst e
        rw [show W.heap[w.heap.size + 1 + 1]? = _ from bO1] at hb
        cases hb
      have FIN : Hid (KeepsFrom W0.heap.size W (W1.setCell ⟨w.heap.size + 1 + 1, 0, none⟩ v') ∧ KpP w.heap.size W (W1.setCell ⟨w.heap.size + 1 + 1, 0, none⟩ v') ∧
          (((∃ v, Boxed (W1.setCell ⟨w.heap.size + 1 + 1, 0, none⟩ v') (w.heap.size + 1 + 1) 88 v ∧ (W1.setCell ⟨w.heap.size + 1 + 1, 0, none⟩ v').ownsRow W0.heap.size 85 2 v (toF (pre ++ [x])).length (fcells (toF (pre ++ [x]))) ∧ (v = .slice none 0 0 ↔ toF (pre ++ [x]) = [])) ∧
            (Boxed (W1.setCell ⟨w.heap.size + 1 + 1, 0, none⟩ v') w.heap.size 88 (.slice none 0 0) ∧ Boxed (W1.setCell ⟨w.heap.size + 1 + 1, 0, none⟩ v') (w.heap.size + 1) 44 (.int .i64 0))) ∧
          ((∀ y ∈ pre ++ [x], y.e = 0) ∧ Below w.heap.size w (W1.setCell ⟨w.heap.size + 1 + 1, 0, none⟩ v')))) := by
        refine ⟨((spares_othersT hs' hs1).trans (KeepsOthers.setCell _ _ _)).from _, ⟨(hb'.mono (by omega)).setCell (p := ⟨w.heap.size + 1 + 1, 0, none⟩) (by show w.heap.size ≤ w.heap.size + 1 + 1; omega) _, fun b c d m hb => set_other (hk' b c d m hb) (hne b c d m hb) _⟩,
          ⟨⟨⟨v', bO2.set _, ?_, ?_⟩, set_other (spares_boxT hs' (by decide) bR11) (by omega) _, set_other (spares_boxT hs' (by decide) bR21) (by omega) _⟩, ?_, (hB1.trans (hb'.mono (by omega))).setCell (p := ⟨w.heap.size + 1 + 1, 0, none⟩) (by show w.heap.size ≤ w.heap.size + 1 + 1; omega) _⟩⟩
        · refine hown'.kept (grownBy_setCell' W1 _ v') ?_
          rcases hown'.2 with ⟨h, _⟩ | ⟨g, cp, _, h, hg, _⟩
          · left; rw [h]; rfl
          · right; rw [h]; intro e; simp [Value.ownBlock] at e; omega
        · rw [hv']
          constructor
          · intro h; cases h
          · intro h; rw [h] at hpos; exact absurd rfl hpos
        · intro y hy
          rcases List.mem_append.1 hy with h | h
          · exact hz y h
          · simp at h; subst h; exact HE.out
      subst hv'
      clear hown' hrow hs' hb' hk' ht hl1 hpos
      gi_wp2_with (first
        | (gi_at_builtin; refine wpListIn_append_run (by rfl) (.tmp 14) (.tmp 16) 88 88 (by rfl) _ _ _ _ (by rfl) (by rfl) HRUN.out ?_)
        | fail)
      exact FIN.out
    · have HE : Hid (x.e ≠ 0) := he
      have he' : ((x.e : Int) != 0) = true := by simpa using he
      clear he
      have FIN : Hid (KeepsFrom W0.heap.size W ((W.setCell ⟨w.heap.size, 0, none⟩ (.slice none 0 0)).setCell ⟨w.heap.size + 1, 0, none⟩ (.int .i64 x.e)) ∧
          ((∃ pre' x', pre ++ [x] = pre' ++ [x'] ∧ (∀ y ∈ pre', y.e = 0) ∧ x'.e ≠ 0 ∧ Boxed ((W.setCell ⟨w.heap.size, 0, none⟩ (.slice none 0 0)).setCell ⟨w.heap.size + 1, 0, none⟩ (.int .i64 x.e)) w.heap.size 88 (.slice none 0 0) ∧
            Boxed ((W.setCell ⟨w.heap.size, 0, none⟩ (.slice none 0 0)).setCell ⟨w.heap.size + 1, 0, none⟩ (.int .i64 x.e)) (w.heap.size + 1) 44 (.int .i64 x'.e)) ∧ Below w.heap.size w ((W.setCell ⟨w.heap.size, 0, none⟩ (.slice none 0 0)).setCell ⟨w.heap.size + 1, 0, none⟩ (.int .i64 x.e)))) :=
        ⟨((KeepsOthers.setCell _ _ _).trans (KeepsOthers.setCell _ _ _)).from _, ⟨pre, x, rfl, hz, HE.out, set_other (bR11.set _) (by omega) _, Boxed.set _ (show Boxed _ _ _ _ from set_other bR21 (by omega) _)⟩,
          (hB1.setCell (p := ⟨w.heap.size, 0, none⟩) (Nat.le_refl _) _).setCell (p := ⟨w.heap.size + 1, 0, none⟩) (by show w.heap.size ≤ w.heap.size + 1; omega) _⟩
      gi_wp2
      exact ⟨FIN.out.1, ⟨rfl, FIN.out.2.1⟩, FIN.out.2.2⟩
  case done =>
    rintro D ys W hD rfl ⟨⟨⟨v, bO1, hrow, ht⟩, bR11, bR21⟩, hz, hB1⟩ hK
    obtain ⟨a', n', c', hv'⟩ : ∃ a' n' c', v = .slice a' n' c' := by
      rcases hrow.2 with ⟨h, _⟩ | ⟨g, cp, _, h, _⟩
      · exact ⟨_, _, _, h⟩
      · exact ⟨_, _, _, h⟩
    subst hv'
    have cO := bO1.cell
    have c1 := bR11.cell
    have f1 := bR11.frozen
    have c2 := bR21.cell
    have f2 := bR21.frozen
    have HRW : Hid (W.ownsRow W0.heap.size 85 2 (.slice a' n' c') (toF (parse (len + 1) 0 bs)).length (fcells (toF (parse (len + 1) 0 bs)))) := hrow
    clear hrow
    gi_wp2
    have hK' := ((KeepsOthers.setCell W ⟨w.heap.size, 0, none⟩ (.slice a' n' c')).trans (KeepsOthers.setCell _ ⟨w.heap.size + 1, 0, none⟩ (.int .i64 0))).same D _ hK rfl
    refine ⟨by simp, .inl ⟨_, _, rfl, run_takeDeferred hK', ?_⟩⟩
    have b1 : Boxed ((W.setCell ⟨w.heap.size, 0, none⟩ (.slice a' n' c')).setCell ⟨w.heap.size + 1, 0, none⟩ (.int .i64 0)) w.heap.size 88 (.slice a' n' c') := set_other (bR11.set _) (by omega) _
    have b2 : Boxed ((W.setCell ⟨w.heap.size, 0, none⟩ (.slice a' n' c')).setCell ⟨w.heap.size + 1, 0, none⟩ (.int .i64 0)) (w.heap.size + 1) 44 (.int .i64 0) := Boxed.set _ (show Boxed _ _ _ _ from set_other bR21 (by omega) _)
    have q1 := cell_kept b1.cell (grownBy_putObj' _ D (.deferred none)) (fun r e => by cases e; exact ⟨_, hK', rfl⟩)
    have q2 := cell_kept b2.cell (grownBy_putObj' _ D (.deferred none)) (fun r e => by cases e; exact ⟨_, hK', rfl⟩)
    have hoff : ∀ B', B' < W0.heap.size → Value.ownBlock (.slice a' n' c') ≠ some B' := by
      intro B' hlt e
      have := (HRW.out.lt B' e).1
      omega
    have hrow2 := (HRW.out.kept (grownBy_setCell' W w.heap.size (.slice a' n' c')) (.inr (hoff _ (by omega)))).kept (grownBy_setCell' _ (w.heap.size + 1) (.int .i64 0)) (.inr (hoff _ (by omega)))
    refine ⟨.tuple #[.slice a' n' c', .int .i64 0], ?_, .inl ⟨hz, _, rfl, own_lower (ownsRow_putObj hrow2 _ hK' rfl) (by omega), ((hB1.setCell (p := ⟨w.heap.size, 0, none⟩) (Nat.le_refl _) _).setCell (p := ⟨w.heap.size + 1, 0, none⟩) (by show w.heap.size ≤ w.heap.size + 1; omega) _).trans (belowK_b (w := w) (Nat.le_refl _) _ D _ _ (by omega) hK' rfl rfl)⟩⟩
    simp [results, Try.f112, go_sem, q1, q2]
  case stop =>
    rintro D c pre W hD hpre ⟨⟨rfl, pre', x, rfl, hz, hx, bR11, bR21⟩, hB1⟩ hK
    gi_wp2
    refine ⟨by simp, .inl ⟨_, _, rfl, run_takeDeferred hK, ?_⟩⟩
    have q1 := cell_kept bR11.cell (grownBy_putObj' _ D (.deferred none)) (fun r e => by cases e; exact ⟨_, hK, rfl⟩)
    have q2 := cell_kept bR21.cell (grownBy_putObj' _ D (.deferred none)) (fun r e => by cases e; exact ⟨_, hK, rfl⟩)
    refine ⟨.tuple #[.slice none 0 0, .int .i64 x.e], ?_, .inr ⟨pre', x, hpre, hz, hx, rfl, hB1.trans (belowK_b (w := w) (Nat.le_refl _) W D _ _ (by omega) hK rfl rfl)⟩⟩
    simp [results, Try.f112, go_sem, q1, q2]
end Go.Proofs.Ytjpmmbmhkpgjcaa

/- What Lay and Read answer, as plain functions; pack.Lay and pack.Read answer so. -/
namespace Go.Proofs.Ytjpmmbmhkpgjcaa
open Go.RowKit Go.Shelf Nums
set_option maxRecDepth 100000
theorem outB_judge : ∀ (last : Int) (fs : List (Int × ByteArray)), outB (judge last fs) = rowB fs
  | _, [] => rfl
  | last, f :: r => by
    have := outB_judge f.1 r
    simp only [judge, rowB]
    rw [← this]
    simp [outB]
theorem lay_any (a : Option Addr) (len cap : Nat) (fs : List (Int × ByteArray)) (w : World) (hR : FReads w.heap.size w a len cap fs) (hl : len ≤ 400) :
    Calls Try.prog 46 #[.slice a len cap] w fun e W' => ∃ v, e = .returned (.tuple #[v, .int .i64 (layE 0 fs)]) ∧ W'.ownsRow w.heap.size 5 1 v (rowOf fs).length (cellsOf (rowOf fs)) ∧ Below w.heap.size w W' := by
  refine ((callsIn_wide (n := 3)).1 (lay_in 3 (by decide) a len cap fs w hR hl)).mono ?_
  rintro e W' (⟨hz, v, rfl, hown, hb⟩ | ⟨pre, x, hp, hz, hx, rfl, hb⟩)
  · have h0 := layE_all 0 fs hz
    refine ⟨v, by rw [h0], ?_, hb⟩
    rw [rowOf, if_pos h0, ← outB_judge 0 fs]
    exact hown
  · have h0 := layE_first pre 0 fs x hp hz hx
    refine ⟨_, by rw [h0], ?_, hb⟩
    rw [rowOf, if_neg (by rw [h0]; exact hx)]
    exact World.ownsRow_nil _ _ _ _
theorem read_any (a : Option Addr) (len cap : Nat) (bs : List UInt8) (w : World) (hR : Reads w a len cap bs) (hl : len ≤ 1000000) :
    Calls Try.prog 112 #[.slice a len cap] w fun e W' => ∃ v, e = .returned (.tuple #[v, .int .i64 (readE bs)]) ∧ W'.ownsRow w.heap.size 85 2 v (readF bs).length (fcells (readF bs)) ∧ Below w.heap.size w W' := by
  refine ((callsIn_wide (n := 3)).1 (read_in 3 (by decide) a len cap bs w hR hl)).mono ?_
  have hlen : bs.length = len := hR.1
  rintro e W' (⟨hz, v, rfl, hown, hb⟩ | ⟨pre, x, hp, hz, hx, rfl, hb⟩)
  · have h0 : readE bs = 0 := by rw [readE, hlen]; exact firstE_all _ hz
    refine ⟨v, by rw [h0]; rfl, ?_, hb⟩
    rw [readF, if_pos h0, hlen]
    exact hown
  · have h0 : readE bs = x.e := by rw [readE, hlen]; exact firstE_first pre _ x hp hz hx
    refine ⟨_, by rw [h0], ?_, hb⟩
    rw [readF, if_neg (by rw [h0]; exact hx)]
    exact World.ownsRow_nil _ _ _ _
/-- A row of fields that is owned can be read. -/
theorem freads_own {w : World} {B : Nat} {v : Value} {fs : List (Int × ByteArray)} (h : w.ownsRow B 85 2 v fs.length (fcells fs)) (hm : ∀ f ∈ fs, f.2.size ≤ maxLen) : ∃ a cap, v = .slice a fs.length cap ∧ FReads w.heap.size w a fs.length cap fs := by
  have hcell : ∀ (fs : List (Int × ByteArray)) (i : Nat) (hi : i < fs.length), (fcells fs)[i * 2]? = some (.int .i64 fs[i].1) ∧ (fcells fs)[i * 2 + 1]? = some (.string fs[i].2) := by
    intro fs
    induction fs with
    | nil => intro i hi; simp at hi
    | cons f r ih =>
      intro i hi
      cases i with
      | zero => simp [fcells]
      | succ i =>
        have := ih i (by simpa using hi)
        have e1 : (i + 1) * 2 = i * 2 + 1 + 1 := by omega
        rw [e1]
        simpa [fcells] using this
  rcases h.2 with ⟨rfl, h0⟩ | ⟨g, cap, cur, rfl, hb, hg, hn, hcm, hs, ht⟩
  · exact ⟨none, 0, by rw [h0], rfl, by omega, by decide, hm, .inl ⟨rfl, rfl⟩⟩
  · have hlt := (h.lt g rfl).2
    refine ⟨_, _, rfl, rfl, hn, by unfold maxLen at hcm; omega, hm, .inr (.inr ⟨g, 0, rfl, hlt, fun i hi => ?_⟩)⟩
    have h1 := h.cellAt (i * 2) (by omega)
    have h2 := h.cellAt (i * 2 + 1) (by omega)
    have := hcell fs i hi
    rw [Nat.zero_add]
    exact ⟨h1.trans this.1, h2.trans this.2⟩
end Go.Proofs.Ytjpmmbmhkpgjcaa

/- What the document's own Read answers: the same as readE, readF tell. -/
namespace Go.Proofs.Ytjpmmbmhkpgjcaa
open Go.RowKit Nums
set_option maxRecDepth 100000

end Go.Proofs.Ytjpmmbmhkpgjcaa

/- The examples of the document for rows hold, whatever the world. -/
namespace Go.Proofs.Ytjpmmbmhkpgjcaa
open Go.RowKit Nums
set_option maxRecDepth 100000
theorem parse_small : ∀ (k last : Nat) (l : List UInt8), ∀ x ∈ parse k last l, x.d.length ≤ 65536
  | 0, _, _, x, h => by simp [parse] at h
  | k + 1, last, l, x, h => by
    rw [parse] at h
    by_cases hl : l = []
    · rw [if_pos hl] at h; simp at h
    · rw [if_neg hl] at h
      rcases List.mem_cons.1 h with rfl | h
      · exact gD_le l
      · by_cases he : pE last l = 0
        · rw [if_pos he] at h; exact parse_small k _ _ x h
        · rw [if_neg he] at h; simp at h
theorem readF_small (bs : List UInt8) : ∀ f ∈ readF bs, f.2.size ≤ maxLen := by
  intro f hf
  unfold readF at hf
  by_cases h : readE bs = 0
  · rw [if_pos h] at hf
    unfold toF at hf
    obtain ⟨x, hx, rfl⟩ := List.mem_map.1 hf
    have := parse_small _ _ _ x hx
    show x.d.toArray.size ≤ maxLen
    unfold maxLen
    simp
    omega
  · rw [if_neg h] at hf; simp at hf
theorem lay_reads (a : Option Addr) (len cap : Nat) (fs : List (Int × ByteArray)) (w : World) (hR : FReads w.heap.size w a len cap fs) (hl : len ≤ 400) {k : Int} {l : List UInt8} (hk : layE 0 fs = k) (hr : rowOf fs = l) :
    Calls Try.prog 46 #[.slice a len cap] w fun e W' => ∃ a' c', e = .returned (.tuple #[.slice a' l.length c', .int .i64 k]) ∧ Reads W' a' l.length c' l ∧ Below w.heap.size w W' := by
  refine (lay_any a len cap fs w hR hl).mono ?_
  rintro e W' ⟨v, rfl, hown, hb⟩
  rw [hr] at hown
  obtain ⟨a', c', rfl, hrd⟩ := reads_own hown
  exact ⟨a', c', by rw [hk], hrd, hb⟩
theorem read_reads (a : Option Addr) (len cap : Nat) (bs : List UInt8) (w : World) (hR : Reads w a len cap bs) (hl : len ≤ 1000000) {k : Nat} {fs : List (Int × ByteArray)} (hk : readE bs = k) (hf : readF bs = fs) :
    Calls Try.prog 112 #[.slice a len cap] w fun e W' => ∃ a' c', e = .returned (.tuple #[.slice a' fs.length c', .int .i64 k]) ∧ FReads W'.heap.size W' a' fs.length c' fs ∧ Below w.heap.size w W' := by
  refine (read_any a len cap bs w hR hl).mono ?_
  rintro e W' ⟨v, rfl, hown, hb⟩
  have hs := readF_small bs
  rw [hf] at hown hs
  obtain ⟨a', c', rfl, hrd⟩ := freads_own hown hs
  exact ⟨a', c', by rw [hk], hrd, hb⟩
/-- A literal slice of fields can be read. -/
theorem freads_lit (w : World) (cs : Array Value) (m : Nat × Nat) (fs : List (Int × ByteArray)) (h : cs.toList = fcells fs) (hl : fs.length ≤ 1048576) (hm : ∀ f ∈ fs, f.2.size ≤ maxLen) :
    FReads (w.heap.size + 1) (w.alloc (.cells cs 85 m)) (some ⟨w.heap.size, 0, none⟩) fs.length fs.length fs := by
  have hcell : ∀ (fs : List (Int × ByteArray)) (i : Nat) (hi : i < fs.length), (fcells fs)[i * 2]? = some (.int .i64 fs[i].1) ∧ (fcells fs)[i * 2 + 1]? = some (.string fs[i].2) := by
    intro fs
    induction fs with
    | nil => intro i hi; simp at hi
    | cons f r ih =>
      intro i hi
      cases i with
      | zero => simp [fcells]
      | succ i =>
        have := ih i (by simpa using hi)
        have e1 : (i + 1) * 2 = i * 2 + 1 + 1 := by omega
        rw [e1]
        simpa [fcells] using this
  refine ⟨rfl, Nat.le_refl _, by omega, hm, .inr (.inr ⟨w.heap.size, 0, rfl, by omega, fun i hi => ?_⟩)⟩
  have e : ∀ j, (w.alloc (.cells cs 85 m)).cell? ⟨w.heap.size, j, none⟩ = (fcells fs)[j]? := fun j => by
    rw [World.cell?_alloc_mark w cs 85 m j, ← Array.getElem?_toList, h]
  rw [Nat.zero_add, e, e]
  exact hcell fs i hi
end Go.Proofs.Ytjpmmbmhkpgjcaa

/- What the document's own Lay answers: the same as layE, rowOf tell. -/
namespace Go.Proofs.Ytjpmmbmhkpgjcaa
open Go.RowKit Nums
set_option maxRecDepth 100000

end Go.Proofs.Ytjpmmbmhkpgjcaa
