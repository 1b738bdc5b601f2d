/- Texts of our own that the row of TopJournal leans on, part 48. -/
import Derived.Test.YtgclohgcehhfnabGreatDoorTopJournalJ17
import Derived.Test.YtgclohgcehhfnabGreatDoorTopJournalJ47
/- What a wal is, in memory and on its part of a disk; what its calls make of the part. -/
namespace Go.Proofs.YtgclohgcehhfnabGreatDoor
open Go.RowKit Nums
set_option linter.unusedVariables false
set_option maxRecDepth 100000
structure VW where
  half : Nat
  used : Nat
  count : Nat
def wCells (p f r : Nat) (V : VW) : Array Value := #[ptr p, .int .i64 f, .int .i64 r, .int .i64 V.half, .int .i64 V.used, .int .i64 V.count]
structure WM (w : World) (q p f r : Nat) (V : VW) (T : Nat → Prop) : Prop where
  row : w.heap[q]? = some (.cells (wCells p f r V) 65 (0, 0))
  mem : ∀ b, T b ↔ b = q
def InLW (L : LgT) (x : StT) : Prop := (∃ s ∈ statesL L, s.recs = x.recs ∧ x.cost ≤ s.cost) ∨ (L.maybe = true ∧ L.may.recs = x.recs ∧ x.cost ≤ L.may.cost)
def Told (f r : Nat) (P : List UInt8) (x : StT) : Prop := (NewP f r P ∧ x = ⟨[], 0⟩) ∨ ∃ h bs, LaidP f r h bs P ∧ x = ⟨bs.flatten, sumC bs⟩
structure PA (f r : Nat) (D : DkT) (L : LgT) (c : Bool) : Prop where
  room : 64 ≤ r ∧ f + r ≤ D.safe.length
  all : ∀ s, Poss D s → ∃ x, Told f r (sub s f r) x ∧ InLW L x
  calm : c = false → D.down = false → L.maybe = false
  now : c = false → L.maybe = false → ∃ x, Told f r (sub (nowB D) f r) x ∧ x.recs = L.now.recs ∧ x.cost ≤ L.now.cost
structure WP (f r : Nat) (V : VW) (D : DkT) (L : LgT) : Prop where
  part : PA f r D L false
  half : V.half < 2
  used : V.used ≤ limN r
  dear : V.used ≤ L.now.cost
  count : V.count = L.now.recs.length
  laid : L.maybe = false → ∃ bs, LaidP f r V.half bs (sub (nowB D) f r) ∧ V.used = sumC bs ∧ bs.flatten = L.now.recs
theorem inL_now {L : LgT} {x : StT} (h1 : x.recs = L.now.recs) (h2 : x.cost ≤ L.now.cost) : InLW L x := .inl ⟨L.now, (statesL_mem L _).2 (.inr rfl), h1.symm, h2⟩
theorem pa_crash {f r : Nat} {D : DkT} {L : LgT} {c : Bool} (k t : Int) (ok : OkD D) (h : PA f r D L c) : PA f r (crashD D k t) L true :=
  ⟨by rw [crashD_room ok]; exact h.room, (fun s hs => by rw [poss_crash hs]; exact h.all _ ⟨k, t, rfl⟩), (fun e => by cases e), (fun e => by cases e)⟩
theorem pa_none {f r : Nat} {V : VW} {D D' : DkT} {L : LgT} (ok : OkD D) (hs : D'.safe = D.safe) (h : WP f r V D L) : PA f r (crashD D' 0 0) L true := by
  have e : (crashD D' 0 0).safe = D.safe := by show crashB D' 0 0 = _; rw [crashB_none, hs]
  exact ⟨by rw [e]; exact h.part.room, (fun s hs => by rw [poss_none (D := crashD D' 0 0) rfl hs, e]; exact h.part.all _ (poss_safe D)), (fun e => by cases e), (fun e => by cases e)⟩
theorem pa_all {f r : Nat} {V : VW} {D : DkT} {L : LgT} (k t : Int) (ok : OkD D) (hm : L.maybe = false) (hk : D.puts.length ≤ k) (h : WP f r V D L) : PA f r (crashD D k t) (syncedL L) true := by
  obtain ⟨bs, h1, h2, h3⟩ := h.laid hm
  refine ⟨by rw [crashD_room ok]; exact h.part.room, fun s hs => ?_, (fun e => by cases e), (fun e => by cases e)⟩
  rw [poss_crash hs, crashB_all t hk]
  exact ⟨_, .inr ⟨_, _, h1, rfl⟩, inL_now h3 (by have := h.dear; show sumC bs ≤ L.now.cost; omega)⟩
theorem pa_stop {f r : Nat} {D : DkT} {L : LgT} {c : Bool} (n : Int) (h : PA f r D L c) : PA f r (stopD D n) L c :=
  ⟨by rw [(stopD_safe D n).1]; exact h.room, fun s hs => h.all s (poss_stop hs), fun e hd => h.calm e (stop_down hd), fun e hm => by rw [nowB_stop]; exact h.now e hm⟩
theorem wp_stop {f r : Nat} {V : VW} {D : DkT} {L : LgT} (n : Int) (h : WP f r V D L) : WP f r V (stopD D n) L :=
  ⟨pa_stop n h.part, h.half, h.used, h.dear, h.count, fun hm => by rw [nowB_stop]; exact h.laid hm⟩
theorem pa_fresh (n f r : Nat) (h : 64 ≤ r) (hn : f + r ≤ n) : PA f r (newD n) newL false := by
  have e : (newD n).safe.length = n := List.length_replicate
  refine ⟨by rw [e]; exact ⟨h, hn⟩, fun s hs => ?_, fun _ _ => rfl, fun _ _ => ⟨_, .inl ⟨new_zero n f r h hn, rfl⟩, rfl, Nat.le_refl _⟩⟩
  rw [poss_none (D := newD n) rfl hs]
  exact ⟨_, .inl ⟨new_zero n f r h hn, rfl⟩, inL_now rfl (Nat.le_refl _)⟩
theorem FrD.pa {f r : Nat} {D D' : DkT} (H : FrD f r D D') {f2 r2 : Nat} (hd : f + r ≤ f2 ∨ f2 + r2 ≤ f) {L : LgT} {c : Bool} (h : PA f2 r2 D L c) : PA f2 r2 D' L c :=
  ⟨by rw [H.len]; exact h.room, fun s hs => by
    obtain ⟨s0, h1, h2⟩ := H.poss s hs
    rw [h2 f2 r2 hd]
    exact h.all s0 h1, fun e k => h.calm e (H.down k), fun e hm => by rw [H.now f2 r2 hd]; exact h.now e hm⟩
theorem FrD.both {f r : Nat} {D D' : DkT} (H : FrD f r D D') : ∀ f2 r2, (f + r ≤ f2 ∨ f2 + r2 ≤ f) → (∀ V L, WP f2 r2 V D L → WP f2 r2 V D' L) ∧ (∀ L c, PA f2 r2 D L c → PA f2 r2 D' L c) :=
  fun f2 r2 hd => ⟨fun V L h => ⟨H.pa hd h.part, h.half, h.used, h.dear, h.count, fun hm => by rw [H.now f2 r2 hd]; exact h.laid hm⟩, fun L c h => H.pa hd h⟩
structure HP (f r : Nat) (V : VW) (D : DkT) (L : LgT) (x : StT) : Prop where
  room : 64 ≤ r ∧ f + r ≤ D.safe.length
  all : ∀ s, Poss D s → ∃ y, Told f r (sub s f r) y ∧ (InLW L y ∨ (L.maybe = false ∧ y = x))
  half : V.half < 2
  used : V.used ≤ limN r
  dear : V.used ≤ L.now.cost
  count : V.count = L.now.recs.length
theorem WP.hp {f r : Nat} {V : VW} {D : DkT} {L : LgT} (h : WP f r V D L) (x : StT) : HP f r V D L x :=
  ⟨h.part.room, fun s hs => by obtain ⟨y, h1, h2⟩ := h.part.all s hs; exact ⟨y, h1, .inl h2⟩, h.half, h.used, h.dear, h.count⟩
theorem HP.cut {f r : Nat} {V : VW} {D : DkT} {L : LgT} {x : StT} (h : HP f r V D L x) (hd : D.down = true) : WP f r V D (toL L x 80) := by
  have e1 : statesL (toL L x 80) = statesL L := by unfold toL; rw [if_neg (by decide), if_pos rfl]; split <;> rfl
  have e2 : (toL L x 80).now = L.now := by unfold toL; rw [if_neg (by decide), if_pos rfl]; split <;> rfl
  have e3 : (toL L x 80).maybe = true := by
    unfold toL; rw [if_neg (by decide), if_pos rfl]
    by_cases hm : L.maybe = true
    · rw [if_pos hm]; exact hm
    · rw [if_neg hm]
  refine ⟨⟨h.room, fun s hs => ?_, (fun _ e => by rw [hd] at e; cases e), fun _ e => by rw [e3] at e; cases e⟩, h.half, h.used, by rw [e2]; exact h.dear, by rw [e2]; exact h.count, fun e => by rw [e3] at e; cases e⟩
  obtain ⟨y, h1, h2⟩ := h.all s hs
  refine ⟨y, h1, ?_⟩
  rcases h2 with (⟨s0, h2, h3⟩ | ⟨h2, h3⟩) | ⟨h2, rfl⟩
  · exact .inl ⟨s0, by rw [e1]; exact h2, h3⟩
  · refine .inr ⟨e3, ?_⟩
    have : toL L x 80 = L := by unfold toL; rw [if_neg (by decide), if_pos rfl, if_pos h2]
    rw [this]; exact h3
  · refine .inr ⟨e3, ?_⟩
    have : (toL L y 80).may = y := by unfold toL; rw [if_neg (by decide), if_pos rfl, if_neg (by rw [h2]; decide)]
    rw [this]; exact ⟨rfl, Nat.le_refl _⟩
def put1D (f r : Nat) (V : VW) (D : DkT) (l : List ByteArray) : DkT := writeD D ((f + (offN r V.half + V.used + 1) : Nat) : Int) (tailB l)
def put2D (f r : Nat) (V : VW) (D : DkT) : DkT := writeD D ((f + (offN r V.half + V.used) : Nat) : Int) [1]
theorem write_in {D : DkT} {f r a : Nat} {b : List UInt8} (hd : D.down = false) (hr : f + r ≤ D.safe.length) (ha : a + b.length ≤ r) : writeE D ((f + a : Nat) : Int) b = 0 := write_ok hd (by omega)
theorem poss_part {D : DkT} (ok : OkD D) {f r a : Nat} {b : List UInt8} (hd : D.down = false) (hr : f + r ≤ D.safe.length) (ha : a + b.length ≤ r) {s : List UInt8} (hs : Poss (writeD D ((f + a : Nat) : Int) b) s) : Poss D s ∨ ∃ t, t ≤ b.length ∧ sub s f r = doneB (sub (nowB D) f r) (a, b.take t) := by
  rcases poss_write (write_in hd hr ha) hs with hs | ⟨t, ht, rfl⟩
  · exact .inl hs
  · refine .inr ⟨t, ht, ?_⟩
    rw [Int.toNat_natCast]
    exact sub_done_in (by rw [nowB_length ok]; exact hr) (by rw [List.length_take]; omega)
theorem now_part {D : DkT} (ok : OkD D) {f r a : Nat} {b : List UInt8} (hd : D.down = false) (hr : f + r ≤ D.safe.length) (ha : a + b.length ≤ r) : sub (nowB (writeD D ((f + a : Nat) : Int) b)) f r = doneB (sub (nowB D) f r) (a, b) := by
  rw [nowB_write (write_in hd hr ha), Int.toNat_natCast]
  exact sub_done_in (by rw [nowB_length ok]; exact hr) ha
theorem take_zero_done (P : List UInt8) (a : Nat) (b : List UInt8) : doneB P (a, b.take 0) = P := by rw [List.take_zero]; exact done_none P a
theorem commit_one {f r : Nat} {V : VW} {D : DkT} {L : LgT} (ok : OkD D) (h : WP f r V D L) (hd : D.down = false) (l : List ByteArray) (hl : batchB l = true) (hc : V.used + costN l ≤ limN r) :
    writeE D ((f + (offN r V.half + V.used + 1) : Nat) : Int) (tailB l) = 0 ∧ OkD (put1D f r V D l) ∧ FrD f r D (put1D f r V D l) ∧ HP f r V (put1D f r V D l) L (committed L l) ∧ (put1D f r V D l).safe = D.safe ∧ (put1D f r V D l).puts.length ≤ D.puts.length + 1 ∧
    ((put1D f r V D l).down = false → writeE (put1D f r V D l) ((f + (offN r V.half + V.used) : Nat) : Int) [1] = 0 ∧ OkD (put2D f r V (put1D f r V D l)) ∧ FrD f r D (put2D f r V (put1D f r V D l)) ∧ WP f r ⟨V.half, V.used + costN l, V.count + l.length⟩ (put2D f r V (put1D f r V D l)) (toL L (committed L l) 0) ∧ (put2D f r V (put1D f r V D l)).safe = D.safe ∧ (put2D f r V (put1D f r V D l)).puts.length ≤ D.puts.length + 2 ∧ (put2D f r V (put1D f r V D l)).stops = D.stops) := by
  have hm := h.part.calm rfl hd
  obtain ⟨bs, h1, h2, h3⟩ := h.laid hm
  obtain ⟨hr, hf⟩ := h.part.room
  have ho := off_room hr h.half
  have htl := tail_length l
  have ha : offN r V.half + V.used + 1 + (tailB l).length ≤ r := by omega
  have hE := write_in hd hf ha
  have ok1 : OkD (put1D f r V D l) := writeD_ok ok _ _
  have s1 : (put1D f r V D l).safe = D.safe := writeD_room _ _ _
  have f1 : FrD f r D (put1D f r V D l) := FrD.write ok (f + (offN r V.half + V.used + 1)) (tailB l) (by omega) (by omega) hf
  have p1 : (put1D f r V D l).puts.length ≤ D.puts.length + 1 := writeD_puts _ _ _
  have keep : ∀ t, t ≤ (tailB l).length → LaidP f r V.half bs (doneB (sub (nowB D) f r) (offN r V.half + V.used + 1, (tailB l).take t)) := fun t ht =>
    h1.keep hr (by omega) (by rw [List.length_take]; omega) (by right; omega)
  have hIn : InLW L ⟨bs.flatten, sumC bs⟩ := inL_now h3 (by have := h.dear; show sumC bs ≤ L.now.cost; omega)
  have all1 : ∀ s, Poss (put1D f r V D l) s → ∃ y, Told f r (sub s f r) y ∧ InLW L y := fun s hs => by
    rcases poss_part ok hd hf ha hs with hs | ⟨t, ht, e⟩
    · exact h.part.all s hs
    · rw [e]; exact ⟨_, .inr ⟨_, _, keep t ht, rfl⟩, hIn⟩
  have n1 : sub (nowB (put1D f r V D l)) f r = doneB (sub (nowB D) f r) (offN r V.half + V.used + 1, tailB l) := now_part ok hd hf ha
  refine ⟨hE, ok1, f1, ⟨by rw [s1]; exact ⟨hr, hf⟩, fun s hs => by obtain ⟨y, e1, e2⟩ := all1 s hs; exact ⟨y, e1, .inl e2⟩, h.half, h.used, h.dear, h.count⟩, s1, p1, fun hd1 => ?_⟩
  have hf1 : f + r ≤ (put1D f r V D l).safe.length := by rw [s1]; exact hf
  have ha2 : offN r V.half + V.used + ([1] : List UInt8).length ≤ r := by show _ + 1 ≤ r; omega
  have hE2 := write_in hd1 hf1 ha2
  have n2 : sub (nowB (put2D f r V (put1D f r V D l))) f r = doneB (doneB (sub (nowB D) f r) (offN r V.half + V.used + 1, tailB l)) (offN r V.half + V.used, [1]) := by rw [← n1]; exact now_part ok1 hd1 hf1 ha2
  have hmore := h1.more hr l hl (by omega)
  rw [← h2] at hmore
  rw [← n2] at hmore
  have hfl : (bs ++ [l]).flatten = L.now.recs ++ l := by rw [List.flatten_append, h3]; simp
  have hsc : sumC (bs ++ [l]) = V.used + costN l := by rw [sumC_append, sumC_one]; omega
  have hd' := h.dear
  have fr2 : FrD f r (put1D f r V D l) (put2D f r V (put1D f r V D l)) := FrD.write ok1 (f + (offN r V.half + V.used)) [1] (by omega) (by show _ + 1 ≤ _; omega) hf1
  have p2 : (put2D f r V (put1D f r V D l)).puts.length ≤ (put1D f r V D l).puts.length + 1 := writeD_puts _ _ _
  have s2 : (put2D f r V (put1D f r V D l)).safe = (put1D f r V D l).safe := writeD_room _ _ _
  have st : (put2D f r V (put1D f r V D l)).stops = D.stops := (write_stops _ _ _).trans (write_stops _ _ _)
  refine ⟨hE2, writeD_ok ok1 _ _, f1.trans fr2, ?_, s2.trans s1, by omega, st⟩
  have hnew : InLW (toL L (committed L l) 0) ⟨(bs ++ [l]).flatten, sumC (bs ++ [l])⟩ := .inl ⟨committed L l, by rw [statesL_to]; simp, by show L.now.recs ++ l = _; rw [← hfl], by show sumC (bs ++ [l]) ≤ L.now.cost + costN l; omega⟩
  have hold : ∀ y, InLW L y → InLW (toL L (committed L l) 0) y := fun y hy => by
    rcases hy with ⟨s0, e1, e2⟩ | ⟨e1, _⟩
    · exact .inl ⟨s0, by rw [statesL_to]; exact List.mem_append_left _ e1, e2⟩
    · rw [hm] at e1; cases e1
  refine ⟨⟨by rw [s2, s1]; exact ⟨hr, hf⟩, fun s hs => ?_, fun _ _ => hm, fun _ _ => ⟨_, .inr ⟨_, _, hmore, rfl⟩, hfl, by show sumC (bs ++ [l]) ≤ L.now.cost + costN l; omega⟩⟩, h.half, hc, by show V.used + costN l ≤ L.now.cost + costN l; omega, ?_, fun _ => ⟨bs ++ [l], hmore, hsc.symm, hfl⟩⟩
  · rcases poss_part ok1 hd1 hf1 ha2 hs with hs | ⟨t, ht, e⟩
    · obtain ⟨y, e1, e2⟩ := all1 s hs
      exact ⟨y, e1, hold y e2⟩
    · rw [e]
      rcases (by have : ([1] : List UInt8).length = 1 := rfl; omega : t = 0 ∨ t = 1) with rfl | rfl
      · rw [take_zero_done, n1]
        have := keep (tailB l).length (Nat.le_refl _)
        rw [List.take_length] at this
        exact ⟨_, .inr ⟨_, _, this, rfl⟩, hold _ hIn⟩
      · show ∃ x, Told f r (doneB (sub (nowB (put1D f r V D l)) f r) (offN r V.half + V.used, [1])) x ∧ _
        rw [n1, ← n2]
        exact ⟨_, .inr ⟨_, _, hmore, rfl⟩, hnew⟩
  · show V.count + l.length = (L.now.recs ++ l).length
    rw [List.length_append, h.count]
def markD (f h : Nat) (D : DkT) : DkT := writeD D (f : Int) [UInt8.ofNat (h + 1)]
theorem sync_one {f r : Nat} {V : VW} {D : DkT} {L : LgT} (ok : OkD D) (h : WP f r V D L) (hd : D.down = false) : WP f r V (syncD D) (syncedL L) := by
  have hm := h.part.calm rfl hd
  obtain ⟨bs, h1, h2, h3⟩ := h.laid hm
  have hd' := h.dear
  have e3 : nowB (syncD D) = nowB D := nowB_sync D
  refine ⟨⟨by rw [syncD_room ok]; exact h.part.room, fun s hs => ?_, fun _ _ => rfl, fun _ _ => ⟨_, .inr ⟨_, _, by rw [e3]; exact h1, rfl⟩, h3, by show sumC bs ≤ L.now.cost; omega⟩⟩, h.half, h.used, h.dear, h.count, fun _ => ⟨bs, by rw [e3]; exact h1, h2, h3⟩⟩
  rw [poss_sync hd hs]
  exact ⟨_, .inr ⟨_, _, h1, rfl⟩, inL_now h3 (by show sumC bs ≤ L.now.cost; omega)⟩
theorem dearer_le (r : List ByteArray) (x s : StT) : x.cost ≤ (dearer r x s).cost := by
  unfold dearer
  split
  · rename_i e; omega
  · exact Nat.le_refl _
theorem dearer_self {r : List ByteArray} (x : StT) {s : StT} (h : s.recs = r) : s.cost ≤ (dearer r x s).cost := by
  unfold dearer
  split
  · exact Nat.le_refl _
  · rename_i e
    have : ¬ x.cost < s.cost := fun k => e ⟨h, k⟩
    omega
theorem dearer_foldle (r : List ByteArray) : ∀ (l : List StT) (x : StT), x.cost ≤ (l.foldl (dearer r) x).cost
  | [], x => Nat.le_refl _
  | s :: t, x => Nat.le_trans (dearer_le r x s) (dearer_foldle r t _)
theorem dearer_mem {r : List ByteArray} : ∀ (l : List StT) (x : StT) {s : StT}, s ∈ l → s.recs = r → s.cost ≤ (l.foldl (dearer r) x).cost
  | a :: t, x, s, hs, h => by
    rcases List.mem_cons.1 hs with rfl | hs
    · exact Nat.le_trans (dearer_self x h) (dearer_foldle r t _)
    · exact dearer_mem t _ hs h
theorem opensX_dear {L : LgT} {x : StT} (h : InLW L x) : x.cost ≤ (opensX L x.recs true).cost := by
  unfold opensX
  rw [if_pos rfl]
  show x.cost ≤ (if L.maybe = true then dearer x.recs ((statesL L).foldl (dearer x.recs) (pickS L x.recs true).1) L.may else (statesL L).foldl (dearer x.recs) (pickS L x.recs true).1).cost
  rcases h with ⟨s, h1, h2, h3⟩ | ⟨h1, h2, h3⟩
  · have := dearer_mem (r := x.recs) (statesL L) (pickS L x.recs true).1 h1 h2
    split
    · have := dearer_le x.recs ((statesL L).foldl (dearer x.recs) (pickS L x.recs true).1) L.may
      omega
    · omega
  · rw [if_pos h1]
    have := dearer_self (r := x.recs) ((statesL L).foldl (dearer x.recs) (pickS L x.recs true).1) h2
    omega
theorem PA.told {f r : Nat} {D : DkT} {L : LgT} {c : Bool} (h : PA f r D L c) : ∃ x, Told f r (sub (nowB D) f r) x ∧ InLW L x ∧ (c = false → D.down = false → x.recs = L.now.recs ∧ x.cost ≤ L.now.cost) := by
  by_cases hc : c = false ∧ D.down = false
  · obtain ⟨x, h1, h2, h3⟩ := h.now hc.1 (h.calm hc.1 hc.2)
    exact ⟨x, h1, inL_now h2 h3, fun _ _ => ⟨h2, h3⟩⟩
  · obtain ⟨x, h1, h2⟩ := h.all _ (poss_now D)
    exact ⟨x, h1, h2, fun e1 e2 => absurd ⟨e1, e2⟩ hc⟩
theorem opens_ok {L : LgT} {x : StT} {c : Bool} (h1 : InLW L x) (h2 : c = false → x.recs = L.now.recs ∧ x.cost ≤ L.now.cost) : opensB L x.recs c = true ∧ x.cost ≤ (opensX L x.recs c).cost := by
  cases c with
  | false =>
    obtain ⟨h3, h4⟩ := h2 rfl
    refine ⟨(opensB_calm L _).2 h3, ?_⟩
    unfold opensX pickS
    rw [if_neg (by decide), if_pos h3]
    exact h4
  | true =>
    refine ⟨(opensB_crash L _).2 ?_, opensX_dear h1⟩
    rcases h1 with ⟨s, h3, h4, _⟩ | ⟨h3, h4, _⟩
    · exact .inl ⟨s, h3, h4⟩
    · exact .inr ⟨h3, h4.symm⟩
theorem flat_count (bs : List (List ByteArray)) : bs.flatten.length ≤ sumC bs := by
  induction bs with
  | nil => exact Nat.le_refl _
  | cons b t ih =>
    have : ∀ l : List ByteArray, l.length ≤ costN l := fun l => by
      induction l with
      | nil => exact Nat.zero_le _
      | cons s r ih => show r.length + 1 ≤ costN r + 8 + s.size; omega
    have := this b
    rw [List.flatten_cons, List.length_append]
    show _ ≤ costN b + sumC t
    omega
theorem open_through {f r : Nat} {D : DkT} {L : LgT} {c : Bool} (ok : OkD D) (hd : D.down = false) (hr : 64 ≤ r ∧ f + r ≤ D.safe.length) {h : Nat} {bs : List (List ByteArray)} (h1 : LaidP f r h bs (sub (nowB D) f r)) (h2 : InLW L ⟨bs.flatten, sumC bs⟩) (h3 : c = false → bs.flatten = L.now.recs ∧ sumC bs ≤ L.now.cost) :
    opensB L bs.flatten c = true ∧ WP f r ⟨h, sumC bs, bs.flatten.length⟩ (syncD D) (opensL L bs.flatten c) := by
  obtain ⟨k1, k2⟩ := opens_ok (x := ⟨bs.flatten, sumC bs⟩) h2 h3
  have k3 := opensX_recs k1
  have e3 : nowB (syncD D) = nowB D := nowB_sync D
  refine ⟨k1, ⟨⟨by rw [syncD_room ok]; exact hr, fun s hs => ?_, fun _ _ => rfl, fun _ _ => ⟨_, .inr ⟨_, _, by rw [e3]; exact h1, rfl⟩, k3.symm, k2⟩⟩, h1.half, h1.fits, k2, by show bs.flatten.length = (opensX L bs.flatten c).recs.length; rw [k3], fun _ => ⟨bs, by rw [e3]; exact h1, rfl, k3.symm⟩⟩⟩
  rw [poss_sync hd hs]
  exact ⟨_, .inr ⟨_, _, h1, rfl⟩, inL_now k3.symm k2⟩
def nameD (f r : Nat) (D : DkT) : DkT := writeD D ((f + 1 : Nat) : Int) (nameB f r)
theorem open_new {f r : Nat} {D : DkT} {L : LgT} {c : Bool} (ok : OkD D) (h : PA f r D L c) (hd : D.down = false) (hN : NewP f r (sub (nowB D) f r)) (h2 : InLW L ⟨[], 0⟩) (h3 : c = false → [] = L.now.recs) :
    writeE D ((f + 1 : Nat) : Int) (nameB f r) = 0 ∧ OkD (nameD f r D) ∧ FrD f r D (nameD f r D) ∧ PA f r (nameD f r D) L c ∧ (nameD f r D).safe.length = D.safe.length ∧ (nameD f r D).puts.length ≤ D.puts.length + 1 ∧ (nameD f r D).stops = D.stops ∧
    ((nameD f r D).down = false → writeE (nameD f r D) (f : Int) [1] = 0 ∧ OkD (markD f 0 (nameD f r D)) ∧ FrD f r D (markD f 0 (nameD f r D)) ∧ PA f r (markD f 0 (nameD f r D)) L c ∧ (markD f 0 (nameD f r D)).safe.length = D.safe.length ∧ (markD f 0 (nameD f r D)).puts.length ≤ D.puts.length + 2 ∧ (markD f 0 (nameD f r D)).stops = D.stops ∧ LaidP f r 0 [] (sub (nowB (markD f 0 (nameD f r D))) f r)) := by
  obtain ⟨hr, hf⟩ := h.room
  have hn := nameB_length f r
  unfold nameD
  have ha : 1 + (nameB f r).length ≤ r := by omega
  obtain ⟨D1, e1⟩ : ∃ D1, writeD D ((f + 1 : Nat) : Int) (nameB f r) = D1 := ⟨_, rfl⟩
  have hE := write_in hd hf ha
  have ok1 : OkD (writeD D ((f + 1 : Nat) : Int) (nameB f r)) := writeD_ok ok _ _
  have s1 : (writeD D ((f + 1 : Nat) : Int) (nameB f r)).safe = D.safe := writeD_room _ _ _
  have f1 : FrD f r D (writeD D ((f + 1 : Nat) : Int) (nameB f r)) := FrD.write ok (f + 1) (nameB f r) (by omega) (by omega) hf
  have p1 : (writeD D ((f + 1 : Nat) : Int) (nameB f r)).puts.length ≤ D.puts.length + 1 := writeD_puts _ _ _
  have st1 : (writeD D ((f + 1 : Nat) : Int) (nameB f r)).stops = D.stops := write_stops _ _ _
  have n1 : sub (nowB (writeD D ((f + 1 : Nat) : Int) (nameB f r))) f r = doneB (sub (nowB D) f r) (1, nameB f r) := now_part ok hd hf ha
  have hp1 : ∀ s, Poss (writeD D ((f + 1 : Nat) : Int) (nameB f r)) s → Poss D s ∨ ∃ t, t ≤ (nameB f r).length ∧ sub s f r = doneB (sub (nowB D) f r) (1, (nameB f r).take t) := fun s hs => poss_part ok hd hf ha hs
  rw [e1] at ok1 s1 f1 p1 st1 n1 hp1
  rw [e1]
  clear e1
  have hN1 : NewP f r (sub (nowB D1) f r) := by
    rw [n1]
    have := hN.named hr 29 (Nat.le_refl _)
    rw [List.take_of_length_le (by omega)] at this
    exact this
  have all1 : ∀ s, Poss D1 s → ∃ x, Told f r (sub s f r) x ∧ InLW L x := fun s hs => by
    rcases hp1 s hs with hs | ⟨t, ht, e⟩
    · exact h.all s hs
    · rw [e]; exact ⟨_, .inl ⟨hN.named hr t (by omega), rfl⟩, h2⟩
  refine ⟨hE, ok1, f1, ⟨by rw [s1]; exact ⟨hr, hf⟩, all1, fun e _ => h.calm e hd, fun e _ => ⟨_, .inl ⟨hN1, rfl⟩, h3 e, Nat.zero_le _⟩⟩, by rw [s1], p1, st1, fun hd1 => ?_⟩
  have hf1 : f + r ≤ D1.safe.length := by rw [s1]; exact hf
  have ha2 : 0 + ([1] : List UInt8).length ≤ r := by show 0 + 1 ≤ r; omega
  show writeE D1 (f : Int) [1] = 0 ∧ OkD (writeD D1 (f : Int) [1]) ∧ FrD f r D (writeD D1 (f : Int) [1]) ∧ PA f r (writeD D1 (f : Int) [1]) L c ∧ (writeD D1 (f : Int) [1]).safe.length = D.safe.length ∧ (writeD D1 (f : Int) [1]).puts.length ≤ D.puts.length + 2 ∧ (writeD D1 (f : Int) [1]).stops = D.stops ∧ LaidP f r 0 [] (sub (nowB (writeD D1 (f : Int) [1])) f r)
  obtain ⟨D2, e2⟩ : ∃ D2, writeD D1 (f : Int) [1] = D2 := ⟨_, rfl⟩
  have hE2 : writeE D1 (f : Int) [1] = 0 := write_in (a := 0) hd1 hf1 ha2
  have ok2 : OkD (writeD D1 (f : Int) [1]) := writeD_ok ok1 _ _
  have s2 : (writeD D1 (f : Int) [1]).safe = D1.safe := writeD_room _ _ _
  have f2 : FrD f r D1 (writeD D1 (f : Int) [1]) := FrD.write ok1 f [1] (Nat.le_refl _) (by show f + 1 ≤ f + r; omega) hf1
  have p2 : (writeD D1 (f : Int) [1]).puts.length ≤ D1.puts.length + 1 := writeD_puts _ _ _
  have st2 : (writeD D1 (f : Int) [1]).stops = D1.stops := write_stops _ _ _
  have n2 : sub (nowB (writeD D1 (f : Int) [1])) f r = doneB (sub (nowB D1) f r) (0, [1]) := now_part (a := 0) ok1 hd1 hf1 ha2
  have hp2 : ∀ s, Poss (writeD D1 (f : Int) [1]) s → Poss D1 s ∨ ∃ t, t ≤ ([1] : List UInt8).length ∧ sub s f r = doneB (sub (nowB D1) f r) (0, ([1] : List UInt8).take t) := fun s hs => poss_part (a := 0) ok1 hd1 hf1 ha2 hs
  rw [e2] at ok2 s2 f2 p2 st2 n2 hp2
  rw [e2]
  clear e2
  have hM : LaidP f r 0 [] (sub (nowB D2) f r) := by rw [n2, n1]; exact hN.made hr
  refine ⟨hE2, ok2, f1.trans f2, ⟨by rw [s2, s1]; exact ⟨hr, hf⟩, fun s hs => ?_, fun e _ => h.calm e hd, fun e _ => ⟨_, .inr ⟨_, _, hM, rfl⟩, h3 e, Nat.zero_le _⟩⟩, by rw [s2, s1], by omega, st2.trans st1, hM⟩
  rcases hp2 s hs with hs | ⟨t, ht, e⟩
  · exact all1 s hs
  · rw [e]
    rcases (by have : ([1] : List UInt8).length = 1 := rfl; omega : t = 0 ∨ t = 1) with rfl | rfl
    · rw [take_zero_done]; exact ⟨_, .inl ⟨hN1, rfl⟩, h2⟩
    · show ∃ x, Told f r (doneB (sub (nowB D1) f r) (0, [1])) x ∧ _
      rw [← n2]
      exact ⟨_, .inr ⟨_, _, hM, rfl⟩, h2⟩
end Go.Proofs.YtgclohgcehhfnabGreatDoor
