/- Texts of our own that the row of DiskApart leans on, part 9. -/
import Derived.Test.YticljiffagobnabDiskApartJ8
import Derived.Lib.SlBytesConst

/- A disk that lives behind a call; the statements' rows of the document (awake). -/
namespace Go.Proofs.Yticljiffagobnab
open Go.RowKit Nums
set_option linter.unusedVariables false
set_option linter.unusedSimpArgs false
set_option maxRecDepth 100000
/-- A disk that was made since w; the blocks of K are none of its own. -/
structure Lv (At : World → Nat → DkT → (Nat → Prop) → Prop) (w W : World) (p : Nat) (D : DkT) (K : Nat → Prop) : Prop where
  below : Below w.heap.size w W
  live : ∃ S, At W p D S ∧ (∀ b, S b → w.heap.size ≤ b) ∧ ∀ b, K b → ¬ S b ∧ b < W.heap.size
/-- What was there is as it was in the blocks of K. -/
def Kept9 (K : Nat → Prop) (w w' : World) : Prop := Away (fun k => ¬ K k) w w'
theorem Kept9.reads {K : Nat → Prop} {w w' : World} (h : Kept9 K w w') {a : Option Addr} {len cap : Nat} {l : List UInt8} (hr : Reads w a len cap l) (hK : ∀ b off, a = some ⟨b, off, none⟩ → 0 < len → K b) : Reads w' a len cap l :=
  hr.away h fun b off e h0 hn => hn (hK b off e h0)
variable {At : World → Nat → DkT → (Nat → Prop) → Prop}
theorem Lv.ok (dk : DiskC At) {w W : World} {p : Nat} {D : DkT} {K : Nat → Prop} (h : Lv At w W p D K) : OkD D := by obtain ⟨S, hA, _⟩ := h.live; exact dk.ok hA
theorem Lv.sub {w W : World} {p : Nat} {D : DkT} {K K' : Nat → Prop} (h : Lv At w W p D K) (hk : ∀ b, K' b → K b) : Lv At w W p D K' := by
  obtain ⟨S, hA, hS, hK⟩ := h.live
  exact ⟨h.below, S, hA, hS, fun b e => hK b (hk b e)⟩
theorem Lv.keep (dk : DiskC At) {w W W' : World} {p : Nat} {D : DkT} {K : Nat → Prop} (h : Lv At w W p D K) (hb : Below W.heap.size W W') : Lv At w W' p D (fun b => K b ∨ (W.heap.size ≤ b ∧ b < W'.heap.size)) := by
  obtain ⟨S, hA, hS, hK⟩ := h.live
  refine ⟨h.below.trans (hb.mono h.below.size), S, dk.keep hA hb.size fun b e => hb.block b (dk.lt hA b e), hS, fun b e => ?_⟩
  rcases e with e | e
  · exact ⟨(hK b e).1, Nat.lt_of_lt_of_le (hK b e).2 hb.size⟩
  · exact ⟨fun hs => by have := dk.lt hA b hs; omega, e.2⟩
theorem Lv.keepK (dk : DiskC At) {w W W' : World} {p : Nat} {D : DkT} {K : Nat → Prop} (h : Lv At w W p D K) (hb : Below W.heap.size W W') : Lv At w W' p D K := (h.keep dk hb).sub fun b e => .inl e
theorem Lv.turn (dk : DiskC At) {w W W' : World} {p : Nat} {D D' : DkT} {K S : Nat → Prop} (h : Lv At w W p D K) (hS : ∀ b, S b → w.heap.size ≤ b) (hK : ∀ b, K b → ¬ S b ∧ b < W.heap.size) (ha : ∃ S', At W' p D' S' ∧ ∀ b, S' b → S b ∨ W.heap.size ≤ b) (hw : Away S W W') : Lv At w W' p D' K ∧ Kept9 K W W' := by
  obtain ⟨S', hA', hS'⟩ := ha
  refine ⟨⟨hw.below h.below h.below.size hS, S', hA', fun b hb => ?_, fun b hb => ⟨fun hs => ?_, Nat.lt_of_lt_of_le (hK b hb).2 hw.size⟩⟩, ⟨hw.os, hw.tape, hw.output, hw.size, fun k hk hn => hw.block k hk fun hs => hn fun hk => (hK k hk).1 hs⟩⟩
  · rcases hS' b hb with e | e
    · exact hS b e
    · exact Nat.le_trans h.below.size e
  · rcases hS' b hs with e | e
    · exact (hK b hb).1 e
    · have := (hK b hb).2; omega
theorem lv_new (dk : DiskC At) (n : Nat) (hn : 1 ≤ n ∧ n ≤ 1000000) (w W : World) (hb : Below w.heap.size w W) :
    Calls Try.prog 5 #[.int .i64 n] W fun e w' => ∃ p, e = .returned (.tuple #[.pointer (some ⟨p, 0, none⟩), .int .i64 0]) ∧ Lv At w w' p (newD n) (fun b => b < W.heap.size) ∧ Below W.heap.size W w' := by
  refine (dk.new n hn W).mono ?_
  rintro e w' ⟨p, S, rfl, hA, hS, hb'⟩
  exact ⟨p, rfl, ⟨hb.trans (hb'.mono hb.size), S, hA, fun b e => Nat.le_trans hb.size (hS b e), fun b e => ⟨fun hs => by have := hS b hs; omega, Nat.lt_of_lt_of_le e hb'.size⟩⟩, hb'⟩
theorem lv_sync (dk : DiskC At) {w W : World} {p : Nat} {D : DkT} {K : Nat → Prop} (h : Lv At w W p D K)  (D' : DkT) (hD : D' = syncD D) (E : Int) (hE : E = syncE D) :
    Calls Try.prog 14 #[.pointer (some ⟨p, 0, none⟩)] W fun e w' => e = .returned (.int .i64 E) ∧ Lv At w w' p D' K ∧ Kept9 K W w' := by
  subst hD hE
  obtain ⟨S, hA, hS, hK⟩ := h.live
  refine (dk.sync W p D S hA).mono ?_
  rintro e w' ⟨rfl, h1, h2⟩
  exact ⟨rfl, h.turn dk hS hK h1 h2⟩
theorem lv_stop (dk : DiskC At) {w W : World} {p : Nat} {D : DkT} {K : Nat → Prop} (h : Lv At w W p D K) (n : Int) (hn : In64 n) (D' : DkT) (hD : D' = stopD D n) (E : Int) (hE : E = stopE D n) :
    Calls Try.prog 17 #[.pointer (some ⟨p, 0, none⟩), .int .i64 n] W fun e w' => e = .returned (.int .i64 E) ∧ Lv At w w' p D' K ∧ Kept9 K W w' := by
  subst hD hE
  obtain ⟨S, hA, hS, hK⟩ := h.live
  refine (dk.stop W p D S hA n hn).mono ?_
  rintro e w' ⟨rfl, h1, h2⟩
  exact ⟨rfl, h.turn dk hS hK h1 h2⟩
theorem lv_crash (dk : DiskC At) {w W : World} {p : Nat} {D : DkT} {K : Nat → Prop} (h : Lv At w W p D K) (hp : D.puts.length ≤ 1000000) (keep torn : Int) (hk : In64 keep) (ht : In64 torn) (D' : DkT) (hD : D' = crashD D keep torn)  :
    Calls Try.prog 20 #[.pointer (some ⟨p, 0, none⟩), .int .i64 keep, .int .i64 torn] W fun e w' => e = .returned (.int .i64 0) ∧ Lv At w w' p D' K ∧ Kept9 K W w' := by
  subst hD
  obtain ⟨S, hA, hS, hK⟩ := h.live
  refine (dk.crash W p D S hA hp keep torn hk ht).mono ?_
  rintro e w' ⟨rfl, h1, h2⟩
  exact ⟨rfl, h.turn dk hS hK h1 h2⟩
theorem lv_write (dk : DiskC At) {w W : World} {p : Nat} {D : DkT} {K : Nat → Prop} (h : Lv At w W p D K) (hp : D.puts.length ≤ 1000000) (at_ : Int) (ha : In64 at_) (a : Option Addr) (len cap : Nat) (bs : List UInt8) (hR : Reads W a len cap bs) (hl : len ≤ 1000000) (hB : ∀ b off, a = some ⟨b, off, none⟩ → 0 < len → K b) (D' : DkT) (hD : D' = writeD D at_ bs) (E : Int) (hE : E = writeE D at_ bs) :
    Calls Try.prog 9 #[.pointer (some ⟨p, 0, none⟩), .int .i64 at_, .slice a len cap] W fun e w' => e = .returned (.int .i64 E) ∧ Lv At w w' p D' K ∧ Kept9 K W w' := by
  subst hD hE
  obtain ⟨S, hA, hS, hK⟩ := h.live
  refine (dk.write W p D S hA hp at_ ha a len cap bs hR hl (fun b off e h0 hs => (hK b (hB b off e h0)).1 hs)).mono ?_
  rintro e w' ⟨rfl, h1, h2⟩
  exact ⟨rfl, h.turn dk hS hK h1 h2⟩
theorem lv_room (dk : DiskC At) {w W : World} {p : Nat} {D : DkT} {K : Nat → Prop} (h : Lv At w W p D K) :
    Calls Try.prog 25 #[.pointer (some ⟨p, 0, none⟩)] W fun e w' => e = .returned (.int .i64 D.safe.length) ∧ Lv At w w' p D K ∧ Below W.heap.size W w' := by
  obtain ⟨S, hA, hS, hK⟩ := h.live
  refine (dk.room W p D S hA).mono ?_
  rintro e w' ⟨rfl, h1⟩
  exact ⟨rfl, h.keepK dk h1, h1⟩
theorem lv_read (dk : DiskC At) {w W : World} {p : Nat} {D : DkT} {K : Nat → Prop} (h : Lv At w W p D K) (at_ n : Int) (ha : In64 at_) (hn : In64 n) (l : List UInt8) (hl : l = rdB D at_ n) (E : Int) (hE : E = rdE D at_ n) :
    Calls Try.prog 8 #[.pointer (some ⟨p, 0, none⟩), .int .i64 at_, .int .i64 n] W fun e w' => ∃ a cap, e = .returned (.tuple #[.slice a l.length cap, .int .i64 E]) ∧ OutB W.heap.size w' a cap l ∧ Lv At w w' p D (fun b => K b ∨ (W.heap.size ≤ b ∧ b < w'.heap.size)) ∧ Below W.heap.size W w' := by
  subst hl hE
  obtain ⟨S, hA, hS, hK⟩ := h.live
  refine (dk.read W p D S hA at_ n ha hn).mono ?_
  rintro e w' ⟨⟨a, cap, rfl, ho⟩, h1⟩
  exact ⟨a, cap, rfl, ho, h.keep dk h1, h1⟩
/-- Where bytes that came out lie. -/
theorem OutB.blk {base : Nat} {w : World} {a : Option Addr} {cap : Nat} {l : List UInt8} (h : OutB base w a cap l) : ∀ b off, a = some ⟨b, off, none⟩ → 0 < l.length → base ≤ b ∧ b < w.heap.size := by
  intro b off e h0
  rcases h.2 with e0 | ⟨g, o, e1, hg, _⟩
  · rw [e0] at h0; cases h0
  · rw [e1] at e
    cases e
    refine ⟨hg, ?_⟩
    rcases h.1.2.2.2 with ⟨e2, _⟩ | ⟨ad, e2, h2⟩ | ⟨b', off', e2, hlt, _⟩
    · rw [e1] at e2; cases e2
    · omega
    · rw [e1] at e2; cases e2; exact hlt
theorem readsD_lit (W : World) (cs : Array Value) (m : Nat × Nat) (l : List UInt8) (h : cs.toList = cellsOf l) (hl : l.length ≤ 1000000) : Reads (W.alloc (.cells cs 5 m)) (some ⟨W.heap.size, 0, none⟩) l.length l.length l := by
  refine ⟨rfl, Nat.le_refl _, by omega, .inr (.inr ⟨W.heap.size, 0, rfl, by simp, fun i hi => ?_⟩)⟩
  rw [Nat.zero_add, cell_of_row _ _ i cs 5 m (heap_alloc_new W _)]
  have e : cs[i]? = cs.toList[i]? := by simp
  rw [e, h]
  simp [cellsOf, hi]
/-- A write of a literal. -/
theorem lv_write_lit (dk : DiskC At) {w W : World} {p : Nat} {D : DkT} {K : Nat → Prop} (h : Lv At w W p D K) (hp : D.puts.length ≤ 1000000) (at_ : Int) (ha : In64 at_) (cs : Array Value) (m : Nat × Nat) (n : Nat) (bs : List UInt8) (hcs : cs.toList = cellsOf bs) (hn : bs.length = n) (hl : n ≤ 1000000) (D' : DkT) (hD : D' = writeD D at_ bs) (E : Int) (hE : E = writeE D at_ bs) :
    Calls Try.prog 9 #[.pointer (some ⟨p, 0, none⟩), .int .i64 at_, .slice (some ⟨W.heap.size, 0, none⟩) n n] (W.alloc (.cells cs 5 m)) fun e w' => e = .returned (.int .i64 E) ∧ Lv At w w' p D' K ∧ Kept9 K W w' := by
  subst hn
  have hb : Below W.heap.size W (W.alloc (.cells cs 5 m)) := (Below.refl _ _).alloc (Nat.le_refl _) _
  have hsz : (W.alloc (.cells cs 5 m)).heap.size = W.heap.size + 1 := by simp
  refine (lv_write dk (h.keep dk hb) hp at_ ha _ _ _ bs (readsD_lit W cs m bs hcs hl) hl (fun b off e _ => by cases e; exact .inr ⟨Nat.le_refl _, by omega⟩) D' hD E hE).mono ?_
  rintro e w' ⟨rfl, h1, h2⟩
  obtain ⟨S, hA, hS, hK⟩ := h.live
  refine ⟨rfl, h1.sub fun b e => .inl e, ⟨h2.os.trans hb.os, h2.tape.trans hb.tape, h2.output.trans hb.output, Nat.le_trans hb.size h2.size, fun k hk hn => (h2.block k (Nat.lt_of_lt_of_le hk hb.size) fun hk2 => ?_).trans (hb.block k hk)⟩⟩
  apply hn
  intro hkk
  exact hk2 (.inl hkk)
/-! The document's rows. -/
def aw1 : DkT := writeD (newD 8) 0 [97, 98]
def aw2 : DkT := syncD aw1
def aw3 : DkT := writeD aw2 1 [120, 121]
def aw4 : DkT := writeD aw3 4 [122]
def aw5 : DkT := crashD aw4 1 0
def aw6 : DkT := writeD aw5 0 [112, 113, 114]
def aw7 : DkT := crashD aw6 0 2
theorem aw_reads : rdB aw5 0 8 = [97, 120, 121, 0, 0, 0, 0, 0] ∧ rdE aw5 0 8 = 0 ∧ rdB aw7 0 8 = [112, 113, 121, 0, 0, 0, 0, 0] ∧ rdE aw7 0 8 = 0 ∧ writeE aw7 7 [97, 98] = 81 ∧ writeD aw7 7 [97, 98] = aw7 ∧ aw7.safe.length = 8 := by
  refine ⟨by decide +kernel, by decide +kernel, by decide +kernel, by decide +kernel, by decide +kernel, ?_, by decide +kernel⟩
  have h : writeE aw7 7 [97, 98] = 81 := by decide +kernel
  unfold writeD
  rw [if_neg (by omega)]
theorem aw_puts : (newD 8).puts.length ≤ 1000000 ∧ aw2.puts.length ≤ 1000000 ∧ aw3.puts.length ≤ 1000000 ∧ aw4.puts.length ≤ 1000000 ∧ aw5.puts.length ≤ 1000000 ∧ aw6.puts.length ≤ 1000000 ∧ aw7.puts.length ≤ 1000000 := by
  refine ⟨?_, ?_, ?_, ?_, ?_, ?_, ?_⟩ <;> decide +kernel
set_option maxHeartbeats 16000000 in
theorem awake_true (dk : DiskC At) (w : World) : Calls Try.prog 10 #[] w fun e w' => e = .returned (.bool true) ∧ Below w.heap.size w w' := by
  have i0 : ∀ z : Int, 0 ≤ z → z ≤ 100 → In64 z := fun z h1 h2 => by unfold In64; omega
  have DK : Hid (DiskC At) := dk
  obtain ⟨r1, r2, r3, r4, r5, r6, r7⟩ := aw_reads
  obtain ⟨p1, p2, p3, p4, p5, p6, p7⟩ := aw_puts
  obtain ⟨e1, H1⟩ : ∃ e, Hid (e = writeE (newD 8) 0 [97, 98]) := ⟨_, hidd rfl⟩
  obtain ⟨e2, H2⟩ : ∃ e, Hid (e = syncE aw1) := ⟨_, hidd rfl⟩
  obtain ⟨e3, H3⟩ : ∃ e, Hid (e = writeE aw2 1 [120, 121]) := ⟨_, hidd rfl⟩
  obtain ⟨e4, H4⟩ : ∃ e, Hid (e = writeE aw3 4 [122]) := ⟨_, hidd rfl⟩
  obtain ⟨e6, H6⟩ : ∃ e, Hid (e = writeE aw5 0 [112, 113, 114]) := ⟨_, hidd rfl⟩
  have N1 : Hid (∀ W, Below w.heap.size w W → Calls Try.prog 5 #[.int .i64 8] W fun e w' => ∃ p, e = .returned (.tuple #[.pointer (some ⟨p, 0, none⟩), .int .i64 0]) ∧ Lv At w w' p (newD 8) (fun _ => False)) := fun W hb => (lv_new DK.out 8 (by omega) w W hb).mono (by rintro e w' ⟨p, he, hl, _⟩; exact ⟨p, he, hl.sub fun b e => e.elim⟩)
  have N0 : Hid (∀ W, Calls Try.prog 5 #[.int .i64 0] W fun e w' => e = .returned (.tuple #[.pointer none, .int .i64 1]) ∧ Below W.heap.size W w') := fun W => DK.out.newNo 0 (by omega) W
  have A1 : Hid (∀ W p K, Lv At w W p (newD 8) K → Calls Try.prog 9 #[.pointer (some ⟨p, 0, none⟩), .int .i64 0, .slice (some ⟨W.heap.size, 0, none⟩) 2 2] (W.alloc (.cells #[.int .u8 97, .int .u8 98] 5 (2, 3))) fun e w' => e = .returned (.int .i64 e1) ∧ Lv At w w' p aw1 K ∧ Kept9 K W w') := fun W p K h => lv_write_lit DK.out h p1 0 (i0 0 (by omega) (by omega)) _ (2, 3) 2 [97, 98] rfl rfl (by omega) aw1 rfl e1 H1.out
  have A2 : Hid (∀ W p K, Lv At w W p aw1 K → Calls Try.prog 14 #[.pointer (some ⟨p, 0, none⟩)] W fun e w' => e = .returned (.int .i64 e2) ∧ Lv At w w' p aw2 K ∧ Kept9 K W w') := fun W p K h => lv_sync DK.out h aw2 rfl e2 H2.out
  have A3 : Hid (∀ W p K, Lv At w W p aw2 K → Calls Try.prog 9 #[.pointer (some ⟨p, 0, none⟩), .int .i64 1, .slice (some ⟨W.heap.size, 0, none⟩) 2 2] (W.alloc (.cells #[.int .u8 120, .int .u8 121] 5 (2, 3))) fun e w' => e = .returned (.int .i64 e3) ∧ Lv At w w' p aw3 K ∧ Kept9 K W w') := fun W p K h => lv_write_lit DK.out h p2 1 (i0 1 (by omega) (by omega)) _ (2, 3) 2 [120, 121] rfl rfl (by omega) aw3 rfl e3 H3.out
  have A4 : Hid (∀ W p K, Lv At w W p aw3 K → Calls Try.prog 9 #[.pointer (some ⟨p, 0, none⟩), .int .i64 4, .slice (some ⟨W.heap.size, 0, none⟩) 1 1] (W.alloc (.cells #[.int .u8 122] 5 (1, 2))) fun e w' => e = .returned (.int .i64 e4) ∧ Lv At w w' p aw4 K ∧ Kept9 K W w') := fun W p K h => lv_write_lit DK.out h p3 4 (i0 4 (by omega) (by omega)) _ (1, 2) 1 [122] rfl rfl (by omega) aw4 rfl e4 H4.out
  have A5 : Hid (∀ W p K, Lv At w W p aw4 K → Calls Try.prog 20 #[.pointer (some ⟨p, 0, none⟩), .int .i64 1, .int .i64 0] W fun e w' => e = .returned (.int .i64 0) ∧ Lv At w w' p aw5 K ∧ Kept9 K W w') := fun W p K h => lv_crash DK.out h p4 1 0 (i0 1 (by omega) (by omega)) (i0 0 (by omega) (by omega)) aw5 rfl
  have B5 : Hid (∀ W p K, Lv At w W p aw5 K → Calls Try.prog 8 #[.pointer (some ⟨p, 0, none⟩), .int .i64 0, .int .i64 8] W fun e w' => ∃ a cap, e = .returned (.tuple #[.slice a 8 cap, .int .i64 0]) ∧ OutB W.heap.size w' a cap [97, 120, 121, 0, 0, 0, 0, 0] ∧ Lv At w w' p aw5 (fun b => K b ∨ (W.heap.size ≤ b ∧ b < w'.heap.size)) ∧ Below W.heap.size W w') := fun W p K h => lv_read DK.out h 0 8 (i0 0 (by omega) (by omega)) (i0 8 (by omega) (by omega)) [97, 120, 121, 0, 0, 0, 0, 0] r1.symm 0 r2.symm
  have A6 : Hid (∀ W p K, Lv At w W p aw5 K → Calls Try.prog 9 #[.pointer (some ⟨p, 0, none⟩), .int .i64 0, .slice (some ⟨W.heap.size, 0, none⟩) 3 3] (W.alloc (.cells #[.int .u8 112, .int .u8 113, .int .u8 114] 5 (3, 4))) fun e w' => e = .returned (.int .i64 e6) ∧ Lv At w w' p aw6 K ∧ Kept9 K W w') := fun W p K h => lv_write_lit DK.out h p5 0 (i0 0 (by omega) (by omega)) _ (3, 4) 3 [112, 113, 114] rfl rfl (by omega) aw6 rfl e6 H6.out
  have A7 : Hid (∀ W p K, Lv At w W p aw6 K → Calls Try.prog 20 #[.pointer (some ⟨p, 0, none⟩), .int .i64 0, .int .i64 2] W fun e w' => e = .returned (.int .i64 0) ∧ Lv At w w' p aw7 K ∧ Kept9 K W w') := fun W p K h => lv_crash DK.out h p6 0 2 (i0 0 (by omega) (by omega)) (i0 2 (by omega) (by omega)) aw7 rfl
  have B7 : Hid (∀ W p K, Lv At w W p aw7 K → Calls Try.prog 8 #[.pointer (some ⟨p, 0, none⟩), .int .i64 0, .int .i64 8] W fun e w' => ∃ a cap, e = .returned (.tuple #[.slice a 8 cap, .int .i64 0]) ∧ OutB W.heap.size w' a cap [112, 113, 121, 0, 0, 0, 0, 0] ∧ Lv At w w' p aw7 (fun b => K b ∨ (W.heap.size ≤ b ∧ b < w'.heap.size)) ∧ Below W.heap.size W w') := fun W p K h => lv_read DK.out h 0 8 (i0 0 (by omega) (by omega)) (i0 8 (by omega) (by omega)) [112, 113, 121, 0, 0, 0, 0, 0] r3.symm 0 r4.symm
  have A8 : Hid (∀ W p K, Lv At w W p aw7 K → Calls Try.prog 9 #[.pointer (some ⟨p, 0, none⟩), .int .i64 7, .slice (some ⟨W.heap.size, 0, none⟩) 2 2] (W.alloc (.cells #[.int .u8 97, .int .u8 98] 5 (2, 3))) fun e w' => e = .returned (.int .i64 81) ∧ Lv At w w' p aw7 K ∧ Kept9 K W w') := fun W p K h => lv_write_lit DK.out h p7 7 (i0 7 (by omega) (by omega)) _ (2, 3) 2 [97, 98] rfl rfl (by omega) aw7 r6.symm 81 r5.symm
  have A9 : Hid (∀ W p K, Lv At w W p aw7 K → Calls Try.prog 25 #[.pointer (some ⟨p, 0, none⟩)] W fun e w' => e = .returned (.int .i64 8) ∧ Lv At w w' p aw7 K ∧ Below W.heap.size W w') := fun W p K h => by
    have := lv_room DK.out h
    rwa [r7] at this
  have KP : Hid (∀ W W' p D K, Lv At w W p D K → Below W.heap.size W W' → Lv At w W' p D K) := fun W W' p D K h hb => h.keepK DK.out hb
  obtain ⟨T1, HT1⟩ : ∃ T : ByteArray, Hid (T = ⟨#[97, 120, 121, 0, 0, 0, 0, 0]⟩) := ⟨_, hidd rfl⟩
  have kc := fun (w : World) (C : Array Value) (n c : Nat) => Lib.run_convert_bytes_const (P := Try.prog) w 23 5 C n c Try.underlying23 Try.underlying5
  clear r1 r2 r3 r4 r5 r6 r7 p1 p2 p3 p4 p5 p6 p7 dk i0 H1 H2 H3 H4 H6 DK
  go_enter Try.func10, Try.ntmps10
  go_wp2_with fail
  refine (N1.out w (Below.refl _ _)).mono ?_
  rintro e w1 ⟨p, rfl, hl1⟩
  have HL := hidd hl1
  clear hl1 N1
  go_wp2_with fail
  refine (N0.out _).mono ?_
  rintro e w2 ⟨rfl, hb2⟩
  replace HL := hidd (KP.out _ _ _ _ _ HL.out hb2)
  clear hb2 N0
  go_wp2_with fail
  refine (A1.out _ _ _ HL.out).mono ?_
  rintro e w3 ⟨rfl, hl, hk⟩
  replace HL := hidd hl
  clear hl hk A1
  go_wp2_with fail
  refine (A2.out _ _ _ HL.out).mono ?_
  rintro e w4 ⟨rfl, hl, hk⟩
  replace HL := hidd hl
  clear hl hk A2
  go_wp2_with fail
  refine (A3.out _ _ _ HL.out).mono ?_
  rintro e w5 ⟨rfl, hl, hk⟩
  replace HL := hidd hl
  clear hl hk A3
  go_wp2_with fail
  refine (A4.out _ _ _ HL.out).mono ?_
  rintro e w6 ⟨rfl, hl, hk⟩
  replace HL := hidd hl
  clear hl hk A4
  go_wp2_with fail
  refine (A5.out _ _ _ HL.out).mono ?_
  rintro e w7 ⟨rfl, hl, hk⟩
  replace HL := hidd hl
  clear hl hk A5
  go_wp2_with fail
  refine (B5.out _ _ _ HL.out).mono ?_
  rintro e w8 ⟨a8, c8, rfl, ho8, hl, hb⟩
  replace HL := hidd hl
  have HR8 := hidd ho8.1
  have HK8 := hidd ho8.blk
  clear hl hb ho8 B5
  go_wp2_with fail
  refine (A6.out _ _ _ HL.out).mono ?_
  rintro e w9 ⟨rfl, hl, hk⟩
  replace HL := hidd hl
  replace HR8 := hidd (hk.reads HR8.out fun b off e h0 => .inr (HK8.out b off e h0))
  clear hl hk A6
  go_wp2_with fail
  refine (A7.out _ _ _ HL.out).mono ?_
  rintro e w10 ⟨rfl, hl, hk⟩
  replace HL := hidd hl
  replace HR8 := hidd (hk.reads HR8.out fun b off e h0 => .inr (HK8.out b off e h0))
  clear hl hk A7
  go_wp2_with fail
  refine (B7.out _ _ _ HL.out).mono ?_
  rintro e w11 ⟨a11, c11, rfl, ho11, hl, hb⟩
  replace HL := hidd hl
  have hcv1 : Sem.run Try.prog (convert 23 9 (.slice a8 8 c8)) w11 = .ok (.string ⟨#[97, 120, 121, 0, 0, 0, 0, 0]⟩) w11 := conv_reads (HR8.out.below hb)
  have hcv2 : Sem.run Try.prog (convert 23 9 (.slice a11 8 c11)) w11 = .ok (.string ⟨#[112, 113, 121, 0, 0, 0, 0, 0]⟩) w11 := conv_reads ho11.1
  clear hl hb ho11 B7
  go_wp2_with fail
  refine (A8.out _ _ _ HL.out).mono ?_
  rintro e w12 ⟨rfl, hl, hk⟩
  replace HL := hidd hl
  clear hl hk A8
  go_wp2_with fail
  refine (A9.out _ _ _ HL.out).mono ?_
  rintro e w13 ⟨rfl, hl, hb⟩
  go_wp2
  go_ret
  exact ⟨rfl, hl.below⟩
end Go.Proofs.Yticljiffagobnab
