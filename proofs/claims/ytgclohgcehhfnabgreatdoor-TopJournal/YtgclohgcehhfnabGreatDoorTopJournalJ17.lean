/- Texts of our own that the row of TopJournal leans on, part 17. -/
import Derived.Test.YtgclohgcehhfnabGreatDoorTopJournalJ8
import Derived.Test.YtgclohgcehhfnabGreatDoorTopJournalJ15
import Derived.Test.YtgclohgcehhfnabGreatDoorTopJournalJ16
import Derived.Lib.AppendIntMem
/- What the calls of package wal answer, as the document says (their proofs are of one commit of the code). -/
namespace Go.Proofs.YtgclohgcehhfnabGreatDoor
open Go.RowKit Nums
set_option linter.unusedVariables false
set_option maxRecDepth 100000
def TabW (w : World) : Prop := Lib.TabIs Tryz.prog w "internal/strconv.uint64pow10" .u64 Lib.pow10Tab
theorem TabW.on {w w' : World} (h : TabW w) (hb : Below w.heap.size w w') : TabW w' := Lib.tabBelow_of_tabIs h w' hb
structure WentD (D D' : DkT) : Prop where
  room : D'.safe.length = D.safe.length
  stops : D'.stops = D.stops
  puts : D'.puts.length ≤ D.puts.length + 400
structure WentC (D D' : DkT) : Prop extends WentD D D' where
  safe : D'.safe = D.safe
def ChangeE (L L' : LgT) (x : StT) (l : List ByteArray) (r : Nat) (D' : DkT) (reset : Bool) (n : Int) : Prop :=
  (batchB l = false ∧ n = 2 ∧ L' = L) ∨ (batchB l = true ∧ ((n = 0 ∧ L' = if reset = true then syncedL (toL L x 0) else toL L x 0) ∨ (n = 80 ∧ D'.down = true ∧ L' = toL L x 80) ∨ (n = 90 ∧ L' = L ∧ r / 2 < x.cost + 16)))
structure WalC (At : World → Nat → DkT → (Nat → Prop) → Prop) {Vt : Type} (WM : World → Nat → Nat → Nat → Nat → Vt → (Nat → Prop) → Prop) (WP : Nat → Nat → Vt → DkT → LgT → Prop) (PA : Nat → Nat → DkT → LgT → Bool → Prop) : Prop where
  mlt : ∀ {w : World} {q p f r : Nat} {V : Vt} {T : Nat → Prop}, WM w q p f r V T → ∀ b, T b → b < w.heap.size
  mkeep : ∀ {w w' : World} {q p f r : Nat} {V : Vt} {T : Nat → Prop}, WM w q p f r V T → w.heap.size ≤ w'.heap.size → (∀ b, T b → w'.heap[b]? = w.heap[b]?) → WM w' q p f r V T
  part : ∀ {f r : Nat} {V : Vt} {D : DkT} {L : LgT}, WP f r V D L → PA f r D L false
  crash : ∀ {f r : Nat} {D : DkT} {L : LgT} {c : Bool} (k t : Int), OkD D → PA f r D L c → PA f r (crashD D k t) L true
  none_ : ∀ {f r : Nat} {V : Vt} {D D' : DkT} {L : LgT}, OkD D → D'.safe = D.safe → WP f r V D L → PA f r (crashD D' 0 0) L true
  all_ : ∀ {f r : Nat} {V : Vt} {D : DkT} {L : LgT} (k t : Int), OkD D → L.maybe = false → D.puts.length ≤ k → WP f r V D L → PA f r (crashD D k t) (syncedL L) true
  stopP : ∀ {f r : Nat} {D : DkT} {L : LgT} {c : Bool} (n : Int), PA f r D L c → PA f r (stopD D n) L c
  stopW : ∀ {f r : Nat} {V : Vt} {D : DkT} {L : LgT} (n : Int), WP f r V D L → WP f r V (stopD D n) L
  fresh : ∀ (n f r : Nat), 64 ≤ r → f + r ≤ n → PA f r (newD n) newL false
  open_ : ∀ (w : World) (tb : TabW w) (p : Nat) (D : DkT) (S : Nat → Prop) (h : At w p D S) (hp : D.puts.length ≤ 500000) (f r : Nat) (h1 : 64 ≤ r ∧ r ≤ 1000000) (h2 : f + r ≤ D.safe.length) (L : LgT) (c : Bool) (hP : PA f r D L c),
    Calls Tryz.prog 8 #[ptr p, .int .i64 f, .int .i64 r] w fun e w' => ∃ D' S', At w' p D' S' ∧ (∀ b, S' b → S b ∨ w.heap.size ≤ b) ∧ Away S w w' ∧ WentD D D' ∧
      (∀ f2 r2, (f + r ≤ f2 ∨ f2 + r2 ≤ f) → (∀ V L, WP f2 r2 V D L → WP f2 r2 V D' L) ∧ (∀ L c, PA f2 r2 D L c → PA f2 r2 D' L c)) ∧
      ((∃ q T V a len cap rs, e = .returned (.tuple #[ptr q, .slice a len cap, .int .i64 0]) ∧ Texts w' a len rs ∧ len ≤ 1000000 ∧ (a = none → cap = 0) ∧ (∀ b, TBlock a len b → w.heap.size ≤ b ∧ ¬ S' b ∧ ¬ T b) ∧ opensB L rs c = true ∧ WM w' q p f r V T ∧ WP f r V D' (opensL L rs c) ∧ (∀ b, T b → w.heap.size ≤ b ∧ ¬ S' b)) ∨
       ((∃ a cap, e = .returned (.tuple #[.pointer none, .slice a 0 cap, .int .i64 80])) ∧ D'.down = true ∧ PA f r D' L c))
  openNo : ∀ (w : World) (p : Nat) (D : DkT) (S : Nat → Prop) (h : At w p D S) (f r : Int) (hf : In64 f) (hr : In64 r) (hn : ¬ (64 ≤ r ∧ r ≤ 1000000 ∧ 0 ≤ f ∧ f ≤ D.safe.length ∧ r ≤ D.safe.length - f)),
    Calls Tryz.prog 8 #[ptr p, .int .i64 f, .int .i64 r] w fun e w' => (∃ a cap, e = .returned (.tuple #[.pointer none, .slice a 0 cap, .int .i64 1])) ∧ Below w.heap.size w w'
  commit : ∀ (w : World) (p : Nat) (D : DkT) (S : Nat → Prop) (h : At w p D S) (hp : D.puts.length ≤ 500000) (q f r : Nat) (V : Vt) (T : Nat → Prop) (L : LgT) (hM : WM w q p f r V T) (hW : WP f r V D L) (hTS : ∀ b, T b → ¬ S b) (a : Option Addr) (len cap : Nat) (l : List ByteArray) (hT : Texts w a len l) (hl : Small 30 5000 l) (hc : a = none → cap = 0) (hb : ∀ b, TBlock a len b → ¬ S b ∧ ¬ T b),
    Calls Tryz.prog 10 #[ptr q, .slice a len cap] w fun e w' => ∃ n D' S' V' T' L', e = .returned (.int .i64 n) ∧ ChangeE L L' (committed L l) l r D' false n ∧ At w' p D' S' ∧ WM w' q p f r V' T' ∧ WP f r V' D' L' ∧ (∀ b, S' b → S b ∨ w.heap.size ≤ b) ∧ (∀ b, T' b → T b ∨ w.heap.size ≤ b) ∧ (∀ b, T' b → ¬ S' b) ∧ Away (fun b => S b ∨ T b) w w' ∧ WentC D D' ∧
      (∀ f2 r2, (f + r ≤ f2 ∨ f2 + r2 ≤ f) → (∀ V L, WP f2 r2 V D L → WP f2 r2 V D' L) ∧ (∀ L c, PA f2 r2 D L c → PA f2 r2 D' L c))
  sync : ∀ (w : World) (p : Nat) (D : DkT) (S : Nat → Prop) (h : At w p D S) (hp : D.puts.length ≤ 500000) (q f r : Nat) (V : Vt) (T : Nat → Prop) (L : LgT) (hM : WM w q p f r V T) (hW : WP f r V D L) (hTS : ∀ b, T b → ¬ S b),
    Calls Tryz.prog 11 #[ptr q] w fun e w' => ∃ n D' S' V' T' L', e = .returned (.int .i64 n) ∧ ((n = 0 ∧ L' = syncedL L) ∨ (n = 80 ∧ D'.down = true ∧ L' = L)) ∧ At w' p D' S' ∧ WM w' q p f r V' T' ∧ WP f r V' D' L' ∧ (∀ b, S' b → S b ∨ w.heap.size ≤ b) ∧ (∀ b, T' b → T b ∨ w.heap.size ≤ b) ∧ (∀ b, T' b → ¬ S' b) ∧ Away (fun b => S b ∨ T b) w w' ∧ WentD D D' ∧
      (∀ f2 r2, (f + r ≤ f2 ∨ f2 + r2 ≤ f) → (∀ V L, WP f2 r2 V D L → WP f2 r2 V D' L) ∧ (∀ L c, PA f2 r2 D L c → PA f2 r2 D' L c))
end Go.Proofs.YtgclohgcehhfnabGreatDoor
/- A disk and a wal on it, alive in a statement. -/
namespace Go.Proofs.YtgclohgcehhfnabGreatDoor
open Go.RowKit Nums
set_option linter.unusedVariables false
set_option linter.unusedSimpArgs false
set_option maxRecDepth 100000
variable {At : World → Nat → DkT → (Nat → Prop) → Prop} {Vt : Type} {WM : World → Nat → Nat → Nat → Nat → Vt → (Nat → Prop) → Prop} {WP : Nat → Nat → Vt → DkT → LgT → Prop} {PA : Nat → Nat → DkT → LgT → Bool → Prop}
def LvD (At : World → Nat → DkT → (Nat → Prop) → Prop) (w0 w : World) (p : Nat) (D : DkT) : Prop := ∃ S, At w p D S ∧ (∀ b, S b → w0.heap.size ≤ b) ∧ Below w0.heap.size w0 w
def LvW (At : World → Nat → DkT → (Nat → Prop) → Prop) (WM : World → Nat → Nat → Nat → Nat → Vt → (Nat → Prop) → Prop) (WP : Nat → Nat → Vt → DkT → LgT → Prop) (w0 w : World) (p q f r : Nat) (D : DkT) (L : LgT) : Prop :=
  ∃ S T V, At w p D S ∧ WM w q p f r V T ∧ WP f r V D L ∧ (∀ b, T b → ¬ S b) ∧ (∀ b, S b → w0.heap.size ≤ b) ∧ (∀ b, T b → w0.heap.size ≤ b) ∧ Below w0.heap.size w0 w
theorem LvD.below {w0 w w' : World} {p : Nat} {D : DkT} (dk : DiskC At) (h : LvD At w0 w p D) (hb : Below w.heap.size w w') : LvD At w0 w' p D := by
  obtain ⟨S, h1, h2, h3⟩ := h
  exact ⟨S, dk.keep h1 hb.size fun b e => hb.block b (dk.lt h1 b e), h2, h3.trans (hb.mono h3.size)⟩
theorem LvW.below {w0 w w' : World} {p q f r : Nat} {D : DkT} {L : LgT} (dk : DiskC At) (wl : WalC At WM WP PA) (h : LvW At WM WP w0 w p q f r D L) (hb : Below w.heap.size w w') : LvW At WM WP w0 w' p q f r D L := by
  obtain ⟨S, T, V, h1, h2, h3, h4, h5, h6, h7⟩ := h
  exact ⟨S, T, V, dk.keep h1 hb.size fun b e => hb.block b (dk.lt h1 b e), wl.mkeep h2 hb.size fun b e => hb.block b (wl.mlt h2 b e), h3, h4, h5, h6, h7.trans (hb.mono h7.size)⟩
theorem LvW.disk {w0 w : World} {p q f r : Nat} {D : DkT} {L : LgT} (h : LvW At WM WP w0 w p q f r D L) : LvD At w0 w p D := by
  obtain ⟨S, T, V, h1, h2, h3, h4, h5, h6, h7⟩ := h
  exact ⟨S, h1, h5, h7⟩
theorem LvW.b {w0 w : World} {p q f r : Nat} {D : DkT} {L : LgT} (h : LvW At WM WP w0 w p q f r D L) : Below w0.heap.size w0 w := by
  obtain ⟨S, T, V, h1, h2, h3, h4, h5, h6, h7⟩ := h
  exact h7
theorem LvW.part {w0 w : World} {p q f r : Nat} {D : DkT} {L : LgT} (wl : WalC At WM WP PA) (h : LvW At WM WP w0 w p q f r D L) : PA f r D L false := by
  obtain ⟨S, T, V, h1, h2, h3, h4, h5, h6, h7⟩ := h
  exact wl.part h3
theorem lvd_new (dk : DiskC At) (w0 w : World) (hb : Below w0.heap.size w0 w) (n : Nat) (hn : 1 ≤ n ∧ n ≤ 1000000) :
    Calls Tryz.prog 7 #[.int .i64 n] w fun e w' => ∃ p, e = .returned (.tuple #[ptr p, .int .i64 0]) ∧ LvD At w0 w' p (newD n) := by
  refine (dk.new n hn w).mono ?_
  rintro e w' ⟨p, S, rfl, h1, h2, h3⟩
  exact ⟨p, rfl, S, h1, fun b e => Nat.le_trans hb.size (h2 b e), hb.trans (h3.mono hb.size)⟩
theorem lvd_crash (dk : DiskC At) (w0 w : World) (p : Nat) (D : DkT) (h : LvD At w0 w p D) (hp : D.puts.length ≤ 1000000) (k t : Int) (hk : In64 k) (ht : In64 t) :
    Calls Tryz.prog 12 #[ptr p, .int .i64 k, .int .i64 t] w fun e w' => e = .returned (.int .i64 0) ∧ LvD At w0 w' p (crashD D k t) ∧ OkD D := by
  obtain ⟨S, h1, h2, h3⟩ := h
  refine (dk.crash w p D S h1 hp k t hk ht).mono ?_
  rintro e w' ⟨rfl, ⟨S', h4, h5⟩, h6⟩
  have hs := h3.size
  refine ⟨rfl, ⟨S', h4, fun b e => ?_, h6.below h3 hs h2⟩, dk.ok h1⟩
  rcases h5 b e with e | e
  · exact h2 b e
  · omega
theorem LvD.calm {w0 w : World} {p : Nat} {D : DkT} (dk : DiskC At) (h : LvD At w0 w p D) (hs : D.stops = false) : D.down = false := by
  obtain ⟨S, h1, h2, h3⟩ := h
  exact dk.calm h1 hs
theorem LvD.ok {w0 w : World} {p : Nat} {D : DkT} (dk : DiskC At) (h : LvD At w0 w p D) : OkD D := by
  obtain ⟨S, h1, h2, h3⟩ := h
  exact dk.ok h1
def OpenedAs (At : World → Nat → DkT → (Nat → Prop) → Prop) (WM : World → Nat → Nat → Nat → Nat → Vt → (Nat → Prop) → Prop) (WP : Nat → Nat → Vt → DkT → LgT → Prop) (PA : Nat → Nat → DkT → LgT → Bool → Prop) (w0 w : World) (p f r : Nat) (D : DkT) (L : LgT) (c : Bool) (e : Ending) (w' : World) : Prop :=
  ∃ D', WentD D D' ∧ ((∃ q a len cap rs, e = .returned (.tuple #[ptr q, .slice a len cap, .int .i64 0]) ∧ Texts w' a len rs ∧ len ≤ 1000000 ∧ (∀ b, TBlock a len b → w.heap.size ≤ b) ∧ opensB L rs c = true ∧ LvW At WM WP w0 w' p q f r D' (opensL L rs c)) ∨
    ((∃ a cap, e = .returned (.tuple #[.pointer none, .slice a 0 cap, .int .i64 80])) ∧ D'.down = true ∧ PA f r D' L c ∧ LvD At w0 w' p D'))
theorem lvd_open (wl : WalC At WM WP PA) (w0 : World) (tb : TabW w0) (w : World) (p : Nat) (D : DkT) (h : LvD At w0 w p D) (hp : D.puts.length ≤ 500000) (f r : Nat) (h1 : 64 ≤ r ∧ r ≤ 1000000) (h2 : f + r ≤ D.safe.length) (L : LgT) (c : Bool) (hP : PA f r D L c) :
    Calls Tryz.prog 8 #[ptr p, .int .i64 f, .int .i64 r] w fun e w' => OpenedAs At WM WP PA w0 w p f r D L c e w' := by
  obtain ⟨S, k1, k2, k3⟩ := h
  refine (wl.open_ w (tb.on k3) p D S k1 hp f r h1 h2 L c hP).mono ?_
  rintro e w' ⟨D', S', a1, a2, a3, a4, a5, a6⟩
  have hs := k3.size
  have hS' : ∀ b, S' b → w0.heap.size ≤ b := fun b e => by
    rcases a2 b e with e | e
    · exact k2 b e
    · omega
  have hB := a3.below k3 hs k2
  refine ⟨D', a4, ?_⟩
  rcases a6 with ⟨q, T, V, a, len, cap, rs, rfl, b1, b2, b3, b4, b5, b6, b7, b8⟩ | ⟨⟨a, cap, rfl⟩, b1, b2⟩
  · exact .inl ⟨q, a, len, cap, rs, rfl, b1, b2, fun b e => (b4 b e).1, b5, S', T, V, a1, b6, b7, fun b e => (b8 b e).2, hS', fun b e => Nat.le_trans hs (b8 b e).1, hB⟩
  · exact .inr ⟨⟨a, cap, rfl⟩, b1, b2, S', a1, hS', hB⟩
theorem lvw_commit (dk : DiskC At) (wl : WalC At WM WP PA) (w0 W w : World) (p q f r : Nat) (D : DkT) (L : LgT) (h : LvW At WM WP w0 W p q f r D L) (hW : Below W.heap.size W w) (hp : D.puts.length ≤ 500000) (a : Option Addr) (len cap : Nat) (l : List ByteArray) (hT : Texts w a len l) (hl : Small 30 5000 l) (hc : a = none → cap = 0) (hb : ∀ b, TBlock a len b → b < w0.heap.size ∨ W.heap.size ≤ b) :
    Calls Tryz.prog 10 #[ptr q, .slice a len cap] w fun e w' => ∃ n D' L', e = .returned (.int .i64 n) ∧ ChangeE L L' (committed L l) l r D' false n ∧ WentC D D' ∧ LvW At WM WP w0 w' p q f r D' L' := by
  have hl1 := h
  obtain ⟨S0, T0, V0, z1, z2, _⟩ := hl1
  obtain ⟨S, T, V, h1, h2, h3, h4, h5, h6, h7⟩ := h
  have k1 := dk.keep h1 hW.size fun b e => hW.block b (dk.lt h1 b e)
  have k2 := wl.mkeep h2 hW.size fun b e => hW.block b (wl.mlt h2 b e)
  have k7 := h7.trans (hW.mono h7.size)
  have hs := k7.size
  have hs0 := h7.size
  refine (wl.commit w p D S k1 hp q f r V T L k2 h3 h4 a len cap l hT hl hc (fun b e => ⟨fun e2 => ?_, fun e2 => ?_⟩)).mono ?_
  · have := h5 b e2; have := dk.lt h1 b e2; rcases hb b e with e | e <;> omega
  · have := h6 b e2; have := wl.mlt h2 b e2; rcases hb b e with e | e <;> omega
  · rintro e w' ⟨n, D', S', V', T', L', rfl, a1, a2, a3, a4, a5, a6, a7, a8, a9, a10⟩
    refine ⟨n, D', L', rfl, a1, a9, S', T', V', a2, a3, a4, a7, fun b e => ?_, fun b e => ?_, a8.below k7 hs fun b e => ?_⟩
    · rcases a5 b e with e | e
      · exact h5 b e
      · omega
    · rcases a6 b e with e | e
      · exact h6 b e
      · omega
    · rcases e with e | e
      · exact h5 b e
      · exact h6 b e
theorem lvw_sync (wl : WalC At WM WP PA) (w0 w : World) (p q f r : Nat) (D : DkT) (L : LgT) (h : LvW At WM WP w0 w p q f r D L) (hp : D.puts.length ≤ 500000) :
    Calls Tryz.prog 11 #[ptr q] w fun e w' => ∃ n D' L', e = .returned (.int .i64 n) ∧ ((n = 0 ∧ L' = syncedL L) ∨ (n = 80 ∧ D'.down = true ∧ L' = L)) ∧ WentD D D' ∧ LvW At WM WP w0 w' p q f r D' L' := by
  obtain ⟨S, T, V, h1, h2, h3, h4, h5, h6, h7⟩ := h
  have hs := h7.size
  refine (wl.sync w p D S h1 hp q f r V T L h2 h3 h4).mono ?_
  rintro e w' ⟨n, D', S', V', T', L', rfl, a1, a2, a3, a4, a5, a6, a7, a8, a9, a10⟩
  refine ⟨n, D', L', rfl, a1, a9, S', T', V', a2, a3, a4, a7, fun b e => ?_, fun b e => ?_, a8.below h7 hs fun b e => ?_⟩
  · rcases a5 b e with e | e
    · exact h5 b e
    · omega
  · rcases a6 b e with e | e
    · exact h6 b e
    · omega
  · rcases e with e | e
    · exact h5 b e
    · exact h6 b e
theorem calm_commit (dk : DiskC At) (wl : WalC At WM WP PA) (w0 W w : World) (p q f r : Nat) (D : DkT) (L : LgT) (h : LvW At WM WP w0 W p q f r D L) (hs : D.stops = false) (hW : Below W.heap.size W w) (hp : D.puts.length ≤ 500000) (a : Option Addr) (len cap : Nat) (l : List ByteArray) (hT : Texts w a len l) (hl : Small 30 4000 l) (hc : a = none → cap = 0) (hb : ∀ b, TBlock a len b → b < w0.heap.size ∨ W.heap.size ≤ b) (hf : L.now.cost + costN l + 16 ≤ r / 2) :
    Calls Tryz.prog 10 #[ptr q, .slice a len cap] w fun e w' => e = .returned (.int .i64 0) ∧ ∃ D', WentC D D' ∧ LvW At WM WP w0 w' p q f r D' (toL L (committed L l) 0) := by
  refine (lvw_commit dk wl w0 W w p q f r D L h hW hp a len cap l hT (hl.mono (Nat.le_refl _) (by omega)) hc hb).mono ?_
  rintro e w' ⟨n, D', L', rfl, h1, h2, h3⟩
  have hbt : batchB l = true := by unfold batchB; rw [decide_eq_true_eq]; exact ⟨by have := hl.1; omega, hl.2⟩
  rcases h1 with ⟨h1, _⟩ | ⟨_, ⟨rfl, rfl⟩ | ⟨rfl, h1, _⟩ | ⟨rfl, _, h1⟩⟩
  · rw [hbt] at h1; cases h1
  · exact ⟨rfl, D', h2, h3⟩
  · have := h3.disk.calm dk (h2.stops.trans hs)
    rw [this] at h1; cases h1
  · have : r / 2 < L.now.cost + costN l + 16 := h1
    omega
theorem calm_sync (dk : DiskC At) (wl : WalC At WM WP PA) (w0 w : World) (p q f r : Nat) (D : DkT) (L : LgT) (h : LvW At WM WP w0 w p q f r D L) (hs : D.stops = false) (hp : D.puts.length ≤ 500000) :
    Calls Tryz.prog 11 #[ptr q] w fun e w' => e = .returned (.int .i64 0) ∧ ∃ D', WentD D D' ∧ LvW At WM WP w0 w' p q f r D' (syncedL L) := by
  refine (lvw_sync wl w0 w p q f r D L h hp).mono ?_
  rintro e w' ⟨n, D', L', rfl, h1, h2, h3⟩
  rcases h1 with ⟨rfl, rfl⟩ | ⟨rfl, h1, _⟩
  · exact ⟨rfl, D', h2, h3⟩
  · have := h3.disk.calm dk (h2.stops.trans hs)
    rw [this] at h1; cases h1
theorem calm_open (dk : DiskC At) (wl : WalC At WM WP PA) (w0 : World) (tb : TabW w0) (w : World) (p : Nat) (D : DkT) (h : LvD At w0 w p D) (hs : D.stops = false) (hp : D.puts.length ≤ 500000) (f r : Nat) (h1 : 64 ≤ r ∧ r ≤ 1000000) (h2 : f + r ≤ D.safe.length) (L : LgT) (c : Bool) (hP : PA f r D L c) :
    Calls Tryz.prog 8 #[ptr p, .int .i64 f, .int .i64 r] w fun e w' => ∃ D' q a len cap rs, e = .returned (.tuple #[ptr q, .slice a len cap, .int .i64 0]) ∧ WentD D D' ∧ Texts w' a len rs ∧ len ≤ 1000000 ∧ (∀ b, TBlock a len b → w.heap.size ≤ b) ∧ opensB L rs c = true ∧ LvW At WM WP w0 w' p q f r D' (opensL L rs c) := by
  refine (lvd_open wl w0 tb w p D h hp f r h1 h2 L c hP).mono ?_
  rintro e w' ⟨D', k1, k2⟩
  rcases k2 with ⟨q, a, len, cap, rs, rfl, k3⟩ | ⟨_, k3, _, k4⟩
  · exact ⟨D', q, a, len, cap, rs, rfl, k1, k3⟩
  · have := k4.calm dk (k1.stops.trans hs)
    rw [this] at k3; cases k3
theorem crash_room {D : DkT} (ok : OkD D) (k t : Int) : (crashD D k t).safe.length = D.safe.length ∧ (crashD D k t).puts.length = 0 ∧ (crashD D k t).stops = false := ⟨crashD_room ok k t, rfl, rfl⟩
end Go.Proofs.YtgclohgcehhfnabGreatDoor
/- A wal whose records are known; a new disk. -/
namespace Go.Proofs.YtgclohgcehhfnabGreatDoor
open Go.RowKit Nums
set_option linter.unusedVariables false
set_option linter.unusedSimpArgs false
set_option maxRecDepth 100000
variable {At : World → Nat → DkT → (Nat → Prop) → Prop} {Vt : Type} {WM : World → Nat → Nat → Nat → Nat → Vt → (Nat → Prop) → Prop} {WP : Nat → Nat → Vt → DkT → LgT → Prop} {PA : Nat → Nat → DkT → LgT → Bool → Prop}
def IsL (L : LgT) (s : StT) : Prop := L.olds = [] ∧ L.now = s ∧ L.maybe = false
def TwoL (L : LgT) (s t : StT) : Prop := L.olds = [s] ∧ L.now = t ∧ L.maybe = false
theorem isL_new : IsL newL ⟨[], 0⟩ := ⟨rfl, rfl, rfl⟩
theorem IsL.commit {L : LgT} {s : StT} (h : IsL L s) (l : List ByteArray) : TwoL (toL L (committed L l) 0) s ⟨s.recs ++ l, s.cost + costN l⟩ := by
  obtain ⟨h1, h2, h3⟩ := h
  refine ⟨?_, ?_, h3⟩
  · show statesL L = [s]
    unfold statesL
    rw [h1, h2]
    rfl
  · show committed L l = _
    unfold committed
    rw [h2]
theorem TwoL.synced {L : LgT} {s t : StT} (h : TwoL L s t) : IsL (syncedL L) t := ⟨rfl, h.2.1, rfl⟩
theorem IsL.reset {L : LgT} (l : List ByteArray) (hm : L.maybe = false) : IsL (syncedL (toL L (wasS l) 0)) (wasS l) := ⟨rfl, rfl, rfl⟩
theorem IsL.opens {L : LgT} {s : StT} (h : IsL L s) {rs : List ByteArray} {c : Bool} (hb : opensB L rs c = true) : rs = s.recs ∧ IsL (opensL L rs c) s := by
  obtain ⟨h1, h2, h3⟩ := h
  have hs : statesL L = [s] := by unfold statesL; rw [h1, h2]; rfl
  have hr : rs = s.recs := by
    cases c
    · rw [(opensB_calm L rs).1 hb, h2]
    · rcases (opensB_crash L rs).1 hb with ⟨x, hx, e⟩ | ⟨hm, _⟩
      · rw [hs] at hx
        obtain rfl : x = s := by simpa using hx
        exact e.symm
      · rw [h3] at hm; cases hm
  refine ⟨hr, rfl, ?_, rfl⟩
  show opensX L rs c = s
  have hp : pickS L rs c = (s, true) := by unfold pickS; rw [if_pos (by rw [hr, h2]), h2]
  unfold opensX
  rw [hp, hs]
  cases c
  · rfl
  · rw [if_pos rfl]
    show (if L.maybe = true then _ else dearer rs s s) = s
    rw [h3]
    show dearer rs s s = s
    unfold dearer
    rw [if_neg (fun e => by have := e.2; omega)]
theorem open_one (dk : DiskC At) (wl : WalC At WM WP PA) (w0 : World) (tb : TabW w0) (w : World) (p : Nat) (D : DkT) (h : LvD At w0 w p D) (hs : D.stops = false) (hp : D.puts.length ≤ 500000) (f r : Nat) (h1 : 64 ≤ r ∧ r ≤ 1000000) (h2 : f + r ≤ D.safe.length) (L : LgT) (c : Bool) (hP : PA f r D L c) (s : StT) (hI : IsL L s) :
    Calls Tryz.prog 8 #[ptr p, .int .i64 f, .int .i64 r] w fun e w' => ∃ D' q a cap L', e = .returned (.tuple #[ptr q, .slice a s.recs.length cap, .int .i64 0]) ∧ WentD D D' ∧ Texts w' a s.recs.length s.recs ∧ s.recs.length ≤ 1000000 ∧ (∀ b, TBlock a s.recs.length b → w.heap.size ≤ b) ∧ IsL L' s ∧ LvW At WM WP w0 w' p q f r D' L' := by
  refine (calm_open dk wl w0 tb w p D h hs hp f r h1 h2 L c hP).mono ?_
  rintro e w' ⟨D', q, a, len, cap, rs, rfl, k1, k2, k3, k4, k5, k6⟩
  obtain ⟨rfl, k7⟩ := hI.opens k5
  obtain rfl : s.recs.length = len := k2.1
  exact ⟨D', q, a, cap, _, rfl, k1, k2, k3, k4, k7, k6⟩
end Go.Proofs.YtgclohgcehhfnabGreatDoor
/- The statements' awake: the document's rows. -/
namespace Go.Proofs.YtgclohgcehhfnabGreatDoor
open Go.RowKit Nums
set_option linter.unusedVariables false
set_option linter.unusedSimpArgs false
set_option maxRecDepth 100000
variable {At : World → Nat → DkT → (Nat → Prop) → Prop} {Vt : Type} {WM : World → Nat → Nat → Nat → Nat → Vt → (Nat → Prop) → Prop} {WP : Nat → Nat → Vt → DkT → LgT → Prop} {PA : Nat → Nat → DkT → LgT → Bool → Prop}
end Go.Proofs.YtgclohgcehhfnabGreatDoor
