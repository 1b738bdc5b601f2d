/- Texts of our own that the row of WalRuns leans on, part 17. -/
import Derived.Test.YtdnnhmihigdnkaaDoorWalRunsJ8
import Derived.Test.YtdnnhmihigdnkaaDoorWalRunsJ15
import Derived.Test.YtdnnhmihigdnkaaDoorWalRunsJ16
import Derived.Lib.AppendIntMem

/- What the calls of package wal answer, as the document says (their proofs are of one commit of the code). -/
namespace Go.Proofs.YtdnnhmihigdnkaaDoor
open Go.RowKit Nums
set_option linter.unusedVariables false
set_option maxRecDepth 100000
/-- The table by which the library writes a number out. -/
def TabW (w : World) : Prop := Lib.TabIs Tryd.prog w "internal/strconv.uint64pow10" .u64 Lib.pow10Tab
theorem TabW.on {w w' : World} (h : TabW w) (hb : Below w.heap.size w w') : TabW w' := Lib.tabBelow_of_tabIs h w' hb
/-- What a call on a wal leaves of the disk as a whole. -/
structure WentD (D D' : DkT) : Prop where
  room : D'.safe.length = D.safe.length
  stops : D'.stops = D.stops
  puts : D'.puts.length ≤ D.puts.length + 400
/-- The same of a Commit, which makes nothing safe. -/
structure WentC (D D' : DkT) : Prop extends WentD D D' where
  safe : D'.safe = D.safe
/-- What a Commit or a Reset answers, and makes of the log. -/
def ChangeE (L L' : LgT) (x : StT) (l : List ByteArray) (r : Nat) (D' : DkT) (reset : Bool) (n : Int) : Prop :=
  (batchB l = false ∧ n = 2 ∧ L' = L) ∨ (batchB l = true ∧ ((n = 0 ∧ L' = if reset = true then syncedL (toL L x 0) else toL L x 0) ∨ (n = 80 ∧ D'.down = true ∧ L' = toL L x 80) ∨ (n = 90 ∧ L' = L ∧ r / 2 < x.cost + 16)))
/-- Over predicates of one's own: WM (a wal in memory: the world, its block, the disk's block, from, room, its state, its blocks), WP (its state is the log's, on this disk), PA (a part of a disk is a wal's, of this log; behind a crash or not). -/
structure WalC (At : World → Nat → DkT → (Nat → Prop) → Prop) {Vt : Type} (WM : World → Nat → Nat → Nat → Nat → Vt → (Nat → Prop) → Prop) (WP : Nat → Nat → Vt → DkT → LgT → Prop) (PA : Nat → Nat → DkT → LgT → Bool → Prop) : Prop where
  mlt : ∀ {w : World} {q p f r : Nat} {V : Vt} {T : Nat → Prop}, WM w q p f r V T → ∀ b, T b → b < w.heap.size
  mkeep : ∀ {w w' : World} {q p f r : Nat} {V : Vt} {T : Nat → Prop}, WM w q p f r V T → w.heap.size ≤ w'.heap.size → (∀ b, T b → w'.heap[b]? = w.heap[b]?) → WM w' q p f r V T
  part : ∀ {f r : Nat} {V : Vt} {D : DkT} {L : LgT}, WP f r V D L → PA f r D L false
  crash : ∀ {f r : Nat} {D : DkT} {L : LgT} {c : Bool} (k t : Int), OkD D → PA f r D L c → PA f r (crashD D k t) L true
  none_ : ∀ {f r : Nat} {V : Vt} {D D' : DkT} {L : LgT}, OkD D → D'.safe = D.safe → WP f r V D L → PA f r (crashD D' 0 0) L true
  all_ : ∀ {f r : Nat} {V : Vt} {D : DkT} {L : LgT} (k t : Int), OkD D → L.maybe = false → D.puts.length ≤ k → WP f r V D L → PA f r (crashD D k t) (syncedL L) true
  stopP : ∀ {f r : Nat} {D : DkT} {L : LgT} {c : Bool} (n : Int), PA f r D L c → PA f r (stopD D n) L c
  stopW : ∀ {f r : Nat} {V : Vt} {D : DkT} {L : LgT} (n : Int), WP f r V D L → WP f r V (stopD D n) L
  fresh : ∀ (n f r : Nat), 64 ≤ r → f + r ≤ n → PA f r (newD n) newL false
  open_ : ∀ (w : World) (tb : TabW w) (p : Nat) (D : DkT) (S : Nat → Prop) (h : At w p D S) (hp : D.puts.length ≤ 500000) (f r : Nat) (h1 : 64 ≤ r ∧ r ≤ 1000000) (h2 : f + r ≤ D.safe.length) (L : LgT) (c : Bool) (hP : PA f r D L c),
    Calls Tryd.prog 12 #[ptr p, .int .i64 f, .int .i64 r] w fun e w' => ∃ D' S', At w' p D' S' ∧ (∀ b, S' b → S b ∨ w.heap.size ≤ b) ∧ Away S w w' ∧ WentD D D' ∧
      (∀ f2 r2, (f + r ≤ f2 ∨ f2 + r2 ≤ f) → (∀ V L, WP f2 r2 V D L → WP f2 r2 V D' L) ∧ (∀ L c, PA f2 r2 D L c → PA f2 r2 D' L c)) ∧
      ((∃ q T V a len cap rs, e = .returned (.tuple #[ptr q, .slice a len cap, .int .i64 0]) ∧ Texts w' a len rs ∧ len ≤ 1000000 ∧ (a = none → cap = 0) ∧ (∀ b, TBlock a len b → w.heap.size ≤ b ∧ ¬ S' b ∧ ¬ T b) ∧ opensB L rs c = true ∧ WM w' q p f r V T ∧ WP f r V D' (opensL L rs c) ∧ (∀ b, T b → w.heap.size ≤ b ∧ ¬ S' b)) ∨
       ((∃ a cap, e = .returned (.tuple #[.pointer none, .slice a 0 cap, .int .i64 80])) ∧ D'.down = true ∧ PA f r D' L c))
  openNo : ∀ (w : World) (p : Nat) (D : DkT) (S : Nat → Prop) (h : At w p D S) (f r : Int) (hf : In64 f) (hr : In64 r) (hn : ¬ (64 ≤ r ∧ r ≤ 1000000 ∧ 0 ≤ f ∧ f ≤ D.safe.length ∧ r ≤ D.safe.length - f)),
    Calls Tryd.prog 12 #[ptr p, .int .i64 f, .int .i64 r] w fun e w' => (∃ a cap, e = .returned (.tuple #[.pointer none, .slice a 0 cap, .int .i64 1])) ∧ Below w.heap.size w w'
  commit : ∀ (w : World) (p : Nat) (D : DkT) (S : Nat → Prop) (h : At w p D S) (hp : D.puts.length ≤ 500000) (q f r : Nat) (V : Vt) (T : Nat → Prop) (L : LgT) (hM : WM w q p f r V T) (hW : WP f r V D L) (hTS : ∀ b, T b → ¬ S b) (a : Option Addr) (len cap : Nat) (l : List ByteArray) (hT : Texts w a len l) (hl : Small 30 5000 l) (hc : a = none → cap = 0) (hb : ∀ b, TBlock a len b → ¬ S b ∧ ¬ T b),
    Calls Tryd.prog 25 #[ptr q, .slice a len cap] w fun e w' => ∃ n D' S' V' T' L', e = .returned (.int .i64 n) ∧ ChangeE L L' (committed L l) l r D' false n ∧ At w' p D' S' ∧ WM w' q p f r V' T' ∧ WP f r V' D' L' ∧ (∀ b, S' b → S b ∨ w.heap.size ≤ b) ∧ (∀ b, T' b → T b ∨ w.heap.size ≤ b) ∧ (∀ b, T' b → ¬ S' b) ∧ Away (fun b => S b ∨ T b) w w' ∧ WentC D D' ∧
      (∀ f2 r2, (f + r ≤ f2 ∨ f2 + r2 ≤ f) → (∀ V L, WP f2 r2 V D L → WP f2 r2 V D' L) ∧ (∀ L c, PA f2 r2 D L c → PA f2 r2 D' L c))
  reset : ∀ (w : World) (p : Nat) (D : DkT) (S : Nat → Prop) (h : At w p D S) (hp : D.puts.length ≤ 500000) (q f r : Nat) (V : Vt) (T : Nat → Prop) (L : LgT) (hM : WM w q p f r V T) (hW : WP f r V D L) (hTS : ∀ b, T b → ¬ S b) (a : Option Addr) (len cap : Nat) (l : List ByteArray) (hT : Texts w a len l) (hl : Small 30 5000 l) (hc : a = none → cap = 0) (hb : ∀ b, TBlock a len b → ¬ S b ∧ ¬ T b),
    Calls Tryd.prog 28 #[ptr q, .slice a len cap] w fun e w' => ∃ n D' S' V' T' L', e = .returned (.int .i64 n) ∧ ChangeE L L' (wasS l) l r D' true n ∧ At w' p D' S' ∧ WM w' q p f r V' T' ∧ WP f r V' D' L' ∧ (∀ b, S' b → S b ∨ w.heap.size ≤ b) ∧ (∀ b, T' b → T b ∨ w.heap.size ≤ b) ∧ (∀ b, T' b → ¬ S' b) ∧ Away (fun b => S b ∨ T b) w w' ∧ WentD D D' ∧
      (∀ f2 r2, (f + r ≤ f2 ∨ f2 + r2 ≤ f) → (∀ V L, WP f2 r2 V D L → WP f2 r2 V D' L) ∧ (∀ L c, PA f2 r2 D L c → PA f2 r2 D' L c))
  sync : ∀ (w : World) (p : Nat) (D : DkT) (S : Nat → Prop) (h : At w p D S) (hp : D.puts.length ≤ 500000) (q f r : Nat) (V : Vt) (T : Nat → Prop) (L : LgT) (hM : WM w q p f r V T) (hW : WP f r V D L) (hTS : ∀ b, T b → ¬ S b),
    Calls Tryd.prog 16 #[ptr q] w fun e w' => ∃ n D' S' V' T' L', e = .returned (.int .i64 n) ∧ ((n = 0 ∧ L' = syncedL L) ∨ (n = 80 ∧ D'.down = true ∧ L' = L)) ∧ At w' p D' S' ∧ WM w' q p f r V' T' ∧ WP f r V' D' L' ∧ (∀ b, S' b → S b ∨ w.heap.size ≤ b) ∧ (∀ b, T' b → T b ∨ w.heap.size ≤ b) ∧ (∀ b, T' b → ¬ S' b) ∧ Away (fun b => S b ∨ T b) w w' ∧ WentD D D' ∧
      (∀ f2 r2, (f + r ≤ f2 ∨ f2 + r2 ≤ f) → (∀ V L, WP f2 r2 V D L → WP f2 r2 V D' L) ∧ (∀ L c, PA f2 r2 D L c → PA f2 r2 D' L c))
  len_ : ∀ (w : World) (q p f r : Nat) (V : Vt) (T : Nat → Prop) (D : DkT) (L : LgT) (hM : WM w q p f r V T) (hW : WP f r V D L),
    Calls Tryd.prog 21 #[ptr q] w fun e w' => e = .returned (.int .i64 L.now.recs.length) ∧ Below w.heap.size w w'
end Go.Proofs.YtdnnhmihigdnkaaDoor

/- A disk and a wal on it, alive in a statement. -/
namespace Go.Proofs.YtdnnhmihigdnkaaDoor
open Go.RowKit Nums
set_option linter.unusedVariables false
set_option linter.unusedSimpArgs false
set_option maxRecDepth 100000
variable {At : World → Nat → DkT → (Nat → Prop) → Prop} {Vt : Type} {WM : World → Nat → Nat → Nat → Nat → Vt → (Nat → Prop) → Prop} {WP : Nat → Nat → Vt → DkT → LgT → Prop} {PA : Nat → Nat → DkT → LgT → Bool → Prop}
/-- A disk alone. -/
def LvD (At : World → Nat → DkT → (Nat → Prop) → Prop) (w0 w : World) (p : Nat) (D : DkT) : Prop := ∃ S, At w p D S ∧ (∀ b, S b → w0.heap.size ≤ b) ∧ Below w0.heap.size w0 w
/-- A disk and a wal on it. -/
def LvW (At : World → Nat → DkT → (Nat → Prop) → Prop) (WM : World → Nat → Nat → Nat → Nat → Vt → (Nat → Prop) → Prop) (WP : Nat → Nat → Vt → DkT → LgT → Prop) (w0 w : World) (p q f r : Nat) (D : DkT) (L : LgT) : Prop :=
  ∃ S T V, At w p D S ∧ WM w q p f r V T ∧ WP f r V D L ∧ (∀ b, T b → ¬ S b) ∧ (∀ b, S b → w0.heap.size ≤ b) ∧ (∀ b, T b → w0.heap.size ≤ b) ∧ Below w0.heap.size w0 w
theorem LvD.below {w0 w w' : World} {p : Nat} {D : DkT} (dk : DiskC At) (h : LvD At w0 w p D) (hb : Below w.heap.size w w') : LvD At w0 w' p D := by
  obtain ⟨S, h1, h2, h3⟩ := h
  exact ⟨S, dk.keep h1 hb.size fun b e => hb.block b (dk.lt h1 b e), h2, h3.trans (hb.mono h3.size)⟩
theorem LvW.below {w0 w w' : World} {p q f r : Nat} {D : DkT} {L : LgT} (dk : DiskC At) (wl : WalC At WM WP PA) (h : LvW At WM WP w0 w p q f r D L) (hb : Below w.heap.size w w') : LvW At WM WP w0 w' p q f r D L := by
  obtain ⟨S, T, V, h1, h2, h3, h4, h5, h6, h7⟩ := h
  exact ⟨S, T, V, dk.keep h1 hb.size fun b e => hb.block b (dk.lt h1 b e), wl.mkeep h2 hb.size fun b e => hb.block b (wl.mlt h2 b e), h3, h4, h5, h6, h7.trans (hb.mono h7.size)⟩
theorem LvW.disk {w0 w : World} {p q f r : Nat} {D : DkT} {L : LgT} (h : LvW At WM WP w0 w p q f r D L) : LvD At w0 w p D := by
  obtain ⟨S, T, V, h1, h2, h3, h4, h5, h6, h7⟩ := h
  exact ⟨S, h1, h5, h7⟩
theorem LvW.b {w0 w : World} {p q f r : Nat} {D : DkT} {L : LgT} (h : LvW At WM WP w0 w p q f r D L) : Below w0.heap.size w0 w := by
  obtain ⟨S, T, V, h1, h2, h3, h4, h5, h6, h7⟩ := h
  exact h7
theorem LvW.part {w0 w : World} {p q f r : Nat} {D : DkT} {L : LgT} (wl : WalC At WM WP PA) (h : LvW At WM WP w0 w p q f r D L) : PA f r D L false := by
  obtain ⟨S, T, V, h1, h2, h3, h4, h5, h6, h7⟩ := h
  exact wl.part h3
/-- A new disk. -/
theorem lvd_new (dk : DiskC At) (w0 w : World) (hb : Below w0.heap.size w0 w) (n : Nat) (hn : 1 ≤ n ∧ n ≤ 1000000) :
    Calls Tryd.prog 29 #[.int .i64 n] w fun e w' => ∃ p, e = .returned (.tuple #[ptr p, .int .i64 0]) ∧ LvD At w0 w' p (newD n) := by
  refine (dk.new n hn w).mono ?_
  rintro e w' ⟨p, S, rfl, h1, h2, h3⟩
  exact ⟨p, rfl, S, h1, fun b e => Nat.le_trans hb.size (h2 b e), hb.trans (h3.mono hb.size)⟩
theorem lvd_crash (dk : DiskC At) (w0 w : World) (p : Nat) (D : DkT) (h : LvD At w0 w p D) (hp : D.puts.length ≤ 1000000) (k t : Int) (hk : In64 k) (ht : In64 t) :
    Calls Tryd.prog 26 #[ptr p, .int .i64 k, .int .i64 t] w fun e w' => e = .returned (.int .i64 0) ∧ LvD At w0 w' p (crashD D k t) ∧ OkD D := by
  obtain ⟨S, h1, h2, h3⟩ := h
  refine (dk.crash w p D S h1 hp k t hk ht).mono ?_
  rintro e w' ⟨rfl, ⟨S', h4, h5⟩, h6⟩
  have hs := h3.size
  refine ⟨rfl, ⟨S', h4, fun b e => ?_, h6.below h3 hs h2⟩, dk.ok h1⟩
  rcases h5 b e with e | e
  · exact h2 b e
  · omega
theorem lvd_down (dk : DiskC At) (w0 w : World) (p : Nat) (D : DkT) (h : LvD At w0 w p D) :
    Calls Tryd.prog 38 #[ptr p] w fun e w' => e = .returned (.bool D.down) ∧ Below w.heap.size w w' := by
  obtain ⟨S, h1, h2, h3⟩ := h
  exact dk.down w p D S h1
theorem LvD.calm {w0 w : World} {p : Nat} {D : DkT} (dk : DiskC At) (h : LvD At w0 w p D) (hs : D.stops = false) : D.down = false := by
  obtain ⟨S, h1, h2, h3⟩ := h
  exact dk.calm h1 hs
theorem LvD.ok {w0 w : World} {p : Nat} {D : DkT} (dk : DiskC At) (h : LvD At w0 w p D) : OkD D := by
  obtain ⟨S, h1, h2, h3⟩ := h
  exact dk.ok h1
/-- What an Open answers. -/
def OpenedAs (At : World → Nat → DkT → (Nat → Prop) → Prop) (WM : World → Nat → Nat → Nat → Nat → Vt → (Nat → Prop) → Prop) (WP : Nat → Nat → Vt → DkT → LgT → Prop) (PA : Nat → Nat → DkT → LgT → Bool → Prop) (w0 w : World) (p f r : Nat) (D : DkT) (L : LgT) (c : Bool) (e : Ending) (w' : World) : Prop :=
  ∃ D', WentD D D' ∧ ((∃ q a len cap rs, e = .returned (.tuple #[ptr q, .slice a len cap, .int .i64 0]) ∧ Texts w' a len rs ∧ len ≤ 1000000 ∧ (∀ b, TBlock a len b → w.heap.size ≤ b) ∧ opensB L rs c = true ∧ LvW At WM WP w0 w' p q f r D' (opensL L rs c)) ∨
    ((∃ a cap, e = .returned (.tuple #[.pointer none, .slice a 0 cap, .int .i64 80])) ∧ D'.down = true ∧ PA f r D' L c ∧ LvD At w0 w' p D'))
theorem lvd_open (wl : WalC At WM WP PA) (w0 : World) (tb : TabW w0) (w : World) (p : Nat) (D : DkT) (h : LvD At w0 w p D) (hp : D.puts.length ≤ 500000) (f r : Nat) (h1 : 64 ≤ r ∧ r ≤ 1000000) (h2 : f + r ≤ D.safe.length) (L : LgT) (c : Bool) (hP : PA f r D L c) :
    Calls Tryd.prog 12 #[ptr p, .int .i64 f, .int .i64 r] w fun e w' => OpenedAs At WM WP PA w0 w p f r D L c e w' := by
  obtain ⟨S, k1, k2, k3⟩ := h
  refine (wl.open_ w (tb.on k3) p D S k1 hp f r h1 h2 L c hP).mono ?_
  rintro e w' ⟨D', S', a1, a2, a3, a4, a5, a6⟩
  have hs := k3.size
  have hS' : ∀ b, S' b → w0.heap.size ≤ b := fun b e => by
    rcases a2 b e with e | e
    · exact k2 b e
    · omega
  have hB := a3.below k3 hs k2
  refine ⟨D', a4, ?_⟩
  rcases a6 with ⟨q, T, V, a, len, cap, rs, rfl, b1, b2, b3, b4, b5, b6, b7, b8⟩ | ⟨⟨a, cap, rfl⟩, b1, b2⟩
  · exact .inl ⟨q, a, len, cap, rs, rfl, b1, b2, fun b e => (b4 b e).1, b5, S', T, V, a1, b6, b7, fun b e => (b8 b e).2, hS', fun b e => Nat.le_trans hs (b8 b e).1, hB⟩
  · exact .inr ⟨⟨a, cap, rfl⟩, b1, b2, S', a1, hS', hB⟩
/-- What a Commit or a Reset leaves. -/
def ChangedAs (At : World → Nat → DkT → (Nat → Prop) → Prop) (WM : World → Nat → Nat → Nat → Nat → Vt → (Nat → Prop) → Prop) (WP : Nat → Nat → Vt → DkT → LgT → Prop) (w0 : World) (p q f r : Nat) (D : DkT) (L : LgT) (x : StT) (l : List ByteArray) (reset : Bool) (e : Ending) (w' : World) : Prop :=
  ∃ n D' L', e = .returned (.int .i64 n) ∧ ChangeE L L' x l r D' reset n ∧ WentD D D' ∧ LvW At WM WP w0 w' p q f r D' L'
theorem lvw_commit (dk : DiskC At) (wl : WalC At WM WP PA) (w0 W w : World) (p q f r : Nat) (D : DkT) (L : LgT) (h : LvW At WM WP w0 W p q f r D L) (hW : Below W.heap.size W w) (hp : D.puts.length ≤ 500000) (a : Option Addr) (len cap : Nat) (l : List ByteArray) (hT : Texts w a len l) (hl : Small 30 5000 l) (hc : a = none → cap = 0) (hb : ∀ b, TBlock a len b → b < w0.heap.size ∨ W.heap.size ≤ b) :
    Calls Tryd.prog 25 #[ptr q, .slice a len cap] w fun e w' => ∃ n D' L', e = .returned (.int .i64 n) ∧ ChangeE L L' (committed L l) l r D' false n ∧ WentC D D' ∧ LvW At WM WP w0 w' p q f r D' L' := by
  have hl1 := h
  obtain ⟨S0, T0, V0, z1, z2, _⟩ := hl1
  obtain ⟨S, T, V, h1, h2, h3, h4, h5, h6, h7⟩ := h
  have k1 := dk.keep h1 hW.size fun b e => hW.block b (dk.lt h1 b e)
  have k2 := wl.mkeep h2 hW.size fun b e => hW.block b (wl.mlt h2 b e)
  have k7 := h7.trans (hW.mono h7.size)
  have hs := k7.size
  have hs0 := h7.size
  refine (wl.commit w p D S k1 hp q f r V T L k2 h3 h4 a len cap l hT hl hc (fun b e => ⟨fun e2 => ?_, fun e2 => ?_⟩)).mono ?_
  · have := h5 b e2; have := dk.lt h1 b e2; rcases hb b e with e | e <;> omega
  · have := h6 b e2; have := wl.mlt h2 b e2; rcases hb b e with e | e <;> omega
  · rintro e w' ⟨n, D', S', V', T', L', rfl, a1, a2, a3, a4, a5, a6, a7, a8, a9, a10⟩
    refine ⟨n, D', L', rfl, a1, a9, S', T', V', a2, a3, a4, a7, fun b e => ?_, fun b e => ?_, a8.below k7 hs fun b e => ?_⟩
    · rcases a5 b e with e | e
      · exact h5 b e
      · omega
    · rcases a6 b e with e | e
      · exact h6 b e
      · omega
    · rcases e with e | e
      · exact h5 b e
      · exact h6 b e
theorem lvw_reset (dk : DiskC At) (wl : WalC At WM WP PA) (w0 W w : World) (p q f r : Nat) (D : DkT) (L : LgT) (h : LvW At WM WP w0 W p q f r D L) (hW : Below W.heap.size W w) (hp : D.puts.length ≤ 500000) (a : Option Addr) (len cap : Nat) (l : List ByteArray) (hT : Texts w a len l) (hl : Small 30 5000 l) (hc : a = none → cap = 0) (hb : ∀ b, TBlock a len b → b < w0.heap.size ∨ W.heap.size ≤ b) :
    Calls Tryd.prog 28 #[ptr q, .slice a len cap] w fun e w' => ChangedAs At WM WP w0 p q f r D L (wasS l) l true e w' := by
  obtain ⟨S, T, V, h1, h2, h3, h4, h5, h6, h7⟩ := h
  have k1 := dk.keep h1 hW.size fun b e => hW.block b (dk.lt h1 b e)
  have k2 := wl.mkeep h2 hW.size fun b e => hW.block b (wl.mlt h2 b e)
  have k7 := h7.trans (hW.mono h7.size)
  have hs := k7.size
  have hs0 := h7.size
  refine (wl.reset w p D S k1 hp q f r V T L k2 h3 h4 a len cap l hT hl hc (fun b e => ⟨fun e2 => ?_, fun e2 => ?_⟩)).mono ?_
  · have := h5 b e2; have := dk.lt h1 b e2; rcases hb b e with e | e <;> omega
  · have := h6 b e2; have := wl.mlt h2 b e2; rcases hb b e with e | e <;> omega
  · rintro e w' ⟨n, D', S', V', T', L', rfl, a1, a2, a3, a4, a5, a6, a7, a8, a9, a10⟩
    refine ⟨n, D', L', rfl, a1, a9, S', T', V', a2, a3, a4, a7, fun b e => ?_, fun b e => ?_, a8.below k7 hs fun b e => ?_⟩
    · rcases a5 b e with e | e
      · exact h5 b e
      · omega
    · rcases a6 b e with e | e
      · exact h6 b e
      · omega
    · rcases e with e | e
      · exact h5 b e
      · exact h6 b e
theorem lvw_sync (wl : WalC At WM WP PA) (w0 w : World) (p q f r : Nat) (D : DkT) (L : LgT) (h : LvW At WM WP w0 w p q f r D L) (hp : D.puts.length ≤ 500000) :
    Calls Tryd.prog 16 #[ptr q] w fun e w' => ∃ n D' L', e = .returned (.int .i64 n) ∧ ((n = 0 ∧ L' = syncedL L) ∨ (n = 80 ∧ D'.down = true ∧ L' = L)) ∧ WentD D D' ∧ LvW At WM WP w0 w' p q f r D' L' := by
  obtain ⟨S, T, V, h1, h2, h3, h4, h5, h6, h7⟩ := h
  have hs := h7.size
  refine (wl.sync w p D S h1 hp q f r V T L h2 h3 h4).mono ?_
  rintro e w' ⟨n, D', S', V', T', L', rfl, a1, a2, a3, a4, a5, a6, a7, a8, a9, a10⟩
  refine ⟨n, D', L', rfl, a1, a9, S', T', V', a2, a3, a4, a7, fun b e => ?_, fun b e => ?_, a8.below h7 hs fun b e => ?_⟩
  · rcases a5 b e with e | e
    · exact h5 b e
    · omega
  · rcases a6 b e with e | e
    · exact h6 b e
    · omega
  · rcases e with e | e
    · exact h5 b e
    · exact h6 b e
theorem lvw_len (wl : WalC At WM WP PA) (w0 w : World) (p q f r : Nat) (D : DkT) (L : LgT) (h : LvW At WM WP w0 w p q f r D L) :
    Calls Tryd.prog 21 #[ptr q] w fun e w' => e = .returned (.int .i64 L.now.recs.length) ∧ Below w.heap.size w w' := by
  obtain ⟨S, T, V, h1, h2, h3, h4, h5, h6, h7⟩ := h
  exact wl.len_ w q p f r V T D L h2 h3
/-! While no Stop is in force. -/
theorem calm_commit (dk : DiskC At) (wl : WalC At WM WP PA) (w0 W w : World) (p q f r : Nat) (D : DkT) (L : LgT) (h : LvW At WM WP w0 W p q f r D L) (hs : D.stops = false) (hW : Below W.heap.size W w) (hp : D.puts.length ≤ 500000) (a : Option Addr) (len cap : Nat) (l : List ByteArray) (hT : Texts w a len l) (hl : Small 30 4000 l) (hc : a = none → cap = 0) (hb : ∀ b, TBlock a len b → b < w0.heap.size ∨ W.heap.size ≤ b) (hf : L.now.cost + costN l + 16 ≤ r / 2) :
    Calls Tryd.prog 25 #[ptr q, .slice a len cap] w fun e w' => e = .returned (.int .i64 0) ∧ ∃ D', WentC D D' ∧ LvW At WM WP w0 w' p q f r D' (toL L (committed L l) 0) := by
  refine (lvw_commit dk wl w0 W w p q f r D L h hW hp a len cap l hT (hl.mono (Nat.le_refl _) (by omega)) hc hb).mono ?_
  rintro e w' ⟨n, D', L', rfl, h1, h2, h3⟩
  have hbt : batchB l = true := by unfold batchB; rw [decide_eq_true_eq]; exact ⟨by have := hl.1; omega, hl.2⟩
  rcases h1 with ⟨h1, _⟩ | ⟨_, ⟨rfl, rfl⟩ | ⟨rfl, h1, _⟩ | ⟨rfl, _, h1⟩⟩
  · rw [hbt] at h1; cases h1
  · exact ⟨rfl, D', h2, h3⟩
  · have := h3.disk.calm dk (h2.stops.trans hs)
    rw [this] at h1; cases h1
  · have : r / 2 < L.now.cost + costN l + 16 := h1
    omega
theorem calm_reset (dk : DiskC At) (wl : WalC At WM WP PA) (w0 W w : World) (p q f r : Nat) (D : DkT) (L : LgT) (h : LvW At WM WP w0 W p q f r D L) (hs : D.stops = false) (hW : Below W.heap.size W w) (hp : D.puts.length ≤ 500000) (a : Option Addr) (len cap : Nat) (l : List ByteArray) (hT : Texts w a len l) (hl : Small 30 4000 l) (hc : a = none → cap = 0) (hb : ∀ b, TBlock a len b → b < w0.heap.size ∨ W.heap.size ≤ b) (hf : costN l + 16 ≤ r / 2) :
    Calls Tryd.prog 28 #[ptr q, .slice a len cap] w fun e w' => e = .returned (.int .i64 0) ∧ ∃ D', WentD D D' ∧ LvW At WM WP w0 w' p q f r D' (syncedL (toL L (wasS l) 0)) := by
  refine (lvw_reset dk wl w0 W w p q f r D L h hW hp a len cap l hT (hl.mono (Nat.le_refl _) (by omega)) hc hb).mono ?_
  rintro e w' ⟨n, D', L', rfl, h1, h2, h3⟩
  have hbt : batchB l = true := by unfold batchB; rw [decide_eq_true_eq]; exact ⟨by have := hl.1; omega, hl.2⟩
  rcases h1 with ⟨h1, _⟩ | ⟨_, ⟨rfl, rfl⟩ | ⟨rfl, h1, _⟩ | ⟨rfl, _, h1⟩⟩
  · rw [hbt] at h1; cases h1
  · exact ⟨rfl, D', h2, h3⟩
  · have := h3.disk.calm dk (h2.stops.trans hs)
    rw [this] at h1; cases h1
  · have : r / 2 < costN l + 16 := h1
    omega
theorem calm_sync (dk : DiskC At) (wl : WalC At WM WP PA) (w0 w : World) (p q f r : Nat) (D : DkT) (L : LgT) (h : LvW At WM WP w0 w p q f r D L) (hs : D.stops = false) (hp : D.puts.length ≤ 500000) :
    Calls Tryd.prog 16 #[ptr q] w fun e w' => e = .returned (.int .i64 0) ∧ ∃ D', WentD D D' ∧ LvW At WM WP w0 w' p q f r D' (syncedL L) := by
  refine (lvw_sync wl w0 w p q f r D L h hp).mono ?_
  rintro e w' ⟨n, D', L', rfl, h1, h2, h3⟩
  rcases h1 with ⟨rfl, rfl⟩ | ⟨rfl, h1, _⟩
  · exact ⟨rfl, D', h2, h3⟩
  · have := h3.disk.calm dk (h2.stops.trans hs)
    rw [this] at h1; cases h1
theorem calm_open (dk : DiskC At) (wl : WalC At WM WP PA) (w0 : World) (tb : TabW w0) (w : World) (p : Nat) (D : DkT) (h : LvD At w0 w p D) (hs : D.stops = false) (hp : D.puts.length ≤ 500000) (f r : Nat) (h1 : 64 ≤ r ∧ r ≤ 1000000) (h2 : f + r ≤ D.safe.length) (L : LgT) (c : Bool) (hP : PA f r D L c) :
    Calls Tryd.prog 12 #[ptr p, .int .i64 f, .int .i64 r] w fun e w' => ∃ D' q a len cap rs, e = .returned (.tuple #[ptr q, .slice a len cap, .int .i64 0]) ∧ WentD D D' ∧ Texts w' a len rs ∧ len ≤ 1000000 ∧ (∀ b, TBlock a len b → w.heap.size ≤ b) ∧ opensB L rs c = true ∧ LvW At WM WP w0 w' p q f r D' (opensL L rs c) := by
  refine (lvd_open wl w0 tb w p D h hp f r h1 h2 L c hP).mono ?_
  rintro e w' ⟨D', k1, k2⟩
  rcases k2 with ⟨q, a, len, cap, rs, rfl, k3⟩ | ⟨_, k3, _, k4⟩
  · exact ⟨D', q, a, len, cap, rs, rfl, k1, k3⟩
  · have := k4.calm dk (k1.stops.trans hs)
    rw [this] at k3; cases k3
theorem crash_room {D : DkT} (ok : OkD D) (k t : Int) : (crashD D k t).safe.length = D.safe.length ∧ (crashD D k t).puts.length = 0 ∧ (crashD D k t).stops = false := ⟨crashD_room ok k t, rfl, rfl⟩
end Go.Proofs.YtdnnhmihigdnkaaDoor

/- A wal whose records are known; a new disk. -/
namespace Go.Proofs.YtdnnhmihigdnkaaDoor
open Go.RowKit Nums
set_option linter.unusedVariables false
set_option linter.unusedSimpArgs false
set_option maxRecDepth 100000
variable {At : World → Nat → DkT → (Nat → Prop) → Prop} {Vt : Type} {WM : World → Nat → Nat → Nat → Nat → Vt → (Nat → Prop) → Prop} {WP : Nat → Nat → Vt → DkT → LgT → Prop} {PA : Nat → Nat → DkT → LgT → Bool → Prop}
/-- The log is one state alone. -/
def IsL (L : LgT) (s : StT) : Prop := L.olds = [] ∧ L.now = s ∧ L.maybe = false
/-- The log is what is safe, and one state behind it. -/
def TwoL (L : LgT) (s t : StT) : Prop := L.olds = [s] ∧ L.now = t ∧ L.maybe = false
theorem isL_new : IsL newL ⟨[], 0⟩ := ⟨rfl, rfl, rfl⟩
theorem IsL.commit {L : LgT} {s : StT} (h : IsL L s) (l : List ByteArray) : TwoL (toL L (committed L l) 0) s ⟨s.recs ++ l, s.cost + costN l⟩ := by
  obtain ⟨h1, h2, h3⟩ := h
  refine ⟨?_, ?_, h3⟩
  · show statesL L = [s]
    unfold statesL
    rw [h1, h2]
    rfl
  · show committed L l = _
    unfold committed
    rw [h2]
theorem TwoL.synced {L : LgT} {s t : StT} (h : TwoL L s t) : IsL (syncedL L) t := ⟨rfl, h.2.1, rfl⟩
theorem IsL.reset {L : LgT} (l : List ByteArray) (hm : L.maybe = false) : IsL (syncedL (toL L (wasS l) 0)) (wasS l) := ⟨rfl, rfl, rfl⟩
theorem IsL.opens {L : LgT} {s : StT} (h : IsL L s) {rs : List ByteArray} {c : Bool} (hb : opensB L rs c = true) : rs = s.recs ∧ IsL (opensL L rs c) s := by
  obtain ⟨h1, h2, h3⟩ := h
  have hs : statesL L = [s] := by unfold statesL; rw [h1, h2]; rfl
  have hr : rs = s.recs := by
    cases c
    · rw [(opensB_calm L rs).1 hb, h2]
    · rcases (opensB_crash L rs).1 hb with ⟨x, hx, e⟩ | ⟨hm, _⟩
      · rw [hs] at hx
        obtain rfl : x = s := by simpa using hx
        exact e.symm
      · rw [h3] at hm; cases hm
  refine ⟨hr, rfl, ?_, rfl⟩
  show opensX L rs c = s
  have hp : pickS L rs c = (s, true) := by unfold pickS; rw [if_pos (by rw [hr, h2]), h2]
  unfold opensX
  rw [hp, hs]
  cases c
  · rfl
  · rw [if_pos rfl]
    show (if L.maybe = true then _ else dearer rs s s) = s
    rw [h3]
    show dearer rs s s = s
    unfold dearer
    rw [if_neg (fun e => by have := e.2; omega)]
theorem open_one (dk : DiskC At) (wl : WalC At WM WP PA) (w0 : World) (tb : TabW w0) (w : World) (p : Nat) (D : DkT) (h : LvD At w0 w p D) (hs : D.stops = false) (hp : D.puts.length ≤ 500000) (f r : Nat) (h1 : 64 ≤ r ∧ r ≤ 1000000) (h2 : f + r ≤ D.safe.length) (L : LgT) (c : Bool) (hP : PA f r D L c) (s : StT) (hI : IsL L s) :
    Calls Tryd.prog 12 #[ptr p, .int .i64 f, .int .i64 r] w fun e w' => ∃ D' q a cap L', e = .returned (.tuple #[ptr q, .slice a s.recs.length cap, .int .i64 0]) ∧ WentD D D' ∧ Texts w' a s.recs.length s.recs ∧ s.recs.length ≤ 1000000 ∧ (∀ b, TBlock a s.recs.length b → w.heap.size ≤ b) ∧ IsL L' s ∧ LvW At WM WP w0 w' p q f r D' L' := by
  refine (calm_open dk wl w0 tb w p D h hs hp f r h1 h2 L c hP).mono ?_
  rintro e w' ⟨D', q, a, len, cap, rs, rfl, k1, k2, k3, k4, k5, k6⟩
  obtain ⟨rfl, k7⟩ := hI.opens k5
  obtain rfl : s.recs.length = len := k2.1
  exact ⟨D', q, a, cap, _, rfl, k1, k2, k3, k4, k7, k6⟩
theorem lvw_none (dk : DiskC At) (wl : WalC At WM WP PA) {w0 w : World} {p q f r : Nat} {D D' : DkT} {L : LgT} (h : LvW At WM WP w0 w p q f r D L) (hs : D'.safe = D.safe) : PA f r (crashD D' 0 0) L true := by
  have ok := h.disk.ok dk
  obtain ⟨S, T, V, h1, h2, h3, h4, h5, h6, h7⟩ := h
  exact wl.none_ ok hs h3
theorem lvw_all (dk : DiskC At) (wl : WalC At WM WP PA) {w0 w : World} {p q f r : Nat} {D : DkT} {L : LgT} (h : LvW At WM WP w0 w p q f r D L) (hm : L.maybe = false) (k t : Int) (hk : D.puts.length ≤ k) : PA f r (crashD D k t) (syncedL L) true := by
  have ok := h.disk.ok dk
  obtain ⟨S, T, V, h1, h2, h3, h4, h5, h6, h7⟩ := h
  exact wl.all_ k t ok hm hk h3
set_option maxHeartbeats 1000000 in
/-- The statements' ground: a new disk of 2000 bytes. -/
theorem ground_any (dk : DiskC At) (w0 w : World) (hb : Below w0.heap.size w0 w) : Calls Tryd.prog 10 #[] w fun e w' => ∃ p, e = .returned (ptr p) ∧ LvD At w0 w' p (newD 2000) := by
  have NW := hidd (lvd_new dk w0 w hb 2000 (by omega))
  go_enter Tryd.func10, Tryd.ntmps10
  go_wp2_with fail
  refine NW.out.mono ?_
  rintro e w1 ⟨p, rfl, h⟩
  have H := hidd h
  clear h NW
  unfold ptr
  go_wp2
  go_ret
  exact ⟨p, rfl, H.out⟩
set_option maxHeartbeats 1000000 in
theorem fair_any (dk : DiskC At) (w0 w : World) (p : Nat) (D : DkT) (h : LvD At w0 w p D) (n : Int) (hn : n = 0 ∨ n = 80 ∧ D.down = true) :
    Calls Tryd.prog 17 #[ptr p, .int .i64 n] w fun e w' => e = .returned (.bool true) ∧ Below w.heap.size w w' := by
  have DN := hidd (lvd_down dk w0 w p D h)
  unfold ptr
  unfold ptr at DN
  clear h
  rcases hn with rfl | ⟨rfl, hd⟩
  · go_enter Tryd.func17, Tryd.ntmps17
    go_wp2
    go_ret
    exact ⟨rfl, Below.refl _ _⟩
  · rw [hd] at DN
    go_enter Tryd.func17, Tryd.ntmps17
    go_wp2_with fail
    refine DN.out.mono ?_
    rintro e w1 ⟨rfl, hb⟩
    have HB := hidd hb
    clear hb DN
    go_wp2
    go_ret
    exact ⟨rfl, HB.out⟩
end Go.Proofs.YtdnnhmihigdnkaaDoor

/- The statements' awake: the document's rows. -/
namespace Go.Proofs.YtdnnhmihigdnkaaDoor
open Go.RowKit Nums
set_option linter.unusedVariables false
set_option linter.unusedSimpArgs false
set_option maxRecDepth 100000
variable {At : World → Nat → DkT → (Nat → Prop) → Prop} {Vt : Type} {WM : World → Nat → Nat → Nat → Nat → Vt → (Nat → Prop) → Prop} {WP : Nat → Nat → Vt → DkT → LgT → Prop} {PA : Nat → Nat → DkT → LgT → Bool → Prop}
theorem texts_lit (W : World) (ss : List ByteArray) : Texts (W.alloc (.cells (ss.map Value.string).toArray 9)) (some ⟨W.heap.size, 0, none⟩) ss.length ss := texts_new W ss 9
theorem tblock_lit {g len : Nat} {b : Nat} (h : TBlock (some ⟨g, 0, none⟩) len b) : b = g := by
  obtain ⟨off, e, _⟩ := h
  cases e
  rfl
theorem commit_lit (dk : DiskC At) (wl : WalC At WM WP PA) (w0 W : World) (p q f r : Nat) (D : DkT) (L : LgT) (h : LvW At WM WP w0 W p q f r D L) (hs : D.stops = false) (hp : D.puts.length ≤ 500000) (s : StT) (hI : IsL L s) (ss : List ByteArray) (hl : Small 30 4000 ss) (hf : s.cost + costN ss + 16 ≤ r / 2) :
    Calls Tryd.prog 25 #[ptr q, .slice (some ⟨W.heap.size, 0, none⟩) ss.length ss.length] (W.alloc (.cells (ss.map Value.string).toArray 9)) fun e w' => e = .returned (.int .i64 0) ∧ ∃ D' L', WentC D D' ∧ TwoL L' s ⟨s.recs ++ ss, s.cost + costN ss⟩ ∧ LvW At WM WP w0 w' p q f r D' L' := by
  refine (calm_commit dk wl w0 W _ p q f r D L h hs ((Below.refl _ _).alloc (Nat.le_refl _) _) hp _ ss.length ss.length ss (texts_lit W ss) hl (fun e => by cases e) (fun b e => .inr (Nat.le_of_eq (tblock_lit e).symm)) (by rw [hI.2.1]; exact hf)).mono ?_
  rintro e w' ⟨rfl, D', h1, h2⟩
  exact ⟨rfl, D', _, h1, hI.commit ss, h2⟩
theorem reset_lit (dk : DiskC At) (wl : WalC At WM WP PA) (w0 W : World) (p q f r : Nat) (D : DkT) (L : LgT) (h : LvW At WM WP w0 W p q f r D L) (hs : D.stops = false) (hp : D.puts.length ≤ 500000) (hm : L.maybe = false) (ss : List ByteArray) (hl : Small 30 4000 ss) (hf : costN ss + 16 ≤ r / 2) :
    Calls Tryd.prog 28 #[ptr q, .slice (some ⟨W.heap.size, 0, none⟩) ss.length ss.length] (W.alloc (.cells (ss.map Value.string).toArray 9)) fun e w' => e = .returned (.int .i64 0) ∧ ∃ D' L', WentD D D' ∧ IsL L' (wasS ss) ∧ LvW At WM WP w0 w' p q f r D' L' := by
  refine (calm_reset dk wl w0 W _ p q f r D L h hs ((Below.refl _ _).alloc (Nat.le_refl _) _) hp _ ss.length ss.length ss (texts_lit W ss) hl (fun e => by cases e) (fun b e => .inr (Nat.le_of_eq (tblock_lit e).symm)) hf).mono ?_
  rintro e w' ⟨rfl, D', h1, h2⟩
  exact ⟨rfl, D', _, h1, IsL.reset ss hm, h2⟩
theorem same_lit (W : World) (a : Option Addr) (cap : Nat) (ss : List ByteArray) (hT : Texts W a ss.length ss) (hl : ss.length ≤ 1000000) :
    Calls Tryd.prog 27 #[.slice a ss.length cap, .slice (some ⟨W.heap.size, 0, none⟩) ss.length ss.length] (W.alloc (.cells (ss.map Value.string).toArray 9)) fun e w' => e = .returned (.bool true) ∧ Below W.heap.size W w' := by
  have hb : Below W.heap.size W (W.alloc (.cells (ss.map Value.string).toArray 9)) := (Below.refl _ _).alloc (Nat.le_refl _) _
  refine (refSame_any a ss.length cap ss _ ss.length ss.length ss _ (hT.keep hb) (texts_lit W ss) (by unfold maxLen; omega) (by unfold maxLen; omega)).mono ?_
  rintro e w' ⟨rfl, h⟩
  exact ⟨by rw [decide_eq_true rfl], hb.trans (h.mono hb.size)⟩
set_option maxHeartbeats 8000000 in
theorem awake_any (dk : DiskC At) (wl : WalC At WM WP PA) (w : World) (TB : TabW w) : Calls Tryd.prog 13 #[] w fun e w' => e = .returned (.bool true) ∧ Below w.heap.size w w' := by
  have GR := hidd (ground_any dk w w (Below.refl _ _))
  go_enter Tryd.func13, Tryd.ntmps13
  go_wp2_with fail
  refine GR.out.mono ?_
  rintro e w1 ⟨p, rfl, h⟩
  have PP := hidd (wl.fresh 2000 0 1000 (by omega) (by omega))
  obtain ⟨D1, HD⟩ : ∃ D, Hid (D = newD 2000) := ⟨_, hidd rfl⟩
  have sD1 : D1.stops = false := by rw [HD.out]; rfl
  have rD1 : D1.safe.length = 2000 := by rw [HD.out]; exact List.length_replicate
  have bD1 : D1.puts.length ≤ 0 := by rw [HD.out]; exact Nat.le_refl _
  rw [← HD.out] at h PP
  have H := hidd h
  clear h HD GR
  unfold ptr
  have OP := hidd (open_one dk wl w TB w1 p D1 H.out sD1 (by omega) 0 1000 (by omega) (by omega) newL false PP.out ⟨[], 0⟩ isL_new)
  rw [show (⟨[], 0⟩ : StT).recs.length = 0 from rfl] at OP
  unfold ptr at OP
  go_wp2_with fail
  refine OP.out.mono ?_
  rintro e w2 ⟨D2, q1, a1, c1, L1, rfl, hw, ht, -, -, hI, hv⟩
  have sD2 : D2.stops = false := hw.stops.trans sD1
  have rD2 : D2.safe.length = 2000 := hw.room.trans rD1
  have bD2 : D2.puts.length ≤ 400 := Nat.le_trans hw.puts (by omega)
  have T1 := hidd ht
  have I := hidd hI
  have HV := hidd hv
  clear OP hw ht hI hv H sD1 rD1 bD1
  have CM := hidd (commit_lit dk wl w w2 p q1 0 1000 D2 L1 HV.out sD2 (by omega) ⟨[], 0⟩ I.out [(⟨#[97]⟩ : ByteArray), (⟨#[98]⟩ : ByteArray)] ⟨by show 2 ≤ 30; omega, fun s hs => by simp at hs; rcases hs with rfl | rfl <;> decide⟩ (by decide))
  simp only [List.map_cons, List.map_nil, List.length_cons, List.length_nil, Nat.zero_add, Nat.reduceAdd] at CM
  unfold ptr at CM
  go_wp2_with fail
  refine CM.out.mono ?_
  rintro e w3 ⟨rfl, D3, L2, hw, hI, hv⟩
  have sD3 : D3.stops = false := hw.stops.trans sD2
  have rD3 : D3.safe.length = 2000 := hw.room.trans rD2
  have bD3 : D3.puts.length ≤ 800 := Nat.le_trans hw.puts (by omega)
  have I2 : Hid (TwoL L2 ⟨[], 0⟩ ⟨[(⟨#[97]⟩ : ByteArray), (⟨#[98]⟩ : ByteArray)], 34⟩) := hI
  replace HV := hidd hv
  clear CM hw hI hv I sD2 rD2 bD2
  have SY := hidd (calm_sync dk wl w w3 p q1 0 1000 D3 L2 HV.out sD3 (by omega))
  unfold ptr at SY
  go_wp2_with fail
  refine SY.out.mono ?_
  rintro e w4 ⟨rfl, D4, hw, hv⟩
  have sD4 : D4.stops = false := hw.stops.trans sD3
  have rD4 : D4.safe.length = 2000 := hw.room.trans rD3
  have bD4 : D4.puts.length ≤ 1200 := Nat.le_trans hw.puts (by omega)
  have I := hidd (I2.out.synced)
  replace HV := hidd hv
  clear SY hw hv I2 sD3 rD3 bD3
  have CM := hidd (commit_lit dk wl w w4 p q1 0 1000 D4 (syncedL L2) HV.out sD4 (by omega) ⟨[(⟨#[97]⟩ : ByteArray), (⟨#[98]⟩ : ByteArray)], 34⟩ I.out [(⟨#[99]⟩ : ByteArray), (⟨#[100]⟩ : ByteArray)] ⟨by show 2 ≤ 30; omega, fun s hs => by simp at hs; rcases hs with rfl | rfl <;> decide⟩ (by decide))
  simp only [List.map_cons, List.map_nil, List.length_cons, List.length_nil, Nat.zero_add, Nat.reduceAdd] at CM
  unfold ptr at CM
  go_wp2_with fail
  refine CM.out.mono ?_
  rintro e w5 ⟨rfl, D5, L3, hw, hI, hv⟩
  have sD5 : D5.stops = false := hw.stops.trans sD4
  have rD5 : D5.safe.length = 2000 := hw.room.trans rD4
  have bD5 : D5.puts.length ≤ 1600 := Nat.le_trans hw.puts (by omega)
  have I2 : Hid (TwoL L3 ⟨[(⟨#[97]⟩ : ByteArray), (⟨#[98]⟩ : ByteArray)], 34⟩ ⟨[(⟨#[97]⟩ : ByteArray), (⟨#[98]⟩ : ByteArray), (⟨#[99]⟩ : ByteArray), (⟨#[100]⟩ : ByteArray)], 68⟩) := hI
  have PP := hidd (lvw_none dk wl HV.out hw.safe)
  have IS := I
  replace HV := hidd hv
  clear CM hw hI hv I sD4 rD4 bD4
  have CR := hidd (lvd_crash dk w w5 p D5 HV.out.disk (by omega) 0 0 (by unfold In64; omega) (by unfold In64; omega))
  obtain ⟨e0, e1, e2⟩ := crash_room (HV.out.disk.ok dk) 0 0
  unfold ptr at CR
  go_wp2_with fail
  refine CR.out.mono ?_
  rintro e w6 ⟨rfl, hv, -⟩
  obtain ⟨D6, HD⟩ : ∃ D, Hid (D = crashD D5 0 0) := ⟨_, hidd rfl⟩
  rw [← HD.out] at hv e0 e1 e2 PP
  have sD6 := e2
  have rD6 : D6.safe.length = 2000 := e0.trans rD5
  have bD6 : D6.puts.length ≤ 0 := Nat.le_of_eq e1
  have H := hidd hv
  clear CR hv HD HV e0 e1 e2 sD5 rD5 bD5 I2
  have OP := hidd (open_one dk wl w TB w6 p D6 H.out sD6 (by omega) 0 1000 (by omega) (by omega) (syncedL L2) true PP.out ⟨[(⟨#[97]⟩ : ByteArray), (⟨#[98]⟩ : ByteArray)], 34⟩ IS.out)
  rw [show (⟨[(⟨#[97]⟩ : ByteArray), (⟨#[98]⟩ : ByteArray)], 34⟩ : StT).recs.length = 2 from rfl] at OP
  unfold ptr at OP
  go_wp2_with fail
  refine OP.out.mono ?_
  rintro e w7 ⟨D7, q4, a2, c2, L4, rfl, hw, ht, -, -, hI, hv⟩
  have sD7 : D7.stops = false := hw.stops.trans sD6
  have rD7 : D7.safe.length = 2000 := hw.room.trans rD6
  have bD7 : D7.puts.length ≤ 400 := Nat.le_trans hw.puts (by omega)
  have T2 := hidd ht
  have I := hidd hI
  have HV := hidd hv
  clear OP hw ht hI hv H sD6 rD6 bD6
  have SM := hidd (same_lit w7 a2 c2 [(⟨#[97]⟩ : ByteArray), (⟨#[98]⟩ : ByteArray)] T2.out (by decide))
  simp only [List.map_cons, List.map_nil, List.length_cons, List.length_nil, Nat.zero_add, Nat.reduceAdd] at SM
  go_wp2_with fail
  refine SM.out.mono ?_
  rintro e w8 ⟨rfl, hb⟩
  replace HV := hidd (HV.out.below dk wl hb)
  clear hb SM T2
  have CM := hidd (commit_lit dk wl w w8 p q4 0 1000 D7 L4 HV.out sD7 (by omega) ⟨[(⟨#[97]⟩ : ByteArray), (⟨#[98]⟩ : ByteArray)], 34⟩ I.out [(⟨#[99]⟩ : ByteArray), (⟨#[100]⟩ : ByteArray)] ⟨by show 2 ≤ 30; omega, fun s hs => by simp at hs; rcases hs with rfl | rfl <;> decide⟩ (by decide))
  simp only [List.map_cons, List.map_nil, List.length_cons, List.length_nil, Nat.zero_add, Nat.reduceAdd] at CM
  unfold ptr at CM
  go_wp2_with fail
  refine CM.out.mono ?_
  rintro e w9 ⟨rfl, D8, L5, hw, hI, hv⟩
  have sD8 : D8.stops = false := hw.stops.trans sD7
  have rD8 : D8.safe.length = 2000 := hw.room.trans rD7
  have bD8 : D8.puts.length ≤ 800 := Nat.le_trans hw.puts (by omega)
  have I2 : Hid (TwoL L5 ⟨[(⟨#[97]⟩ : ByteArray), (⟨#[98]⟩ : ByteArray)], 34⟩ ⟨[(⟨#[97]⟩ : ByteArray), (⟨#[98]⟩ : ByteArray), (⟨#[99]⟩ : ByteArray), (⟨#[100]⟩ : ByteArray)], 68⟩) := hI
  replace HV := hidd hv
  clear CM hw hI hv I sD7 rD7 bD7
  have PP := hidd (lvw_all dk wl HV.out I2.out.2.2 1000 0 (by omega))
  have CR := hidd (lvd_crash dk w w9 p D8 HV.out.disk (by omega) 1000 0 (by unfold In64; omega) (by unfold In64; omega))
  obtain ⟨e0, e1, e2⟩ := crash_room (HV.out.disk.ok dk) 1000 0
  unfold ptr at CR
  go_wp2_with fail
  refine CR.out.mono ?_
  rintro e w10 ⟨rfl, hv, -⟩
  obtain ⟨D9, HD⟩ : ∃ D, Hid (D = crashD D8 1000 0) := ⟨_, hidd rfl⟩
  rw [← HD.out] at hv e0 e1 e2 PP
  have sD9 := e2
  have rD9 : D9.safe.length = 2000 := e0.trans rD8
  have bD9 : D9.puts.length ≤ 0 := Nat.le_of_eq e1
  have IS := hidd (I2.out.synced)
  have H := hidd hv
  clear CR hv HD HV e0 e1 e2 sD8 rD8 bD8 I2
  have OP := hidd (open_one dk wl w TB w10 p D9 H.out sD9 (by omega) 0 1000 (by omega) (by omega) (syncedL L5) true PP.out ⟨[(⟨#[97]⟩ : ByteArray), (⟨#[98]⟩ : ByteArray), (⟨#[99]⟩ : ByteArray), (⟨#[100]⟩ : ByteArray)], 68⟩ IS.out)
  rw [show (⟨[(⟨#[97]⟩ : ByteArray), (⟨#[98]⟩ : ByteArray), (⟨#[99]⟩ : ByteArray), (⟨#[100]⟩ : ByteArray)], 68⟩ : StT).recs.length = 4 from rfl] at OP
  unfold ptr at OP
  go_wp2_with fail
  refine OP.out.mono ?_
  rintro e w11 ⟨D10, q6, a3, c3, L6, rfl, hw, ht, -, -, hI, hv⟩
  have sD10 : D10.stops = false := hw.stops.trans sD9
  have rD10 : D10.safe.length = 2000 := hw.room.trans rD9
  have bD10 : D10.puts.length ≤ 400 := Nat.le_trans hw.puts (by omega)
  have T3 := hidd ht
  have I := hidd hI
  have HV := hidd hv
  clear OP hw ht hI hv H sD9 rD9 bD9
  have SM := hidd (same_lit w11 a3 c3 [(⟨#[97]⟩ : ByteArray), (⟨#[98]⟩ : ByteArray), (⟨#[99]⟩ : ByteArray), (⟨#[100]⟩ : ByteArray)] T3.out (by decide))
  simp only [List.map_cons, List.map_nil, List.length_cons, List.length_nil, Nat.zero_add, Nat.reduceAdd] at SM
  go_wp2_with fail
  refine SM.out.mono ?_
  rintro e w12 ⟨rfl, hb⟩
  replace HV := hidd (HV.out.below dk wl hb)
  clear hb SM T3
  have RS := hidd (reset_lit dk wl w w12 p q6 0 1000 D10 L6 HV.out sD10 (by omega) I.out.2.2 [(⟨#[120]⟩ : ByteArray)] ⟨by show 1 ≤ 30; omega, fun s hs => by simp at hs; subst hs; decide⟩ (by decide))
  simp only [List.map_cons, List.map_nil, List.length_cons, List.length_nil, Nat.zero_add, Nat.reduceAdd] at RS
  unfold ptr at RS
  go_wp2_with fail
  refine RS.out.mono ?_
  rintro e w13 ⟨rfl, D11, L7, hw, hI, hv⟩
  have sD11 : D11.stops = false := hw.stops.trans sD10
  have rD11 : D11.safe.length = 2000 := hw.room.trans rD10
  have bD11 : D11.puts.length ≤ 800 := Nat.le_trans hw.puts (by omega)
  replace I := hidd hI
  replace HV := hidd hv
  clear RS hw hI hv sD10 rD10 bD10
  have PP := hidd (lvw_none dk wl HV.out rfl)
  have CR := hidd (lvd_crash dk w w13 p D11 HV.out.disk (by omega) 0 0 (by unfold In64; omega) (by unfold In64; omega))
  obtain ⟨e0, e1, e2⟩ := crash_room (HV.out.disk.ok dk) 0 0
  unfold ptr at CR
  go_wp2_with fail
  refine CR.out.mono ?_
  rintro e w14 ⟨rfl, hv, -⟩
  obtain ⟨D12, HD⟩ : ∃ D, Hid (D = crashD D11 0 0) := ⟨_, hidd rfl⟩
  rw [← HD.out] at hv e0 e1 e2 PP
  have sD12 := e2
  have rD12 : D12.safe.length = 2000 := e0.trans rD11
  have bD12 : D12.puts.length ≤ 0 := Nat.le_of_eq e1
  have IS := I
  have H := hidd hv
  clear CR hv HD HV e0 e1 e2 sD11 rD11 bD11 I
  have OP := hidd (open_one dk wl w TB w14 p D12 H.out sD12 (by omega) 0 1000 (by omega) (by omega) L7 true PP.out (wasS [(⟨#[120]⟩ : ByteArray)]) IS.out)
  rw [show ((wasS [(⟨#[120]⟩ : ByteArray)]) : StT).recs.length = 1 from rfl] at OP
  unfold ptr at OP
  go_wp2_with fail
  refine OP.out.mono ?_
  rintro e w15 ⟨D13, q8, a4, c4, L8, rfl, hw, ht, -, -, hI, hv⟩
  have sD13 : D13.stops = false := hw.stops.trans sD12
  have rD13 : D13.safe.length = 2000 := hw.room.trans rD12
  have bD13 : D13.puts.length ≤ 400 := Nat.le_trans hw.puts (by omega)
  have T4 := hidd ht
  have I := hidd hI
  have HV := hidd hv
  clear OP hw ht hI hv H sD12 rD12 bD12
  have ON : Hid (∀ p D, LvD At w w15 p D → D.safe.length = 2000 → Calls Tryd.prog 12 #[.pointer (some ⟨p, 0, none⟩), .int .i64 0, .int .i64 63] w15 fun e w' => (∃ a cap, e = .returned (.tuple #[.pointer none, .slice a 0 cap, .int .i64 1])) ∧ Below w15.heap.size w15 w') := fun p D h hr => by
    obtain ⟨S, h1, h2, h3⟩ := h
    exact wl.openNo w15 p D S h1 0 63 (by unfold In64; omega) (by unfold In64; omega) (by omega)
  have ON2 := hidd (ON.out p D13 HV.out.disk rD13)
  clear ON
  go_wp2_with fail
  refine ON2.out.mono ?_
  rintro e w16 ⟨⟨ax, cx, rfl⟩, hb⟩
  replace HV := hidd (HV.out.below dk wl hb)
  replace T4 := hidd (T4.out.keep hb)
  clear hb ON2
  have hT4 : ([(⟨#[120]⟩ : ByteArray)] : List ByteArray).length = 1 := rfl
  have SM := hidd (same_lit w16 a4 c4 [(⟨#[120]⟩ : ByteArray)] T4.out (by decide))
  simp only [List.map_cons, List.map_nil, List.length_cons, List.length_nil, Nat.zero_add, Nat.reduceAdd] at SM
  go_wp2_with fail
  refine SM.out.mono ?_
  rintro e w17 ⟨rfl, hb⟩
  replace HV := hidd (HV.out.below dk wl hb)
  clear hb SM T4
  have LN := hidd (lvw_len wl w w17 p q8 0 1000 D13 L8 HV.out)
  rw [show L8.now.recs.length = 1 by rw [I.out.2.1]; rfl] at LN
  unfold ptr at LN
  go_wp2_with fail
  refine LN.out.mono ?_
  rintro e w18 ⟨rfl, hb⟩
  have HB := hidd (HV.out.b.trans (hb.mono HV.out.b.size))
  clear hb LN HV I
  go_wp2
  go_ret
  exact ⟨rfl, HB.out⟩
end Go.Proofs.YtdnnhmihigdnkaaDoor
