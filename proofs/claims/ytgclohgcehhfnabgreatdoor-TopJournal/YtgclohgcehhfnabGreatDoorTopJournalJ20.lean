/- Texts of our own that the row of TopJournal leans on, part 20. -/
import Derived.Test.YtgclohgcehhfnabGreatDoorTopJournalJ17
import Derived.Test.YtgclohgcehhfnabGreatDoorTopJournalJ19
/- A wal on a disk that may stop, and crashes. -/
namespace Go.Proofs.YtgclohgcehhfnabGreatDoor
open Go.RowKit Nums
set_option linter.unusedVariables false
set_option linter.unusedSimpArgs false
set_option maxRecDepth 100000
variable {At : World → Nat → DkT → (Nat → Prop) → Prop} {Vt : Type} {WM : World → Nat → Nat → Nat → Nat → Vt → (Nat → Prop) → Prop} {WP : Nat → Nat → Vt → DkT → LgT → Prop} {PA : Nat → Nat → DkT → LgT → Bool → Prop}
theorem lvw_crashP (dk : DiskC At) (wl : WalC At WM WP PA) {w0 w : World} {p q f r : Nat} {D : DkT} {L : LgT} (h : LvW At WM WP w0 w p q f r D L) (k t : Int) : PA f r (crashD D k t) L true :=
  wl.crash k t (h.disk.ok dk) (h.part wl)
theorem IsL.maybe {L : LgT} {s x : StT} (h : IsL L s) : (toL L x 80).olds = [] ∧ (toL L x 80).now = s ∧ (toL L x 80).may = x ∧ (toL L x 80).maybe = true := by
  obtain ⟨h1, h2, h3⟩ := h
  have e : toL L x 80 = { L with may := x, maybe := true } := by unfold toL; rw [if_neg (by decide), if_pos rfl, if_neg (by rw [h3]; decide)]
  rw [e]
  exact ⟨h1, h2, rfl, rfl⟩
end Go.Proofs.YtgclohgcehhfnabGreatDoor
/- A wal alive beside memory of the statement's own. -/
namespace Go.Proofs.YtgclohgcehhfnabGreatDoor
open Go.RowKit Nums
set_option linter.unusedVariables false
set_option linter.unusedSimpArgs false
set_option maxRecDepth 100000
variable {At : World → Nat → DkT → (Nat → Prop) → Prop} {Vt : Type} {WM : World → Nat → Nat → Nat → Nat → Vt → (Nat → Prop) → Prop} {WP : Nat → Nat → Vt → DkT → LgT → Prop} {PA : Nat → Nat → DkT → LgT → Bool → Prop}
def LvX (At : World → Nat → DkT → (Nat → Prop) → Prop) (WM : World → Nat → Nat → Nat → Nat → Vt → (Nat → Prop) → Prop) (WP : Nat → Nat → Vt → DkT → LgT → Prop) (X : Nat → Prop) (w0 w : World) (p q f r : Nat) (D : DkT) (L : LgT) : Prop :=
  ∃ S T V, At w p D S ∧ WM w q p f r V T ∧ WP f r V D L ∧ (∀ b, T b → ¬ S b) ∧ (∀ b, S b → w0.heap.size ≤ b) ∧ (∀ b, T b → w0.heap.size ≤ b) ∧ Below w0.heap.size w0 w ∧ (∀ b, X b → ¬ S b ∧ ¬ T b)
theorem LvX.w {X : Nat → Prop} {w0 w : World} {p q f r : Nat} {D : DkT} {L : LgT} (h : LvX At WM WP X w0 w p q f r D L) : LvW At WM WP w0 w p q f r D L := by
  obtain ⟨S, T, V, h1, h2, h3, h4, h5, h6, h7, h8⟩ := h
  exact ⟨S, T, V, h1, h2, h3, h4, h5, h6, h7⟩
theorem LvX.more {X Y : Nat → Prop} {w0 W w : World} {p q f r : Nat} {D : DkT} {L : LgT} (dk : DiskC At) (wl : WalC At WM WP PA) (h : LvX At WM WP X w0 W p q f r D L) (hW : W.heap.size ≤ w.heap.size) (hB : Below w0.heap.size w0 w) (hk : ∀ b, b < W.heap.size → ¬ X b → w.heap[b]? = W.heap[b]?) (hY : ∀ b, Y b → X b ∨ W.heap.size ≤ b ∨ b < w0.heap.size) : LvX At WM WP Y w0 w p q f r D L := by
  obtain ⟨S, T, V, h1, h2, h3, h4, h5, h6, h7, h8⟩ := h
  have hs := h7.size
  refine ⟨S, T, V, dk.keep h1 hW fun b e => hk b (dk.lt h1 b e) (fun e2 => (h8 b e2).1 e), wl.mkeep h2 hW fun b e => hk b (wl.mlt h2 b e) (fun e2 => (h8 b e2).2 e), h3, h4, h5, h6, hB, fun b e => ⟨fun e2 => ?_, fun e2 => ?_⟩⟩
  · rcases hY b e with e3 | e3 | e3
    · exact (h8 b e3).1 e2
    · have := dk.lt h1 b e2; omega
    · have := h5 b e2; omega
  · rcases hY b e with e3 | e3 | e3
    · exact (h8 b e3).2 e2
    · have := wl.mlt h2 b e2; omega
    · have := h6 b e2; omega
theorem LvX.below {X : Nat → Prop} {w0 w w' : World} {p q f r : Nat} {D : DkT} {L : LgT} (dk : DiskC At) (wl : WalC At WM WP PA) (h : LvX At WM WP X w0 w p q f r D L) (hb : Below w.heap.size w w') : LvX At WM WP X w0 w' p q f r D L :=
  h.more dk wl hb.size (h.w.b.trans (hb.mono h.w.b.size)) (fun b hl _ => hb.block b hl) fun b e => .inl e
theorem LvW.x {Y : Nat → Prop} {w0 W w : World} {p q f r : Nat} {D : DkT} {L : LgT} (dk : DiskC At) (wl : WalC At WM WP PA) (h : LvW At WM WP w0 W p q f r D L) (hW : Below W.heap.size W w) (hY : ∀ b, Y b → W.heap.size ≤ b ∨ b < w0.heap.size) : LvX At WM WP Y w0 w p q f r D L := by
  obtain ⟨S, T, V, h1, h2, h3, h4, h5, h6, h7⟩ := h
  have h : LvX At WM WP (fun _ => False) w0 W p q f r D L := ⟨S, T, V, h1, h2, h3, h4, h5, h6, h7, fun b e => e.elim⟩
  exact h.more dk wl hW.size (h7.trans (hW.mono h7.size)) (fun b hl _ => hW.block b hl) fun b e => .inr (hY b e)
theorem lvx_commit (dk : DiskC At) (wl : WalC At WM WP PA) (X : Nat → Prop) (w0 w : World) (p q f r : Nat) (D : DkT) (L : LgT) (h : LvX At WM WP X w0 w p q f r D L) (hX : ∀ b, X b → b < w.heap.size) (hp : D.puts.length ≤ 500000) (a : Option Addr) (len cap : Nat) (l : List ByteArray) (hT : Texts w a len l) (hl : Small 30 5000 l) (hc : a = none → cap = 0) (hb : ∀ b, TBlock a len b → b < w0.heap.size ∨ X b) :
    Calls Tryz.prog 10 #[ptr q, .slice a len cap] w fun e w' => ∃ n D' L', e = .returned (.int .i64 n) ∧ ChangeE L L' (committed L l) l r D' false n ∧ WentD D D' ∧ LvX At WM WP X w0 w' p q f r D' L' ∧ w.heap.size ≤ w'.heap.size ∧ (∀ b, X b → w'.heap[b]? = w.heap[b]?) := by
  obtain ⟨S, T, V, h1, h2, h3, h4, h5, h6, h7, h8⟩ := h
  have hs := h7.size
  refine (wl.commit w p D S h1 hp q f r V T L h2 h3 h4 a len cap l hT hl hc (fun b e => ?_)).mono ?_
  · rcases hb b e with e | e
    · exact ⟨fun e2 => by have := h5 b e2; omega, fun e2 => by have := h6 b e2; omega⟩
    · exact h8 b e
  · rintro e w' ⟨n, D', S', V', T', L', rfl, a1, a2, a3, a4, a5, a6, a7, a8, a9, a10⟩
    refine ⟨n, D', L', rfl, a1, a9.toWentD, ⟨S', T', V', a2, a3, a4, a7, fun b e => ?_, fun b e => ?_, a8.below h7 hs fun b e => ?_, fun b e => ⟨fun e2 => ?_, fun e2 => ?_⟩⟩, a8.size, fun b e => a8.block b (hX b e) (fun e2 => ?_)⟩
    · rcases a5 b e with e | e
      · exact h5 b e
      · omega
    · rcases a6 b e with e | e
      · exact h6 b e
      · omega
    · rcases e with e | e
      · exact h5 b e
      · exact h6 b e
    · rcases a5 b e2 with e3 | e3
      · exact (h8 b e).1 e3
      · have := hX b e; omega
    · rcases a6 b e2 with e3 | e3
      · exact (h8 b e).2 e3
      · have := hX b e; omega
    · rcases e2 with e2 | e2
      · exact (h8 b e).1 e2
      · exact (h8 b e).2 e2
end Go.Proofs.YtgclohgcehhfnabGreatDoor
/- A disk alive beside memory of the statement's own: Open, Crash, Stop. -/
namespace Go.Proofs.YtgclohgcehhfnabGreatDoor
open Go.RowKit Nums
set_option linter.unusedVariables false
set_option linter.unusedSimpArgs false
set_option maxRecDepth 100000
variable {At : World → Nat → DkT → (Nat → Prop) → Prop} {Vt : Type} {WM : World → Nat → Nat → Nat → Nat → Vt → (Nat → Prop) → Prop} {WP : Nat → Nat → Vt → DkT → LgT → Prop} {PA : Nat → Nat → DkT → LgT → Bool → Prop}
def LvDX (At : World → Nat → DkT → (Nat → Prop) → Prop) (X : Nat → Prop) (w0 w : World) (p : Nat) (D : DkT) : Prop := ∃ S, At w p D S ∧ (∀ b, S b → w0.heap.size ≤ b) ∧ Below w0.heap.size w0 w ∧ ∀ b, X b → ¬ S b
theorem LvX.dx {X : Nat → Prop} {w0 w : World} {p q f r : Nat} {D : DkT} {L : LgT} (h : LvX At WM WP X w0 w p q f r D L) : LvDX At X w0 w p D := by
  obtain ⟨S, T, V, h1, h2, h3, h4, h5, h6, h7, h8⟩ := h
  exact ⟨S, h1, h5, h7, fun b e => (h8 b e).1⟩
theorem LvDX.d {X : Nat → Prop} {w0 w : World} {p : Nat} {D : DkT} (h : LvDX At X w0 w p D) : LvD At w0 w p D := by
  obtain ⟨S, h1, h2, h3, h4⟩ := h
  exact ⟨S, h1, h2, h3⟩
theorem LvDX.more {X Y : Nat → Prop} {w0 W w : World} {p : Nat} {D : DkT} (dk : DiskC At) (h : LvDX At X w0 W p D) (hW : W.heap.size ≤ w.heap.size) (hB : Below w0.heap.size w0 w) (hk : ∀ b, b < W.heap.size → ¬ X b → w.heap[b]? = W.heap[b]?) (hY : ∀ b, Y b → X b ∨ W.heap.size ≤ b ∨ b < w0.heap.size) : LvDX At Y w0 w p D := by
  obtain ⟨S, h1, h5, h7, h8⟩ := h
  have hs := h7.size
  refine ⟨S, dk.keep h1 hW fun b e => hk b (dk.lt h1 b e) (fun e2 => h8 b e2 e), h5, hB, fun b e e2 => ?_⟩
  rcases hY b e with e3 | e3 | e3
  · exact h8 b e3 e2
  · have := dk.lt h1 b e2; omega
  · have := h5 b e2; omega
def OpenedX (At : World → Nat → DkT → (Nat → Prop) → Prop) (WM : World → Nat → Nat → Nat → Nat → Vt → (Nat → Prop) → Prop) (WP : Nat → Nat → Vt → DkT → LgT → Prop) (PA : Nat → Nat → DkT → LgT → Bool → Prop) (X : Nat → Prop) (w0 w : World) (p f r : Nat) (D : DkT) (L : LgT) (c : Bool) (e : Ending) (w' : World) : Prop :=
  ∃ D', WentD D D' ∧ w.heap.size ≤ w'.heap.size ∧ (∀ b, X b → w'.heap[b]? = w.heap[b]?) ∧ ((∃ q a len cap rs, e = .returned (.tuple #[ptr q, .slice a len cap, .int .i64 0]) ∧ Texts w' a len rs ∧ len ≤ 1000000 ∧ (∀ b, TBlock a len b → w.heap.size ≤ b) ∧ opensB L rs c = true ∧ LvX At WM WP (fun b => X b ∨ TBlock a len b) w0 w' p q f r D' (opensL L rs c)) ∨
    ((∃ a cap, e = .returned (.tuple #[.pointer none, .slice a 0 cap, .int .i64 80])) ∧ D'.down = true ∧ PA f r D' L c ∧ LvDX At X w0 w' p D'))
theorem dx_open (wl : WalC At WM WP PA) (X : Nat → Prop) (w0 : World) (tb : TabW w0) (w : World) (p : Nat) (D : DkT) (h : LvDX At X w0 w p D) (hX : ∀ b, X b → b < w.heap.size) (hp : D.puts.length ≤ 500000) (f r : Nat) (h1 : 64 ≤ r ∧ r ≤ 1000000) (h2 : f + r ≤ D.safe.length) (L : LgT) (c : Bool) (hP : PA f r D L c) :
    Calls Tryz.prog 8 #[ptr p, .int .i64 f, .int .i64 r] w fun e w' => OpenedX At WM WP PA X w0 w p f r D L c e w' := by
  obtain ⟨S, k1, k2, k3, k4⟩ := h
  refine (wl.open_ w (tb.on k3) p D S k1 hp f r h1 h2 L c hP).mono ?_
  rintro e w' ⟨D', S', a1, a2, a3, a4, a5, a6⟩
  have hs := k3.size
  have hS' : ∀ b, S' b → w0.heap.size ≤ b := fun b e => by
    rcases a2 b e with e | e
    · exact k2 b e
    · omega
  have hXS : ∀ b, X b → ¬ S' b := fun b e e2 => by
    rcases a2 b e2 with e3 | e3
    · exact k4 b e e3
    · have := hX b e; omega
  have hB := a3.below k3 hs k2
  refine ⟨D', a4, a3.size, fun b e => a3.block b (hX b e) (k4 b e), ?_⟩
  rcases a6 with ⟨q, T, V, a, len, cap, rs, rfl, b1, b2, b3, b4, b5, b6, b7, b8⟩ | ⟨⟨a, cap, rfl⟩, b1, b2⟩
  · exact .inl ⟨q, a, len, cap, rs, rfl, b1, b2, fun b e => (b4 b e).1, b5, S', T, V, a1, b6, b7, fun b e => (b8 b e).2, hS', fun b e => Nat.le_trans hs (b8 b e).1, hB, fun b e => by
      rcases e with e | e
      · exact ⟨hXS b e, fun e2 => by have := hX b e; have := (b8 b e2).1; omega⟩
      · exact (b4 b e).2⟩
  · exact .inr ⟨⟨a, cap, rfl⟩, b1, b2, S', a1, hS', hB, hXS⟩
end Go.Proofs.YtgclohgcehhfnabGreatDoor
