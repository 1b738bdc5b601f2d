/- Texts of our own that the row of WalTwo leans on, part 20. -/
import Derived.Test.YtdnnhmihigdnkaaDoorWalTwoJ17
import Derived.Test.YtdnnhmihigdnkaaDoorWalTwoJ19

/- A wal on a disk that may stop, and crashes. -/
namespace Go.Proofs.YtdnnhmihigdnkaaDoor
open Go.RowKit Nums
set_option linter.unusedVariables false
set_option linter.unusedSimpArgs false
set_option maxRecDepth 100000
variable {At : World → Nat → DkT → (Nat → Prop) → Prop} {Vt : Type} {WM : World → Nat → Nat → Nat → Nat → Vt → (Nat → Prop) → Prop} {WP : Nat → Nat → Vt → DkT → LgT → Prop} {PA : Nat → Nat → DkT → LgT → Bool → Prop}
theorem batch_small {l : List ByteArray} {n : Nat} (hn : l.length ≤ n) (h30 : n ≤ 30) (h : batchB l = true) : Small 30 4000 l := by
  unfold batchB at h
  exact ⟨Nat.le_trans hn h30, (of_decide_eq_true h).2⟩
theorem IsL.maybe {L : LgT} {s x : StT} (h : IsL L s) : (toL L x 80).olds = [] ∧ (toL L x 80).now = s ∧ (toL L x 80).may = x ∧ (toL L x 80).maybe = true := by
  obtain ⟨h1, h2, h3⟩ := h
  have e : toL L x 80 = { L with may := x, maybe := true } := by unfold toL; rw [if_neg (by decide), if_pos rfl, if_neg (by rw [h3]; decide)]
  rw [e]
  exact ⟨h1, h2, rfl, rfl⟩
end Go.Proofs.YtdnnhmihigdnkaaDoor

/- A wal alive beside memory of the statement's own. -/
namespace Go.Proofs.YtdnnhmihigdnkaaDoor
open Go.RowKit Nums
set_option linter.unusedVariables false
set_option linter.unusedSimpArgs false
set_option maxRecDepth 100000
variable {At : World → Nat → DkT → (Nat → Prop) → Prop} {Vt : Type} {WM : World → Nat → Nat → Nat → Nat → Vt → (Nat → Prop) → Prop} {WP : Nat → Nat → Vt → DkT → LgT → Prop} {PA : Nat → Nat → DkT → LgT → Bool → Prop}
def LvX (At : World → Nat → DkT → (Nat → Prop) → Prop) (WM : World → Nat → Nat → Nat → Nat → Vt → (Nat → Prop) → Prop) (WP : Nat → Nat → Vt → DkT → LgT → Prop) (X : Nat → Prop) (w0 w : World) (p q f r : Nat) (D : DkT) (L : LgT) : Prop :=
  ∃ S T V, At w p D S ∧ WM w q p f r V T ∧ WP f r V D L ∧ (∀ b, T b → ¬ S b) ∧ (∀ b, S b → w0.heap.size ≤ b) ∧ (∀ b, T b → w0.heap.size ≤ b) ∧ Below w0.heap.size w0 w ∧ (∀ b, X b → ¬ S b ∧ ¬ T b)
theorem LvX.w {X : Nat → Prop} {w0 w : World} {p q f r : Nat} {D : DkT} {L : LgT} (h : LvX At WM WP X w0 w p q f r D L) : LvW At WM WP w0 w p q f r D L := by
  obtain ⟨S, T, V, h1, h2, h3, h4, h5, h6, h7, h8⟩ := h
  exact ⟨S, T, V, h1, h2, h3, h4, h5, h6, h7⟩
/-- Memory that is new, or that lay there, is beside it. -/
theorem LvX.more {X Y : Nat → Prop} {w0 W w : World} {p q f r : Nat} {D : DkT} {L : LgT} (dk : DiskC At) (wl : WalC At WM WP PA) (h : LvX At WM WP X w0 W p q f r D L) (hW : W.heap.size ≤ w.heap.size) (hB : Below w0.heap.size w0 w) (hk : ∀ b, b < W.heap.size → ¬ X b → w.heap[b]? = W.heap[b]?) (hY : ∀ b, Y b → X b ∨ W.heap.size ≤ b ∨ b < w0.heap.size) : LvX At WM WP Y w0 w p q f r D L := by
  obtain ⟨S, T, V, h1, h2, h3, h4, h5, h6, h7, h8⟩ := h
  have hs := h7.size
  refine ⟨S, T, V, dk.keep h1 hW fun b e => hk b (dk.lt h1 b e) (fun e2 => (h8 b e2).1 e), wl.mkeep h2 hW fun b e => hk b (wl.mlt h2 b e) (fun e2 => (h8 b e2).2 e), h3, h4, h5, h6, hB, fun b e => ⟨fun e2 => ?_, fun e2 => ?_⟩⟩
  · rcases hY b e with e3 | e3 | e3
    · exact (h8 b e3).1 e2
    · have := dk.lt h1 b e2; omega
    · have := h5 b e2; omega
  · rcases hY b e with e3 | e3 | e3
    · exact (h8 b e3).2 e2
    · have := wl.mlt h2 b e2; omega
    · have := h6 b e2; omega
theorem LvX.below {X : Nat → Prop} {w0 w w' : World} {p q f r : Nat} {D : DkT} {L : LgT} (dk : DiskC At) (wl : WalC At WM WP PA) (h : LvX At WM WP X w0 w p q f r D L) (hb : Below w.heap.size w w') : LvX At WM WP X w0 w' p q f r D L :=
  h.more dk wl hb.size (h.w.b.trans (hb.mono h.w.b.size)) (fun b hl _ => hb.block b hl) fun b e => .inl e
/-- A wal alone is beside nothing, and what is new is beside it. -/
theorem LvW.x {Y : Nat → Prop} {w0 W w : World} {p q f r : Nat} {D : DkT} {L : LgT} (dk : DiskC At) (wl : WalC At WM WP PA) (h : LvW At WM WP w0 W p q f r D L) (hW : Below W.heap.size W w) (hY : ∀ b, Y b → W.heap.size ≤ b ∨ b < w0.heap.size) : LvX At WM WP Y w0 w p q f r D L := by
  obtain ⟨S, T, V, h1, h2, h3, h4, h5, h6, h7⟩ := h
  have h : LvX At WM WP (fun _ => False) w0 W p q f r D L := ⟨S, T, V, h1, h2, h3, h4, h5, h6, h7, fun b e => e.elim⟩
  exact h.more dk wl hW.size (h7.trans (hW.mono h7.size)) (fun b hl _ => hW.block b hl) fun b e => .inr (hY b e)
end Go.Proofs.YtdnnhmihigdnkaaDoor

/- A disk alive beside memory of the statement's own: Open, Crash, Stop. -/
namespace Go.Proofs.YtdnnhmihigdnkaaDoor
open Go.RowKit Nums
set_option linter.unusedVariables false
set_option linter.unusedSimpArgs false
set_option maxRecDepth 100000
variable {At : World → Nat → DkT → (Nat → Prop) → Prop} {Vt : Type} {WM : World → Nat → Nat → Nat → Nat → Vt → (Nat → Prop) → Prop} {WP : Nat → Nat → Vt → DkT → LgT → Prop} {PA : Nat → Nat → DkT → LgT → Bool → Prop}
def LvDX (At : World → Nat → DkT → (Nat → Prop) → Prop) (X : Nat → Prop) (w0 w : World) (p : Nat) (D : DkT) : Prop := ∃ S, At w p D S ∧ (∀ b, S b → w0.heap.size ≤ b) ∧ Below w0.heap.size w0 w ∧ ∀ b, X b → ¬ S b
theorem LvDX.d {X : Nat → Prop} {w0 w : World} {p : Nat} {D : DkT} (h : LvDX At X w0 w p D) : LvD At w0 w p D := by
  obtain ⟨S, h1, h2, h3, h4⟩ := h
  exact ⟨S, h1, h2, h3⟩
theorem LvDX.more {X Y : Nat → Prop} {w0 W w : World} {p : Nat} {D : DkT} (dk : DiskC At) (h : LvDX At X w0 W p D) (hW : W.heap.size ≤ w.heap.size) (hB : Below w0.heap.size w0 w) (hk : ∀ b, b < W.heap.size → ¬ X b → w.heap[b]? = W.heap[b]?) (hY : ∀ b, Y b → X b ∨ W.heap.size ≤ b ∨ b < w0.heap.size) : LvDX At Y w0 w p D := by
  obtain ⟨S, h1, h5, h7, h8⟩ := h
  have hs := h7.size
  refine ⟨S, dk.keep h1 hW fun b e => hk b (dk.lt h1 b e) (fun e2 => h8 b e2 e), h5, hB, fun b e e2 => ?_⟩
  rcases hY b e with e3 | e3 | e3
  · exact h8 b e3 e2
  · have := dk.lt h1 b e2; omega
  · have := h5 b e2; omega
/-- What an Open answers, beside memory X. -/
def OpenedX (At : World → Nat → DkT → (Nat → Prop) → Prop) (WM : World → Nat → Nat → Nat → Nat → Vt → (Nat → Prop) → Prop) (WP : Nat → Nat → Vt → DkT → LgT → Prop) (PA : Nat → Nat → DkT → LgT → Bool → Prop) (X : Nat → Prop) (w0 w : World) (p f r : Nat) (D : DkT) (L : LgT) (c : Bool) (e : Ending) (w' : World) : Prop :=
  ∃ D', WentD D D' ∧ w.heap.size ≤ w'.heap.size ∧ (∀ b, X b → w'.heap[b]? = w.heap[b]?) ∧ ((∃ q a len cap rs, e = .returned (.tuple #[ptr q, .slice a len cap, .int .i64 0]) ∧ Texts w' a len rs ∧ len ≤ 1000000 ∧ (∀ b, TBlock a len b → w.heap.size ≤ b) ∧ opensB L rs c = true ∧ LvX At WM WP (fun b => X b ∨ TBlock a len b) w0 w' p q f r D' (opensL L rs c)) ∨
    ((∃ a cap, e = .returned (.tuple #[.pointer none, .slice a 0 cap, .int .i64 80])) ∧ D'.down = true ∧ PA f r D' L c ∧ LvDX At X w0 w' p D'))
theorem dx_open (wl : WalC At WM WP PA) (X : Nat → Prop) (w0 : World) (tb : TabW w0) (w : World) (p : Nat) (D : DkT) (h : LvDX At X w0 w p D) (hX : ∀ b, X b → b < w.heap.size) (hp : D.puts.length ≤ 500000) (f r : Nat) (h1 : 64 ≤ r ∧ r ≤ 1000000) (h2 : f + r ≤ D.safe.length) (L : LgT) (c : Bool) (hP : PA f r D L c) :
    Calls Tryd.prog 12 #[ptr p, .int .i64 f, .int .i64 r] w fun e w' => OpenedX At WM WP PA X w0 w p f r D L c e w' := by
  obtain ⟨S, k1, k2, k3, k4⟩ := h
  refine (wl.open_ w (tb.on k3) p D S k1 hp f r h1 h2 L c hP).mono ?_
  rintro e w' ⟨D', S', a1, a2, a3, a4, a5, a6⟩
  have hs := k3.size
  have hS' : ∀ b, S' b → w0.heap.size ≤ b := fun b e => by
    rcases a2 b e with e | e
    · exact k2 b e
    · omega
  have hXS : ∀ b, X b → ¬ S' b := fun b e e2 => by
    rcases a2 b e2 with e3 | e3
    · exact k4 b e e3
    · have := hX b e; omega
  have hB := a3.below k3 hs k2
  refine ⟨D', a4, a3.size, fun b e => a3.block b (hX b e) (k4 b e), ?_⟩
  rcases a6 with ⟨q, T, V, a, len, cap, rs, rfl, b1, b2, b3, b4, b5, b6, b7, b8⟩ | ⟨⟨a, cap, rfl⟩, b1, b2⟩
  · exact .inl ⟨q, a, len, cap, rs, rfl, b1, b2, fun b e => (b4 b e).1, b5, S', T, V, a1, b6, b7, fun b e => (b8 b e).2, hS', fun b e => Nat.le_trans hs (b8 b e).1, hB, fun b e => by
      rcases e with e | e
      · exact ⟨hXS b e, fun e2 => by have := hX b e; have := (b8 b e2).1; omega⟩
      · exact (b4 b e).2⟩
  · exact .inr ⟨⟨a, cap, rfl⟩, b1, b2, S', a1, hS', hB, hXS⟩
end Go.Proofs.YtdnnhmihigdnkaaDoor

/- The walk of WalTwo. -/
namespace Go.Proofs.YtdnnhmihigdnkaaDoor
open Go.RowKit Nums
set_option linter.unusedVariables false
set_option linter.unusedSimpArgs false
set_option maxRecDepth 100000
variable {At : World → Nat → DkT → (Nat → Prop) → Prop} {Vt : Type} {WM : World → Nat → Nat → Nat → Nat → Vt → (Nat → Prop) → Prop} {WP : Nat → Nat → Vt → DkT → LgT → Prop} {PA : Nat → Nat → DkT → LgT → Bool → Prop}
/-- A pair of wals on a disk, the records of each what is said, behind n Resets. -/
def TwS (At : World → Nat → DkT → (Nat → Prop) → Prop) (WM : World → Nat → Nat → Nat → Nat → Vt → (Nat → Prop) → Prop) (WP : Nat → Nat → Vt → DkT → LgT → Prop) (W w : World) (p q1 q2 n : Nat) (P Q : TxT) (D : DkT) : Prop :=
  ∃ S T1 V1 L1 T2 V2 L2, At w p D S ∧ WM w q1 p 0 1000 V1 T1 ∧ WP 0 1000 V1 D L1 ∧ WM w q2 p 1000 1000 V2 T2 ∧ WP 1000 1000 V2 D L2 ∧ (∀ b, T1 b → ¬ S b) ∧ (∀ b, T2 b → ¬ S b) ∧ (∀ b, T1 b → ¬ T2 b) ∧ (∀ b, S b → W.heap.size ≤ b) ∧ (∀ b, T1 b → W.heap.size ≤ b) ∧ (∀ b, T2 b → W.heap.size ≤ b) ∧ Below W.heap.size W w ∧ (∃ c, IsL L1 ⟨P.l, c⟩) ∧ (∃ c, IsL L2 ⟨Q.l, c⟩) ∧ InT W P ∧ InT W Q ∧ D.stops = false ∧ D.safe.length = 2000 ∧ D.puts.length ≤ 400 * (n + 2)
theorem TwS.b {W w : World} {p q1 q2 n : Nat} {P Q : TxT} {D : DkT} (h : TwS At WM WP W w p q1 q2 n P Q D) : Below W.heap.size W w := by
  obtain ⟨S, T1, V1, L1, T2, V2, L2, h1, a1, a2, b1, b2, d1, d2, d3, e1, e2, e3, hb, _⟩ := h
  exact hb
theorem TwS.inP {W w : World} {p q1 q2 n : Nat} {P Q : TxT} {D : DkT} (h : TwS At WM WP W w p q1 q2 n P Q D) : InT W P := by
  obtain ⟨S, T1, V1, L1, T2, V2, L2, h1, a1, a2, b1, b2, d1, d2, d3, e1, e2, e3, hb, i1, i2, hP, hQ, _⟩ := h
  exact hP
theorem TwS.inQ {W w : World} {p q1 q2 n : Nat} {P Q : TxT} {D : DkT} (h : TwS At WM WP W w p q1 q2 n P Q D) : InT W Q := by
  obtain ⟨S, T1, V1, L1, T2, V2, L2, h1, a1, a2, b1, b2, d1, d2, d3, e1, e2, e3, hb, i1, i2, hP, hQ, _⟩ := h
  exact hQ
theorem two_reset1 (dk : DiskC At) (wl : WalC At WM WP PA) (W w : World) (p q1 q2 n : Nat) (P Q : TxT) (D : DkT) (h : TwS At WM WP W w p q1 q2 n P Q D) (hn : n ≤ 1000) (t : TxT) (hT : InT W t) (hl : Small 30 4000 t.l) (hc : costN t.l ≤ 400) :
    Calls Tryd.prog 28 #[ptr q1, .slice t.a t.len t.cap] w fun e w' => e = .returned (.int .i64 0) ∧ ∃ D', TwS At WM WP W w' p q1 q2 (n + 1) t Q D' := by
  obtain ⟨S, T1, V1, L1, T2, V2, L2, h1, a1, a2, b1, b2, d1, d2, d3, e1, e2, e3, hb, ⟨c1, i1⟩, ⟨c2, i2⟩, hP, hQ, hs, hr, hp⟩ := h
  have hsz := hb.size
  refine (wl.reset w p D S h1 (by omega) q1 0 1000 V1 T1 L1 a1 a2 d1 t.a t.len t.cap t.l (hT.rd.keep hb) (hl.mono (Nat.le_refl _) (by omega)) hT.cap (fun b e => ?_)).mono ?_
  · have := hT.rd.blk_lt b e
    exact ⟨fun e2 => by have := e1 b e2; omega, fun e3' => by have := e2 b e3'; omega⟩
  · rintro e w' ⟨n', D', S', V', T', L', rfl, k1, k2, k3, k4, k5, k6, k7, k8, k9, k10⟩
    have hbt : batchB t.l = true := by unfold batchB; rw [decide_eq_true_eq]; exact ⟨by have := hl.1; omega, hl.2⟩
    have hs' := k9.stops.trans hs
    have hpp := k9.puts
    have hlt2 : ∀ b, T2 b → b < w.heap.size := wl.mlt b1
    have hn2 : ∀ b, T2 b → ¬ (S b ∨ T1 b) := fun b e e' => by
      rcases e' with e' | e'
      · exact d2 b e e'
      · exact d3 b e' e
    have keep2 : WM w' q2 p 1000 1000 V2 T2 := wl.mkeep b1 k8.size fun b e => k8.block b (hlt2 b e) (hn2 b e)
    have hS' : ∀ b, S' b → W.heap.size ≤ b := fun b e => by
      rcases k5 b e with e | e
      · exact e1 b e
      · omega
    have hT' : ∀ b, T' b → W.heap.size ≤ b := fun b e => by
      rcases k6 b e with e | e
      · exact e2 b e
      · omega
    have hB' : Below W.heap.size W w' := k8.below hb hsz fun b e => by
      rcases e with e | e
      · exact e1 b e
      · exact e2 b e
    have oS : ∀ b, T2 b → ¬ S' b := fun b e e' => by
      rcases k5 b e' with e'' | e''
      · exact d2 b e e''
      · have := hlt2 b e; omega
    have oT : ∀ b, T2 b → ¬ T' b := fun b e e' => by
      rcases k6 b e' with e'' | e''
      · exact hn2 b e (.inr e'')
      · have := hlt2 b e; omega
    have wp2 : WP 1000 1000 V2 D' L2 := (k10 1000 1000 (by omega)).1 V2 L2 b2
    rcases k1 with ⟨k1, _⟩ | ⟨_, ⟨rfl, hL⟩ | ⟨rfl, k1, _⟩ | ⟨rfl, _, k1⟩⟩
    · rw [hbt] at k1; cases k1
    · have hI' : IsL L' (wasS t.l) := by rw [hL]; exact IsL.reset t.l i1.2.2
      refine ⟨rfl, D', S', T', V', L', T2, V2, L2, k2, k3, k4, keep2, wp2, k7, oS, fun b e e' => oT b e' e, hS', hT', e3, hB', ⟨costN t.l, hI'⟩, ⟨c2, i2⟩, hT, hQ, hs', k9.room.trans hr, by omega⟩
    · have := dk.calm k2 hs'
      rw [this] at k1; cases k1
    · have : 1000 / 2 < costN t.l + 16 := k1
      omega
theorem two_reset2 (dk : DiskC At) (wl : WalC At WM WP PA) (W w : World) (p q1 q2 n : Nat) (P Q : TxT) (D : DkT) (h : TwS At WM WP W w p q1 q2 n P Q D) (hn : n ≤ 1000) (t : TxT) (hT : InT W t) (hl : Small 30 4000 t.l) (hc : costN t.l ≤ 400) :
    Calls Tryd.prog 28 #[ptr q2, .slice t.a t.len t.cap] w fun e w' => e = .returned (.int .i64 0) ∧ ∃ D', TwS At WM WP W w' p q1 q2 (n + 1) P t D' := by
  obtain ⟨S, T1, V1, L1, T2, V2, L2, h1, a1, a2, b1, b2, d1, d2, d3, e1, e2, e3, hb, ⟨c1, i1⟩, ⟨c2, i2⟩, hP, hQ, hs, hr, hp⟩ := h
  have hsz := hb.size
  refine (wl.reset w p D S h1 (by omega) q2 1000 1000 V2 T2 L2 b1 b2 d2 t.a t.len t.cap t.l (hT.rd.keep hb) (hl.mono (Nat.le_refl _) (by omega)) hT.cap (fun b e => ?_)).mono ?_
  · have := hT.rd.blk_lt b e
    exact ⟨fun e2 => by have := e1 b e2; omega, fun e3' => by have := e3 b e3'; omega⟩
  · rintro e w' ⟨n', D', S', V', T', L', rfl, k1, k2, k3, k4, k5, k6, k7, k8, k9, k10⟩
    have hbt : batchB t.l = true := by unfold batchB; rw [decide_eq_true_eq]; exact ⟨by have := hl.1; omega, hl.2⟩
    have hs' := k9.stops.trans hs
    have hpp := k9.puts
    have hlt1 : ∀ b, T1 b → b < w.heap.size := wl.mlt a1
    have hn1 : ∀ b, T1 b → ¬ (S b ∨ T2 b) := fun b e e' => by
      rcases e' with e' | e'
      · exact d1 b e e'
      · exact d3 b e e'
    have keep1 : WM w' q1 p 0 1000 V1 T1 := wl.mkeep a1 k8.size fun b e => k8.block b (hlt1 b e) (hn1 b e)
    have hS' : ∀ b, S' b → W.heap.size ≤ b := fun b e => by
      rcases k5 b e with e | e
      · exact e1 b e
      · omega
    have hT' : ∀ b, T' b → W.heap.size ≤ b := fun b e => by
      rcases k6 b e with e | e
      · exact e3 b e
      · omega
    have hB' : Below W.heap.size W w' := k8.below hb hsz fun b e => by
      rcases e with e | e
      · exact e1 b e
      · exact e3 b e
    have oS : ∀ b, T1 b → ¬ S' b := fun b e e' => by
      rcases k5 b e' with e'' | e''
      · exact d1 b e e''
      · have := hlt1 b e; omega
    have oT : ∀ b, T1 b → ¬ T' b := fun b e e' => by
      rcases k6 b e' with e'' | e''
      · exact hn1 b e (.inr e'')
      · have := hlt1 b e; omega
    have wp1 : WP 0 1000 V1 D' L1 := (k10 0 1000 (by omega)).1 V1 L1 a2
    rcases k1 with ⟨k1, _⟩ | ⟨_, ⟨rfl, hL⟩ | ⟨rfl, k1, _⟩ | ⟨rfl, _, k1⟩⟩
    · rw [hbt] at k1; cases k1
    · have hI' : IsL L' (wasS t.l) := by rw [hL]; exact IsL.reset t.l i2.2.2
      refine ⟨rfl, D', S', T1, V1, L1, T', V', L', k2, keep1, wp1, k3, k4, oS, k7, fun b e e' => oT b e e', hS', e2, hT', hB', ⟨c1, i1⟩, ⟨costN t.l, hI'⟩, hP, hT, hs', k9.room.trans hr, by omega⟩
    · have := dk.calm k2 hs'
      rw [this] at k1; cases k1
    · have : 1000 / 2 < costN t.l + 16 := k1
      omega
/-- Both are opened, one behind the other. -/
theorem two_start1 (dk : DiskC At) (wl : WalC At WM WP PA) (W : World) (TB : TabW W) (w : World) (p : Nat) (h : LvD At W w p (newD 2000)) :
    Calls Tryd.prog 12 #[ptr p, .int .i64 0, .int .i64 1000] w fun e w' => ∃ q a cap D' S T V L, e = .returned (.tuple #[ptr q, .slice a 0 cap, .int .i64 0]) ∧ At w' p D' S ∧ WM w' q p 0 1000 V T ∧ WP 0 1000 V D' L ∧ IsL L ⟨[], 0⟩ ∧ PA 1000 1000 D' newL false ∧ (∀ b, T b → ¬ S b) ∧ (∀ b, S b → W.heap.size ≤ b) ∧ (∀ b, T b → W.heap.size ≤ b) ∧ Below W.heap.size W w' ∧ D'.stops = false ∧ D'.safe.length = 2000 ∧ D'.puts.length ≤ 400 := by
  obtain ⟨S, k1, k2, k3⟩ := h
  have hs := k3.size
  refine (wl.open_ w (TB.on k3) p (newD 2000) S k1 (Nat.zero_le _) 0 1000 (by omega) (by show 0 + 1000 ≤ (List.replicate 2000 (0 : UInt8)).length; rw [List.length_replicate]; omega) newL false (wl.fresh 2000 0 1000 (by omega) (by omega))).mono ?_
  rintro e w' ⟨D', S', a1, a2, a3, a4, a5, a6⟩
  have hst : D'.stops = false := a4.stops
  have hrm : D'.safe.length = 2000 := a4.room.trans List.length_replicate
  have hpt : D'.puts.length ≤ 400 := Nat.le_trans a4.puts (by show 0 + 400 ≤ 400; omega)
  rcases a6 with ⟨q, T, V, a, len, cap, rs, rfl, b1, b2, b3, b4, b5, b6, b7, b8⟩ | ⟨_, b1, _⟩
  · obtain ⟨hrs, hI⟩ := isL_new.opens b5
    have hl0 : len = 0 := by have := b1.1; rw [hrs] at this; exact this.symm
    subst hl0
    exact ⟨q, a, cap, D', S', T, V, _, rfl, a1, b6, b7, hI, (a5 1000 1000 (by omega)).2 newL false (wl.fresh 2000 1000 1000 (by omega) (by omega)), fun b e => (b8 b e).2, fun b e => by
      rcases a2 b e with e | e
      · exact k2 b e
      · omega, fun b e => Nat.le_trans hs (b8 b e).1, a3.below k3 hs k2, hst, hrm, hpt⟩
  · have := dk.calm a1 hst
    rw [this] at b1; cases b1
theorem two_start2 (dk : DiskC At) (wl : WalC At WM WP PA) (W : World) (TB : TabW W) (w : World) (p q1 : Nat) (D : DkT) (S T1 : Nat → Prop) (V1 : Vt) (L1 : LgT) (h1 : At w p D S) (h2 : WM w q1 p 0 1000 V1 T1) (h3 : WP 0 1000 V1 D L1) (hI : IsL L1 ⟨[], 0⟩) (hP : PA 1000 1000 D newL false) (d1 : ∀ b, T1 b → ¬ S b) (e1 : ∀ b, S b → W.heap.size ≤ b) (e2 : ∀ b, T1 b → W.heap.size ≤ b) (hb : Below W.heap.size W w) (hs : D.stops = false) (hr : D.safe.length = 2000) (hp : D.puts.length ≤ 400) :
    Calls Tryd.prog 12 #[ptr p, .int .i64 1000, .int .i64 1000] w fun e w' => ∃ q a cap D', e = .returned (.tuple #[ptr q, .slice a 0 cap, .int .i64 0]) ∧ TwS At WM WP W w' p q1 q 0 ⟨none, 0, 0, []⟩ ⟨none, 0, 0, []⟩ D' := by
  have hsz := hb.size
  refine (wl.open_ w (TB.on hb) p D S h1 (by omega) 1000 1000 (by omega) (by omega) newL false hP).mono ?_
  rintro e w' ⟨D', S', a1, a2, a3, a4, a5, a6⟩
  have hst : D'.stops = false := a4.stops.trans hs
  have hpp := a4.puts
  rcases a6 with ⟨q, T, V, a, len, cap, rs, rfl, b1, b2, b3, b4, b5, b6, b7, b8⟩ | ⟨_, b1, _⟩
  · obtain ⟨hrs, hI2⟩ := isL_new.opens b5
    have hl0 : len = 0 := by have := b1.1; rw [hrs] at this; exact this.symm
    subst hl0
    have hlt := wl.mlt h2
    have hin : InT W ⟨none, 0, 0, []⟩ := ⟨texts_none _, Nat.zero_le _, (fun s hs => by cases hs), fun _ => rfl⟩
    refine ⟨q, a, cap, D', rfl, S', T1, V1, L1, T, V, _, a1, wl.mkeep h2 a3.size fun b e => a3.block b (hlt b e) (d1 b e), (a5 0 1000 (by omega)).1 V1 L1 h3, b6, b7, fun b e e' => ?_, fun b e => (b8 b e).2, fun b e e' => ?_, fun b e => ?_, e2, fun b e => Nat.le_trans hsz (b8 b e).1, a3.below hb hsz e1, ⟨0, hI⟩, ⟨0, hI2⟩, hin, hin, hst, a4.room.trans hr, by omega⟩
    · rcases a2 b e' with e'' | e''
      · exact d1 b e e''
      · have := hlt b e; omega
    · have := hlt b e; have := (b8 b e').1; omega
    · rcases a2 b e with e | e
      · exact e1 b e
      · omega
  · have := dk.calm a1 hst
    rw [this] at b1; cases b1
theorem two_crash (dk : DiskC At) (wl : WalC At WM WP PA) (W w : World) (p q1 q2 n : Nat) (P Q : TxT) (D : DkT) (h : TwS At WM WP W w p q1 q2 n P Q D) (hn : n ≤ 1000) (k t : Int) (hk : In64 k) (ht : In64 t) :
    Calls Tryd.prog 26 #[ptr p, .int .i64 k, .int .i64 t] w fun e w' => e = .returned (.int .i64 0) ∧ ∃ D' L1 L2 c1 c2, LvD At W w' p D' ∧ PA 0 1000 D' L1 true ∧ PA 1000 1000 D' L2 true ∧ IsL L1 ⟨P.l, c1⟩ ∧ IsL L2 ⟨Q.l, c2⟩ ∧ D'.stops = false ∧ D'.safe.length = 2000 ∧ D'.puts.length ≤ 0 := by
  obtain ⟨S, T1, V1, L1, T2, V2, L2, h1, a1, a2, b1, b2, d1, d2, d3, e1, e2, e3, hb, ⟨c1, i1⟩, ⟨c2, i2⟩, hP, hQ, hs, hr, hp⟩ := h
  have ok := dk.ok h1
  refine (lvd_crash dk W w p D ⟨S, h1, e1, hb⟩ (by omega) k t hk ht).mono ?_
  rintro e w' ⟨rfl, hv, _⟩
  obtain ⟨r0, r1, r2⟩ := crash_room ok k t
  exact ⟨rfl, _, L1, L2, c1, c2, hv, wl.crash k t ok (wl.part a2), wl.crash k t ok (wl.part b2), i1, i2, r2, r0.trans hr, Nat.le_of_eq r1⟩
theorem two_open (dk : DiskC At) (wl : WalC At WM WP PA) (W : World) (TB : TabW W) (w : World) (p : Nat) (D : DkT) (L1 L2 : LgT) (h : LvD At W w p D) (h1 : PA 0 1000 D L1 true) (h2 : PA 1000 1000 D L2 true) (hs : D.stops = false) (hr : D.safe.length = 2000) (hp : D.puts.length ≤ 0) (s : StT) (hI : IsL L1 s) :
    Calls Tryd.prog 12 #[ptr p, .int .i64 0, .int .i64 1000] w fun e w' => ∃ D' q a cap, e = .returned (.tuple #[ptr q, .slice a s.recs.length cap, .int .i64 0]) ∧ (Texts w' a s.recs.length s.recs ∧ s.recs.length ≤ 1000000) ∧ LvDX At (TBlock a s.recs.length) W w' p D' ∧ Hid (PA 1000 1000 D' L2 true) ∧ D'.stops = false ∧ D'.safe.length = 2000 ∧ D'.puts.length ≤ 400 := by
  obtain ⟨S, k1, k2, k3⟩ := h
  have hsz := k3.size
  refine (wl.open_ w (TB.on k3) p D S k1 (by omega) 0 1000 (by omega) (by omega) L1 true h1).mono ?_
  rintro e w' ⟨D', S', a1, a2, a3, a4, a5, a6⟩
  have hst : D'.stops = false := a4.stops.trans hs
  have hpp := a4.puts
  rcases a6 with ⟨q, T, V, a, len, cap, rs, rfl, b1, b2, b3, b4, b5, b6, b7, b8⟩ | ⟨_, b1, _⟩
  · obtain ⟨rfl, hI2⟩ := hI.opens b5
    obtain rfl : s.recs.length = len := b1.1
    exact ⟨D', q, a, cap, rfl, ⟨b1, b2⟩, ⟨S', a1, fun b e => by
      rcases a2 b e with e | e
      · exact k2 b e
      · omega, a3.below k3 hsz k2, fun b e => (b4 b e).2.1⟩, (a5 1000 1000 (by omega)).2 L2 true h2, hst, a4.room.trans hr, by omega⟩
  · have := dk.calm a1 hst
    rw [this] at b1; cases b1
theorem open_oneX (dk : DiskC At) (wl : WalC At WM WP PA) (X : Nat → Prop) (w0 : World) (TB : TabW w0) (w : World) (p : Nat) (D : DkT) (h : LvDX At X w0 w p D) (hX : ∀ b, X b → b < w.heap.size) (hs : D.stops = false) (hp : D.puts.length ≤ 500000) (f r : Nat) (h1 : 64 ≤ r ∧ r ≤ 1000000) (h2 : f + r ≤ D.safe.length) (L : LgT) (c : Bool) (hP : PA f r D L c) (s : StT) (hI : IsL L s) :
    Calls Tryd.prog 12 #[ptr p, .int .i64 f, .int .i64 r] w fun e w' => ∃ D' q a cap L', e = .returned (.tuple #[ptr q, .slice a s.recs.length cap, .int .i64 0]) ∧ WentD D D' ∧ Texts w' a s.recs.length s.recs ∧ s.recs.length ≤ 1000000 ∧ IsL L' s ∧ LvX At WM WP (fun b => X b ∨ TBlock a s.recs.length b) w0 w' p q f r D' L' ∧ w.heap.size ≤ w'.heap.size ∧ (∀ b, X b → w'.heap[b]? = w.heap[b]?) := by
  refine (dx_open wl X w0 TB w p D h hX hp f r h1 h2 L c hP).mono ?_
  rintro e w' ⟨D', k1, k2, k3, k4⟩
  rcases k4 with ⟨q, a, len, cap, rs, rfl, b1, b2, b3, b4, b5⟩ | ⟨_, b1, _, b2⟩
  · obtain ⟨rfl, hI2⟩ := hI.opens b4
    obtain rfl : s.recs.length = len := b1.1
    exact ⟨D', q, a, cap, _, rfl, k1, b1, b2, hI2, b5, k2, k3⟩
  · have := b2.d.calm dk (k1.stops.trans hs)
    rw [this] at b1; cases b1
set_option maxHeartbeats 16000000 in
theorem walTwo_in (dk : DiskC At) (wl : WalC At WM WP PA) (a0 : Option Addr) (len0 cap0 : Nat) (z0 : List TxT) (a1 : Option Addr) (len1 cap1 : Nat) (z1 : List TxT) (a2 a3 : Int) (W : World) (h0 : LLReads W a0 len0 cap0 z0) (h1 : LLReads W a1 len1 cap1 z1) (h2 : In64 a2) (h3 : In64 a3) (TB : TabW W) :
    Calls Tryd.prog 6 #[.slice a0 len0 cap0, .slice a1 len1 cap1, .int .i64 a2, .int .i64 a3] W fun e w' => e = .returned (.bool true) ∧ Below W.heap.size W w' := by
  have hx0 : len0 ≤ 9223372036854775807 := by have h1 := h0.2.1; have h2 := h0.2.2.1; omega
  have hx1 : len1 ≤ 9223372036854775807 := by have h3 := h1.2.1; have h4 := h1.2.2.1; omega
  have H1 := hidd h0
  have H2 := hidd h1
  clear h0 h1
  by_cases g0 : 12 < len0
  · have d0 : decide ((12 : Int) < (len0 : Int)) = true := by rw [decide_eq_true_eq]; omega
    go_enter Tryd.func6, Tryd.ntmps6
    go_wp2
    go_ret
    exact ⟨rfl, Below.refl _ _⟩
  have d0 : decide ((12 : Int) < (len0 : Int)) = false := by rw [decide_eq_false_iff_not]; omega
  by_cases g1 : 12 < len1
  · have d1 : decide ((12 : Int) < (len1 : Int)) = true := by rw [decide_eq_true_eq]; omega
    go_enter Tryd.func6, Tryd.ntmps6
    go_wp2
    go_ret
    exact ⟨rfl, Below.refl _ _⟩
  have d1 : decide ((12 : Int) < (len1 : Int)) = false := by rw [decide_eq_false_iff_not]; omega
  have GR := hidd (ground_any dk W W (Below.refl _ _))
  go_enter Tryd.func6, Tryd.ntmps6
  go_wp2_with fail
  refine GR.out.mono ?_
  rintro e w1 ⟨p, rfl, h⟩
  have O1 := hidd (two_start1 dk wl W TB w1 p h)
  unfold ptr at O1 ⊢
  clear h GR
  go_wp2_with fail
  refine O1.out.mono ?_
  rintro e w2 ⟨q1, ax, cx, D2, S2, T2, V2, L2, rfl, k1, k2, k3, k4, k5, k6, k7, k8, k9, k10, k11, k12⟩
  have O2 := hidd (two_start2 dk wl W TB w2 p q1 D2 S2 T2 V2 L2 k1 k2 k3 k4 k5 k6 k7 k8 k9 k10 k11 k12)
  unfold ptr at O2
  clear O1 k1 k2 k3 k4 k5 k6 k7 k8 k9 k10 k11 k12
  go_wp2_with fail
  refine O2.out.mono ?_
  rintro e w3 ⟨q2, ay, cy, D3, rfl, hO⟩
  have HS := hidd hO
  clear O2 hO
  go_wp2
  go_loopw [16, 17, 18] (fun s t i wr => ∃ (k n : Nat) (P Q : TxT) (D : DkT), n ≤ 2 * k ∧ k ≤ 12 ∧ True ∧ i = .int .i64 (k : Int) ∧ s = .slice P.a P.len P.cap ∧ t = .slice Q.a Q.len Q.cap ∧ Hid (TwS At WM WP W wr p q1 q2 n P Q D)) (fun _ _ i _ => 12 - (intOf i).toNat)
  case atStart => exact ⟨0, 0, ⟨none, 0, 0, []⟩, ⟨none, 0, 0, []⟩, D3, Nat.zero_le _, Nat.zero_le _, trivial, rfl, rfl, rfl, HS⟩
  case round =>
    clear HS
    obtain ⟨k, n, P, Q, D, hn, hk12, -, rfl, rfl, rfl, HO⟩ := hrel
    have HBW := hidd HO.out.b
    by_cases hlt1 : k < len0
    · have hd1 : decide ((k : Int) < (len0 : Int)) = true := by rw [decide_eq_true_eq]; omega
      have hw1 := wrap_int ((k : Int) + 1) (by omega) (by omega)
      obtain ⟨b1, f1, t, e1, hbl, -, -, hin, c0⟩ := H1.out.at k hlt1
      obtain ⟨ta, tl, tc, ts⟩ := t
      have HIN1 := hidd hin
      dsimp only at c0
      subst e1
      have htl : tl ≤ maxLen := hin.len
      unfold maxLen at htl
      have htm1 : tl ≤ 9223372036854775807 := by omega
      have HC1 : Hid (∀ V, Below W.heap.size W V → V.cell? ⟨b1, f1 + k, none⟩ = some (.slice ta tl tc)) := fun V hV => (hV.cell (p := ⟨b1, f1 + k, none⟩) hbl).trans c0
      have m1 := HC1.out wr HBW.out
      have BT := hidd (refBatch_any ta tl tc ts wr (hin.below HBW.out).rd hin.len hin.size)
      have HLN : Hid (ts.length = tl) := hin.rd.1
      clear hin c0 hbl htl
      go_wp2_with fail
      refine BT.out.mono ?_
      rintro e w9 ⟨rfl, rfl⟩
      have HF := HBW
      cases hbt : batchB ts
      case false =>
        go_wp2
        go_ret
        exact ⟨rfl, HF.out⟩
      by_cases g4 : 4 < tl
      · have d4 : decide ((4 : Int) < (tl : Int)) = true := by rw [decide_eq_true_eq]; omega
        go_wp2
        go_ret
        exact ⟨rfl, HF.out⟩
      have d4 : decide ((4 : Int) < (tl : Int)) = false := by rw [decide_eq_false_iff_not]; omega
      have SM := hidd (batch_small (n := 4) (by rw [HLN.out]; omega) (by omega) hbt)
      have CS := hidd (refCost_any ta tl tc ts wr (HIN1.out.below HBW.out).rd (SM.out.mono (by omega) (by omega)))
      obtain ⟨cn, Hcn⟩ : ∃ n, Hid (n = costN ts) := ⟨_, hidd rfl⟩
      rw [← Hcn.out] at CS
      clear BT hbt
      go_wp2_with fail
      refine CS.out.mono ?_
      rintro e w9 ⟨rfl, rfl⟩
      by_cases g5 : 400 < cn
      · have d5 : decide ((400 : Int) < (cn : Int)) = true := by rw [decide_eq_true_eq]; omega
        go_wp2
        go_ret
        exact ⟨rfl, HF.out⟩
      have d5 : decide ((400 : Int) < (cn : Int)) = false := by rw [decide_eq_false_iff_not]; omega
      have RS := hidd (two_reset1 dk wl W wr p q1 q2 n _ _ _ HO.out (by omega) ⟨ta, tl, tc, ts⟩ HIN1.out SM.out (by rw [← Hcn.out]; omega))
      unfold ptr at RS
      dsimp only at RS
      clear CS
      go_wp2_with fail
      refine RS.out.mono ?_
      rintro e w1r ⟨rfl, D1r, hO⟩
      replace HO := hidd hO
      replace HBW := hidd hO.b
      have m1' := HC1.out w1r HBW.out
      clear RS hO SM Hcn HF HLN g4 d4 g5 d5 m1 HC1
      by_cases hlt2 : k < len1
      · have hd2 : decide ((k : Int) < (len1 : Int)) = true := by rw [decide_eq_true_eq]; omega
        obtain ⟨b2, f2, t, e2, hbl, -, -, hin, c0⟩ := H2.out.at k hlt2
        obtain ⟨ua, ul, uc, us⟩ := t
        have HIN2 := hidd hin
        dsimp only at c0
        subst e2
        have htl : ul ≤ maxLen := hin.len
        unfold maxLen at htl
        have htm2 : ul ≤ 9223372036854775807 := by omega
        have HC2 : Hid (∀ V, Below W.heap.size W V → V.cell? ⟨b2, f2 + k, none⟩ = some (.slice ua ul uc)) := fun V hV => (hV.cell (p := ⟨b2, f2 + k, none⟩) hbl).trans c0
        have m2 := HC2.out w1r HBW.out
        have BT := hidd (refBatch_any ua ul uc us w1r (hin.below HBW.out).rd hin.len hin.size)
        have HLN : Hid (us.length = ul) := hin.rd.1
        clear hin c0 hbl htl
        go_wp2_with fail
        refine BT.out.mono ?_
        rintro e w9 ⟨rfl, rfl⟩
        have HF := HBW
        cases hbt : batchB us
        case false =>
          go_wp2
          go_ret
          exact ⟨rfl, HF.out⟩
        by_cases g4 : 4 < ul
        · have d4 : decide ((4 : Int) < (ul : Int)) = true := by rw [decide_eq_true_eq]; omega
          go_wp2
          go_ret
          exact ⟨rfl, HF.out⟩
        have d4 : decide ((4 : Int) < (ul : Int)) = false := by rw [decide_eq_false_iff_not]; omega
        have SM := hidd (batch_small (n := 4) (by rw [HLN.out]; omega) (by omega) hbt)
        have CS := hidd (refCost_any ua ul uc us w1r (HIN2.out.below HBW.out).rd (SM.out.mono (by omega) (by omega)))
        obtain ⟨cn, Hcn⟩ : ∃ n, Hid (n = costN us) := ⟨_, hidd rfl⟩
        rw [← Hcn.out] at CS
        clear BT hbt
        go_wp2_with fail
        refine CS.out.mono ?_
        rintro e w9 ⟨rfl, rfl⟩
        by_cases g5 : 400 < cn
        · have d5 : decide ((400 : Int) < (cn : Int)) = true := by rw [decide_eq_true_eq]; omega
          go_wp2
          go_ret
          exact ⟨rfl, HF.out⟩
        have d5 : decide ((400 : Int) < (cn : Int)) = false := by rw [decide_eq_false_iff_not]; omega
        have RS := hidd (two_reset2 dk wl W w1r p q1 q2 (n + 1) _ _ _ HO.out (by omega) ⟨ua, ul, uc, us⟩ HIN2.out SM.out (by rw [← Hcn.out]; omega))
        unfold ptr at RS
        dsimp only at RS
        clear CS
        go_wp2_with fail
        refine RS.out.mono ?_
        rintro e w2r ⟨rfl, D2r, hO⟩
        replace HO := hidd hO
        replace HBW := hidd hO.b
        have m2' := HC2.out w2r HBW.out
        clear RS hO SM Hcn HF HLN g4 d4 g5 d5 m2 HC2
        go_wp2
        go_roundw
        case rel => exact ⟨k + 1, n + 2, ⟨ta, tl, tc, ts⟩, ⟨ua, ul, uc, us⟩, _, by omega, by omega, trivial, by go_num, rfl, rfl, HO⟩
        case measure => simp [intOf]; omega
      · have hd2 : decide ((k : Int) < (len1 : Int)) = false := by rw [decide_eq_false_iff_not]; omega
        go_wp2
        go_roundw
        case rel => exact ⟨k + 1, n + 1, ⟨ta, tl, tc, ts⟩, Q, _, by omega, by omega, trivial, by go_num, rfl, rfl, HO⟩
        case measure => simp [intOf]; omega
    · have hd1 : decide ((k : Int) < (len0 : Int)) = false := by rw [decide_eq_false_iff_not]; omega
      by_cases hlt2 : k < len1
      · have hd2 : decide ((k : Int) < (len1 : Int)) = true := by rw [decide_eq_true_eq]; omega
        have hw1 := wrap_int ((k : Int) + 1) (by omega) (by omega)
        obtain ⟨b2, f2, t, e2, hbl, -, -, hin, c0⟩ := H2.out.at k hlt2
        obtain ⟨ua, ul, uc, us⟩ := t
        have HIN2 := hidd hin
        dsimp only at c0
        subst e2
        have htl : ul ≤ maxLen := hin.len
        unfold maxLen at htl
        have htm2 : ul ≤ 9223372036854775807 := by omega
        have HC2 : Hid (∀ V, Below W.heap.size W V → V.cell? ⟨b2, f2 + k, none⟩ = some (.slice ua ul uc)) := fun V hV => (hV.cell (p := ⟨b2, f2 + k, none⟩) hbl).trans c0
        have m2 := HC2.out wr HBW.out
        have BT := hidd (refBatch_any ua ul uc us wr (hin.below HBW.out).rd hin.len hin.size)
        have HLN : Hid (us.length = ul) := hin.rd.1
        clear hin c0 hbl htl
        go_wp2_with fail
        refine BT.out.mono ?_
        rintro e w9 ⟨rfl, rfl⟩
        have HF := HBW
        cases hbt : batchB us
        case false =>
          go_wp2
          go_ret
          exact ⟨rfl, HF.out⟩
        by_cases g4 : 4 < ul
        · have d4 : decide ((4 : Int) < (ul : Int)) = true := by rw [decide_eq_true_eq]; omega
          go_wp2
          go_ret
          exact ⟨rfl, HF.out⟩
        have d4 : decide ((4 : Int) < (ul : Int)) = false := by rw [decide_eq_false_iff_not]; omega
        have SM := hidd (batch_small (n := 4) (by rw [HLN.out]; omega) (by omega) hbt)
        have CS := hidd (refCost_any ua ul uc us wr (HIN2.out.below HBW.out).rd (SM.out.mono (by omega) (by omega)))
        obtain ⟨cn, Hcn⟩ : ∃ n, Hid (n = costN us) := ⟨_, hidd rfl⟩
        rw [← Hcn.out] at CS
        clear BT hbt
        go_wp2_with fail
        refine CS.out.mono ?_
        rintro e w9 ⟨rfl, rfl⟩
        by_cases g5 : 400 < cn
        · have d5 : decide ((400 : Int) < (cn : Int)) = true := by rw [decide_eq_true_eq]; omega
          go_wp2
          go_ret
          exact ⟨rfl, HF.out⟩
        have d5 : decide ((400 : Int) < (cn : Int)) = false := by rw [decide_eq_false_iff_not]; omega
        have RS := hidd (two_reset2 dk wl W wr p q1 q2 n _ _ _ HO.out (by omega) ⟨ua, ul, uc, us⟩ HIN2.out SM.out (by rw [← Hcn.out]; omega))
        unfold ptr at RS
        dsimp only at RS
        clear CS
        go_wp2_with fail
        refine RS.out.mono ?_
        rintro e w2r ⟨rfl, D2r, hO⟩
        replace HO := hidd hO
        replace HBW := hidd hO.b
        have m2' := HC2.out w2r HBW.out
        clear RS hO SM Hcn HF HLN g4 d4 g5 d5 m2 HC2
        go_wp2
        go_roundw
        case rel => exact ⟨k + 1, n + 1, P, ⟨ua, ul, uc, us⟩, _, by omega, by omega, trivial, by go_num, rfl, rfl, HO⟩
        case measure => simp [intOf]; omega
      · have hd2 : decide ((k : Int) < (len1 : Int)) = false := by rw [decide_eq_false_iff_not]; omega
        obtain ⟨pa, pl, pc, ps⟩ := P
        obtain ⟨qa, ql, qc, qs⟩ := Q
        dsimp only
        have HPI := hidd HO.out.inP
        have HQI := hidd HO.out.inQ
        have CR := hidd (two_crash dk wl W wr p q1 q2 n _ _ _ HO.out (by omega) a2 a3 h2 h3)
        unfold ptr at CR
        clear HO
        go_wp2_with fail
        refine CR.out.mono ?_
        rintro e w3 ⟨rfl, D3, L1, L2, c1, c2, hv, pa1, pa2, i1, i2, hs, hr, hp⟩
        have O1 := hidd (two_open dk wl W TB w3 p D3 L1 L2 hv pa1 pa2 hs hr hp _ i1)
        have I2 := hidd i2
        unfold ptr at O1
        dsimp only at O1
        clear CR hv pa1 pa2 i1 i2 hs hr hp
        go_wp2_with fail
        refine O1.out.mono ?_
        rintro e w4 ⟨D4, x2, ax, cx, rfl, tx, hv, pa2, hs, hr, hp⟩
        have O2 := hidd (open_oneX dk wl _ W TB w4 p D4 hv (fun b e => tx.1.blk_lt b e) hs (by omega) 1000 1000 (by omega) (by omega) L2 true pa2.out _ I2.out)
        have HTX := hidd tx
        unfold ptr at O2
        dsimp only at O2
        clear O1 tx hv pa2 hs hr hp
        go_wp2_with fail
        refine O2.out.mono ?_
        rintro e w5 ⟨D5, x3, ay, cy, L5, rfl, -, ty, hly, -, hv, hsz, hsm⟩
        have HTY := hidd ty
        have HTX5 := hidd (HTX.out.1.same hsz hsm)
        have hlx := HTX.out.2
        have HB5 := hidd hv.w.b
        have hpm : pl ≤ maxLen := HPI.out.len
        have hqm : ql ≤ maxLen := HQI.out.len
        have AW := hidd (awake_any dk wl w5 (TB.on HB5.out))
        clear O2 ty hv hsz hsm HTX
        go_wp2_with fail
        refine AW.out.mono ?_
        rintro e w6 ⟨rfl, hb6⟩
        have S1 := hidd (refSame_any ax ps.length cx ps pa pl pc ps w6 (HTX5.out.keep hb6) (HPI.out.rd.keep (HB5.out.trans (hb6.mono HB5.out.size))) (by unfold maxLen; omega) hpm)
        rw [decide_eq_true rfl] at S1
        have HB6 := hidd (HB5.out.trans (hb6.mono HB5.out.size))
        have HTY6 := hidd (HTY.out.keep hb6)
        clear AW hb6 HTX5 HTY HB5
        go_wp2_with fail
        refine S1.out.mono ?_
        rintro e w7 ⟨rfl, hb7⟩
        have S2 := hidd (refSame_any ay qs.length cy qs qa ql qc qs w7 (HTY6.out.keep hb7) (HQI.out.rd.keep (HB6.out.trans (hb7.mono HB6.out.size))) (by unfold maxLen; omega) hqm)
        rw [decide_eq_true rfl] at S2
        have HB7 := hidd (HB6.out.trans (hb7.mono HB6.out.size))
        clear S1 hb7 HTY6 HB6
        go_wp2_with fail
        refine S2.out.mono ?_
        rintro e w8 ⟨rfl, hb8⟩
        have HB8 := hidd (HB7.out.trans (hb8.mono HB7.out.size))
        clear S2 hb8 HB7
        go_wp2
        go_ret
        exact ⟨rfl, HB8.out⟩
end Go.Proofs.YtdnnhmihigdnkaaDoor
