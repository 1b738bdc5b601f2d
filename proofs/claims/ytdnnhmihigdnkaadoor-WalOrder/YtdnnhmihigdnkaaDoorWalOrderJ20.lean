/- Texts of our own that the row of WalOrder leans on, part 20. -/
import Derived.Test.YtdnnhmihigdnkaaDoorWalOrderJ17
import Derived.Test.YtdnnhmihigdnkaaDoorWalOrderJ19

/- A wal on a disk that may stop, and crashes. -/
namespace Go.Proofs.YtdnnhmihigdnkaaDoor
open Go.RowKit Nums
set_option linter.unusedVariables false
set_option linter.unusedSimpArgs false
set_option maxRecDepth 100000
variable {At : World → Nat → DkT → (Nat → Prop) → Prop} {Vt : Type} {WM : World → Nat → Nat → Nat → Nat → Vt → (Nat → Prop) → Prop} {WP : Nat → Nat → Vt → DkT → LgT → Prop} {PA : Nat → Nat → DkT → LgT → Bool → Prop}
theorem IsL.maybe {L : LgT} {s x : StT} (h : IsL L s) : (toL L x 80).olds = [] ∧ (toL L x 80).now = s ∧ (toL L x 80).may = x ∧ (toL L x 80).maybe = true := by
  obtain ⟨h1, h2, h3⟩ := h
  have e : toL L x 80 = { L with may := x, maybe := true } := by unfold toL; rw [if_neg (by decide), if_pos rfl, if_neg (by rw [h3]; decide)]
  rw [e]
  exact ⟨h1, h2, rfl, rfl⟩
end Go.Proofs.YtdnnhmihigdnkaaDoor

/- A wal alive beside memory of the statement's own. -/
namespace Go.Proofs.YtdnnhmihigdnkaaDoor
open Go.RowKit Nums
set_option linter.unusedVariables false
set_option linter.unusedSimpArgs false
set_option maxRecDepth 100000
variable {At : World → Nat → DkT → (Nat → Prop) → Prop} {Vt : Type} {WM : World → Nat → Nat → Nat → Nat → Vt → (Nat → Prop) → Prop} {WP : Nat → Nat → Vt → DkT → LgT → Prop} {PA : Nat → Nat → DkT → LgT → Bool → Prop}
def LvX (At : World → Nat → DkT → (Nat → Prop) → Prop) (WM : World → Nat → Nat → Nat → Nat → Vt → (Nat → Prop) → Prop) (WP : Nat → Nat → Vt → DkT → LgT → Prop) (X : Nat → Prop) (w0 w : World) (p q f r : Nat) (D : DkT) (L : LgT) : Prop :=
  ∃ S T V, At w p D S ∧ WM w q p f r V T ∧ WP f r V D L ∧ (∀ b, T b → ¬ S b) ∧ (∀ b, S b → w0.heap.size ≤ b) ∧ (∀ b, T b → w0.heap.size ≤ b) ∧ Below w0.heap.size w0 w ∧ (∀ b, X b → ¬ S b ∧ ¬ T b)
theorem LvX.w {X : Nat → Prop} {w0 w : World} {p q f r : Nat} {D : DkT} {L : LgT} (h : LvX At WM WP X w0 w p q f r D L) : LvW At WM WP w0 w p q f r D L := by
  obtain ⟨S, T, V, h1, h2, h3, h4, h5, h6, h7, h8⟩ := h
  exact ⟨S, T, V, h1, h2, h3, h4, h5, h6, h7⟩
/-- Memory that is new, or that lay there, is beside it. -/
theorem LvX.more {X Y : Nat → Prop} {w0 W w : World} {p q f r : Nat} {D : DkT} {L : LgT} (dk : DiskC At) (wl : WalC At WM WP PA) (h : LvX At WM WP X w0 W p q f r D L) (hW : W.heap.size ≤ w.heap.size) (hB : Below w0.heap.size w0 w) (hk : ∀ b, b < W.heap.size → ¬ X b → w.heap[b]? = W.heap[b]?) (hY : ∀ b, Y b → X b ∨ W.heap.size ≤ b ∨ b < w0.heap.size) : LvX At WM WP Y w0 w p q f r D L := by
  obtain ⟨S, T, V, h1, h2, h3, h4, h5, h6, h7, h8⟩ := h
  have hs := h7.size
  refine ⟨S, T, V, dk.keep h1 hW fun b e => hk b (dk.lt h1 b e) (fun e2 => (h8 b e2).1 e), wl.mkeep h2 hW fun b e => hk b (wl.mlt h2 b e) (fun e2 => (h8 b e2).2 e), h3, h4, h5, h6, hB, fun b e => ⟨fun e2 => ?_, fun e2 => ?_⟩⟩
  · rcases hY b e with e3 | e3 | e3
    · exact (h8 b e3).1 e2
    · have := dk.lt h1 b e2; omega
    · have := h5 b e2; omega
  · rcases hY b e with e3 | e3 | e3
    · exact (h8 b e3).2 e2
    · have := wl.mlt h2 b e2; omega
    · have := h6 b e2; omega
theorem LvX.below {X : Nat → Prop} {w0 w w' : World} {p q f r : Nat} {D : DkT} {L : LgT} (dk : DiskC At) (wl : WalC At WM WP PA) (h : LvX At WM WP X w0 w p q f r D L) (hb : Below w.heap.size w w') : LvX At WM WP X w0 w' p q f r D L :=
  h.more dk wl hb.size (h.w.b.trans (hb.mono h.w.b.size)) (fun b hl _ => hb.block b hl) fun b e => .inl e
/-- A wal alone is beside nothing, and what is new is beside it. -/
theorem LvW.x {Y : Nat → Prop} {w0 W w : World} {p q f r : Nat} {D : DkT} {L : LgT} (dk : DiskC At) (wl : WalC At WM WP PA) (h : LvW At WM WP w0 W p q f r D L) (hW : Below W.heap.size W w) (hY : ∀ b, Y b → W.heap.size ≤ b ∨ b < w0.heap.size) : LvX At WM WP Y w0 w p q f r D L := by
  obtain ⟨S, T, V, h1, h2, h3, h4, h5, h6, h7⟩ := h
  have h : LvX At WM WP (fun _ => False) w0 W p q f r D L := ⟨S, T, V, h1, h2, h3, h4, h5, h6, h7, fun b e => e.elim⟩
  exact h.more dk wl hW.size (h7.trans (hW.mono h7.size)) (fun b hl _ => hW.block b hl) fun b e => .inr (hY b e)
theorem lvx_commit (dk : DiskC At) (wl : WalC At WM WP PA) (X : Nat → Prop) (w0 w : World) (p q f r : Nat) (D : DkT) (L : LgT) (h : LvX At WM WP X w0 w p q f r D L) (hX : ∀ b, X b → b < w.heap.size) (hp : D.puts.length ≤ 500000) (a : Option Addr) (len cap : Nat) (l : List ByteArray) (hT : Texts w a len l) (hl : Small 30 5000 l) (hc : a = none → cap = 0) (hb : ∀ b, TBlock a len b → b < w0.heap.size ∨ X b) :
    Calls Tryd.prog 25 #[ptr q, .slice a len cap] w fun e w' => ∃ n D' L', e = .returned (.int .i64 n) ∧ ChangeE L L' (committed L l) l r D' false n ∧ WentD D D' ∧ LvX At WM WP X w0 w' p q f r D' L' ∧ w.heap.size ≤ w'.heap.size ∧ (∀ b, X b → w'.heap[b]? = w.heap[b]?) := by
  obtain ⟨S, T, V, h1, h2, h3, h4, h5, h6, h7, h8⟩ := h
  have hs := h7.size
  refine (wl.commit w p D S h1 hp q f r V T L h2 h3 h4 a len cap l hT hl hc (fun b e => ?_)).mono ?_
  · rcases hb b e with e | e
    · exact ⟨fun e2 => by have := h5 b e2; omega, fun e2 => by have := h6 b e2; omega⟩
    · exact h8 b e
  · rintro e w' ⟨n, D', S', V', T', L', rfl, a1, a2, a3, a4, a5, a6, a7, a8, a9, a10⟩
    refine ⟨n, D', L', rfl, a1, a9.toWentD, ⟨S', T', V', a2, a3, a4, a7, fun b e => ?_, fun b e => ?_, a8.below h7 hs fun b e => ?_, fun b e => ⟨fun e2 => ?_, fun e2 => ?_⟩⟩, a8.size, fun b e => a8.block b (hX b e) (fun e2 => ?_)⟩
    · rcases a5 b e with e | e
      · exact h5 b e
      · omega
    · rcases a6 b e with e | e
      · exact h6 b e
      · omega
    · rcases e with e | e
      · exact h5 b e
      · exact h6 b e
    · rcases a5 b e2 with e3 | e3
      · exact (h8 b e).1 e3
      · have := hX b e; omega
    · rcases a6 b e2 with e3 | e3
      · exact (h8 b e).2 e3
      · have := hX b e; omega
    · rcases e2 with e2 | e2
      · exact (h8 b e).1 e2
      · exact (h8 b e).2 e2
/-- Texts put behind others: where the row lies then. -/
theorem run_append_texts2 {w : World} {a : Option Addr} {len cap : Nat} {l : List ByteArray} (h : Texts w a len l) (hc0 : a = none → cap = 0) (B n : Nat) (v : Value) (xs : List ByteArray)
    (hown : w.ownsRow B 9 1 v n (strL xs)) (hB : B ≤ w.heap.size) (hb : n + len ≤ 8796093022208) :
    ∃ v' w', (Builtin.append_ #[29, 29] 29 #[v, .slice a len cap]).run Tryd.prog w = .ok v' w' ∧
      w'.ownsRow B 9 1 v' (n + len) (strL (xs ++ l)) ∧ w.grownBy w' v.ownBlock ∧ (v'.ownBlock = v.ownBlock ∨ ∃ g, v'.ownBlock = some g ∧ w.heap.size ≤ g) := by
  obtain ⟨v', w', hr, ho, hg⟩ := run_append_texts h hc0 B n 29 v xs hown hB hb
  refine ⟨v', w', hr, ho, hg, ?_⟩
  obtain ⟨i0, hi, hz0, hz1, hz2⟩ := info_parts info9
  have h1 := h.1
  have hu : Tryd.prog.underlying 29 = some (.slice 9) := Tryd.underlying29
  cases a with
  | none =>
    obtain rfl : cap = 0 := hc0 rfl
    have hl0 : len = 0 := by
      rcases h.2 with h0 | ⟨b, off, e, _⟩
      · exact h0
      · cases e
    subst hl0
    have := run_append_owned_none (P := Tryd.prog) w B 29 29 9 i0 1 hu hi _ n _ hown
    rw [hr] at this
    cases this
    exact .inl rfl
  | some ad =>
    have hN : ∀ j u, (strL l)[j]? = some u → w.cell? (ad.add j) = some u := fun j u hj => by
      have hjl : j < l.length := by
        rcases Nat.lt_or_ge j l.length with h | h
        · exact h
        · rw [List.getElem?_eq_none (by rw [strL_length]; exact h)] at hj; cases hj
      rcases h.2 with h0 | ⟨b, off, e, _, hc⟩
      · omega
      · cases e
        rw [add_plain, hc j hjl]
        rw [strL_at l j hjl] at hj
        exact hj
    have hi1 : (strL l).length = len * i0.size := by rw [hz1, strL_length, h1]; omega
    by_cases hl0 : len = 0
    · subst hl0
      obtain rfl : l = [] := List.eq_nil_of_length_eq_zero h1
      rw [Nat.add_zero, List.append_nil] at ho
      rcases hown.2 with ⟨rfl, h0⟩ | ⟨g, cp, cur, rfl, hbg, hgg, hnc, hcm, hcs, htake⟩
      · subst h0
        obtain ⟨v2, w2, r2, _, _, hiff⟩ := run_append_own (P := Tryd.prog) w B 29 29 9 i0 (.string ⟨#[]⟩) 1 16 hu hi hz0 hz1 hz2 rfl (by decide) (.slice none 0 0) 0 _ hown ad 0 cap (strL []) rfl hN (strL_one _) (by unfold maxLen; omega) (by omega) hB
        rw [hr] at r2
        cases r2
        left
        rw [hiff.2 ⟨rfl, rfl⟩]
      · have := run_append_room (P := Tryd.prog) w 29 29 9 i0 hu hi g n cp cur hgg ad 0 cap (strL []) hi1 hN (strL_one _) (by omega) (by rw [hz1, hcs]; show n * 1 + 0 ≤ _; omega)
        rw [hr] at this
        cases this
        exact .inl rfl
    · rcases hown.2 with ⟨rfl, h0⟩ | ⟨g, cp, cur, rfl, hbg, hgg, hnc, hcm, hcs, htake⟩
      · have := run_append_nil (P := Tryd.prog) w 29 29 9 i0 _ hu hi hz0 ad len cap (strL l) hi1 hN (by omega) (by omega) (by rw [hz2]; omega)
        rw [hr] at this
        cases this
        exact .inr ⟨w.heap.size, rfl, Nat.le_refl _⟩
      · by_cases hroom : n + len ≤ cp
        · have := run_append_room (P := Tryd.prog) w 29 29 9 i0 hu hi g n cp cur hgg ad len cap (strL l) hi1 hN (strL_one _) hroom (by rw [hz1, strL_length, h1, hcs]; omega)
          rw [hr] at this
          cases this
          exact .inl rfl
        · have hx : (strL xs).length = n * i0.size := by rw [hz1]; exact hown.1
          have := run_append_grow (P := Tryd.prog) w 29 29 9 i0 _ hu hi hz0 ⟨g, 0, none⟩ n cp (strL xs) hx (hown.cells (g := g) rfl) ad len cap (strL l) hi1 hN (by omega) (by omega) (growslice_fits (by omega) (by rw [hz2]; omega))
          rw [hr] at this
          cases this
          exact .inr ⟨w.heap.size, rfl, Nat.le_refl _⟩
end Go.Proofs.YtdnnhmihigdnkaaDoor

/- A disk alive beside memory of the statement's own: Open, Crash, Stop. -/
namespace Go.Proofs.YtdnnhmihigdnkaaDoor
open Go.RowKit Nums
set_option linter.unusedVariables false
set_option linter.unusedSimpArgs false
set_option maxRecDepth 100000
variable {At : World → Nat → DkT → (Nat → Prop) → Prop} {Vt : Type} {WM : World → Nat → Nat → Nat → Nat → Vt → (Nat → Prop) → Prop} {WP : Nat → Nat → Vt → DkT → LgT → Prop} {PA : Nat → Nat → DkT → LgT → Bool → Prop}
def LvDX (At : World → Nat → DkT → (Nat → Prop) → Prop) (X : Nat → Prop) (w0 w : World) (p : Nat) (D : DkT) : Prop := ∃ S, At w p D S ∧ (∀ b, S b → w0.heap.size ≤ b) ∧ Below w0.heap.size w0 w ∧ ∀ b, X b → ¬ S b
theorem LvX.dx {X : Nat → Prop} {w0 w : World} {p q f r : Nat} {D : DkT} {L : LgT} (h : LvX At WM WP X w0 w p q f r D L) : LvDX At X w0 w p D := by
  obtain ⟨S, T, V, h1, h2, h3, h4, h5, h6, h7, h8⟩ := h
  exact ⟨S, h1, h5, h7, fun b e => (h8 b e).1⟩
theorem LvDX.d {X : Nat → Prop} {w0 w : World} {p : Nat} {D : DkT} (h : LvDX At X w0 w p D) : LvD At w0 w p D := by
  obtain ⟨S, h1, h2, h3, h4⟩ := h
  exact ⟨S, h1, h2, h3⟩
theorem LvDX.more {X Y : Nat → Prop} {w0 W w : World} {p : Nat} {D : DkT} (dk : DiskC At) (h : LvDX At X w0 W p D) (hW : W.heap.size ≤ w.heap.size) (hB : Below w0.heap.size w0 w) (hk : ∀ b, b < W.heap.size → ¬ X b → w.heap[b]? = W.heap[b]?) (hY : ∀ b, Y b → X b ∨ W.heap.size ≤ b ∨ b < w0.heap.size) : LvDX At Y w0 w p D := by
  obtain ⟨S, h1, h5, h7, h8⟩ := h
  have hs := h7.size
  refine ⟨S, dk.keep h1 hW fun b e => hk b (dk.lt h1 b e) (fun e2 => h8 b e2 e), h5, hB, fun b e e2 => ?_⟩
  rcases hY b e with e3 | e3 | e3
  · exact h8 b e3 e2
  · have := dk.lt h1 b e2; omega
  · have := h5 b e2; omega
/-- What an Open answers, beside memory X. -/
def OpenedX (At : World → Nat → DkT → (Nat → Prop) → Prop) (WM : World → Nat → Nat → Nat → Nat → Vt → (Nat → Prop) → Prop) (WP : Nat → Nat → Vt → DkT → LgT → Prop) (PA : Nat → Nat → DkT → LgT → Bool → Prop) (X : Nat → Prop) (w0 w : World) (p f r : Nat) (D : DkT) (L : LgT) (c : Bool) (e : Ending) (w' : World) : Prop :=
  ∃ D', WentD D D' ∧ w.heap.size ≤ w'.heap.size ∧ (∀ b, X b → w'.heap[b]? = w.heap[b]?) ∧ ((∃ q a len cap rs, e = .returned (.tuple #[ptr q, .slice a len cap, .int .i64 0]) ∧ Texts w' a len rs ∧ len ≤ 1000000 ∧ (∀ b, TBlock a len b → w.heap.size ≤ b) ∧ opensB L rs c = true ∧ LvX At WM WP (fun b => X b ∨ TBlock a len b) w0 w' p q f r D' (opensL L rs c)) ∨
    ((∃ a cap, e = .returned (.tuple #[.pointer none, .slice a 0 cap, .int .i64 80])) ∧ D'.down = true ∧ PA f r D' L c ∧ LvDX At X w0 w' p D'))
theorem dx_open (wl : WalC At WM WP PA) (X : Nat → Prop) (w0 : World) (tb : TabW w0) (w : World) (p : Nat) (D : DkT) (h : LvDX At X w0 w p D) (hX : ∀ b, X b → b < w.heap.size) (hp : D.puts.length ≤ 500000) (f r : Nat) (h1 : 64 ≤ r ∧ r ≤ 1000000) (h2 : f + r ≤ D.safe.length) (L : LgT) (c : Bool) (hP : PA f r D L c) :
    Calls Tryd.prog 12 #[ptr p, .int .i64 f, .int .i64 r] w fun e w' => OpenedX At WM WP PA X w0 w p f r D L c e w' := by
  obtain ⟨S, k1, k2, k3, k4⟩ := h
  refine (wl.open_ w (tb.on k3) p D S k1 hp f r h1 h2 L c hP).mono ?_
  rintro e w' ⟨D', S', a1, a2, a3, a4, a5, a6⟩
  have hs := k3.size
  have hS' : ∀ b, S' b → w0.heap.size ≤ b := fun b e => by
    rcases a2 b e with e | e
    · exact k2 b e
    · omega
  have hXS : ∀ b, X b → ¬ S' b := fun b e e2 => by
    rcases a2 b e2 with e3 | e3
    · exact k4 b e e3
    · have := hX b e; omega
  have hB := a3.below k3 hs k2
  refine ⟨D', a4, a3.size, fun b e => a3.block b (hX b e) (k4 b e), ?_⟩
  rcases a6 with ⟨q, T, V, a, len, cap, rs, rfl, b1, b2, b3, b4, b5, b6, b7, b8⟩ | ⟨⟨a, cap, rfl⟩, b1, b2⟩
  · exact .inl ⟨q, a, len, cap, rs, rfl, b1, b2, fun b e => (b4 b e).1, b5, S', T, V, a1, b6, b7, fun b e => (b8 b e).2, hS', fun b e => Nat.le_trans hs (b8 b e).1, hB, fun b e => by
      rcases e with e | e
      · exact ⟨hXS b e, fun e2 => by have := hX b e; have := (b8 b e2).1; omega⟩
      · exact (b4 b e).2⟩
  · exact .inr ⟨⟨a, cap, rfl⟩, b1, b2, S', a1, hS', hB, hXS⟩
end Go.Proofs.YtdnnhmihigdnkaaDoor

/- The walk of WalNil. -/
namespace Go.Proofs.YtdnnhmihigdnkaaDoor
open Go.RowKit Nums
set_option linter.unusedVariables false
set_option linter.unusedSimpArgs false
set_option maxRecDepth 100000
variable {At : World → Nat → DkT → (Nat → Prop) → Prop} {Vt : Type} {WM : World → Nat → Nat → Nat → Nat → Vt → (Nat → Prop) → Prop} {WP : Nat → Nat → Vt → DkT → LgT → Prop} {PA : Nat → Nat → DkT → LgT → Bool → Prop}
/-- A list of one call, made of texts. -/
theorem one_ow {W : World} {a : Option Addr} {len cap : Nat} {l : List ByteArray} (h : InT W ⟨a, len, cap, l⟩) : WReads (W.alloc (.cells #[.int .i64 0, .int .i64 0, .int .i64 0, .slice a len cap] 36)) (some ⟨W.heap.size, 0, none⟩) 1 1 [⟨0, 0, 0, ⟨a, len, cap, l⟩⟩] := by
  have hb : Below W.heap.size W (W.alloc (.cells #[.int .i64 0, .int .i64 0, .int .i64 0, .slice a len cap] 36)) := (Below.refl _ _).alloc (Nat.le_refl _) _
  have hn := heap_alloc_new W (.cells #[.int .i64 0, .int .i64 0, .int .i64 0, .slice a len cap] 36)
  refine ⟨rfl, Nat.le_refl _, by omega, fun o ho => ?_, .inr ⟨W.heap.size, 0, rfl, heap_lt hn, fun i hi => ?_⟩⟩
  · obtain rfl : o = ⟨0, 0, 0, ⟨a, len, cap, l⟩⟩ := by simpa using ho
    exact ⟨by show In64 0; unfold In64; omega, by show In64 0; unfold In64; omega, by show In64 0; unfold In64; omega, h.below hb⟩
  · obtain rfl : i = 0 := by simp at hi; omega
    exact ⟨by rw [cell_of_row _ _ _ _ _ (0, 0) hn]; rfl, by rw [cell_of_row _ _ _ _ _ (0, 0) hn]; rfl, by rw [cell_of_row _ _ _ _ _ (0, 0) hn]; rfl, by rw [cell_of_row _ _ _ _ _ (0, 0) hn]; rfl⟩
end Go.Proofs.YtdnnhmihigdnkaaDoor

/- The walk of WalOrder. -/
namespace Go.Proofs.YtdnnhmihigdnkaaDoor
open Go.RowKit Nums
set_option linter.unusedVariables false
set_option linter.unusedSimpArgs false
set_option maxRecDepth 100000
variable {At : World → Nat → DkT → (Nat → Prop) → Prop} {Vt : Type} {WM : World → Nat → Nat → Nat → Nat → Vt → (Nat → Prop) → Prop} {WP : Nat → Nat → Vt → DkT → LgT → Prop} {PA : Nat → Nat → DkT → LgT → Bool → Prop}
/-- What stands at the head of a round. -/
structure OrdS (At : World → Nat → DkT → (Nat → Prop) → Prop) (WM : World → Nat → Nat → Nat → Nat → Vt → (Nat → Prop) → Prop) (WP : Nat → Nat → Vt → DkT → LgT → Prop) (W wr : World) (p q k : Nat) (v : Value) (all : List ByteArray) (D : DkT) (L : LgT) : Prop where
  own : wr.ownsRow W.heap.size 9 1 v all.length (strL all)
  lv : LvX At WM WP (fun b => v.ownBlock = some b) W wr p q 0 2000 D L
  recs : L.now.recs = all
  stops : D.stops = false
  room : D.safe.length = 2000
  puts : D.puts.length ≤ 400 * (k + 1)
  len : all.length ≤ 30 * k
theorem own_val {w : World} {B n : Nat} {v : Value} {xs : List Value} (h : w.ownsRow B 9 1 v n xs) : ∃ a c, v = .slice a n c := by
  rcases h.2 with ⟨rfl, rfl⟩ | ⟨g, cap, cur, rfl, _⟩
  · exact ⟨_, _, rfl⟩
  · exact ⟨_, _, rfl⟩
theorem own_ltB {w : World} {B n : Nat} {v : Value} {xs : List Value} (h : w.ownsRow B 9 1 v n xs) : ∀ b, v.ownBlock = some b → b < w.heap.size ∧ B ≤ b := by
  intro b e
  rcases h.2 with ⟨rfl, _⟩ | ⟨g, cap, cur, rfl, hb, hg, _⟩
  · cases e
  · obtain rfl : g = b := Option.some.inj e
    exact ⟨heap_lt hg, hb⟩
theorem own_sameB {w w' : World} {B n : Nat} {v : Value} {xs : List Value} (h : w.ownsRow B 9 1 v n xs) (hb : ∀ b, v.ownBlock = some b → w'.heap[b]? = w.heap[b]?) : w'.ownsRow B 9 1 v n xs := by
  refine ⟨h.1, ?_⟩
  rcases h.2 with ⟨rfl, h2⟩ | ⟨g, cap, cur, rfl, h0, hg, h3⟩
  · exact .inl ⟨rfl, h2⟩
  · exact .inr ⟨g, cap, cur, rfl, h0, (hb g rfl).trans hg, h3⟩
theorem OrdS.below {W wr w' : World} {p q k : Nat} {v : Value} {all : List ByteArray} {D : DkT} {L : LgT} (dk : DiskC At) (wl : WalC At WM WP PA) (h : OrdS At WM WP W wr p q k v all D L) (hb : Below wr.heap.size wr w') : OrdS At WM WP W w' p q k v all D L :=
  ⟨own_sameB h.own fun b e => hb.block b (own_ltB h.own b e).1, h.lv.below dk wl hb, h.recs, h.stops, h.room, h.puts, h.len⟩
/-- A Commit in a round: what it answers, and what stands then. -/
theorem ord_commit (dk : DiskC At) (wl : WalC At WM WP PA) (W w : World) (p q k : Nat) (v : Value) (all : List ByteArray) (D : DkT) (L : LgT) (h : OrdS At WM WP W w p q k v all D L) (hk : k ≤ 20) (t : TxT) (hT : InT W t) (hl : Small 30 5000 t.l) :
    Calls Tryd.prog 25 #[ptr q, .slice t.a t.len t.cap] w fun e w' => ∃ n D' L', e = .returned (.int .i64 n) ∧ w.heap.size ≤ w'.heap.size ∧ Below W.heap.size W w' ∧
      ((n = 0 ∧ ∃ v' w3, (Builtin.append_ #[29, 29] 29 #[v, .slice t.a t.len t.cap]).run Tryd.prog w' = .ok v' w3 ∧ OrdS At WM WP W w3 p q (k + 1) v' (all ++ t.l) D' L') ∨ (((n = 2 ∧ batchB t.l = false) ∨ n = 90) ∧ OrdS At WM WP W w' p q (k + 1) v all D' L')) := by
  have hb := h.lv.w.b
  have hX := own_ltB h.own
  refine (lvx_commit dk wl _ W w p q 0 2000 D L h.lv (fun b e => (hX b e).1) (by have := h.puts; omega) t.a t.len t.cap t.l (hT.rd.keep hb) hl hT.cap (fun b e => .inl (hT.rd.blk_lt b e))).mono ?_
  rintro e w' ⟨n, D', L', rfl, h1, h2, h3, h4, h5⟩
  have hs' := h2.stops.trans h.stops
  have hB' := h3.w.b
  have own' := own_sameB h.own h5
  have hll := hT.rd.1
  have hl30 := hl.1
  have hal := h.len
  have hpp := h2.puts
  have hpu := h.puts
  refine ⟨n, D', L', rfl, h4, hB', ?_⟩
  rcases h1 with ⟨h1, rfl, rfl⟩ | ⟨_, ⟨rfl, hL⟩ | ⟨rfl, h1, _⟩ | ⟨rfl, rfl, _⟩⟩
  · exact .inr ⟨.inl ⟨rfl, h1⟩, own', h3, h.recs, hs', h2.room.trans h.room, by omega, by omega⟩
  · obtain ⟨v', w3, hr, ho, hg, hv⟩ := run_append_texts2 (hT.rd.keep hB') hT.cap W.heap.size all.length v all own' hB'.size (by omega)
    have ho' : w3.ownsRow W.heap.size 9 1 v' (all ++ t.l).length (strL (all ++ t.l)) := by rw [List.length_append, hll]; exact ho
    have hB3 : Below W.heap.size W w3 := hB'.grown hg hB'.size fun b e => (hX b e).2
    have hX' := own_ltB own'
    have hgs := hg.size
    refine .inl ⟨rfl, v', w3, hr, ho', ?_, ?_, hs', h2.room.trans h.room, by omega, by rw [List.length_append]; omega⟩
    · refine h3.more dk wl hgs hB3 (fun b hb1 hn => hg.block b hb1 fun e => hn e.symm) fun b e => ?_
      rcases hv with e2 | ⟨g, e2, hgg⟩
      · exact .inl (by rw [← e2]; exact e)
      · rw [e2] at e
        obtain rfl := Option.some.inj e
        exact .inr (.inl hgg)
    · rw [hL]
      show (committed L t.l).recs = _
      unfold committed
      rw [h.recs]
  · have := h3.w.disk.calm dk hs'
    rw [this] at h1; cases h1
  · exact .inr ⟨.inr rfl, own', h3, h.recs, hs', h2.room.trans h.room, by omega, by omega⟩
set_option maxHeartbeats 16000000 in
theorem walOrder_in (dk : DiskC At) (wl : WalC At WM WP PA) (a0 : Option Addr) (len0 cap0 : Nat) (z0 : List TxT) (W : World) (h0 : LLReads W a0 len0 cap0 z0) (TB : TabW W) :
    Calls Tryd.prog 8 #[.slice a0 len0 cap0] W fun e w' => e = .returned (.bool true) ∧ Below W.heap.size W w' := by
  have hx0 : len0 ≤ 9223372036854775807 := by have h1 := h0.2.1; have h2 := h0.2.2.1; omega
  have H0 := hidd h0
  clear h0
  by_cases g0 : 20 < len0
  · have d0 : decide ((20 : Int) < (len0 : Int)) = true := by rw [decide_eq_true_eq]; omega
    go_enter Tryd.func8, Tryd.ntmps8
    go_wp2
    go_ret
    exact ⟨rfl, Below.refl _ _⟩
  have d0 : decide ((20 : Int) < (len0 : Int)) = false := by rw [decide_eq_false_iff_not]; omega
  have GR := hidd (ground_any dk W W (Below.refl _ _))
  go_enter Tryd.func8, Tryd.ntmps8
  go_wp2_with fail
  refine GR.out.mono ?_
  rintro e w1 ⟨p, rfl, h⟩
  have PP := hidd (wl.fresh 2000 0 2000 (by omega) (by omega))
  obtain ⟨D1, HD⟩ : ∃ D, Hid (D = newD 2000) := ⟨_, hidd rfl⟩
  have sD1 : D1.stops = false := by rw [HD.out]; rfl
  have rD1 : D1.safe.length = 2000 := by rw [HD.out]; exact List.length_replicate
  have bD1 : D1.puts.length ≤ 0 := by rw [HD.out]; exact Nat.le_refl _
  rw [← HD.out] at h PP
  have OP := hidd (open_one dk wl W TB w1 p D1 h sD1 (by omega) 0 2000 (by omega) (by omega) newL false PP.out ⟨[], 0⟩ isL_new)
  rw [show (⟨[], 0⟩ : StT).recs.length = 0 from rfl] at OP
  unfold ptr at OP ⊢
  clear h HD GR
  go_wp2_with fail
  refine OP.out.mono ?_
  rintro e w2 ⟨D2, q, ax, cx, L1, rfl, hw, ht, -, -, hI, hv⟩
  have HS : Hid (OrdS At WM WP W w2 p q 0 (.slice none 0 0) [] D2 L1) := ⟨World.ownsRow_nil _ _ _ _, hv.x dk wl (Below.refl _ _) (fun b e => by cases e), by rw [hI.2.1], hw.stops.trans sD1, hw.room.trans rD1, Nat.le_trans hw.puts (by omega), Nat.le_refl _⟩
  clear OP hw ht hv hI sD1 rD1 bD1 PP
  go_wp2
  go_loopw [7, 8] (fun s i wr => ∃ (k : Nat) (aa : Option Addr) (ac : Nat) (all : List ByteArray) (D : DkT) (L : LgT), k ≤ len0 ∧ i = .int .i64 (k : Int) ∧ s = .slice aa all.length ac ∧ Hid (OrdS At WM WP W wr p q k (.slice aa all.length ac) all D L)) (fun _ i _ => len0 - (intOf i).toNat)
  case atStart => exact ⟨0, none, 0, [], D2, L1, Nat.zero_le _, rfl, rfl, HS⟩
  case round =>
    clear HS
    obtain ⟨k, aa, ac, all, D, L, hk, rfl, rfl, HO⟩ := hrel
    have HBW := hidd HO.out.lv.w.b
    have hal : all.length ≤ 9223372036854775807 := by have := HO.out.len; omega
    by_cases hlt : k < len0
    · have hd : decide ((k : Int) < (len0 : Int)) = true := by rw [decide_eq_true_eq]; omega
      have hw1 := wrap_int ((k : Int) + 1) (by omega) (by omega)
      obtain ⟨b, off, t, rfl, hbl, ht, hmem, hin, c0⟩ := H0.out.at k hlt
      obtain ⟨ta, tl, tc, ts⟩ := t
      have HIN := hidd hin
      dsimp only at c0
      have HC : Hid (∀ V, Below W.heap.size W V → V.cell? ⟨b, off + k, none⟩ = some (.slice ta tl tc)) := fun V hV => (hV.cell (p := ⟨b, off + k, none⟩) hbl).trans c0
      have m0 := HC.out wr HBW.out
      have HB1 : Hid (Below wr.heap.size wr (wr.alloc (.cells #[.int .i64 0, .int .i64 0, .int .i64 0, .slice ta tl tc] 36))) := (Below.refl _ _).alloc (Nat.le_refl _) _
      have m1 := HC.out _ (HBW.out.trans (HB1.out.mono HBW.out.size))
      have LG := hidd (large10_any (some ⟨wr.heap.size, 0, none⟩) 1 1 [⟨0, 0, 0, ⟨ta, tl, tc, ts⟩⟩] _ _ (one_ow (hin.below HBW.out)) (Below.refl _ _))
      clear ht hmem hin c0 hbl
      go_wp2_with fail
      refine LG.out.mono ?_
      intro e w1 hx
      unfold LargeE at hx
      obtain ⟨x, rfl, rfl, hsm⟩ := hx
      clear LG
      cases x
      case true =>
        have HF := hidd (HBW.out.trans (HB1.out.mono HBW.out.size))
        clear hsm
        go_wp2
        go_ret
        exact ⟨rfl, HF.out⟩
      have HSM : Hid (Small 30 5000 ts) := (hsm rfl).2 _ (List.mem_singleton.2 rfl)
      have CM := hidd (ord_commit dk wl W (wr.alloc (.cells #[.int .i64 0, .int .i64 0, .int .i64 0, .slice ta tl tc] 36)) p q k (.slice aa all.length ac) all D L (HO.out.below dk wl HB1.out) (by omega) ⟨ta, tl, tc, ts⟩ HIN.out HSM.out)
      unfold ptr at CM
      dsimp only at CM
      clear hsm
      go_wp2_with fail
      refine CM.out.mono ?_
      rintro e w2 ⟨n, D', L', rfl, hs2, hB2, hcase⟩
      have m2 := HC.out w2 hB2
      have HB2 := hidd hB2
      clear CM
      rcases hcase with ⟨rfl, v', w3, hr, hO⟩ | ⟨hn, hO⟩
      · obtain ⟨a3, c3, rfl⟩ := own_val hO.own
        have HRUN := hidd hr
        have HO3 := hidd hO
        have LN := hidd (lvw_len wl W w3 p q 0 2000 D' L' hO.lv.w)
        have hla : (all ++ ts).length ≤ 9223372036854775807 := by have := hO.len; omega
        rw [hO.recs] at LN
        obtain ⟨al, Hal⟩ : ∃ n, Hid (n = (all ++ ts).length) := ⟨_, hidd rfl⟩
        rw [← Hal.out] at HRUN LN hla
        unfold ptr at LN
        clear hr hO HO m0 m1 HC HB1 HBW
        go_wp2_with (first
          | ((with_reducible show wpList _ _ _ ({ dst := some 59, op := _, type := _, pos := _, after := _, guard := _ } :: _) _ _); refine wpList_append_run (by rfl) (.tmp 54) (.tmp 58) 29 29 (by rfl) _ _ _ _ (by rfl) (by rfl) HRUN.out ?_; try simp only [Act.put, List.setIfInBounds_toArray, List.set_cons_zero, List.set_cons_succ])
          | fail)
        refine LN.out.mono ?_
        rintro e w4 ⟨rfl, hb4⟩
        have HO4 := hidd (HO3.out.below dk wl hb4)
        rw [← Hal.out] at HO4
        clear hb4 LN HRUN HO3
        go_wp2
        go_roundw
        case rel => exact ⟨k + 1, a3, c3, all ++ ts, D', L', by omega, by go_num, by rw [Hal.out], by rw [← Hal.out]; exact HO4⟩
        case measure => simp [intOf]; omega
      · have HO3 := hidd hO
        have LN := hidd (lvw_len wl W w2 p q 0 2000 D' L' hO.lv.w)
        rw [hO.recs] at LN
        unfold ptr at LN
        obtain ⟨al, Hal⟩ : ∃ n, Hid (n = all.length) := ⟨_, hidd rfl⟩
        rw [← Hal.out] at LN hal
        rcases hn with ⟨rfl, hbt⟩ | rfl
        · have BT := hidd (refBatch_any ta tl tc ts w2 (HIN.out.below HB2.out).rd HIN.out.len HIN.out.size)
          rw [hbt] at BT
          clear hO HO m0 m1 HC HB1 HBW hbt
          rw [← Hal.out]
          go_wp2_with fail
          refine BT.out.mono ?_
          rintro e w4 ⟨rfl, rfl⟩
          clear BT
          go_wp2_with fail
          refine LN.out.mono ?_
          rintro e w4 ⟨rfl, hb4⟩
          have HO4 := hidd (HO3.out.below dk wl hb4)
          clear hb4 LN HO3
          go_wp2
          go_roundw
          case rel => exact ⟨k + 1, aa, ac, all, D', L', by omega, by go_num, by rw [Hal.out], HO4⟩
          case measure => simp [intOf]; omega
        · clear hO HO m0 m1 HC HB1 HBW
          rw [← Hal.out]
          go_wp2_with fail
          refine LN.out.mono ?_
          rintro e w4 ⟨rfl, hb4⟩
          have HO4 := hidd (HO3.out.below dk wl hb4)
          clear hb4 LN HO3
          go_wp2
          go_roundw
          case rel => exact ⟨k + 1, aa, ac, all, D', L', by omega, by go_num, by rw [Hal.out], HO4⟩
          case measure => simp [intOf]; omega
    · obtain rfl : len0 = k := by omega
      have hd : decide ((len0 : Int) < (len0 : Int)) = false := by rw [decide_eq_false_iff_not]; omega
      have hX := own_ltB HO.out.own
      have OP := hidd (dx_open wl _ W TB wr p D HO.out.lv.dx (fun b e => (hX b e).1) (by have := HO.out.puts; omega) 0 2000 (by omega) (by have := HO.out.room; omega) L false (HO.out.lv.w.part wl))
      unfold ptr at OP
      clear hX
      go_wp2_with fail
      refine OP.out.mono ?_
      rintro e w2 ⟨D', hw, hsz, hsame, hop⟩
      have hs' := hw.stops.trans HO.out.stops
      rcases hop with ⟨q2, ar, lr, cr, rs, rfl, ht, hlr, hbr, hob, hv⟩ | ⟨_, hdn, _, hv⟩
      · have hrs : rs = all := ((opensB_calm L rs).1 hob).trans HO.out.recs
        have hown := own_sameB HO.out.own hsame
        obtain ⟨at_, ct, e, hta, _, _, _⟩ := texts_own hown
        have ea : at_ = aa := by cases e; rfl
        rw [ea] at hta
        have HT := hidd ht
        have HTA := hidd hta
        have HRS := hidd hrs
        have HBW2 := hidd hv.w.b
        have hll := HO.out.len
        have AW := hidd (awake_any dk wl w2 (TB.on HBW2.out))
        clear OP hw hsz hsame ht hbr hob hv hs' hrs hown hta HO HBW e ea
        unfold ptr
        go_wp2_with fail
        refine AW.out.mono ?_
        rintro e w3 ⟨rfl, hb3⟩
        have SM := hidd (refSame_any ar lr cr rs aa all.length ac all w3 (HT.out.keep hb3) (HTA.out.keep hb3) (by unfold maxLen; omega) (by unfold maxLen; omega))
        rw [decide_eq_true HRS.out] at SM
        have HB3 := hidd (HBW2.out.trans (hb3.mono HBW2.out.size))
        clear AW hb3
        go_wp2_with fail
        refine SM.out.mono ?_
        rintro e w4 ⟨rfl, hb4⟩
        have HBF := hidd (HB3.out.trans (hb4.mono HB3.out.size))
        clear SM hb4
        go_wp2
        go_ret
        exact ⟨rfl, HBF.out⟩
      · have := hv.d.calm dk hs'
        rw [this] at hdn; cases hdn
end Go.Proofs.YtdnnhmihigdnkaaDoor
