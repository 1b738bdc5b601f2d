/- Texts of our own that the row of WalBatches leans on, part 20. -/
import Derived.Test.YtdnnhmihigdnkaaDoorWalBatchesJ17
import Derived.Test.YtdnnhmihigdnkaaDoorWalBatchesJ19

/- A wal on a disk that may stop, and crashes. -/
namespace Go.Proofs.YtdnnhmihigdnkaaDoor
open Go.RowKit Nums
set_option linter.unusedVariables false
set_option linter.unusedSimpArgs false
set_option maxRecDepth 100000
variable {At : World → Nat → DkT → (Nat → Prop) → Prop} {Vt : Type} {WM : World → Nat → Nat → Nat → Nat → Vt → (Nat → Prop) → Prop} {WP : Nat → Nat → Vt → DkT → LgT → Prop} {PA : Nat → Nat → DkT → LgT → Bool → Prop}
theorem lvw_crashP (dk : DiskC At) (wl : WalC At WM WP PA) {w0 w : World} {p q f r : Nat} {D : DkT} {L : LgT} (h : LvW At WM WP w0 w p q f r D L) (k t : Int) : PA f r (crashD D k t) L true :=
  wl.crash k t (h.disk.ok dk) (h.part wl)
theorem batch_small {l : List ByteArray} {n : Nat} (hn : l.length ≤ n) (h30 : n ≤ 30) (h : batchB l = true) : Small 30 4000 l := by
  unfold batchB at h
  exact ⟨Nat.le_trans hn h30, (of_decide_eq_true h).2⟩
theorem IsL.maybe {L : LgT} {s x : StT} (h : IsL L s) : (toL L x 80).olds = [] ∧ (toL L x 80).now = s ∧ (toL L x 80).may = x ∧ (toL L x 80).maybe = true := by
  obtain ⟨h1, h2, h3⟩ := h
  have e : toL L x 80 = { L with may := x, maybe := true } := by unfold toL; rw [if_neg (by decide), if_pos rfl, if_neg (by rw [h3]; decide)]
  rw [e]
  exact ⟨h1, h2, rfl, rfl⟩
end Go.Proofs.YtdnnhmihigdnkaaDoor

/- A wal alive beside memory of the statement's own. -/
namespace Go.Proofs.YtdnnhmihigdnkaaDoor
open Go.RowKit Nums
set_option linter.unusedVariables false
set_option linter.unusedSimpArgs false
set_option maxRecDepth 100000
variable {At : World → Nat → DkT → (Nat → Prop) → Prop} {Vt : Type} {WM : World → Nat → Nat → Nat → Nat → Vt → (Nat → Prop) → Prop} {WP : Nat → Nat → Vt → DkT → LgT → Prop} {PA : Nat → Nat → DkT → LgT → Bool → Prop}
def LvX (At : World → Nat → DkT → (Nat → Prop) → Prop) (WM : World → Nat → Nat → Nat → Nat → Vt → (Nat → Prop) → Prop) (WP : Nat → Nat → Vt → DkT → LgT → Prop) (X : Nat → Prop) (w0 w : World) (p q f r : Nat) (D : DkT) (L : LgT) : Prop :=
  ∃ S T V, At w p D S ∧ WM w q p f r V T ∧ WP f r V D L ∧ (∀ b, T b → ¬ S b) ∧ (∀ b, S b → w0.heap.size ≤ b) ∧ (∀ b, T b → w0.heap.size ≤ b) ∧ Below w0.heap.size w0 w ∧ (∀ b, X b → ¬ S b ∧ ¬ T b)
theorem LvX.w {X : Nat → Prop} {w0 w : World} {p q f r : Nat} {D : DkT} {L : LgT} (h : LvX At WM WP X w0 w p q f r D L) : LvW At WM WP w0 w p q f r D L := by
  obtain ⟨S, T, V, h1, h2, h3, h4, h5, h6, h7, h8⟩ := h
  exact ⟨S, T, V, h1, h2, h3, h4, h5, h6, h7⟩
/-- Memory that is new, or that lay there, is beside it. -/
theorem LvX.more {X Y : Nat → Prop} {w0 W w : World} {p q f r : Nat} {D : DkT} {L : LgT} (dk : DiskC At) (wl : WalC At WM WP PA) (h : LvX At WM WP X w0 W p q f r D L) (hW : W.heap.size ≤ w.heap.size) (hB : Below w0.heap.size w0 w) (hk : ∀ b, b < W.heap.size → ¬ X b → w.heap[b]? = W.heap[b]?) (hY : ∀ b, Y b → X b ∨ W.heap.size ≤ b ∨ b < w0.heap.size) : LvX At WM WP Y w0 w p q f r D L := by
  obtain ⟨S, T, V, h1, h2, h3, h4, h5, h6, h7, h8⟩ := h
  have hs := h7.size
  refine ⟨S, T, V, dk.keep h1 hW fun b e => hk b (dk.lt h1 b e) (fun e2 => (h8 b e2).1 e), wl.mkeep h2 hW fun b e => hk b (wl.mlt h2 b e) (fun e2 => (h8 b e2).2 e), h3, h4, h5, h6, hB, fun b e => ⟨fun e2 => ?_, fun e2 => ?_⟩⟩
  · rcases hY b e with e3 | e3 | e3
    · exact (h8 b e3).1 e2
    · have := dk.lt h1 b e2; omega
    · have := h5 b e2; omega
  · rcases hY b e with e3 | e3 | e3
    · exact (h8 b e3).2 e2
    · have := wl.mlt h2 b e2; omega
    · have := h6 b e2; omega
theorem LvX.below {X : Nat → Prop} {w0 w w' : World} {p q f r : Nat} {D : DkT} {L : LgT} (dk : DiskC At) (wl : WalC At WM WP PA) (h : LvX At WM WP X w0 w p q f r D L) (hb : Below w.heap.size w w') : LvX At WM WP X w0 w' p q f r D L :=
  h.more dk wl hb.size (h.w.b.trans (hb.mono h.w.b.size)) (fun b hl _ => hb.block b hl) fun b e => .inl e
/-- A wal alone is beside nothing, and what is new is beside it. -/
theorem LvW.x {Y : Nat → Prop} {w0 W w : World} {p q f r : Nat} {D : DkT} {L : LgT} (dk : DiskC At) (wl : WalC At WM WP PA) (h : LvW At WM WP w0 W p q f r D L) (hW : Below W.heap.size W w) (hY : ∀ b, Y b → W.heap.size ≤ b ∨ b < w0.heap.size) : LvX At WM WP Y w0 w p q f r D L := by
  obtain ⟨S, T, V, h1, h2, h3, h4, h5, h6, h7⟩ := h
  have h : LvX At WM WP (fun _ => False) w0 W p q f r D L := ⟨S, T, V, h1, h2, h3, h4, h5, h6, h7, fun b e => e.elim⟩
  exact h.more dk wl hW.size (h7.trans (hW.mono h7.size)) (fun b hl _ => hW.block b hl) fun b e => .inr (hY b e)
theorem lvx_commit (dk : DiskC At) (wl : WalC At WM WP PA) (X : Nat → Prop) (w0 w : World) (p q f r : Nat) (D : DkT) (L : LgT) (h : LvX At WM WP X w0 w p q f r D L) (hX : ∀ b, X b → b < w.heap.size) (hp : D.puts.length ≤ 500000) (a : Option Addr) (len cap : Nat) (l : List ByteArray) (hT : Texts w a len l) (hl : Small 30 5000 l) (hc : a = none → cap = 0) (hb : ∀ b, TBlock a len b → b < w0.heap.size ∨ X b) :
    Calls Tryd.prog 25 #[ptr q, .slice a len cap] w fun e w' => ∃ n D' L', e = .returned (.int .i64 n) ∧ ChangeE L L' (committed L l) l r D' false n ∧ WentD D D' ∧ LvX At WM WP X w0 w' p q f r D' L' ∧ w.heap.size ≤ w'.heap.size ∧ (∀ b, X b → w'.heap[b]? = w.heap[b]?) := by
  obtain ⟨S, T, V, h1, h2, h3, h4, h5, h6, h7, h8⟩ := h
  have hs := h7.size
  refine (wl.commit w p D S h1 hp q f r V T L h2 h3 h4 a len cap l hT hl hc (fun b e => ?_)).mono ?_
  · rcases hb b e with e | e
    · exact ⟨fun e2 => by have := h5 b e2; omega, fun e2 => by have := h6 b e2; omega⟩
    · exact h8 b e
  · rintro e w' ⟨n, D', S', V', T', L', rfl, a1, a2, a3, a4, a5, a6, a7, a8, a9, a10⟩
    refine ⟨n, D', L', rfl, a1, a9.toWentD, ⟨S', T', V', a2, a3, a4, a7, fun b e => ?_, fun b e => ?_, a8.below h7 hs fun b e => ?_, fun b e => ⟨fun e2 => ?_, fun e2 => ?_⟩⟩, a8.size, fun b e => a8.block b (hX b e) (fun e2 => ?_)⟩
    · rcases a5 b e with e | e
      · exact h5 b e
      · omega
    · rcases a6 b e with e | e
      · exact h6 b e
      · omega
    · rcases e with e | e
      · exact h5 b e
      · exact h6 b e
    · rcases a5 b e2 with e3 | e3
      · exact (h8 b e).1 e3
      · have := hX b e; omega
    · rcases a6 b e2 with e3 | e3
      · exact (h8 b e).2 e3
      · have := hX b e; omega
    · rcases e2 with e2 | e2
      · exact (h8 b e).1 e2
      · exact (h8 b e).2 e2
theorem lvx_sync (dk : DiskC At) (wl : WalC At WM WP PA) (X : Nat → Prop) (w0 w : World) (p q f r : Nat) (D : DkT) (L : LgT) (h : LvX At WM WP X w0 w p q f r D L) (hX : ∀ b, X b → b < w.heap.size) (hp : D.puts.length ≤ 500000) :
    Calls Tryd.prog 16 #[ptr q] w fun e w' => ∃ n D' L', e = .returned (.int .i64 n) ∧ ((n = 0 ∧ L' = syncedL L) ∨ (n = 80 ∧ D'.down = true ∧ L' = L)) ∧ WentD D D' ∧ LvX At WM WP X w0 w' p q f r D' L' ∧ w.heap.size ≤ w'.heap.size ∧ (∀ b, X b → w'.heap[b]? = w.heap[b]?) := by
  obtain ⟨S, T, V, h1, h2, h3, h4, h5, h6, h7, h8⟩ := h
  have hs := h7.size
  refine (wl.sync w p D S h1 hp q f r V T L h2 h3 h4).mono ?_
  rintro e w' ⟨n, D', S', V', T', L', rfl, a1, a2, a3, a4, a5, a6, a7, a8, a9, a10⟩
  refine ⟨n, D', L', rfl, a1, a9, ⟨S', T', V', a2, a3, a4, a7, fun b e => ?_, fun b e => ?_, a8.below h7 hs fun b e => ?_, fun b e => ⟨fun e2 => ?_, fun e2 => ?_⟩⟩, a8.size, fun b e => a8.block b (hX b e) (fun e2 => ?_)⟩
  · rcases a5 b e with e | e
    · exact h5 b e
    · omega
  · rcases a6 b e with e | e
    · exact h6 b e
    · omega
  · rcases e with e | e
    · exact h5 b e
    · exact h6 b e
  · rcases a5 b e2 with e3 | e3
    · exact (h8 b e).1 e3
    · have := hX b e; omega
  · rcases a6 b e2 with e3 | e3
    · exact (h8 b e).2 e3
    · have := hX b e; omega
  · rcases e2 with e2 | e2
    · exact (h8 b e).1 e2
    · exact (h8 b e).2 e2
/-- Texts put behind others: where the row lies then. -/
theorem run_append_texts2 {w : World} {a : Option Addr} {len cap : Nat} {l : List ByteArray} (h : Texts w a len l) (hc0 : a = none → cap = 0) (B n : Nat) (v : Value) (xs : List ByteArray)
    (hown : w.ownsRow B 9 1 v n (strL xs)) (hB : B ≤ w.heap.size) (hb : n + len ≤ 8796093022208) :
    ∃ v' w', (Builtin.append_ #[29, 29] 29 #[v, .slice a len cap]).run Tryd.prog w = .ok v' w' ∧
      w'.ownsRow B 9 1 v' (n + len) (strL (xs ++ l)) ∧ w.grownBy w' v.ownBlock ∧ (v'.ownBlock = v.ownBlock ∨ ∃ g, v'.ownBlock = some g ∧ w.heap.size ≤ g) := by
  obtain ⟨v', w', hr, ho, hg⟩ := run_append_texts h hc0 B n 29 v xs hown hB hb
  refine ⟨v', w', hr, ho, hg, ?_⟩
  obtain ⟨i0, hi, hz0, hz1, hz2⟩ := info_parts info9
  have h1 := h.1
  have hu : Tryd.prog.underlying 29 = some (.slice 9) := Tryd.underlying29
  cases a with
  | none =>
    obtain rfl : cap = 0 := hc0 rfl
    have hl0 : len = 0 := by
      rcases h.2 with h0 | ⟨b, off, e, _⟩
      · exact h0
      · cases e
    subst hl0
    have := run_append_owned_none (P := Tryd.prog) w B 29 29 9 i0 1 hu hi _ n _ hown
    rw [hr] at this
    cases this
    exact .inl rfl
  | some ad =>
    have hN : ∀ j u, (strL l)[j]? = some u → w.cell? (ad.add j) = some u := fun j u hj => by
      have hjl : j < l.length := by
        rcases Nat.lt_or_ge j l.length with h | h
        · exact h
        · rw [List.getElem?_eq_none (by rw [strL_length]; exact h)] at hj; cases hj
      rcases h.2 with h0 | ⟨b, off, e, _, hc⟩
      · omega
      · cases e
        rw [add_plain, hc j hjl]
        rw [strL_at l j hjl] at hj
        exact hj
    have hi1 : (strL l).length = len * i0.size := by rw [hz1, strL_length, h1]; omega
    by_cases hl0 : len = 0
    · subst hl0
      obtain rfl : l = [] := List.eq_nil_of_length_eq_zero h1
      rw [Nat.add_zero, List.append_nil] at ho
      rcases hown.2 with ⟨rfl, h0⟩ | ⟨g, cp, cur, rfl, hbg, hgg, hnc, hcm, hcs, htake⟩
      · subst h0
        obtain ⟨v2, w2, r2, _, _, hiff⟩ := run_append_own (P := Tryd.prog) w B 29 29 9 i0 (.string ⟨#[]⟩) 1 16 hu hi hz0 hz1 hz2 rfl (by decide) (.slice none 0 0) 0 _ hown ad 0 cap (strL []) rfl hN (strL_one _) (by unfold maxLen; omega) (by omega) hB
        rw [hr] at r2
        cases r2
        left
        rw [hiff.2 ⟨rfl, rfl⟩]
      · have := run_append_room (P := Tryd.prog) w 29 29 9 i0 hu hi g n cp cur hgg ad 0 cap (strL []) hi1 hN (strL_one _) (by omega) (by rw [hz1, hcs]; show n * 1 + 0 ≤ _; omega)
        rw [hr] at this
        cases this
        exact .inl rfl
    · rcases hown.2 with ⟨rfl, h0⟩ | ⟨g, cp, cur, rfl, hbg, hgg, hnc, hcm, hcs, htake⟩
      · have := run_append_nil (P := Tryd.prog) w 29 29 9 i0 _ hu hi hz0 ad len cap (strL l) hi1 hN (by omega) (by omega) (by rw [hz2]; omega)
        rw [hr] at this
        cases this
        exact .inr ⟨w.heap.size, rfl, Nat.le_refl _⟩
      · by_cases hroom : n + len ≤ cp
        · have := run_append_room (P := Tryd.prog) w 29 29 9 i0 hu hi g n cp cur hgg ad len cap (strL l) hi1 hN (strL_one _) hroom (by rw [hz1, strL_length, h1, hcs]; omega)
          rw [hr] at this
          cases this
          exact .inl rfl
        · have hx : (strL xs).length = n * i0.size := by rw [hz1]; exact hown.1
          have := run_append_grow (P := Tryd.prog) w 29 29 9 i0 _ hu hi hz0 ⟨g, 0, none⟩ n cp (strL xs) hx (hown.cells (g := g) rfl) ad len cap (strL l) hi1 hN (by omega) (by omega) (growslice_fits (by omega) (by rw [hz2]; omega))
          rw [hr] at this
          cases this
          exact .inr ⟨w.heap.size, rfl, Nat.le_refl _⟩
end Go.Proofs.YtdnnhmihigdnkaaDoor

/- A disk alive beside memory of the statement's own: Open, Crash, Stop. -/
namespace Go.Proofs.YtdnnhmihigdnkaaDoor
open Go.RowKit Nums
set_option linter.unusedVariables false
set_option linter.unusedSimpArgs false
set_option maxRecDepth 100000
variable {At : World → Nat → DkT → (Nat → Prop) → Prop} {Vt : Type} {WM : World → Nat → Nat → Nat → Nat → Vt → (Nat → Prop) → Prop} {WP : Nat → Nat → Vt → DkT → LgT → Prop} {PA : Nat → Nat → DkT → LgT → Bool → Prop}
def LvDX (At : World → Nat → DkT → (Nat → Prop) → Prop) (X : Nat → Prop) (w0 w : World) (p : Nat) (D : DkT) : Prop := ∃ S, At w p D S ∧ (∀ b, S b → w0.heap.size ≤ b) ∧ Below w0.heap.size w0 w ∧ ∀ b, X b → ¬ S b
theorem LvX.dx {X : Nat → Prop} {w0 w : World} {p q f r : Nat} {D : DkT} {L : LgT} (h : LvX At WM WP X w0 w p q f r D L) : LvDX At X w0 w p D := by
  obtain ⟨S, T, V, h1, h2, h3, h4, h5, h6, h7, h8⟩ := h
  exact ⟨S, h1, h5, h7, fun b e => (h8 b e).1⟩
theorem LvDX.d {X : Nat → Prop} {w0 w : World} {p : Nat} {D : DkT} (h : LvDX At X w0 w p D) : LvD At w0 w p D := by
  obtain ⟨S, h1, h2, h3, h4⟩ := h
  exact ⟨S, h1, h2, h3⟩
theorem LvDX.more {X Y : Nat → Prop} {w0 W w : World} {p : Nat} {D : DkT} (dk : DiskC At) (h : LvDX At X w0 W p D) (hW : W.heap.size ≤ w.heap.size) (hB : Below w0.heap.size w0 w) (hk : ∀ b, b < W.heap.size → ¬ X b → w.heap[b]? = W.heap[b]?) (hY : ∀ b, Y b → X b ∨ W.heap.size ≤ b ∨ b < w0.heap.size) : LvDX At Y w0 w p D := by
  obtain ⟨S, h1, h5, h7, h8⟩ := h
  have hs := h7.size
  refine ⟨S, dk.keep h1 hW fun b e => hk b (dk.lt h1 b e) (fun e2 => h8 b e2 e), h5, hB, fun b e e2 => ?_⟩
  rcases hY b e with e3 | e3 | e3
  · exact h8 b e3 e2
  · have := dk.lt h1 b e2; omega
  · have := h5 b e2; omega
theorem dx_crash (dk : DiskC At) (X : Nat → Prop) (w0 w : World) (p : Nat) (D : DkT) (h : LvDX At X w0 w p D) (hX : ∀ b, X b → b < w.heap.size) (hp : D.puts.length ≤ 1000000) (k t : Int) (hk : In64 k) (ht : In64 t) :
    Calls Tryd.prog 26 #[ptr p, .int .i64 k, .int .i64 t] w fun e w' => e = .returned (.int .i64 0) ∧ LvDX At X w0 w' p (crashD D k t) ∧ w.heap.size ≤ w'.heap.size ∧ (∀ b, X b → w'.heap[b]? = w.heap[b]?) := by
  obtain ⟨S, h1, h2, h3, h4⟩ := h
  have hs := h3.size
  refine (dk.crash w p D S h1 hp k t hk ht).mono ?_
  rintro e w' ⟨rfl, ⟨S', a1, a2⟩, a3⟩
  refine ⟨rfl, ⟨S', a1, fun b e => ?_, a3.below h3 hs h2, fun b e e2 => ?_⟩, a3.size, fun b e => a3.block b (hX b e) (h4 b e)⟩
  · rcases a2 b e with e | e
    · exact h2 b e
    · omega
  · rcases a2 b e2 with e3 | e3
    · exact h4 b e e3
    · have := hX b e; omega
theorem dx_stop (dk : DiskC At) (X : Nat → Prop) (w0 w : World) (p : Nat) (D : DkT) (h : LvDX At X w0 w p D) (hX : ∀ b, X b → b < w.heap.size) (n : Int) (hn : In64 n) :
    Calls Tryd.prog 19 #[ptr p, .int .i64 n] w fun e w' => e = .returned (.int .i64 (stopE D n)) ∧ LvDX At X w0 w' p (stopD D n) ∧ w.heap.size ≤ w'.heap.size ∧ (∀ b, X b → w'.heap[b]? = w.heap[b]?) := by
  obtain ⟨S, h1, h2, h3, h4⟩ := h
  have hs := h3.size
  refine (dk.stop w p D S h1 n hn).mono ?_
  rintro e w' ⟨rfl, ⟨S', a1, a2⟩, a3⟩
  refine ⟨rfl, ⟨S', a1, fun b e => ?_, a3.below h3 hs h2, fun b e e2 => ?_⟩, a3.size, fun b e => a3.block b (hX b e) (h4 b e)⟩
  · rcases a2 b e with e | e
    · exact h2 b e
    · omega
  · rcases a2 b e2 with e3 | e3
    · exact h4 b e e3
    · have := hX b e; omega
/-- What an Open answers, beside memory X. -/
def OpenedX (At : World → Nat → DkT → (Nat → Prop) → Prop) (WM : World → Nat → Nat → Nat → Nat → Vt → (Nat → Prop) → Prop) (WP : Nat → Nat → Vt → DkT → LgT → Prop) (PA : Nat → Nat → DkT → LgT → Bool → Prop) (X : Nat → Prop) (w0 w : World) (p f r : Nat) (D : DkT) (L : LgT) (c : Bool) (e : Ending) (w' : World) : Prop :=
  ∃ D', WentD D D' ∧ w.heap.size ≤ w'.heap.size ∧ (∀ b, X b → w'.heap[b]? = w.heap[b]?) ∧ ((∃ q a len cap rs, e = .returned (.tuple #[ptr q, .slice a len cap, .int .i64 0]) ∧ Texts w' a len rs ∧ len ≤ 1000000 ∧ (∀ b, TBlock a len b → w.heap.size ≤ b) ∧ opensB L rs c = true ∧ LvX At WM WP (fun b => X b ∨ TBlock a len b) w0 w' p q f r D' (opensL L rs c)) ∨
    ((∃ a cap, e = .returned (.tuple #[.pointer none, .slice a 0 cap, .int .i64 80])) ∧ D'.down = true ∧ PA f r D' L c ∧ LvDX At X w0 w' p D'))
theorem dx_open (wl : WalC At WM WP PA) (X : Nat → Prop) (w0 : World) (tb : TabW w0) (w : World) (p : Nat) (D : DkT) (h : LvDX At X w0 w p D) (hX : ∀ b, X b → b < w.heap.size) (hp : D.puts.length ≤ 500000) (f r : Nat) (h1 : 64 ≤ r ∧ r ≤ 1000000) (h2 : f + r ≤ D.safe.length) (L : LgT) (c : Bool) (hP : PA f r D L c) :
    Calls Tryd.prog 12 #[ptr p, .int .i64 f, .int .i64 r] w fun e w' => OpenedX At WM WP PA X w0 w p f r D L c e w' := by
  obtain ⟨S, k1, k2, k3, k4⟩ := h
  refine (wl.open_ w (tb.on k3) p D S k1 hp f r h1 h2 L c hP).mono ?_
  rintro e w' ⟨D', S', a1, a2, a3, a4, a5, a6⟩
  have hs := k3.size
  have hS' : ∀ b, S' b → w0.heap.size ≤ b := fun b e => by
    rcases a2 b e with e | e
    · exact k2 b e
    · omega
  have hXS : ∀ b, X b → ¬ S' b := fun b e e2 => by
    rcases a2 b e2 with e3 | e3
    · exact k4 b e e3
    · have := hX b e; omega
  have hB := a3.below k3 hs k2
  refine ⟨D', a4, a3.size, fun b e => a3.block b (hX b e) (k4 b e), ?_⟩
  rcases a6 with ⟨q, T, V, a, len, cap, rs, rfl, b1, b2, b3, b4, b5, b6, b7, b8⟩ | ⟨⟨a, cap, rfl⟩, b1, b2⟩
  · exact .inl ⟨q, a, len, cap, rs, rfl, b1, b2, fun b e => (b4 b e).1, b5, S', T, V, a1, b6, b7, fun b e => (b8 b e).2, hS', fun b e => Nat.le_trans hs (b8 b e).1, hB, fun b e => by
      rcases e with e | e
      · exact ⟨hXS b e, fun e2 => by have := hX b e; have := (b8 b e2).1; omega⟩
      · exact (b4 b e).2⟩
  · exact .inr ⟨⟨a, cap, rfl⟩, b1, b2, S', a1, hS', hB, hXS⟩
end Go.Proofs.YtdnnhmihigdnkaaDoor

/- The walk of WalNil. -/
namespace Go.Proofs.YtdnnhmihigdnkaaDoor
open Go.RowKit Nums
set_option linter.unusedVariables false
set_option linter.unusedSimpArgs false
set_option maxRecDepth 100000
variable {At : World → Nat → DkT → (Nat → Prop) → Prop} {Vt : Type} {WM : World → Nat → Nat → Nat → Nat → Vt → (Nat → Prop) → Prop} {WP : Nat → Nat → Vt → DkT → LgT → Prop} {PA : Nat → Nat → DkT → LgT → Bool → Prop}
end Go.Proofs.YtdnnhmihigdnkaaDoor

/- The walk of WalOrder. -/
namespace Go.Proofs.YtdnnhmihigdnkaaDoor
open Go.RowKit Nums
set_option linter.unusedVariables false
set_option linter.unusedSimpArgs false
set_option maxRecDepth 100000
variable {At : World → Nat → DkT → (Nat → Prop) → Prop} {Vt : Type} {WM : World → Nat → Nat → Nat → Nat → Vt → (Nat → Prop) → Prop} {WP : Nat → Nat → Vt → DkT → LgT → Prop} {PA : Nat → Nat → DkT → LgT → Bool → Prop}
/-- What stands at the head of a round. -/
structure OrdS (At : World → Nat → DkT → (Nat → Prop) → Prop) (WM : World → Nat → Nat → Nat → Nat → Vt → (Nat → Prop) → Prop) (WP : Nat → Nat → Vt → DkT → LgT → Prop) (W wr : World) (p q k : Nat) (v : Value) (all : List ByteArray) (D : DkT) (L : LgT) : Prop where
  own : wr.ownsRow W.heap.size 9 1 v all.length (strL all)
  lv : LvX At WM WP (fun b => v.ownBlock = some b) W wr p q 0 2000 D L
  recs : L.now.recs = all
  stops : D.stops = false
  room : D.safe.length = 2000
  puts : D.puts.length ≤ 400 * (k + 1)
  len : all.length ≤ 30 * k
theorem own_ltB {w : World} {B n : Nat} {v : Value} {xs : List Value} (h : w.ownsRow B 9 1 v n xs) : ∀ b, v.ownBlock = some b → b < w.heap.size ∧ B ≤ b := by
  intro b e
  rcases h.2 with ⟨rfl, _⟩ | ⟨g, cap, cur, rfl, hb, hg, _⟩
  · cases e
  · obtain rfl : g = b := Option.some.inj e
    exact ⟨heap_lt hg, hb⟩
theorem own_sameB {w w' : World} {B n : Nat} {v : Value} {xs : List Value} (h : w.ownsRow B 9 1 v n xs) (hb : ∀ b, v.ownBlock = some b → w'.heap[b]? = w.heap[b]?) : w'.ownsRow B 9 1 v n xs := by
  refine ⟨h.1, ?_⟩
  rcases h.2 with ⟨rfl, h2⟩ | ⟨g, cap, cur, rfl, h0, hg, h3⟩
  · exact .inl ⟨rfl, h2⟩
  · exact .inr ⟨g, cap, cur, rfl, h0, (hb g rfl).trans hg, h3⟩
theorem OrdS.below {W wr w' : World} {p q k : Nat} {v : Value} {all : List ByteArray} {D : DkT} {L : LgT} (dk : DiskC At) (wl : WalC At WM WP PA) (h : OrdS At WM WP W wr p q k v all D L) (hb : Below wr.heap.size wr w') : OrdS At WM WP W w' p q k v all D L :=
  ⟨own_sameB h.own fun b e => hb.block b (own_ltB h.own b e).1, h.lv.below dk wl hb, h.recs, h.stops, h.room, h.puts, h.len⟩
end Go.Proofs.YtdnnhmihigdnkaaDoor

/- What stands in the rounds of WalBatches. -/
namespace Go.Proofs.YtdnnhmihigdnkaaDoor
open Go.RowKit Nums
set_option linter.unusedVariables false
set_option linter.unusedSimpArgs false
set_option maxRecDepth 100000
variable {At : World → Nat → DkT → (Nat → Prop) → Prop} {Vt : Type} {WM : World → Nat → Nat → Nat → Nat → Vt → (Nat → Prop) → Prop} {WP : Nat → Nat → Vt → DkT → LgT → Prop} {PA : Nat → Nat → DkT → LgT → Bool → Prop}
def intL (l : List Nat) : List Value := l.map fun (n : Nat) => .int .i64 (n : Int)
theorem intL_length (l : List Nat) : (intL l).length = l.length := by unfold intL; rw [List.length_map]
theorem intL_append (a b : List Nat) : intL (a ++ b) = intL a ++ intL b := by unfold intL; rw [List.map_append]
theorem intL_one (l : List Nat) : ∀ v ∈ intL l, v.oneCell' = true := by
  intro v hv
  obtain ⟨s, _, rfl⟩ := List.mem_map.1 hv
  rfl
theorem info3 : (Tryd.prog.info? 3).map (fun i => (i.zero, i.size, i.bytes)) = some (some (.int .i64 0), 1, 8) := by kernel_rfl
/-- A number put behind others. -/
theorem run_append_int (W : World) (B : Nat) (v : Value) (l : List Nat) (q : Nat) (hown : W.ownsRow B 3 1 v l.length (intL l)) (hB : B ≤ W.heap.size) (a : Addr)
    (hN : ∀ j u, (intL [q])[j]? = some u → W.cell? (a.add j) = some u) (hlen : l.length ≤ 1000000) :
    ∃ v' w', (Builtin.append_ #[48, 48] 48 #[v, .slice (some a) 1 1]).run Tryd.prog W = .ok v' w' ∧ w'.ownsRow B 3 1 v' (l ++ [q]).length (intL (l ++ [q])) ∧ W.grownBy w' v.ownBlock ∧ (v'.ownBlock = v.ownBlock ∨ ∃ g, v'.ownBlock = some g ∧ W.heap.size ≤ g) := by
  obtain ⟨i0, hi, hz0, hz1, hz2⟩ := info_parts info3
  have hl1 : (intL [q]).length = 1 * 1 := intL_length [q]
  have hu : Tryd.prog.underlying 48 = some (.slice 3) := Tryd.underlying48
  obtain ⟨v', w', hr, ho, hg, _⟩ := run_append_own (P := Tryd.prog) W B 48 48 3 i0 _ 1 8 hu hi hz0 hz1 hz2 (by rfl) (by decide) v l.length _ hown a 1 1 (intL [q])
    hl1 hN (intL_one _) (by unfold maxLen; omega) (by omega) hB
  refine ⟨v', w', hr, ?_, hg, ?_⟩
  · rw [List.length_append, intL_append]
    exact ho
  · have hi1 : (intL [q]).length = 1 * i0.size := by rw [hz1, hl1]
    rcases hown.2 with ⟨rfl, h0⟩ | ⟨g, cap, cur, rfl, hbg, hgg, hnc, hcm, hcs, htake⟩
    · have := run_append_nil (P := Tryd.prog) W 48 48 3 i0 _ hu hi hz0 a 1 1 (intL [q]) hi1 hN (by omega) (by omega) (by rw [hz2]; omega)
      rw [hr] at this
      cases this
      exact .inr ⟨W.heap.size, rfl, Nat.le_refl _⟩
    · by_cases hroom : l.length + 1 ≤ cap
      · have := run_append_room (P := Tryd.prog) W 48 48 3 i0 hu hi g l.length cap cur hgg a 1 1 (intL [q]) hi1 hN (intL_one _) hroom (by rw [hz1, hl1, hcs]; omega)
        rw [hr] at this
        cases this
        exact .inl rfl
      · have hx : (intL l).length = l.length * i0.size := by rw [hz1]; exact hown.1
        have := run_append_grow (P := Tryd.prog) W 48 48 3 i0 _ hu hi hz0 ⟨g, 0, none⟩ l.length cap (intL l) hx (hown.cells (g := g) rfl) a 1 1 (intL [q]) hi1 hN (by omega) (by omega) (growslice_fits (by omega) (by rw [hz2]; omega))
        rw [hr] at this
        cases this
        exact .inr ⟨W.heap.size, rfl, Nat.le_refl _⟩
theorem own_valT {w : World} {B n : Nat} {t : TypeId} {v : Value} {xs : List Value} (h : w.ownsRow B t 1 v n xs) : ∃ a c, v = .slice a n c := by
  rcases h.2 with ⟨rfl, rfl⟩ | ⟨g, cap, cur, rfl, _⟩
  · exact ⟨_, _, rfl⟩
  · exact ⟨_, _, rfl⟩
theorem own_ltT {w : World} {B n : Nat} {t : TypeId} {v : Value} {xs : List Value} (h : w.ownsRow B t 1 v n xs) : ∀ b, v.ownBlock = some b → b < w.heap.size ∧ B ≤ b := by
  intro b e
  rcases h.2 with ⟨rfl, _⟩ | ⟨g, cap, cur, rfl, hb, hg, _⟩
  · cases e
  · obtain rfl : g = b := Option.some.inj e
    exact ⟨heap_lt hg, hb⟩
theorem own_sameT {w w' : World} {B n : Nat} {t : TypeId} {v : Value} {xs : List Value} (h : w.ownsRow B t 1 v n xs) (hb : ∀ b, v.ownBlock = some b → w'.heap[b]? = w.heap[b]?) : w'.ownsRow B t 1 v n xs := by
  refine ⟨h.1, ?_⟩
  rcases h.2 with ⟨rfl, h2⟩ | ⟨g, cap, cur, rfl, h0, hg, h3⟩
  · exact .inl ⟨rfl, h2⟩
  · exact .inr ⟨g, cap, cur, rfl, h0, (hb g rfl).trans hg, h3⟩
/-- Rows of unlike types lie apart. -/
theorem own_apart {w : World} {B n m : Nat} {t u : TypeId} {v z : Value} {xs ys : List Value} (h : w.ownsRow B t 1 v n xs) (k : w.ownsRow B u 1 z m ys) (e : t ≠ u) : ∀ b, v.ownBlock = some b → z.ownBlock ≠ some b := by
  intro b e1 e2
  rcases h.2 with ⟨rfl, _⟩ | ⟨g, cap, cur, rfl, _, hg, _⟩
  · cases e1
  · rcases k.2 with ⟨rfl, _⟩ | ⟨g', cap', cur', rfl, _, hg', _⟩
    · cases e2
    · obtain rfl : g = b := Option.some.inj e1
      obtain rfl : g' = g := Option.some.inj e2
      rw [hg] at hg'
      injection hg' with hg'
      injection hg' with _ hg'
      exact e hg'
structure BatS (At : World → Nat → DkT → (Nat → Prop) → Prop) (WM : World → Nat → Nat → Nat → Nat → Vt → (Nat → Prop) → Prop) (WP : Nat → Nat → Vt → DkT → LgT → Prop) (W wr : World) (p q k : Nat) (v u : Value) (all : List ByteArray) (ends : List Nat) (least : Nat) (D : DkT) (L : LgT) : Prop where
  own : wr.ownsRow W.heap.size 9 1 v all.length (strL all)
  ownE : wr.ownsRow W.heap.size 3 1 u ends.length (intL ends)
  lv : LvX At WM WP (fun b => v.ownBlock = some b ∨ u.ownBlock = some b) W wr p q 0 2000 D L
  states : ∀ s ∈ statesL L, ∃ e ∈ ends, least ≤ e ∧ e ≤ all.length ∧ s.recs = all.take e
  now : L.now.recs = all
  maybe : L.maybe = false
  cost : L.now.cost ≤ 100 * k
  last : all.length ∈ ends
  least : least ≤ all.length
  stops : D.stops = false
  room : D.safe.length = 2000
  puts : D.puts.length ≤ 800 * (k + 1)
  len : all.length ≤ 3 * k
  elen : ends.length = k + 1
theorem bat_commit (dk : DiskC At) (wl : WalC At WM WP PA) (W w : World) (p q k : Nat) (v u : Value) (all : List ByteArray) (ends : List Nat) (least : Nat) (D : DkT) (L : LgT) (h : BatS At WM WP W w p q k v u all ends least D L) (hk : k < 8) (t : TxT) (hT : InT W t) (h3 : t.l.length ≤ 3) (hb : batchB t.l = true) (hc : costN t.l ≤ 100) :
    Calls Tryd.prog 25 #[ptr q, .slice t.a t.len t.cap] w fun e w' => e = .returned (.int .i64 0) ∧ Below W.heap.size W w' ∧ ∃ v' w3 u' w5 D' L', (Builtin.append_ #[29, 29] 29 #[v, .slice t.a t.len t.cap]).run Tryd.prog w' = .ok v' w3 ∧ Below W.heap.size W w3 ∧
      (Builtin.append_ #[48, 48] 48 #[u, .slice (some ⟨w3.heap.size, 0, none⟩) 1 1]).run Tryd.prog (w3.alloc (.cells #[.int .i64 ((all ++ t.l).length : Int)] 3)) = .ok u' w5 ∧ BatS At WM WP W w5 p q (k + 1) v' u' (all ++ t.l) (ends ++ [(all ++ t.l).length]) least D' L' ∧ D'.puts.length ≤ 800 * (k + 1) + 400 := by
  have hB := h.lv.w.b
  have hX1 := own_ltT h.own
  have hX2 := own_ltT h.ownE
  have hsm := batch_small (n := 3) h3 (by omega) hb
  have hal := h.len
  have hel := h.elen
  have hpu := h.puts
  have hco := h.cost
  have hll := hT.rd.1
  refine (lvx_commit dk wl _ W w p q 0 2000 D L h.lv (fun b e => by rcases e with e | e; exact (hX1 b e).1; exact (hX2 b e).1) (by omega) t.a t.len t.cap t.l (hT.rd.keep hB) (hsm.mono (Nat.le_refl _) (by omega)) hT.cap (fun b e => .inl (hT.rd.blk_lt b e))).mono ?_
  rintro e w' ⟨n, D', L', rfl, k1, k2, k3, k4, k5⟩
  have hs' := k2.stops.trans h.stops
  have hpp := k2.puts
  have hB' := k3.w.b
  have o1 := own_sameT h.own fun b e => k5 b (.inl e)
  have o2 := own_sameT h.ownE fun b e => k5 b (.inr e)
  rcases k1 with ⟨k1, _⟩ | ⟨_, ⟨rfl, hL⟩ | ⟨rfl, k1, _⟩ | ⟨rfl, _, k1⟩⟩
  · rw [hb] at k1; cases k1
  · obtain ⟨v', w3, r3, o3, g3, hv⟩ := run_append_texts2 (hT.rd.keep hB') hT.cap W.heap.size all.length v all o1 hB'.size (by omega)
    have o3' : w3.ownsRow W.heap.size 9 1 v' (all ++ t.l).length (strL (all ++ t.l)) := by rw [List.length_append, hll]; exact o3
    have hB3 : Below W.heap.size W w3 := hB'.grown g3 hB'.size fun b e => (own_ltT o1 b e).2
    have hs3 := g3.size
    have o4 : w3.ownsRow W.heap.size 3 1 u ends.length (intL ends) := own_sameT o2 fun b e => g3.block b (own_ltT o2 b e).1 fun e2 => own_apart o1 o2 (by decide) b e2.symm e
    have hba : Below w3.heap.size w3 (w3.alloc (.cells #[.int .i64 ((all ++ t.l).length : Int)] 3)) := (Below.refl _ _).alloc (Nat.le_refl _) _
    have hnew := heap_alloc_new w3 (.cells #[.int .i64 ((all ++ t.l).length : Int)] 3)
    have o4a := own_sameT o4 fun b e => hba.block b (own_ltT o4 b e).1
    have o3a := own_sameT o3' fun b e => hba.block b (own_ltT o3' b e).1
    obtain ⟨u', w5, r5, o5, g5, hu⟩ := run_append_int _ W.heap.size u ends (all ++ t.l).length o4a (Nat.le_trans hB3.size hba.size) ⟨w3.heap.size, 0, none⟩ (fun j x hj => by
      rw [add_plain, Nat.zero_add, cell_of_row _ w3.heap.size j _ 3 (0, 0) hnew]
      simpa [intL] using hj) (by omega)
    have hs5 := g5.size
    have hsa : (w3.alloc (.cells #[.int .i64 ((all ++ t.l).length : Int)] 3)).heap.size = w3.heap.size + 1 := by simp
    have hB3a : Below W.heap.size W (w3.alloc (.cells #[.int .i64 ((all ++ t.l).length : Int)] 3)) := hB3.alloc hB3.size _
    have hB5 : Below W.heap.size W w5 := hB3a.grown g5 hB3a.size fun b e => (own_ltT o4a b e).2
    have o6 : w5.ownsRow W.heap.size 9 1 v' (all ++ t.l).length (strL (all ++ t.l)) := own_sameT o3a fun b e => g5.block b (own_ltT o3a b e).1 fun e2 => own_apart o3a o4a (by decide) b e e2.symm
    have hnowL : L'.now = committed L t.l := by rw [hL]; rfl
    have hst : statesL L' = statesL L ++ [committed L t.l] := by rw [hL]; exact statesL_to L _
    refine ⟨rfl, hB', v', w3, u', w5, D', L', r3, hB3, r5, ⟨o6, o5, ?_, ?_, ?_, ?_, ?_, List.mem_append_right _ (List.mem_singleton.2 rfl), ?_, hs', k2.room.trans h.room, by omega, by rw [List.length_append]; omega, by rw [List.length_append, hel]; rfl⟩, by omega⟩
    · -- the wal and the disk lie beside
      have m1 : LvX At WM WP (fun b => v'.ownBlock = some b ∨ u.ownBlock = some b) W w3 p q 0 2000 D' L' := k3.more dk wl hs3 hB3 (fun b hb1 hn => g3.block b hb1 fun e => hn (.inl e.symm)) fun b e => by
        rcases e with e | e
        · rcases hv with e2 | ⟨g, e2, hgg⟩
          · exact .inl (.inl (by rw [← e2]; exact e))
          · rw [e2] at e
            obtain rfl := Option.some.inj e
            exact .inr (.inl hgg)
        · exact .inl (.inr e)
      have m2 := m1.below dk wl hba
      refine m2.more dk wl hs5 hB5 (fun b hb1 hn => g5.block b hb1 fun e => hn (.inr e.symm)) fun b e => ?_
      rcases e with e | e
      · exact .inl (.inl e)
      · rcases hu with e2 | ⟨g, e2, hgg⟩
        · exact .inl (.inr (by rw [← e2]; exact e))
        · rw [e2] at e
          obtain rfl := Option.some.inj e
          exact .inr (.inl hgg)
    · intro s hs
      rw [hst] at hs
      rcases List.mem_append.1 hs with hs | hs
      · obtain ⟨e, h1, h2, h4, h5⟩ := h.states s hs
        exact ⟨e, List.mem_append_left _ h1, h2, by rw [List.length_append]; omega, by rw [h5, List.take_append_of_le_length h4]⟩
      · obtain rfl : s = committed L t.l := by simpa using hs
        refine ⟨(all ++ t.l).length, List.mem_append_right _ (List.mem_singleton.2 rfl), by rw [List.length_append]; have := h.least; omega, Nat.le_refl _, ?_⟩
        rw [List.take_of_length_le (Nat.le_refl _)]
        show L.now.recs ++ t.l = _
        rw [h.now]
    · rw [hnowL]
      show L.now.recs ++ t.l = _
      rw [h.now]
    · rw [hL]; exact h.maybe
    · rw [hnowL]
      show L.now.cost + costN t.l ≤ _
      omega
    · rw [List.length_append]; have := h.least; omega
  · have := k3.w.disk.calm dk hs'
    rw [this] at k1; cases k1
  · have : 2000 / 2 < L.now.cost + costN t.l + 16 := k1
    omega
theorem bat_sync (dk : DiskC At) (wl : WalC At WM WP PA) (W w : World) (p q k : Nat) (v u : Value) (all : List ByteArray) (ends : List Nat) (least : Nat) (D : DkT) (L : LgT) (h : BatS At WM WP W w p q k v u all ends least D L) (hk : k ≤ 8) (hp : D.puts.length + 400 ≤ 800 * (k + 1)) :
    Calls Tryd.prog 16 #[ptr q] w fun e w' => e = .returned (.int .i64 0) ∧ ∃ D' L', BatS At WM WP W w' p q k v u all ends all.length D' L' := by
  have hX1 := own_ltT h.own
  have hX2 := own_ltT h.ownE
  refine (lvx_sync dk wl _ W w p q 0 2000 D L h.lv (fun b e => by rcases e with e | e; exact (hX1 b e).1; exact (hX2 b e).1) (by omega)).mono ?_
  rintro e w' ⟨n, D', L', rfl, k1, k2, k3, k4, k5⟩
  have hs' := k2.stops.trans h.stops
  have hpp := k2.puts
  rcases k1 with ⟨rfl, rfl⟩ | ⟨rfl, k1, _⟩
  · refine ⟨rfl, D', _, own_sameT h.own fun b e => k5 b (.inl e), own_sameT h.ownE fun b e => k5 b (.inr e), k3, fun s hs => ?_, h.now, rfl, h.cost, h.last, Nat.le_refl _, hs', k2.room.trans h.room, by omega, h.len, h.elen⟩
    rw [statesL_synced] at hs
    obtain rfl : s = L.now := by simpa using hs
    exact ⟨all.length, h.last, Nat.le_refl _, Nat.le_refl _, by rw [h.now, List.take_of_length_le (Nat.le_refl _)]⟩
  · have := k3.w.disk.calm dk hs'
    rw [this] at k1; cases k1
end Go.Proofs.YtdnnhmihigdnkaaDoor

/- The walk of WalBatches. -/
namespace Go.Proofs.YtdnnhmihigdnkaaDoor
open Go.RowKit Nums
set_option linter.unusedVariables false
set_option linter.unusedSimpArgs false
set_option maxRecDepth 100000
variable {At : World → Nat → DkT → (Nat → Prop) → Prop} {Vt : Type} {WM : World → Nat → Nat → Nat → Nat → Vt → (Nat → Prop) → Prop} {WP : Nat → Nat → Vt → DkT → LgT → Prop} {PA : Nat → Nat → DkT → LgT → Bool → Prop}
theorem own_cap {w : World} {B n : Nat} {t : TypeId} {a : Option Addr} {c : Nat} {xs : List Value} (h : w.ownsRow B t 1 (.slice a n c) n xs) : n ≤ c := by
  rcases h.2 with ⟨e, h0⟩ | ⟨g, cap, cur, e, _, _, h1, _⟩
  · cases e; omega
  · cases e; exact h1
/-- The first texts of a slice. -/
theorem texts_front {w : World} {a : Option Addr} {n c : Nat} {l : List ByteArray} (h : Texts w a n l) (hc : n ≤ c) (k : Nat) (hk : k ≤ n) :
    ∃ a', (∀ V, (Instr.sliceAt 29 (.slice a n c) none (some (.int .i64 (k : Int))) none).run Tryd.prog V = .ok (.slice a' k c) V) ∧ Texts w a' k (l.take k) := by
  have hz : ∀ w, (sizeOf 9).run Tryd.prog w = .ok 1 w := fun w => by
    have h : (Tryd.prog.info? 9).map (·.size) = some 1 := by kernel_rfl
    cases hq : Tryd.prog.info? 9 with
    | none => rw [hq] at h; cases h
    | some i =>
      rw [hq] at h
      simp only [Option.map_some, Option.some.injEq] at h
      simp [sizeOf, typeInfo, hq, h]
  have hkc : k ≤ c := Nat.le_trans hk hc
  refine ⟨if c = 0 then a else a.map (·.add 0), fun V => ?_, ?_⟩
  · simp [Instr.sliceAt, Instr.slice, Instr.sliceBounds, Instr.sliceBound, asIntOf, run_underlying Tryd.underlying29, hz, hkc]
  · have hl := h.1
    refine ⟨by rw [List.length_take]; omega, ?_⟩
    by_cases h0 : k = 0
    · exact .inl h0
    · right
      rw [if_neg (by omega)]
      rcases h.2 with h1 | ⟨b, off, rfl, hlt, hcc⟩
      · omega
      · refine ⟨b, off, by show some (Addr.add ⟨b, off, none⟩ 0) = _; rw [add_plain]; rfl, hlt, fun i hi => ?_⟩
        have hi' : i < l.length := by rw [List.length_take] at hi; omega
        rw [hcc i hi']
        simp
theorem ints_at {w : World} {B : Nat} {a : Option Addr} {c : Nat} {l : List Nat} (h : w.ownsRow B 3 1 (.slice a l.length c) l.length (intL l)) (k : Nat) (hk : k < l.length) : ∃ g, a = some ⟨g, 0, none⟩ ∧ w.cell? ⟨g, k, none⟩ = some (.int .i64 ((l[k] : Nat) : Int)) := by
  rcases h.2 with ⟨e, h0⟩ | ⟨g, cap, cur, e, hb, hg, _⟩
  · omega
  · cases e
    refine ⟨g, rfl, ?_⟩
    have := h.cells (g := g) rfl k (.int .i64 ((l[k] : Nat) : Int)) (by unfold intL; rw [List.getElem?_map, List.getElem?_eq_getElem hk]; rfl)
    rw [add_plain, Nat.zero_add] at this
    exact this
/-- What is told behind a crash is a beginning of all that was committed, up to the end of a batch. -/
theorem BatS.told {W wr : World} {p q k : Nat} {v u : Value} {all : List ByteArray} {ends : List Nat} {least : Nat} {D : DkT} {L : LgT} (h : BatS At WM WP W wr p q k v u all ends least D L) {rs : List ByteArray} (ho : opensB L rs true = true) : ∃ e ∈ ends, least ≤ e ∧ e ≤ all.length ∧ rs = all.take e := by
  rcases (opensB_crash L rs).1 ho with ⟨s, hs, e⟩ | ⟨hm, _⟩
  · obtain ⟨x, h1, h2, h3, h4⟩ := h.states s hs
    exact ⟨x, h1, h2, h3, by rw [← e, h4]⟩
  · rw [h.maybe] at hm; cases hm
set_option maxHeartbeats 16000000 in
theorem walBatches_in (dk : DiskC At) (wl : WalC At WM WP PA) (a0 : Option Addr) (len0 cap0 : Nat) (z0 : List TxT) (a1 a2 a3 a4 a5 a6 : Int) (W : World) (h0 : LLReads W a0 len0 cap0 z0) (h1 : In64 a1) (h2 : In64 a2) (h3 : In64 a3) (h4 : In64 a4) (h5 : In64 a5) (h6 : In64 a6) (TB : TabW W) :
    Calls Tryd.prog 4 #[.slice a0 len0 cap0, .int .i64 a1, .int .i64 a2, .int .i64 a3, .int .i64 a4, .int .i64 a5, .int .i64 a6] W fun e w' => e = .returned (.bool true) ∧ Below W.heap.size W w' := by
  have hx0 : len0 ≤ 9223372036854775807 := by have h1 := h0.2.1; have h2 := h0.2.2.1; omega
  have H1 := hidd h0
  have HF := hidd (Below.refl W.heap.size W)
  clear h0
  by_cases g0 : 8 < len0
  · have d0 : decide ((8 : Int) < (len0 : Int)) = true := by rw [decide_eq_true_eq]; omega
    go_enter Tryd.func4, Tryd.ntmps4
    go_wp2
    go_ret
    exact ⟨rfl, HF.out⟩
  have d0 : decide ((8 : Int) < (len0 : Int)) = false := by rw [decide_eq_false_iff_not]; omega
  by_cases g1 : a2 < 0
  · have d1 : decide (a2 < (0 : Int)) = true := by rw [decide_eq_true_eq]; exact g1
    go_enter Tryd.func4, Tryd.ntmps4
    go_wp2
    go_ret
    exact ⟨rfl, HF.out⟩
  have d1 : decide (a2 < (0 : Int)) = false := by rw [decide_eq_false_iff_not]; exact g1
  by_cases g2 : 100 < a2
  · have d2 : decide ((100 : Int) < a2) = true := by rw [decide_eq_true_eq]; exact g2
    go_enter Tryd.func4, Tryd.ntmps4
    go_wp2
    go_ret
    exact ⟨rfl, HF.out⟩
  have d2 : decide ((100 : Int) < a2) = false := by rw [decide_eq_false_iff_not]; exact g2
  have GR := hidd (ground_any dk W W (Below.refl _ _))
  clear HF
  go_enter Tryd.func4, Tryd.ntmps4
  go_wp2_with fail
  refine GR.out.mono ?_
  rintro e w1 ⟨p, rfl, h⟩
  have PP := hidd (wl.fresh 2000 0 2000 (by omega) (by omega))
  obtain ⟨D1, HD⟩ : ∃ D, Hid (D = newD 2000) := ⟨_, hidd rfl⟩
  have sD1 : D1.stops = false := by rw [HD.out]; rfl
  have rD1 : D1.safe.length = 2000 := by rw [HD.out]; exact List.length_replicate
  have bD1 : D1.puts.length ≤ 0 := by rw [HD.out]; exact Nat.le_refl _
  rw [← HD.out] at h PP
  have OP := hidd (open_one dk wl W TB w1 p D1 h sD1 (by omega) 0 2000 (by omega) (by omega) newL false PP.out ⟨[], 0⟩ isL_new)
  rw [show (⟨[], 0⟩ : StT).recs.length = 0 from rfl] at OP
  unfold ptr at OP ⊢
  clear h HD GR
  go_wp2_with fail
  refine OP.out.mono ?_
  rintro e w2 ⟨D2, q, ax, cx, L1, rfl, hw, ht, -, -, hI, hv⟩
  have hba : Below w2.heap.size w2 (w2.alloc (.cells #[.int .i64 0] 3)) := (Below.refl _ _).alloc (Nat.le_refl _) _
  have HS : Hid (BatS At WM WP W (w2.alloc (.cells #[.int .i64 0] 3)) p q 0 (.slice none 0 0) (.slice (some ⟨w2.heap.size, 0, none⟩) 1 1) [] [0] 0 D2 L1) := by
    refine ⟨World.ownsRow_nil _ _ _ _, ⟨rfl, .inr ⟨w2.heap.size, 1, #[.int .i64 0], rfl, hv.b.size, heap_alloc_new w2 _, Nat.le_refl 1, by unfold maxLen; decide, rfl, rfl⟩⟩, hv.x dk wl hba (fun b e => ?_), fun s hs => ?_, by rw [hI.2.1], hI.2.2, by rw [hI.2.1]; exact Nat.le_refl _, List.mem_singleton.2 rfl, Nat.le_refl _, hw.stops.trans sD1, hw.room.trans rD1, Nat.le_trans hw.puts (by omega), Nat.le_refl _, rfl⟩
    · rcases e with e | e
      · cases e
      · left; exact Nat.le_of_eq (Option.some.inj e)
    · unfold statesL at hs
      rw [hI.1, hI.2.1] at hs
      obtain rfl : s = ⟨[], 0⟩ := by simpa using hs
      exact ⟨0, List.mem_singleton.2 rfl, Nat.le_refl _, Nat.le_refl _, rfl⟩
  clear OP hw ht hv hI sD1 rD1 bD1 PP hba
  go_wp2
  go_loopw [19, 20, 21, 22] (fun s t l i wr => ∃ (k : Nat) (aa : Option Addr) (ac : Nat) (ua : Option Addr) (uc : Nat) (all : List ByteArray) (ends : List Nat) (least : Nat) (D : DkT) (L : LgT), k ≤ len0 ∧ i = .int .i64 (k : Int) ∧ s = .slice aa all.length ac ∧ t = .slice ua ends.length uc ∧ l = .int .i64 (least : Int) ∧ Hid (BatS At WM WP W wr p q k (.slice aa all.length ac) (.slice ua ends.length uc) all ends least D L)) (fun _ _ _ i _ => len0 - (intOf i).toNat)
  case atStart => exact ⟨0, none, 0, some ⟨w2.heap.size, 0, none⟩, 1, [], [0], 0, D2, L1, Nat.zero_le _, rfl, rfl, rfl, rfl, HS⟩
  case round =>
    clear HS
    obtain ⟨k, aa, ac, ua, uc, all, ends, least, D, L, hk, rfl, rfl, rfl, rfl, HO⟩ := hrel
    have HBW := hidd HO.out.lv.w.b
    have hal : all.length ≤ 24 := by have := HO.out.len; omega
    have hel : ends.length ≤ 9 := by have := HO.out.elen; omega
    have hls : least ≤ 24 := by have := HO.out.least; omega
    by_cases hlt1 : k < len0
    · have hd1 : decide ((k : Int) < (len0 : Int)) = true := by rw [decide_eq_true_eq]; omega
      have hw1 := wrap_int ((k : Int) + 1) (by omega) (by omega)
      obtain ⟨b1, f1, t, e1, hbl, -, -, hin, c0⟩ := H1.out.at k hlt1
      obtain ⟨ta, tl, tc, ts⟩ := t
      have HIN := hidd hin
      dsimp only at c0
      subst e1
      have htl : tl ≤ maxLen := hin.len
      unfold maxLen at htl
      have htm : tl ≤ 9223372036854775807 := by omega
      have HC : Hid (∀ V, Below W.heap.size W V → V.cell? ⟨b1, f1 + k, none⟩ = some (.slice ta tl tc)) := fun V hV => (hV.cell (p := ⟨b1, f1 + k, none⟩) hbl).trans c0
      have m1 := HC.out wr HBW.out
      have HF := HBW
      have HLN : Hid (ts.length = tl) := hin.rd.1
      clear hin c0 hbl
      by_cases g3 : 3 < tl
      · have d3 : decide ((3 : Int) < (tl : Int)) = true := by rw [decide_eq_true_eq]; omega
        go_wp2
        go_ret
        exact ⟨rfl, HF.out⟩
      have d3 : decide ((3 : Int) < (tl : Int)) = false := by rw [decide_eq_false_iff_not]; omega
      have BT := hidd (refBatch_any ta tl tc ts wr (HIN.out.below HBW.out).rd HIN.out.len HIN.out.size)
      go_wp2_with fail
      refine BT.out.mono ?_
      rintro e w9 ⟨rfl, rfl⟩
      cases hbt : batchB ts
      case false =>
        go_wp2
        go_ret
        exact ⟨rfl, HF.out⟩
      have SM := hidd (batch_small (n := 3) (by rw [HLN.out]; omega) (by omega) hbt)
      have CS := hidd (refCost_any ta tl tc ts wr (HIN.out.below HBW.out).rd (SM.out.mono (by omega) (by omega)))
      obtain ⟨cn, Hcn⟩ : ∃ n, Hid (n = costN ts) := ⟨_, hidd rfl⟩
      rw [← Hcn.out] at CS
      have HBT := hidd hbt
      clear BT hbt
      go_wp2_with fail
      refine CS.out.mono ?_
      rintro e w9 ⟨rfl, rfl⟩
      by_cases g5 : 100 < cn
      · have d5 : decide ((100 : Int) < (cn : Int)) = true := by rw [decide_eq_true_eq]; omega
        go_wp2
        go_ret
        exact ⟨rfl, HF.out⟩
      have d5 : decide ((100 : Int) < (cn : Int)) = false := by rw [decide_eq_false_iff_not]; omega
      have CM := hidd (bat_commit dk wl W wr p q k _ _ all ends least D L HO.out (by omega) ⟨ta, tl, tc, ts⟩ HIN.out (by show ts.length ≤ 3; rw [HLN.out]; omega) HBT.out (by show costN ts ≤ 100; rw [← Hcn.out]; omega))
      unfold ptr at CM
      dsimp only at CM
      clear CS SM HF
      go_wp2_with fail
      refine CM.out.mono ?_
      rintro e w3 ⟨rfl, hB3, v', w4, u', w5, D', L', r4, hB4, r5, hO, hpn⟩
      have m3 := HC.out w3 hB3
      have m4 := HC.out w4 hB4
      obtain ⟨a4', c4', rfl⟩ := own_valT hO.own
      obtain ⟨a5', c5', rfl⟩ := own_valT hO.ownE
      obtain ⟨al, Hal⟩ : ∃ n, Hid (n = (all ++ ts).length) := ⟨_, hidd rfl⟩
      obtain ⟨el, Hel⟩ : ∃ n, Hid (n = (ends ++ [al]).length) := ⟨_, hidd rfl⟩
      have R4 := hidd r4
      have R5 := hidd r5
      have HO5 := hidd hO
      have hal5 : al ≤ 27 := by rw [Hal.out]; have := hO.len; omega
      rw [← Hal.out] at R4 R5
      rw [← Hel.out] at R5
      have HPN : Hid (D'.puts.length ≤ 800 * (k + 1) + 400) := hpn
      clear CM r4 r5 hO HO hpn HBW m1 hB3 hB4
      by_cases hsy : (k : Int) < a1
      · have dsy : decide ((k : Int) < a1) = true := by rw [decide_eq_true_eq]; exact hsy
        have SY := hidd (bat_sync dk wl W w5 p q (k + 1) _ _ (all ++ ts) _ least D' L' HO5.out (by omega) (by have := HPN.out; omega))
        unfold ptr at SY
        go_wp2_with (first
          | ((with_reducible show wpList _ _ _ ({ dst := some 100, op := _, type := _, pos := _, after := _, guard := _ } :: _) _ _); refine wpList_append_run (by rfl) (.tmp 95) (.tmp 99) 29 29 (by rfl) _ _ _ _ (by rfl) (by rfl) R4.out ?_; try simp only [Act.put, List.setIfInBounds_toArray, List.set_cons_zero, List.set_cons_succ])
          | ((with_reducible show wpList _ _ _ ({ dst := some 105, op := _, type := _, pos := _, after := _, guard := _ } :: _) _ _); refine wpList_append_run (by rfl) (.tmp 101) (.tmp 104) 48 48 (by rfl) _ _ _ _ (by rfl) (by rfl) R5.out ?_; try simp only [Act.put, List.setIfInBounds_toArray, List.set_cons_zero, List.set_cons_succ])
          | fail)
        refine SY.out.mono ?_
        rintro e w6 ⟨rfl, D6, L6, hO6⟩
        have HO6 := hidd hO6
        clear SY hO6 HO5 R4 R5
        go_wp2
        go_roundw
        case rel => exact ⟨k + 1, a4', c4', a5', c5', all ++ ts, ends ++ [(all ++ ts).length], (all ++ ts).length, D6, L6, by omega, by go_num, by rw [Hal.out], by rw [Hel.out, Hal.out], by rw [Hal.out], HO6⟩
        case measure => simp [intOf]; omega
      · have dsy : decide ((k : Int) < a1) = false := by rw [decide_eq_false_iff_not]; exact hsy
        go_wp2_with (first
          | ((with_reducible show wpList _ _ _ ({ dst := some 100, op := _, type := _, pos := _, after := _, guard := _ } :: _) _ _); refine wpList_append_run (by rfl) (.tmp 95) (.tmp 99) 29 29 (by rfl) _ _ _ _ (by rfl) (by rfl) R4.out ?_; try simp only [Act.put, List.setIfInBounds_toArray, List.set_cons_zero, List.set_cons_succ])
          | ((with_reducible show wpList _ _ _ ({ dst := some 105, op := _, type := _, pos := _, after := _, guard := _ } :: _) _ _); refine wpList_append_run (by rfl) (.tmp 101) (.tmp 104) 48 48 (by rfl) _ _ _ _ (by rfl) (by rfl) R5.out ?_; try simp only [Act.put, List.setIfInBounds_toArray, List.set_cons_zero, List.set_cons_succ])
          | fail)
        go_roundw
        case rel => exact ⟨k + 1, a4', c4', a5', c5', all ++ ts, ends ++ [(all ++ ts).length], least, D', L', by omega, by go_num, by rw [Hal.out], by rw [Hel.out, Hal.out], rfl, HO5⟩
        case measure => simp [intOf]; omega
    · have hd1 : decide ((k : Int) < (len0 : Int)) = false := by rw [decide_eq_false_iff_not]; omega
      obtain rfl : len0 = k := by omega
      have HTD : Hid (∀ rs, opensB L rs true = true → ∃ e ∈ ends, least ≤ e ∧ e ≤ all.length ∧ rs = all.take e) := fun rs h => HO.out.told h
      have HOW := hidd HO.out.own
      have HOE := hidd HO.out.ownE
      have bD := HO.out.puts
      have rD := HO.out.room
      have CR := hidd (dx_crash dk (fun b => (Value.slice aa all.length ac).ownBlock = some b ∨ (Value.slice ua ends.length uc).ownBlock = some b) W wr p D HO.out.lv.dx (fun b e => by rcases e with e | e; exact (own_ltT HOW.out b e).1; exact (own_ltT HOE.out b e).1) (by omega) a3 a4 h3 h4)
      have PP := hidd (lvw_crashP dk wl HO.out.lv.w a3 a4)
      obtain ⟨e0, e1, e2⟩ := crash_room (HO.out.lv.w.disk.ok dk) a3 a4
      unfold ptr at CR
      clear HO HBW
      go_wp2_with fail
      refine CR.out.mono ?_
      rintro e w3 ⟨rfl, hv, hsz, hsm⟩
      obtain ⟨D3, HD3⟩ : ∃ Dx, Hid (Dx = crashD D a3 a4) := ⟨_, hidd rfl⟩
      rw [← HD3.out] at hv e0 e1 e2 PP
      have HOW' := own_sameT HOW.out fun b e => hsm b (.inl e)
      have HOE' := own_sameT HOE.out fun b e => hsm b (.inr e)
      replace HOW := hidd HOW'
      replace HOE := hidd HOE'
      clear HOW' HOE'
      have ST := hidd (dx_stop dk (fun b => (Value.slice aa all.length ac).ownBlock = some b ∨ (Value.slice ua ends.length uc).ownBlock = some b) W w3 p D3 hv (fun b e => by rcases e with e | e; exact (own_ltT HOW.out b e).1; exact (own_ltT HOE.out b e).1) a2 h2)
      replace PP := hidd (wl.stopP a2 PP.out)
      unfold ptr at ST
      clear CR hv hsz hsm HD3
      go_wp2_with fail
      refine ST.out.mono ?_
      rintro e w4 ⟨rfl, hv, hsz, hsm⟩
      obtain ⟨D4, HD4⟩ : ∃ Dx, Hid (Dx = stopD D3 a2) := ⟨_, hidd rfl⟩
      have rD4 : D4.safe.length = 2000 := by rw [HD4.out, (stopD_safe D3 a2).1, e0]; exact rD
      have bD4 : D4.puts.length ≤ 0 := by rw [HD4.out, (stopD_safe D3 a2).2]; exact Nat.le_of_eq e1
      rw [← HD4.out] at hv PP
      have HOW' := own_sameT HOW.out fun b e => hsm b (.inl e)
      have HOE' := own_sameT HOE.out fun b e => hsm b (.inr e)
      replace HOW := hidd HOW'
      replace HOE := hidd HOE'
      clear HOW' HOE'
      have OP := hidd (dx_open wl (fun b => (Value.slice aa all.length ac).ownBlock = some b ∨ (Value.slice ua ends.length uc).ownBlock = some b) W TB w4 p D4 hv (fun b e => by rcases e with e | e; exact (own_ltT HOW.out b e).1; exact (own_ltT HOE.out b e).1) (by omega) 0 2000 (by omega) (by omega) L true PP.out)
      unfold ptr at OP
      clear ST hv hsz hsm HD4 e0 e1 e2 PP rD bD
      go_wp2_with fail
      refine OP.out.mono ?_
      rintro e w5 ⟨D5, hw, hsz, hsm, hop⟩
      have rD5 : D5.safe.length = 2000 := hw.room.trans rD4
      have bD5 : D5.puts.length ≤ 400 := Nat.le_trans hw.puts (by omega)
      have HOW' := own_sameT HOW.out fun b e => hsm b (.inl e)
      have HOE' := own_sameT HOE.out fun b e => hsm b (.inr e)
      replace HOW := hidd HOW'
      replace HOE := hidd HOE'
      clear HOW' HOE'
      rcases hop with ⟨q2, a1r, l1r, c1r, rs1, rfl, ht1, hl1r, -, hob1, hv⟩ | ⟨⟨ax2, cx2, rfl⟩, hdn, hpa, hv⟩
      · have HT1 := hidd ht1
        have HOB1 := hidd hob1
        clear OP hw hsz hsm ht1 hob1 rD4 bD4
        have CR2 := hidd (dx_crash dk _ W w5 p D5 hv.dx (fun b e => by rcases e with (e | e) | e; exact (own_ltT HOW.out b e).1; exact (own_ltT HOE.out b e).1; exact HT1.out.blk_lt b e) (by omega) a5 a6 h5 h6)
        have PP2 := hidd (lvw_crashP dk wl hv.w a5 a6)
        obtain ⟨e0, e1, e2⟩ := crash_room (hv.w.disk.ok dk) a5 a6
        unfold ptr at CR2
        clear hv
        go_wp2_with fail
        refine CR2.out.mono ?_
        rintro e w6 ⟨rfl, hv, hsz, hsm⟩
        obtain ⟨D6, HD6⟩ : ∃ Dx, Hid (Dx = crashD D5 a5 a6) := ⟨_, hidd rfl⟩
        rw [← HD6.out] at hv e0 e1 e2 PP2
        have HOW' := own_sameT HOW.out fun b e => hsm b (.inl (.inl e))
        have HOE' := own_sameT HOE.out fun b e => hsm b (.inl (.inr e))
        replace HOW := hidd HOW'
        replace HOE := hidd HOE'
        clear HOW' HOE'
        replace HT1 := hidd (HT1.out.same hsz fun b e => hsm b (.inr e))
        have OP2 := hidd (dx_open wl _ W TB w6 p D6 hv (fun b e => by rcases e with (e | e) | e; exact (own_ltT HOW.out b e).1; exact (own_ltT HOE.out b e).1; exact HT1.out.blk_lt b e) (by omega) 0 2000 (by omega) (by rw [e0, rD5]; omega) _ true PP2.out)
        unfold ptr at OP2
        have hs6 := e2
        clear CR2 hv hsz hsm HD6 e0 e1 e2 PP2
        go_wp2_with fail
        refine OP2.out.mono ?_
        rintro e w8 ⟨D8, hw, hsz, hsm, hop⟩
        rcases hop with ⟨q3, a2r, l2r, c2r, rs2, rfl, ht2, hl2r, -, hob2, hv⟩ | ⟨_, hdn, _, hv⟩
        case inr =>
          have := hv.d.calm dk (hw.stops.trans hs6)
          rw [this] at hdn; cases hdn
        have HT2 := hidd ht2
        have HB8 := hidd hv.w.b
        have HOW' := own_sameT HOW.out fun b e => hsm b (.inl (.inl e))
        have HOE' := own_sameT HOE.out fun b e => hsm b (.inl (.inr e))
        replace HOW := hidd HOW'
        replace HOE := hidd HOE'
        clear HOW' HOE'
        replace HT1 := hidd (HT1.out.same hsz fun b e => hsm b (.inr e))
        have HR12 : Hid (rs1 = rs2) := ((IsL.opens (show IsL (opensL L rs1 true) (opensX L rs1 true) from ⟨rfl, rfl, rfl⟩) hob2).1.trans (opensX_recs HOB1.out)).symm
        have HEV : Hid (∃ e ∈ ends, least ≤ e ∧ e ≤ all.length ∧ rs2 = all.take e) := by rw [← HR12.out]; exact HTD.out rs1 HOB1.out
        clear OP2 hw hsz hsm ht2 hob2 hv hs6 HTD HOB1
        obtain ⟨ev, hev, hle, hge, hrs2⟩ := HEV.out
        have hl2 : rs2.length = ev := by rw [hrs2, List.length_take]; omega
        have HL2 : Hid (l2r = ev) := by rw [← hl2]; exact HT2.out.1.symm
        have hlt2 : decide ((l2r : Int) < (least : Int)) = false := by rw [decide_eq_false_iff_not]; have := HL2.out; omega
        have hgt2 : decide ((all.length : Int) < (l2r : Int)) = false := by rw [decide_eq_false_iff_not]; have := HL2.out; omega
        have hle2 : least ≤ l2r := by have := HL2.out; omega
        have hge2 : l2r ≤ all.length := by have := HL2.out; omega
        have hcap := own_cap HOW.out
        obtain ⟨at_, ct, ea, hta, _, _, _⟩ := texts_own HOW.out
        have eaa : at_ = aa := by cases ea; rfl
        rw [eaa] at hta
        obtain ⟨sa, SF, hst⟩ := texts_front hta hcap l2r (by have := HL2.out; omega)
        have HSF := hidd SF
        have SM := hidd (refSame_any a2r l2r c2r rs2 sa l2r ac (all.take l2r) w8 HT2.out hst (by unfold maxLen; omega) (by unfold maxLen; omega))
        rw [decide_eq_true (by rw [hrs2, HL2.out])] at SM
        have HEV2 : Hid (ev ∈ ends) := hev
        have hl2m : l2r ≤ 9223372036854775807 := by omega
        have sf := HSF.out
        clear hev hle hge hrs2 hl2 ea eaa hta hst SF HEV
        go_wp2_with fail
        refine SM.out.mono ?_
        rintro e w8b ⟨rfl, hb8⟩
        have HB8b := hidd (HB8.out.trans (hb8.mono HB8.out.size))
        replace HT2 := hidd (HT2.out.keep hb8)
        replace HT1 := hidd (HT1.out.keep hb8)
        replace HOE := hidd (own_sameT HOE.out fun b e => hb8.block b (own_ltT HOE.out b e).1)
        clear SM hb8 HSF sf hcap HOW HB8
        go_wp2
        go_loopw [29, 30] (fun s i wr => ∃ (k : Nat) (x : Bool), k ≤ ends.length ∧ i = .int .i64 (k : Int) ∧ s = .bool x ∧ Hid (x = decide (ev ∈ ends.take k)) ∧ w8b = wr) (fun _ i _ => ends.length - (intOf i).toNat)
        case atStart => exact ⟨0, false, Nat.zero_le _, rfl, rfl, (by show _ = _; simp), rfl⟩
        case round =>
          obtain ⟨k, x, hk, rfl, rfl, HX, rfl⟩ := hrel
          by_cases hlt : k < ends.length
          · have hdk : decide ((k : Int) < (ends.length : Int)) = true := by rw [decide_eq_true_eq]; omega
            have hw1 := wrap_int ((k : Int) + 1) (by omega) (by omega)
            have HNX : Hid (decide (ev ∈ ends.take (k + 1)) = (decide (ev ∈ ends.take k) || decide (ev = ends[k]))) := by
              show _ = _
              have hi : (ev ∈ ends.take (k + 1)) ↔ (ev ∈ ends.take k ∨ ev = ends[k]) := by rw [List.take_add_one, List.getElem?_eq_getElem hlt, List.mem_append, Option.toList_some, List.mem_singleton]
              rw [decide_eq_decide.2 hi, Bool.decide_or]
            cases x
            · obtain ⟨ge, e1, hce⟩ := ints_at HOE.out k hlt
              have e1' : ua = some ⟨ge, 0, none⟩ := e1
              subst e1'
              by_cases hee : ev = ends[k]
              · rw [← hee, ← HL2.out] at hce
                have HN : Hid (true = decide (ev ∈ ends.take (k + 1))) := by show _ = _; rw [HNX.out, decide_eq_true hee, Bool.or_true]
                clear e1 HX HNX hee
                go_wp2
                go_roundw
                case rel => exact ⟨k + 1, true, by omega, by go_num, rfl, HN, by trivial⟩
                case measure => simp [intOf]; omega
              · obtain ⟨y, Hy⟩ : ∃ y, Hid (y = ends[k]) := ⟨_, hidd rfl⟩
                rw [← Hy.out] at hce
                have hne : ¬ y = l2r := by rw [Hy.out, HL2.out]; exact fun e => hee e.symm
                have hz : (((y : Nat) : Int) == ((l2r : Nat) : Int)) = false := by rw [beq_eq_false_iff_ne]; omega
                have HN : Hid (false = decide (ev ∈ ends.take (k + 1))) := by show _ = _; rw [HNX.out, decide_eq_false hee, ← HX.out]; rfl
                clear e1 HX HNX hee Hy
                go_wp2
                go_roundw
                case rel => exact ⟨k + 1, false, by omega, by go_num, rfl, HN, by trivial⟩
                case measure => simp [intOf]; omega
            · have HN : Hid (true = decide (ev ∈ ends.take (k + 1))) := by show _ = _; rw [HNX.out, ← HX.out]; rfl
              clear HX HNX
              go_wp2
              go_roundw
              case rel => exact ⟨k + 1, true, by omega, by go_num, rfl, HN, by trivial⟩
              case measure => simp [intOf]; omega
          · have hdk : decide ((k : Int) < (ends.length : Int)) = false := by rw [decide_eq_false_iff_not]; omega
            have hx : x = true := by
              rw [HX.out, List.take_of_length_le (by omega), decide_eq_true HEV2.out]
            subst hx
            have AW := hidd (awake_any dk wl w8b (TB.on HB8b.out))
            clear HX HOE
            go_wp2_with fail
            refine AW.out.mono ?_
            rintro e w9 ⟨rfl, hb9⟩
            have HB9 := hidd (HB8b.out.trans (hb9.mono HB8b.out.size))
            clear AW
            have SM2 := hidd (refSame_any a1r l1r c1r rs1 a2r l2r c2r rs2 w9 (HT1.out.keep hb9) (HT2.out.keep hb9) (by unfold maxLen; omega) (by unfold maxLen; omega))
            rw [decide_eq_true HR12.out] at SM2
            clear hb9
            go_wp2_with fail
            refine SM2.out.mono ?_
            rintro e w10 ⟨rfl, hb10⟩
            have HB10 := hidd (HB9.out.trans (hb10.mono HB9.out.size))
            clear SM2 hb10
            go_wp2
            go_ret
            exact ⟨rfl, HB10.out⟩
      · clear OP hw hsz hsm hdn rD4 bD4
        have CR2 := hidd (dx_crash dk _ W w5 p D5 hv (fun b e => by rcases e with e | e; exact (own_ltT HOW.out b e).1; exact (own_ltT HOE.out b e).1) (by omega) a5 a6 h5 h6)
        have PP2 := hidd (wl.crash a5 a6 (hv.d.ok dk) hpa)
        obtain ⟨e0, e1, e2⟩ := crash_room (hv.d.ok dk) a5 a6
        unfold ptr at CR2
        clear hv
        go_wp2_with fail
        refine CR2.out.mono ?_
        rintro e w6 ⟨rfl, hv, hsz, hsm⟩
        obtain ⟨D6, HD6⟩ : ∃ Dx, Hid (Dx = crashD D5 a5 a6) := ⟨_, hidd rfl⟩
        rw [← HD6.out] at hv e0 e1 e2 PP2
        have HOW' := own_sameT HOW.out fun b e => hsm b (.inl e)
        have HOE' := own_sameT HOE.out fun b e => hsm b (.inr e)
        replace HOW := hidd HOW'
        replace HOE := hidd HOE'
        clear HOW' HOE'

        have OP2 := hidd (dx_open wl _ W TB w6 p D6 hv (fun b e => by rcases e with e | e; exact (own_ltT HOW.out b e).1; exact (own_ltT HOE.out b e).1) (by omega) 0 2000 (by omega) (by rw [e0, rD5]; omega) _ true PP2.out)
        unfold ptr at OP2
        have hs6 := e2
        clear CR2 hv hsz hsm HD6 e0 e1 e2 PP2
        go_wp2_with fail
        refine OP2.out.mono ?_
        rintro e w8 ⟨D8, hw, hsz, hsm, hop⟩
        rcases hop with ⟨q3, a2r, l2r, c2r, rs2, rfl, ht2, hl2r, -, hob2, hv⟩ | ⟨_, hdn, _, hv⟩
        case inr =>
          have := hv.d.calm dk (hw.stops.trans hs6)
          rw [this] at hdn; cases hdn
        have HT2 := hidd ht2
        have HB8 := hidd hv.w.b
        have HOW' := own_sameT HOW.out fun b e => hsm b (.inl e)
        have HOE' := own_sameT HOE.out fun b e => hsm b (.inr e)
        replace HOW := hidd HOW'
        replace HOE := hidd HOE'
        clear HOW' HOE'
        have HEV : Hid (∃ e ∈ ends, least ≤ e ∧ e ≤ all.length ∧ rs2 = all.take e) := HTD.out rs2 hob2
        clear OP2 hw hsz hsm ht2 hob2 hv hs6 HTD 
        obtain ⟨ev, hev, hle, hge, hrs2⟩ := HEV.out
        have hl2 : rs2.length = ev := by rw [hrs2, List.length_take]; omega
        have HL2 : Hid (l2r = ev) := by rw [← hl2]; exact HT2.out.1.symm
        have hlt2 : decide ((l2r : Int) < (least : Int)) = false := by rw [decide_eq_false_iff_not]; have := HL2.out; omega
        have hgt2 : decide ((all.length : Int) < (l2r : Int)) = false := by rw [decide_eq_false_iff_not]; have := HL2.out; omega
        have hle2 : least ≤ l2r := by have := HL2.out; omega
        have hge2 : l2r ≤ all.length := by have := HL2.out; omega
        have hcap := own_cap HOW.out
        obtain ⟨at_, ct, ea, hta, _, _, _⟩ := texts_own HOW.out
        have eaa : at_ = aa := by cases ea; rfl
        rw [eaa] at hta
        obtain ⟨sa, SF, hst⟩ := texts_front hta hcap l2r (by have := HL2.out; omega)
        have HSF := hidd SF
        have SM := hidd (refSame_any a2r l2r c2r rs2 sa l2r ac (all.take l2r) w8 HT2.out hst (by unfold maxLen; omega) (by unfold maxLen; omega))
        rw [decide_eq_true (by rw [hrs2, HL2.out])] at SM
        have HEV2 : Hid (ev ∈ ends) := hev
        have hl2m : l2r ≤ 9223372036854775807 := by omega
        have sf := HSF.out
        clear hev hle hge hrs2 hl2 ea eaa hta hst SF HEV
        go_wp2_with fail
        refine SM.out.mono ?_
        rintro e w8b ⟨rfl, hb8⟩
        have HB8b := hidd (HB8.out.trans (hb8.mono HB8.out.size))
        replace HT2 := hidd (HT2.out.keep hb8)

        replace HOE := hidd (own_sameT HOE.out fun b e => hb8.block b (own_ltT HOE.out b e).1)
        clear SM hb8 HSF sf hcap HOW HB8
        go_wp2
        go_loopw [29, 30] (fun s i wr => ∃ (k : Nat) (x : Bool), k ≤ ends.length ∧ i = .int .i64 (k : Int) ∧ s = .bool x ∧ Hid (x = decide (ev ∈ ends.take k)) ∧ w8b = wr) (fun _ i _ => ends.length - (intOf i).toNat)
        case atStart => exact ⟨0, false, Nat.zero_le _, rfl, rfl, (by show _ = _; simp), rfl⟩
        case round =>
          obtain ⟨k, x, hk, rfl, rfl, HX, rfl⟩ := hrel
          by_cases hlt : k < ends.length
          · have hdk : decide ((k : Int) < (ends.length : Int)) = true := by rw [decide_eq_true_eq]; omega
            have hw1 := wrap_int ((k : Int) + 1) (by omega) (by omega)
            have HNX : Hid (decide (ev ∈ ends.take (k + 1)) = (decide (ev ∈ ends.take k) || decide (ev = ends[k]))) := by
              show _ = _
              have hi : (ev ∈ ends.take (k + 1)) ↔ (ev ∈ ends.take k ∨ ev = ends[k]) := by rw [List.take_add_one, List.getElem?_eq_getElem hlt, List.mem_append, Option.toList_some, List.mem_singleton]
              rw [decide_eq_decide.2 hi, Bool.decide_or]
            cases x
            · obtain ⟨ge, e1, hce⟩ := ints_at HOE.out k hlt
              have e1' : ua = some ⟨ge, 0, none⟩ := e1
              subst e1'
              by_cases hee : ev = ends[k]
              · rw [← hee, ← HL2.out] at hce
                have HN : Hid (true = decide (ev ∈ ends.take (k + 1))) := by show _ = _; rw [HNX.out, decide_eq_true hee, Bool.or_true]
                clear e1 HX HNX hee
                go_wp2
                go_roundw
                case rel => exact ⟨k + 1, true, by omega, by go_num, rfl, HN, by trivial⟩
                case measure => simp [intOf]; omega
              · obtain ⟨y, Hy⟩ : ∃ y, Hid (y = ends[k]) := ⟨_, hidd rfl⟩
                rw [← Hy.out] at hce
                have hne : ¬ y = l2r := by rw [Hy.out, HL2.out]; exact fun e => hee e.symm
                have hz : (((y : Nat) : Int) == ((l2r : Nat) : Int)) = false := by rw [beq_eq_false_iff_ne]; omega
                have HN : Hid (false = decide (ev ∈ ends.take (k + 1))) := by show _ = _; rw [HNX.out, decide_eq_false hee, ← HX.out]; rfl
                clear e1 HX HNX hee Hy
                go_wp2
                go_roundw
                case rel => exact ⟨k + 1, false, by omega, by go_num, rfl, HN, by trivial⟩
                case measure => simp [intOf]; omega
            · have HN : Hid (true = decide (ev ∈ ends.take (k + 1))) := by show _ = _; rw [HNX.out, ← HX.out]; rfl
              clear HX HNX
              go_wp2
              go_roundw
              case rel => exact ⟨k + 1, true, by omega, by go_num, rfl, HN, by trivial⟩
              case measure => simp [intOf]; omega
          · have hdk : decide ((k : Int) < (ends.length : Int)) = false := by rw [decide_eq_false_iff_not]; omega
            have hx : x = true := by
              rw [HX.out, List.take_of_length_le (by omega), decide_eq_true HEV2.out]
            subst hx
            have AW := hidd (awake_any dk wl w8b (TB.on HB8b.out))
            clear HX HOE
            go_wp2_with fail
            refine AW.out.mono ?_
            rintro e w9 ⟨rfl, hb9⟩
            have HB9 := hidd (HB8b.out.trans (hb9.mono HB8b.out.size))
            clear AW
            go_wp2
            go_ret
            exact ⟨rfl, HB9.out⟩
end Go.Proofs.YtdnnhmihigdnkaaDoor
