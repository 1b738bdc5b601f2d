/- Texts of our own that the row of WalRuns leans on, part 26. -/
import Derived.Test.YtdnnhmihigdnkaaDoorWalRunsJ0
import Derived.Test.YtdnnhmihigdnkaaDoorWalRunsJ17
import Derived.Test.YtdnnhmihigdnkaaDoorWalRunsJ19
import Derived.Test.YtdnnhmihigdnkaaDoorWalRunsJ20
import Derived.Test.YtdnnhmihigdnkaaDoorWalRunsJ25

/- The statements' change. -/
namespace Go.Proofs.YtdnnhmihigdnkaaDoor
open Go.RowKit Nums
set_option linter.unusedVariables false
set_option linter.unusedSimpArgs false
set_option maxRecDepth 100000
variable {At : World → Nat → DkT → (Nat → Prop) → Prop} {Vt : Type} {WM : World → Nat → Nat → Nat → Nat → Vt → (Nat → Prop) → Prop} {WP : Nat → Nat → Vt → DkT → LgT → Prop} {PA : Nat → Nat → DkT → LgT → Bool → Prop}
structure BdL (k : Nat) (L : LgT) : Prop where
  n : (statesL L).length ≤ k + 1
  s : ∀ s, s ∈ statesL L ∨ s = L.may → s.recs.length ≤ 30 * k ∧ s.cost ≤ 200000 * k
theorem BdL.next {k : Nat} {L : LgT} (h : BdL k L) : BdL (k + 1) L := ⟨by have := h.n; omega, fun s hs => by have := h.s s hs; omega⟩
theorem BdL.to {k : Nat} {L : LgT} (h : BdL k L) (x : StT) (hx : x.recs.length ≤ 30 * (k + 1) ∧ x.cost ≤ 200000 * (k + 1)) (e : Int) : BdL (k + 1) (toL L x e) := by
  unfold toL
  split
  · refine ⟨?_, fun s hs => ?_⟩
    · show (statesL L ++ [x]).length ≤ _
      rw [List.length_append]
      have := h.n
      show (statesL L).length + 1 ≤ _
      omega
    · rcases hs with hs | hs
      · rcases List.mem_append.1 (show s ∈ statesL L ++ [x] from hs) with hs | hs
        · have := h.s s (.inl hs); omega
        · obtain rfl : s = x := by simpa using hs
          exact hx
      · have := h.s s (.inr hs); omega
  · split
    · split
      · exact h.next
      · refine ⟨by have := h.n; show (statesL L).length ≤ _; omega, fun s hs => ?_⟩
        rcases hs with hs | hs
        · have := h.s s (.inl hs); omega
        · obtain rfl : s = x := hs
          exact hx
    · exact h.next
theorem BdL.synced {k : Nat} {L : LgT} (h : BdL k L) : BdL k (syncedL L) := by
  refine ⟨by show 1 ≤ k + 1; omega, fun s hs => ?_⟩
  rcases hs with hs | hs
  · rw [statesL_synced] at hs
    obtain rfl : s = L.now := by simpa using hs
    exact h.s _ (.inl ((statesL_mem L _).2 (.inr rfl)))
  · exact h.s s (.inr hs)
structure RunS (At : World → Nat → DkT → (Nat → Prop) → Prop) (WM : World → Nat → Nat → Nat → Nat → Vt → (Nat → Prop) → Prop) (WP : Nat → Nat → Vt → DkT → LgT → Prop) (W wr : World) (p q m f r k : Nat) (D : DkT) (L : LgT) (M : Nat → Prop) : Prop where
  lv : LvX At WM WP M W wr p q f r D L
  lg : LogAt wr m L M
  mb : ∀ b, M b → W.heap.size ≤ b
  bd : BdL k L
  room : D.safe.length = 2000
  puts : D.puts.length ≤ 1200 * (k + 1)
end Go.Proofs.YtdnnhmihigdnkaaDoor

/- The statements' change. -/
namespace Go.Proofs.YtdnnhmihigdnkaaDoor
open Go.RowKit Nums
set_option linter.unusedVariables false
set_option linter.unusedSimpArgs false
set_option maxRecDepth 100000
variable {At : World → Nat → DkT → (Nat → Prop) → Prop} {Vt : Type} {WM : World → Nat → Nat → Nat → Nat → Vt → (Nat → Prop) → Prop} {WP : Nat → Nat → Vt → DkT → LgT → Prop} {PA : Nat → Nat → DkT → LgT → Bool → Prop}
set_option maxHeartbeats 16000000 in
theorem change1 (dk : DiskC At) (wl : WalC At WM WP PA) (W wr : World) (p q m f r k : Nat) (D : DkT) (L : LgT) (M : Nat → Prop) (h : RunS At WM WP W wr p q m f r k D L M) (hk : k ≤ 60) (hr : r ≤ 1000000) (on ok : Int) (ta : Option Addr) (tl tc : Nat) (ts : List ByteArray) (hin : InT W ⟨ta, tl, tc, ts⟩) (hs : Small 30 5000 ts) :
    Calls Tryd.prog 15 #[ptr p, ptr q, ptr m, .agg #[.int .i64 1, .int .i64 on, .int .i64 ok, .slice ta tl tc], .int .i64 (r : Int)] wr fun e w' => e = .returned (.bool true) ∧ ∃ D' L' M', RunS At WM WP W w' p q m f r (k + 1) D' L' M' := by
  have hB := h.lv.w.b
  have htl : ts.length = tl := hin.rd.1
  have hsl := hs.1
  have hsz := hB.size
  have hMl : ∀ b, M b → b < wr.heap.size := h.lg.lt
  have hb1 : Below wr.heap.size wr (wr.alloc (.cells #[.int .i64 1, .int .i64 on, .int .i64 ok, .slice ta tl tc] 36)) := (Below.refl _ _).alloc (Nat.le_refl _) _
  have hbW1 := hB.trans (hb1.mono hsz)
  have hrow8 := heap_alloc_new wr (.cells #[.int .i64 1, .int .i64 on, .int .i64 ok, .slice ta tl tc] 36)
  obtain ⟨v2, w2, r2, o2, g2, hv2⟩ := run_append_texts2 (hin.rd.keep hbW1) hin.cap wr.heap.size 0 (.slice none 0 0) [] (World.ownsRow_nil _ _ _ _) hb1.size (by dsimp only; omega)
  dsimp only at r2 o2 g2
  rw [Nat.zero_add, List.nil_append] at o2
  obtain ⟨a2, c2, rfl, t2, k2, _, b2⟩ := texts_own o2
  have hs2 := g2.size
  have hb2 : Below wr.heap.size wr w2 := hb1.grown g2 hb1.size (fun b e => by cases e)
  have hbW2 := hB.trans (hb2.mono hsz)
  have WAS := hidd (refWasL ta tl tc ts w2 (hin.rd.keep hbW2) hin.cap (hs.mono (by omega) (by omega)))
  have R2 := hidd r2
  have HT2 := hidd t2
  have HIN := hidd hin
  have HS := hidd hs
  have HH := hidd h
  have HX8 : Hid (∀ V, Below (wr.heap.size + 1) (wr.alloc (.cells #[.int .i64 1, .int .i64 on, .int .i64 ok, .slice ta tl tc] 36)) V → V.cell? ⟨wr.heap.size, 0, none⟩ = some (.int .i64 1) ∧ V.cell? ⟨wr.heap.size, 3, none⟩ = some (.slice ta tl tc)) := fun V hV => by
    have := (hV.block wr.heap.size (by omega)).trans hrow8
    exact ⟨by rw [cell_of_row _ _ 0 _ _ (0, 0) this]; rfl, by rw [cell_of_row _ _ 3 _ _ (0, 0) this]; rfl⟩
  have hs1 : (wr.alloc (.cells #[.int .i64 1, .int .i64 on, .int .i64 ok, .slice ta tl tc] 36)).heap.size = wr.heap.size + 1 := by simp
  have HB12 : Hid (Below (wr.heap.size + 1) (wr.alloc (.cells #[.int .i64 1, .int .i64 on, .int .i64 ok, .slice ta tl tc] 36)) w2) := (Below.refl _ _).grown g2 (by omega) (fun b e => by cases e)
  obtain ⟨y1, y2⟩ := HX8.out _ (Below.refl _ _)
  have z1 := HX8.out w2 HB12.out
  have HB2 := hidd hb2
  have HK2 := hidd k2
  have HOB : Hid (∀ b, TBlock a2 tl b → wr.heap.size ≤ b) := fun b e => (b2 b e).1
  have HROW8 := hidd hrow8
  clear r2 t2 o2 g2 hv2 hs hin h b2 hrow8 hb1 hbW1 hb2 hbW2 k2
  unfold ptr
  go_enter Tryd.func15, Tryd.ntmps15
  go_wp2_with (first
    | ((with_reducible show wpList _ _ _ ({ dst := some 17, op := _, type := _, pos := _, after := _, guard := _ } :: _) _ _); refine wpList_append_run (by rfl) (.tmp 14) (.tmp 16) 29 29 (by rfl) _ _ _ _ (by rfl) (by rfl) R2.out ?_; try simp only [Act.put, pS1, pS2, pS3])
    | fail)
  refine WAS.out.mono ?_
  rintro e w3 ⟨⟨c0, rfl, hst0, hcb0⟩, hb3⟩
  have hs3 := hb3.size
  have HB3 := hidd (HB2.out.trans (hb3.mono HB2.out.size))
  have hba := (Below.refl w3.heap.size w3).alloc (Nat.le_refl _) (.cells #[.slice c0.a c0.len c0.cap, .int .i64 (c0.cost : Int)] 44)
  have HB4 := hidd (HB3.out.trans (hba.mono HB3.out.size))
  have HB13 : Hid (Below (wr.heap.size + 1) (wr.alloc (.cells #[.int .i64 1, .int .i64 on, .int .i64 ok, .slice ta tl tc] 36)) w3) := HB12.out.trans (hb3.mono (by omega))
  have hs13 : wr.heap.size + 1 ≤ w3.heap.size := by have := HB12.out.size; omega
  obtain ⟨z2, z3⟩ := HX8.out w3 HB13.out
  have HB14 : Hid (Below (wr.heap.size + 1) (wr.alloc (.cells #[.int .i64 1, .int .i64 on, .int .i64 ok, .slice ta tl tc] 36)) (w3.alloc (.cells #[.slice c0.a c0.len c0.cap, .int .i64 (c0.cost : Int)] 44))) := HB13.out.trans (hba.mono hs13)
  obtain ⟨z4, z5⟩ := HX8.out _ HB14.out
  have HB24 : Hid (Below w2.heap.size w2 (w3.alloc (.cells #[.slice c0.a c0.len c0.cap, .int .i64 (c0.cost : Int)] 44))) := hb3.trans (hba.mono hs3)
  have hrow9 := heap_alloc_new w3 (.cells #[.slice c0.a c0.len c0.cap, .int .i64 (c0.cost : Int)] 44)
  obtain ⟨sv, cs, x, hL, hM⟩ := HH.out.lg
  have hL4 := hL.keep HB4.out.size fun b e => HB4.out.block b (hL.lt b e)
  have hcs := hL.recs.1
  have hbd := HH.out.bd.n
  have hbn := HH.out.bd.s L.now (.inl ((statesL_mem L _).2 (.inr rfl)))
  have CM := hidd (refCommitted (w3.alloc (.cells #[.slice c0.a c0.len c0.cap, .int .i64 (c0.cost : Int)] 44)) m sv cs x L hL4 (by omega) ta tl tc ts (HIN.out.rd.keep (hB.trans (HB4.out.mono hsz))) HIN.out.cap (HS.out.mono (by omega) (by omega)) (by omega) (by omega))
  have HX9 : Hid (∀ V, Below (w3.heap.size + 1) (w3.alloc (.cells #[.slice c0.a c0.len c0.cap, .int .i64 (c0.cost : Int)] 44)) V → V.cell? ⟨w3.heap.size, 0, none⟩ = some (.slice c0.a c0.len c0.cap) ∧ V.cell? ⟨w3.heap.size, 1, none⟩ = some (.int .i64 (c0.cost : Int)) ∧ V.frozen? ⟨w3.heap.size, 0, none⟩ = false ∧ V.frozen? ⟨w3.heap.size, 1, none⟩ = false ∧ V.heap[w3.heap.size]? = some (.cells #[.slice c0.a c0.len c0.cap, .int .i64 (c0.cost : Int)] 44 (0, 0))) := fun V hV => by
    have := (hV.block w3.heap.size (by omega)).trans hrow9
    exact ⟨by rw [cell_of_row _ _ 0 _ _ (0, 0) this]; rfl, by rw [cell_of_row _ _ 1 _ _ (0, 0) this]; rfl, frozen_of_row _ _ 0 _ _ this, frozen_of_row _ _ 1 _ _ this, this⟩
  unfold ptr at CM
  unfold SvT.v
  clear hL4 hL hM hst0 hcb0 hb3 hba hrow9
  go_wp2_with fail
  refine CM.out.mono ?_
  rintro e w5 ⟨⟨d, rfl, hst, hcb⟩, hb5⟩
  obtain ⟨u0, u1, u2, u3, u4⟩ := HX9.out w5 (hb5.mono (by rw [alloc_size]; exact Nat.le_refl _))
  clear CM
  obtain ⟨w6, H6⟩ : ∃ w, Hid (w = (w5.setCell ⟨w3.heap.size, 0, none⟩ (.slice d.a d.len d.cap)).setCell ⟨w3.heap.size, 1, none⟩ (.int .i64 (d.cost : Int))) := ⟨_, hidd rfl⟩
  have hs4 : (w3.alloc (.cells #[.slice c0.a c0.len c0.cap, .int .i64 (c0.cost : Int)] 44)).heap.size = w3.heap.size + 1 := alloc_size _ _
  have hs5 := hb5.size
  have hg6 : w5.grownBy w6 (some w3.heap.size) := by
    rw [H6.out]
    exact gr_trans (Lib.grownBy_setCell w5 w3.heap.size 0 _) (Lib.grownBy_setCell _ w3.heap.size 1 _)
  have hs6 : w6.heap.size = w5.heap.size := by rw [H6.out]; simp
  have HR6 : Hid (w6.heap[w3.heap.size]? = some (.cells #[.slice d.a d.len d.cap, .int .i64 (d.cost : Int)] 44 (0, 0))) := by
    show _ = _
    rw [H6.out, Go.heap_setCell_same _ w3.heap.size 1 _ _ _ (Go.heap_setCell_same w5 w3.heap.size 0 _ _ _ u4)]
    simp
  have HB5 := HB4.out.trans (hb5.mono HB4.out.size)
  have HB6 := hidd (HB5.grown hg6 HB5.size (fun b e => by have := Option.some.inj e; omega))
  have HB15 := HB14.out.trans (hb5.mono (by omega))
  have HB16 := hidd (HB15.grown hg6 (by omega) (fun b e => by have := Option.some.inj e; omega))
  have HST6 : Hid (StOf w6 d (committed L ts)) := hst.same (by omega) fun b e => hg6.block b (hst.recs.blk_lt b e) (fun e2 => by have := hcb b e; have := Option.some.inj e2; omega)
  have HDB : Hid (∀ b, TBlock d.a d.len b → wr.heap.size ≤ b ∧ b < w6.heap.size) := fun b e => ⟨by have := hcb b e; omega, by have := hst.recs.blk_lt b e; omega⟩
  have HB26 := hidd ((HB24.out.trans (hb5.mono (by omega))).grown hg6 (by omega) (fun b e => by have := Option.some.inj e; omega))
  have HR86 : Hid (w6.heap[wr.heap.size]? = some (.cells #[.int .i64 1, .int .i64 on, .int .i64 ok, .slice ta tl tc] 36 (0, 0))) := (HB16.out.block wr.heap.size (by omega)).trans HROW8.out
  have HGN : Hid (wr.heap.size ≤ w3.heap.size ∧ w3.heap.size < w6.heap.size ∧ wr.heap.size < w6.heap.size) := ⟨by omega, by omega, by omega⟩
  unfold SvT.v
  clear hst hcb hb5 hg6 HB5 HB15
  go_wp2_with fail
  rw [← H6.out]
  clear H6 u0 u1 u2 u3 u4 hs3 hs4 hs5 hs6
  have hX6 : ∀ b, (M b ∨ (wr.heap.size ≤ b ∧ b < w6.heap.size)) → b < w6.heap.size := fun b e => by
    rcases e with e | e
    · have := hMl b e; have := HGN.out; omega
    · exact e.2
  have hsa := HB6.out.size
  have hlv6 := HH.out.lv.more (Y := fun b => M b ∨ (wr.heap.size ≤ b ∧ b < w6.heap.size)) dk wl hsa (hB.trans (HB6.out.mono hsz)) (fun b hl _ => HB6.out.block b hl) (fun b e => by
    rcases e with e | e
    · exact .inl e
    · exact .inr (.inl e.1))
  have CO := hidd (lvx_commit dk wl (fun b => M b ∨ (wr.heap.size ≤ b ∧ b < w6.heap.size)) W w6 p q f r D L hlv6 hX6 (by have := HH.out.puts; omega) a2 tl c2 ts (HT2.out.keep HB26.out) HS.out HK2.out (fun b e => .inr (.inr ⟨HOB.out b e, by have := HT2.out.blk_lt b e; have := HB26.out.size; omega⟩)))
  unfold ptr at CO
  refine CO.out.mono ?_
  rintro e w7 ⟨n, D', L', rfl, hch, hwd, hlv, hsz7, hsm⟩
  have HR7 := hidd ((hsm w3.heap.size (.inr ⟨HGN.out.1, HGN.out.2.1⟩)).trans HR6.out)
  have HR87 := hidd ((hsm wr.heap.size (.inr ⟨Nat.le_refl _, HGN.out.2.2⟩)).trans HR86.out)
  have v0 : w7.cell? ⟨wr.heap.size, 0, none⟩ = some (.int .i64 1) := by rw [cell_of_row _ _ 0 _ _ (0, 0) HR87.out]; rfl
  have v3 : w7.cell? ⟨wr.heap.size, 3, none⟩ = some (.slice ta tl tc) := by rw [cell_of_row _ _ 3 _ _ (0, 0) HR87.out]; rfl
  have g0 : w7.cell? ⟨w3.heap.size, 0, none⟩ = some (.slice d.a d.len d.cap) := by rw [cell_of_row _ _ 0 _ _ (0, 0) HR7.out]; rfl
  have g1 : w7.cell? ⟨w3.heap.size, 1, none⟩ = some (.int .i64 (d.cost : Int)) := by rw [cell_of_row _ _ 1 _ _ (0, 0) HR7.out]; rfl
  have HLG : Hid (LogAt w7 m L M) := HH.out.lg.keep (by omega) fun b e => (hsm b (.inl e)).trans (HB6.out.block b (hMl b e))
  have HST7 : Hid (StOf w7 d (committed L ts)) := HST6.out.same hsz7 fun b e => hsm b (.inr (HDB.out b e))
  have BT := hidd (refBatch_any ta tl tc ts w7 (HIN.out.rd.keep hlv.w.b) (by unfold maxLen; omega) (fun s hs => by have := HS.out.2 s hs; unfold maxLen; omega))
  have HLV7 := hidd hlv
  have HWD := hidd hwd
  have hcl := costN_le HS.out.2
  have hbn2 := HH.out.bd.s L.now (.inl ((statesL_mem L _).2 (.inr rfl)))
  have HNB : Hid ((committed L ts).recs.length ≤ 30 * (k + 1) ∧ (committed L ts).cost ≤ 200000 * (k + 1)) := by
    refine ⟨?_, ?_⟩
    · show (L.now.recs ++ ts).length ≤ _
      rw [List.length_append]; omega
    · show L.now.cost + costN ts ≤ _
      omega
  have HRUN : Hid (∀ (w9 : World) (L9 : LgT) (M9 : Nat → Prop), LvX At WM WP M9 W w9 p q f r D' L9 → LogAt w9 m L9 M9 → (∀ b, M9 b → W.heap.size ≤ b) → BdL (k + 1) L9 → RunS At WM WP W w9 p q m f r (k + 1) D' L9 M9) := fun w9 L9 M9 k1 k2 k3 k4 => ⟨k1, k2, k3, k4, HWD.out.room.trans HH.out.room, by have := HWD.out.puts; have := HH.out.puts; omega⟩
  have HLVM : Hid (∀ Lx, LvX At WM WP (fun b => M b ∨ (wr.heap.size ≤ b ∧ b < w6.heap.size)) W w7 p q f r D' Lx → LvX At WM WP M W w7 p q f r D' Lx) := fun Lx h => h.more dk wl (Nat.le_refl _) h.w.b (fun _ _ _ => rfl) (fun b e => .inl (.inl e))
  clear hlv hlv6 hX6 hwd hsm CO hcl hbn2 z1 z2 z3 z4 z5 y1 y2 HB2 HB3 HB12 HB13 HB14 HB24 hsa
  rcases hch with ⟨hb0, rfl, rfl⟩ | ⟨hb1, hch⟩
  · rw [hb0] at BT
    have HF := hidd (HRUN.out w7 L' M (HLVM.out _ HLV7.out) HLG.out HH.out.mb HH.out.bd.next)
    go_wp2_with fail
    refine BT.out.mono ?_
    rintro e _ ⟨rfl, rfl⟩
    go_wp2
    go_ret
    exact ⟨rfl, _, _, _, HF.out⟩
  · rw [hb1] at BT
    rcases hch with ⟨rfl, hL'⟩ | ⟨rfl, hdn, rfl⟩ | ⟨rfl, rfl, hfull⟩
    · rw [if_neg (by decide)] at hL'
      subst hL'
      have TO := hidd (refTo w7 m L M HLG.out (by have := HH.out.bd.n; omega) d (committed L ts) HST7.out (fun b e e2 => by have := (HDB.out b e).1; have := hMl b e2; omega) 0)
      unfold ptr SvT.v at TO
      have HBD : Hid (BdL (k + 1) (toL L (committed L ts) 0)) := HH.out.bd.to _ HNB.out _
      go_wp2_with fail
      refine BT.out.mono ?_
      rintro e _ ⟨rfl, rfl⟩
      go_wp2_with fail
      refine TO.out.mono ?_
      rintro e w8 ⟨⟨v, rfl⟩, ⟨M8, hlg8, hM8⟩, haw⟩
      have hs8 := haw.size
      have HV8 := hidd (HLV7.out.more (Y := M8) dk wl hs8 (haw.below HLV7.out.w.b HLV7.out.w.b.size HH.out.mb) (fun b hl hX => haw.block b hl fun e => hX (.inl e)) (fun b e => by
        rcases hM8 b e with e | e | e
        · exact .inl (.inl e)
        · exact .inl (.inr (HDB.out b e))
        · exact .inr (.inl e)))
      have hr88 : w8.heap[wr.heap.size]? = _ := (haw.block wr.heap.size (by have := HGN.out; omega) (fun e => by have := hMl _ e; omega)).trans HR87.out
      have x0 : w8.cell? ⟨wr.heap.size, 0, none⟩ = some (.int .i64 1) := by rw [cell_of_row _ _ 0 _ _ (0, 0) hr88]; rfl
      have HMB8 : Hid (∀ b, M8 b → W.heap.size ≤ b) := fun b e => by
        rcases hM8 b e with e | e | e
        · exact HH.out.mb b e
        · have := (HDB.out b e).1; omega
        · have := HLV7.out.w.b.size; omega
      have HLG8 := hidd hlg8
      clear TO hM8 haw hr88 hlg8
      have FA := hidd (fair_any dk W w8 p D' HV8.out.w.disk 0 (.inl rfl))
      unfold ptr at FA
      go_wp2_with fail
      refine FA.out.mono ?_
      rintro e wz ⟨rfl, hbz⟩
      have HF := hidd (HRUN.out wz _ M8 (HV8.out.below dk wl hbz) (HLG8.out.below hbz) HMB8.out HBD.out)
      go_wp2
      go_ret
      exact ⟨rfl, _, _, _, HF.out⟩

    · have TO := hidd (refTo w7 m L M HLG.out (by have := HH.out.bd.n; omega) d (committed L ts) HST7.out (fun b e e2 => by have := (HDB.out b e).1; have := hMl b e2; omega) 80)
      unfold ptr SvT.v at TO
      have HBD : Hid (BdL (k + 1) (toL L (committed L ts) 80)) := HH.out.bd.to _ HNB.out _
      go_wp2_with fail
      refine BT.out.mono ?_
      rintro e _ ⟨rfl, rfl⟩
      go_wp2_with fail
      refine TO.out.mono ?_
      rintro e w8 ⟨⟨v, rfl⟩, ⟨M8, hlg8, hM8⟩, haw⟩
      have hs8 := haw.size
      have HV8 := hidd (HLV7.out.more (Y := M8) dk wl hs8 (haw.below HLV7.out.w.b HLV7.out.w.b.size HH.out.mb) (fun b hl hX => haw.block b hl fun e => hX (.inl e)) (fun b e => by
        rcases hM8 b e with e | e | e
        · exact .inl (.inl e)
        · exact .inl (.inr (HDB.out b e))
        · exact .inr (.inl e)))
      have hr88 : w8.heap[wr.heap.size]? = _ := (haw.block wr.heap.size (by have := HGN.out; omega) (fun e => by have := hMl _ e; omega)).trans HR87.out
      have x0 : w8.cell? ⟨wr.heap.size, 0, none⟩ = some (.int .i64 1) := by rw [cell_of_row _ _ 0 _ _ (0, 0) hr88]; rfl
      have HMB8 : Hid (∀ b, M8 b → W.heap.size ≤ b) := fun b e => by
        rcases hM8 b e with e | e | e
        · exact HH.out.mb b e
        · have := (HDB.out b e).1; omega
        · have := HLV7.out.w.b.size; omega
      have HLG8 := hidd hlg8
      clear TO hM8 haw hr88 hlg8
      have FA := hidd (fair_any dk W w8 p D' HV8.out.w.disk 80 (.inr ⟨rfl, hdn⟩))
      unfold ptr at FA
      go_wp2_with fail
      refine FA.out.mono ?_
      rintro e wz ⟨rfl, hbz⟩
      have HF := hidd (HRUN.out wz _ M8 (HV8.out.below dk wl hbz) (HLG8.out.below hbz) HMB8.out HBD.out)
      go_wp2
      go_ret
      exact ⟨rfl, _, _, _, HF.out⟩

    · have HF := hidd (HRUN.out w7 L' M (HLVM.out _ HLV7.out) HLG.out HH.out.mb HH.out.bd.next)
      have hdc := HST7.out.cost
      go_wp2_with fail
      refine BT.out.mono ?_
      rintro e _ ⟨rfl, rfl⟩
      go_wp2
      go_ret
      refine ⟨?_, _, _, _, HF.out⟩
      rw [decide_eq_true (by omega)]
      rfl
set_option maxHeartbeats 16000000 in
theorem change3 (dk : DiskC At) (wl : WalC At WM WP PA) (W wr : World) (p q m f r k : Nat) (D : DkT) (L : LgT) (M : Nat → Prop) (h : RunS At WM WP W wr p q m f r k D L M) (hk : k ≤ 60) (hr : r ≤ 1000000) (on ok : Int) (ta : Option Addr) (tl tc : Nat) (ts : List ByteArray) (hin : InT W ⟨ta, tl, tc, ts⟩) (hs : Small 30 5000 ts) :
    Calls Tryd.prog 15 #[ptr p, ptr q, ptr m, .agg #[.int .i64 3, .int .i64 on, .int .i64 ok, .slice ta tl tc], .int .i64 (r : Int)] wr fun e w' => e = .returned (.bool true) ∧ ∃ D' L' M', RunS At WM WP W w' p q m f r (k + 1) D' L' M' := by
  have hB := h.lv.w.b
  have htl : ts.length = tl := hin.rd.1
  have hsl := hs.1
  have hsz := hB.size
  have hMl : ∀ b, M b → b < wr.heap.size := h.lg.lt
  have hb1 : Below wr.heap.size wr (wr.alloc (.cells #[.int .i64 3, .int .i64 on, .int .i64 ok, .slice ta tl tc] 36)) := (Below.refl _ _).alloc (Nat.le_refl _) _
  have hbW1 := hB.trans (hb1.mono hsz)
  have hrow8 := heap_alloc_new wr (.cells #[.int .i64 3, .int .i64 on, .int .i64 ok, .slice ta tl tc] 36)
  obtain ⟨v2, w2, r2, o2, g2, hv2⟩ := run_append_texts2 (hin.rd.keep hbW1) hin.cap wr.heap.size 0 (.slice none 0 0) [] (World.ownsRow_nil _ _ _ _) hb1.size (by dsimp only; omega)
  dsimp only at r2 o2 g2
  rw [Nat.zero_add, List.nil_append] at o2
  obtain ⟨a2, c2, rfl, t2, k2, _, b2⟩ := texts_own o2
  have hs2 := g2.size
  have hb2 : Below wr.heap.size wr w2 := hb1.grown g2 hb1.size (fun b e => by cases e)
  have hbW2 := hB.trans (hb2.mono hsz)
  have WAS := hidd (refWasL ta tl tc ts w2 (hin.rd.keep hbW2) hin.cap (hs.mono (by omega) (by omega)))
  have R2 := hidd r2
  have HT2 := hidd t2
  have HIN := hidd hin
  have HS := hidd hs
  have HH := hidd h
  have HX8 : Hid (∀ V, Below (wr.heap.size + 1) (wr.alloc (.cells #[.int .i64 3, .int .i64 on, .int .i64 ok, .slice ta tl tc] 36)) V → V.cell? ⟨wr.heap.size, 0, none⟩ = some (.int .i64 3) ∧ V.cell? ⟨wr.heap.size, 3, none⟩ = some (.slice ta tl tc)) := fun V hV => by
    have := (hV.block wr.heap.size (by omega)).trans hrow8
    exact ⟨by rw [cell_of_row _ _ 0 _ _ (0, 0) this]; rfl, by rw [cell_of_row _ _ 3 _ _ (0, 0) this]; rfl⟩
  have hs1 : (wr.alloc (.cells #[.int .i64 3, .int .i64 on, .int .i64 ok, .slice ta tl tc] 36)).heap.size = wr.heap.size + 1 := by simp
  have HB12 : Hid (Below (wr.heap.size + 1) (wr.alloc (.cells #[.int .i64 3, .int .i64 on, .int .i64 ok, .slice ta tl tc] 36)) w2) := (Below.refl _ _).grown g2 (by omega) (fun b e => by cases e)
  obtain ⟨y1, y2⟩ := HX8.out _ (Below.refl _ _)
  have z1 := HX8.out w2 HB12.out
  have HB2 := hidd hb2
  have HK2 := hidd k2
  have HOB : Hid (∀ b, TBlock a2 tl b → wr.heap.size ≤ b) := fun b e => (b2 b e).1
  have HROW8 := hidd hrow8
  clear r2 t2 o2 g2 hv2 hs hin h b2 hrow8 hb1 hbW1 hb2 hbW2 k2
  unfold ptr
  go_enter Tryd.func15, Tryd.ntmps15
  go_wp2_with (first
    | ((with_reducible show wpList _ _ _ ({ dst := some 17, op := _, type := _, pos := _, after := _, guard := _ } :: _) _ _); refine wpList_append_run (by rfl) (.tmp 14) (.tmp 16) 29 29 (by rfl) _ _ _ _ (by rfl) (by rfl) R2.out ?_; try simp only [Act.put, pS1, pS2, pS3])
    | fail)
  refine WAS.out.mono ?_
  rintro e w3 ⟨⟨d, rfl, hst0, hcb0⟩, hb3⟩
  have hs3 := hb3.size
  have HB3 := hidd (HB2.out.trans (hb3.mono HB2.out.size))
  have hba := (Below.refl w3.heap.size w3).alloc (Nat.le_refl _) (.cells #[.slice d.a d.len d.cap, .int .i64 (d.cost : Int)] 44)
  have HB4 := hidd (HB3.out.trans (hba.mono HB3.out.size))
  have HB13 : Hid (Below (wr.heap.size + 1) (wr.alloc (.cells #[.int .i64 3, .int .i64 on, .int .i64 ok, .slice ta tl tc] 36)) w3) := HB12.out.trans (hb3.mono (by omega))
  have hs13 : wr.heap.size + 1 ≤ w3.heap.size := by have := HB12.out.size; omega
  obtain ⟨z2, z3⟩ := HX8.out w3 HB13.out
  have HB14 : Hid (Below (wr.heap.size + 1) (wr.alloc (.cells #[.int .i64 3, .int .i64 on, .int .i64 ok, .slice ta tl tc] 36)) (w3.alloc (.cells #[.slice d.a d.len d.cap, .int .i64 (d.cost : Int)] 44))) := HB13.out.trans (hba.mono hs13)
  obtain ⟨z4, z5⟩ := HX8.out _ HB14.out
  have HB24 : Hid (Below w2.heap.size w2 (w3.alloc (.cells #[.slice d.a d.len d.cap, .int .i64 (d.cost : Int)] 44))) := hb3.trans (hba.mono hs3)
  have hrow9 := heap_alloc_new w3 (.cells #[.slice d.a d.len d.cap, .int .i64 (d.cost : Int)] 44)
  obtain ⟨w6, H6⟩ : ∃ w, Hid (w = w3.alloc (.cells #[.slice d.a d.len d.cap, .int .i64 (d.cost : Int)] 44)) := ⟨_, hidd rfl⟩
  have hs4 : (w3.alloc (.cells #[.slice d.a d.len d.cap, .int .i64 (d.cost : Int)] 44)).heap.size = w3.heap.size + 1 := alloc_size _ _
  unfold SvT.v
  rw [← H6.out] at HB4 HB14 HB24 hba hs4 hrow9
  have HR6 : Hid (w6.heap[w3.heap.size]? = some (.cells #[.slice d.a d.len d.cap, .int .i64 (d.cost : Int)] 44 (0, 0))) := hrow9
  have HB6 := hidd HB4.out
  have HST6 : Hid (StOf w6 d (wasS ts)) := hst0.below hba
  have HDB : Hid (∀ b, TBlock d.a d.len b → wr.heap.size ≤ b ∧ b < w6.heap.size) := fun b e => ⟨by have := hcb0 b e; omega, by have := hst0.recs.blk_lt b e; omega⟩
  have HB26 := hidd HB24.out
  have HR86 : Hid (w6.heap[wr.heap.size]? = some (.cells #[.int .i64 3, .int .i64 on, .int .i64 ok, .slice ta tl tc] 36 (0, 0))) := (HB14.out.block wr.heap.size (by omega)).trans HROW8.out
  have HGN : Hid (wr.heap.size ≤ w3.heap.size ∧ w3.heap.size < w6.heap.size ∧ wr.heap.size < w6.heap.size) := ⟨by omega, by omega, by omega⟩
  clear hst0 hcb0 hb3 hba hrow9
  go_wp2_with fail
  rw [← H6.out]
  clear H6 hs3 hs4
  have hX6 : ∀ b, (M b ∨ (wr.heap.size ≤ b ∧ b < w6.heap.size)) → b < w6.heap.size := fun b e => by
    rcases e with e | e
    · have := hMl b e; have := HGN.out; omega
    · exact e.2
  have hsa := HB6.out.size
  have hlv6 := HH.out.lv.more (Y := fun b => M b ∨ (wr.heap.size ≤ b ∧ b < w6.heap.size)) dk wl hsa (hB.trans (HB6.out.mono hsz)) (fun b hl _ => HB6.out.block b hl) (fun b e => by
    rcases e with e | e
    · exact .inl e
    · exact .inr (.inl e.1))
  have CO := hidd (lvx_reset dk wl (fun b => M b ∨ (wr.heap.size ≤ b ∧ b < w6.heap.size)) W w6 p q f r D L hlv6 hX6 (by have := HH.out.puts; omega) a2 tl c2 ts (HT2.out.keep HB26.out) HS.out HK2.out (fun b e => .inr (.inr ⟨HOB.out b e, by have := HT2.out.blk_lt b e; have := HB26.out.size; omega⟩)))
  unfold ptr at CO
  refine CO.out.mono ?_
  rintro e w7 ⟨n, D', L', rfl, hch, hwd, hlv, hsz7, hsm⟩
  have HR7 := hidd ((hsm w3.heap.size (.inr ⟨HGN.out.1, HGN.out.2.1⟩)).trans HR6.out)
  have HR87 := hidd ((hsm wr.heap.size (.inr ⟨Nat.le_refl _, HGN.out.2.2⟩)).trans HR86.out)
  have v0 : w7.cell? ⟨wr.heap.size, 0, none⟩ = some (.int .i64 3) := by rw [cell_of_row _ _ 0 _ _ (0, 0) HR87.out]; rfl
  have v3 : w7.cell? ⟨wr.heap.size, 3, none⟩ = some (.slice ta tl tc) := by rw [cell_of_row _ _ 3 _ _ (0, 0) HR87.out]; rfl
  have g0 : w7.cell? ⟨w3.heap.size, 0, none⟩ = some (.slice d.a d.len d.cap) := by rw [cell_of_row _ _ 0 _ _ (0, 0) HR7.out]; rfl
  have g1 : w7.cell? ⟨w3.heap.size, 1, none⟩ = some (.int .i64 (d.cost : Int)) := by rw [cell_of_row _ _ 1 _ _ (0, 0) HR7.out]; rfl
  have HLG : Hid (LogAt w7 m L M) := HH.out.lg.keep (by omega) fun b e => (hsm b (.inl e)).trans (HB6.out.block b (hMl b e))
  have HST7 : Hid (StOf w7 d (wasS ts)) := HST6.out.same hsz7 fun b e => hsm b (.inr (HDB.out b e))
  have BT := hidd (refBatch_any ta tl tc ts w7 (HIN.out.rd.keep hlv.w.b) (by unfold maxLen; omega) (fun s hs => by have := HS.out.2 s hs; unfold maxLen; omega))
  have HLV7 := hidd hlv
  have HWD := hidd hwd
  have hcl := costN_le HS.out.2
  have hbn2 := HH.out.bd.s L.now (.inl ((statesL_mem L _).2 (.inr rfl)))
  have HNB : Hid ((wasS ts).recs.length ≤ 30 * (k + 1) ∧ (wasS ts).cost ≤ 200000 * (k + 1)) := by
    refine ⟨?_, ?_⟩
    · show (ts).length ≤ _
      omega
    · show costN ts ≤ _
      omega
  have HRUN : Hid (∀ (w9 : World) (L9 : LgT) (M9 : Nat → Prop), LvX At WM WP M9 W w9 p q f r D' L9 → LogAt w9 m L9 M9 → (∀ b, M9 b → W.heap.size ≤ b) → BdL (k + 1) L9 → RunS At WM WP W w9 p q m f r (k + 1) D' L9 M9) := fun w9 L9 M9 k1 k2 k3 k4 => ⟨k1, k2, k3, k4, HWD.out.room.trans HH.out.room, by have := HWD.out.puts; have := HH.out.puts; omega⟩
  have HLVM : Hid (∀ Lx, LvX At WM WP (fun b => M b ∨ (wr.heap.size ≤ b ∧ b < w6.heap.size)) W w7 p q f r D' Lx → LvX At WM WP M W w7 p q f r D' Lx) := fun Lx h => h.more dk wl (Nat.le_refl _) h.w.b (fun _ _ _ => rfl) (fun b e => .inl (.inl e))
  clear hlv hlv6 hX6 hwd hsm CO hcl hbn2 z1 z2 z3 z4 z5 y1 y2 HB2 HB3 HB12 HB13 HB14 HB24 hsa
  rcases hch with ⟨hb0, rfl, rfl⟩ | ⟨hb1, hch⟩
  · rw [hb0] at BT
    have HF := hidd (HRUN.out w7 L' M (HLVM.out _ HLV7.out) HLG.out HH.out.mb HH.out.bd.next)
    go_wp2_with fail
    refine BT.out.mono ?_
    rintro e _ ⟨rfl, rfl⟩
    go_wp2
    go_ret
    exact ⟨rfl, _, _, _, HF.out⟩
  · rw [hb1] at BT
    rcases hch with ⟨rfl, hL'⟩ | ⟨rfl, hdn, rfl⟩ | ⟨rfl, rfl, hfull⟩
    · rw [if_pos rfl] at hL'
      subst hL'
      have TO := hidd (refTo w7 m L M HLG.out (by have := HH.out.bd.n; omega) d (wasS ts) HST7.out (fun b e e2 => by have := (HDB.out b e).1; have := hMl b e2; omega) 0)
      unfold ptr SvT.v at TO
      have HBD : Hid (BdL (k + 1) (toL L (wasS ts) 0)) := HH.out.bd.to _ HNB.out _
      go_wp2_with fail
      refine BT.out.mono ?_
      rintro e _ ⟨rfl, rfl⟩
      go_wp2_with fail
      refine TO.out.mono ?_
      rintro e w8 ⟨⟨v, rfl⟩, ⟨M8, hlg8, hM8⟩, haw⟩
      have hs8 := haw.size
      have HV8 := hidd (HLV7.out.more (Y := M8) dk wl hs8 (haw.below HLV7.out.w.b HLV7.out.w.b.size HH.out.mb) (fun b hl hX => haw.block b hl fun e => hX (.inl e)) (fun b e => by
        rcases hM8 b e with e | e | e
        · exact .inl (.inl e)
        · exact .inl (.inr (HDB.out b e))
        · exact .inr (.inl e)))
      have hr88 : w8.heap[wr.heap.size]? = _ := (haw.block wr.heap.size (by have := HGN.out; omega) (fun e => by have := hMl _ e; omega)).trans HR87.out
      have x0 : w8.cell? ⟨wr.heap.size, 0, none⟩ = some (.int .i64 3) := by rw [cell_of_row _ _ 0 _ _ (0, 0) hr88]; rfl
      have HMB8 : Hid (∀ b, M8 b → W.heap.size ≤ b) := fun b e => by
        rcases hM8 b e with e | e | e
        · exact HH.out.mb b e
        · have := (HDB.out b e).1; omega
        · have := HLV7.out.w.b.size; omega
      have HLG8 := hidd hlg8
      clear TO hM8 haw hr88 hlg8
      have SY := hidd (refSynced w8 m (toL L (wasS ts) 0) M8 HLG8.out (by have := HBD.out.n; omega))
      unfold ptr at SY
      go_wp2_with fail
      refine SY.out.mono ?_
      rintro e w9 ⟨⟨v9, rfl⟩, ⟨M9, hlg9, hM9⟩, haw⟩
      have hs9 := haw.size
      have HV9 := hidd (HV8.out.more (Y := M9) dk wl hs9 (haw.below HV8.out.w.b HV8.out.w.b.size HMB8.out) (fun b hl hX => haw.block b hl hX) (fun b e => by
        rcases hM9 b e with e | e | e
        · exact .inl e
        · exact e.elim
        · exact .inr (.inl e)))
      have HMB9 : Hid (∀ b, M9 b → W.heap.size ≤ b) := fun b e => by
        rcases hM9 b e with e | e | e
        · exact HMB8.out b e
        · exact e.elim
        · have := HV8.out.w.b.size; omega
      have HLG9 := hidd hlg9
      have HBD9 : Hid (BdL (k + 1) (syncedL (toL L (wasS ts) 0))) := HBD.out.synced
      clear SY hM9 haw hlg9
      have FA := hidd (fair_any dk W w9 p D' HV9.out.w.disk 0 (.inl rfl))
      unfold ptr at FA
      go_wp2_with fail
      refine FA.out.mono ?_
      rintro e wz ⟨rfl, hbz⟩
      have HF := hidd (HRUN.out wz _ M9 (HV9.out.below dk wl hbz) (HLG9.out.below hbz) HMB9.out HBD9.out)
      go_wp2
      go_ret
      exact ⟨rfl, _, _, _, HF.out⟩

    · have TO := hidd (refTo w7 m L M HLG.out (by have := HH.out.bd.n; omega) d (wasS ts) HST7.out (fun b e e2 => by have := (HDB.out b e).1; have := hMl b e2; omega) 80)
      unfold ptr SvT.v at TO
      have HBD : Hid (BdL (k + 1) (toL L (wasS ts) 80)) := HH.out.bd.to _ HNB.out _
      go_wp2_with fail
      refine BT.out.mono ?_
      rintro e _ ⟨rfl, rfl⟩
      go_wp2_with fail
      refine TO.out.mono ?_
      rintro e w8 ⟨⟨v, rfl⟩, ⟨M8, hlg8, hM8⟩, haw⟩
      have hs8 := haw.size
      have HV8 := hidd (HLV7.out.more (Y := M8) dk wl hs8 (haw.below HLV7.out.w.b HLV7.out.w.b.size HH.out.mb) (fun b hl hX => haw.block b hl fun e => hX (.inl e)) (fun b e => by
        rcases hM8 b e with e | e | e
        · exact .inl (.inl e)
        · exact .inl (.inr (HDB.out b e))
        · exact .inr (.inl e)))
      have hr88 : w8.heap[wr.heap.size]? = _ := (haw.block wr.heap.size (by have := HGN.out; omega) (fun e => by have := hMl _ e; omega)).trans HR87.out
      have x0 : w8.cell? ⟨wr.heap.size, 0, none⟩ = some (.int .i64 3) := by rw [cell_of_row _ _ 0 _ _ (0, 0) hr88]; rfl
      have HMB8 : Hid (∀ b, M8 b → W.heap.size ≤ b) := fun b e => by
        rcases hM8 b e with e | e | e
        · exact HH.out.mb b e
        · have := (HDB.out b e).1; omega
        · have := HLV7.out.w.b.size; omega
      have HLG8 := hidd hlg8
      clear TO hM8 haw hr88 hlg8
      have FA := hidd (fair_any dk W w8 p D' HV8.out.w.disk 80 (.inr ⟨rfl, hdn⟩))
      unfold ptr at FA
      go_wp2_with fail
      refine FA.out.mono ?_
      rintro e wz ⟨rfl, hbz⟩
      have HF := hidd (HRUN.out wz _ M8 (HV8.out.below dk wl hbz) (HLG8.out.below hbz) HMB8.out HBD.out)
      go_wp2
      go_ret
      exact ⟨rfl, _, _, _, HF.out⟩

    · have HF := hidd (HRUN.out w7 L' M (HLVM.out _ HLV7.out) HLG.out HH.out.mb HH.out.bd.next)
      have hdc := HST7.out.cost
      go_wp2_with fail
      refine BT.out.mono ?_
      rintro e _ ⟨rfl, rfl⟩
      go_wp2
      go_ret
      refine ⟨?_, _, _, _, HF.out⟩
      rw [decide_eq_true (by omega)]
      rfl
end Go.Proofs.YtdnnhmihigdnkaaDoor

/- The statements' opened. -/
namespace Go.Proofs.YtdnnhmihigdnkaaDoor
open Go.RowKit Nums
set_option linter.unusedVariables false
set_option linter.unusedSimpArgs false
set_option maxRecDepth 100000
variable {At : World → Nat → DkT → (Nat → Prop) → Prop} {Vt : Type} {WM : World → Nat → Nat → Nat → Nat → Vt → (Nat → Prop) → Prop} {WP : Nat → Nat → Vt → DkT → LgT → Prop} {PA : Nat → Nat → DkT → LgT → Bool → Prop}
theorem dearer_in (r : List ByteArray) (x s : StT) : dearer r x s = x ∨ dearer r x s = s := by
  unfold dearer
  split
  · exact .inr rfl
  · exact .inl rfl
theorem dearer_foldin (r : List ByteArray) : ∀ (l : List StT) (x : StT), l.foldl (dearer r) x = x ∨ l.foldl (dearer r) x ∈ l
  | [], x => .inl rfl
  | s :: t, x => by
    show t.foldl (dearer r) (dearer r x s) = x ∨ t.foldl (dearer r) (dearer r x s) ∈ s :: t
    rcases dearer_foldin r t (dearer r x s) with e | e
    · rw [e]
      rcases dearer_in r x s with e | e
      · exact .inl e
      · rw [e]; exact .inr (List.mem_cons_self ..)
    · exact .inr (List.mem_cons_of_mem _ e)
theorem pickS_in (L : LgT) (r : List ByteArray) (c : Bool) : (pickS L r c).1 ∈ statesL L ∨ (pickS L r c).1 = L.may := by
  have hn : L.now ∈ statesL L := (statesL_mem L _).2 (.inr rfl)
  unfold pickS
  split
  · exact .inl hn
  · split
    · split
      · rename_i s hs
        exact .inl (findS_some hs).1
      · split
        · exact .inr rfl
        · exact .inl hn
    · exact .inl hn
theorem opensX_in (L : LgT) (r : List ByteArray) (c : Bool) : opensX L r c ∈ statesL L ∨ opensX L r c = L.may := by
  have hp := pickS_in L r c
  have hf : (statesL L).foldl (dearer r) (pickS L r c).1 ∈ statesL L ∨ (statesL L).foldl (dearer r) (pickS L r c).1 = L.may := by
    rcases dearer_foldin r (statesL L) (pickS L r c).1 with e | e
    · rw [e]; exact hp
    · exact .inl e
  unfold opensX
  split
  · dsimp only
    split
    · rcases dearer_in r ((statesL L).foldl (dearer r) (pickS L r c).1) L.may with e | e
      · rw [e]; exact hf
      · exact .inr e
    · exact hf
  · exact hp
theorem BdL.opens {k : Nat} {L : LgT} (h : BdL k L) {r : List ByteArray} {c : Bool} : BdL (k + 1) (opensL L r c) := by
  refine ⟨by show 1 ≤ k + 1 + 1; omega, fun s hs => ?_⟩
  have hs' : s ∈ statesL L ∨ s = L.may := by
    rcases hs with hs | hs
    · have e : s = opensX L r c := by
        have : s ∈ [opensX L r c] := hs
        simpa using this
      rw [e]; exact opensX_in L r c
    · exact .inr hs
  have := h.s s hs'
  omega
set_option maxHeartbeats 16000000 in
theorem opened5 (dk : DiskC At) (wl : WalC At WM WP PA) (W : World) (TB : TabW W) (wr : World) (p q m f r k : Nat) (D : DkT) (L : LgT) (M : Nat → Prop) (h : RunS At WM WP W wr p q m f r k D L M) (hk : k ≤ 60) (h1 : 64 ≤ r ∧ r ≤ 1000000) (h2 : f + r ≤ 2000) (on ok : Int) (hon : In64 on) (hok : In64 ok) (ta : Option Addr) (tl tc : Nat) :
    Calls Tryd.prog 20 #[ptr p, ptr m, .agg #[.int .i64 5, .int .i64 on, .int .i64 ok, .slice ta tl tc], .int .i64 (f : Int), .int .i64 (r : Int)] wr fun e w' => ∃ q', e = .returned (ptr q') ∧ ∃ D' L' M', RunS At WM WP W w' p q' m f r (k + 1) D' L' M' := by
  have hB := h.lv.w.b
  have hsz := hB.size
  have hb1 : Below wr.heap.size wr (wr.alloc (.cells #[.int .i64 5, .int .i64 on, .int .i64 ok, .slice ta tl tc] 36)) := (Below.refl _ _).alloc (Nat.le_refl _) _
  have HR8 : Hid ((wr.alloc (.cells #[.int .i64 5, .int .i64 on, .int .i64 ok, .slice ta tl tc] 36)).heap[wr.heap.size]? = some (.cells #[.int .i64 5, .int .i64 on, .int .i64 ok, .slice ta tl tc] 36 (0, 0))) := heap_alloc_new wr (.cells #[.int .i64 5, .int .i64 on, .int .i64 ok, .slice ta tl tc] 36)
  have HLG := hidd (h.lg.below hb1)
  have hv1 := h.lv.more (Y := (fun b => M b ∨ b = wr.heap.size)) dk wl hb1.size (hB.trans (hb1.mono hsz)) (fun b hl _ => hb1.block b hl) (fun b e => by
    rcases e with e | e
    · exact .inl e
    · exact .inr (.inl (by omega)))
  have HH := hidd h
  have bD := h.puts
  have rD := h.room
  obtain ⟨w1, H1⟩ : ∃ w, Hid (w = wr.alloc (.cells #[.int .i64 5, .int .i64 on, .int .i64 ok, .slice ta tl tc] 36)) := ⟨_, hidd rfl⟩
  rw [← H1.out] at HR8 HLG hv1
  have c0 : w1.cell? ⟨wr.heap.size, 0, none⟩ = some (.int .i64 5) := by rw [cell_of_row _ _ 0 _ _ (0, 0) HR8.out]; rfl
  have c1 : w1.cell? ⟨wr.heap.size, 1, none⟩ = some (.int .i64 on) := by rw [cell_of_row _ _ 1 _ _ (0, 0) HR8.out]; rfl
  have c2 : w1.cell? ⟨wr.heap.size, 2, none⟩ = some (.int .i64 ok) := by rw [cell_of_row _ _ 2 _ _ (0, 0) HR8.out]; rfl
  rw [H1.out] at c0 c1 c2
  clear h hb1
  have CR := hidd (dx_crash dk (fun b => M b ∨ b = wr.heap.size) W w1 p D hv1.dx (fun b e => by rcases e with e | rfl; exact HLG.out.lt b e; exact heap_lt HR8.out) (by omega) ok on hok hon)
  have PP := hidd (lvw_crashP dk wl hv1.w ok on)
  obtain ⟨e0, e1, e2⟩ := crash_room (hv1.w.disk.ok dk) ok on
  unfold ptr at CR
  clear hv1
  unfold ptr
  go_enter Tryd.func20, Tryd.ntmps20
  go_wp2_with fail
  rw [← H1.out]
  rw [← H1.out] at c0 c1 c2
  refine CR.out.mono ?_
  rintro e w2 ⟨rfl, hv, hs, hsm⟩
  obtain ⟨D2, HD2⟩ : ∃ Dx, Hid (Dx = crashD D ok on) := ⟨_, hidd rfl⟩
  rw [← HD2.out] at hv e0 e1 e2 PP
  replace HR8 := hidd ((hsm wr.heap.size (.inr rfl)).trans HR8.out)
  replace HLG := hidd (HLG.out.keep hs fun b e => hsm b (.inl e))
  have d0 : w2.cell? ⟨wr.heap.size, 0, none⟩ = some (.int .i64 5) := by rw [cell_of_row _ _ 0 _ _ (0, 0) HR8.out]; rfl
  have d1 : w2.cell? ⟨wr.heap.size, 1, none⟩ = some (.int .i64 on) := by rw [cell_of_row _ _ 1 _ _ (0, 0) HR8.out]; rfl
  have d2 : w2.cell? ⟨wr.heap.size, 2, none⟩ = some (.int .i64 ok) := by rw [cell_of_row _ _ 2 _ _ (0, 0) HR8.out]; rfl
  clear CR hs hsm c0 c1 c2
  have OP := hidd (dx_open wl (fun b => M b ∨ b = wr.heap.size) W TB w2 p D2 hv (fun b e => by rcases e with e | rfl; exact HLG.out.lt b e; exact heap_lt HR8.out) (by omega) f r h1 (by omega) L true PP.out)
  unfold ptr at OP
  clear hv
  go_wp2_with fail
  refine OP.out.mono ?_
  rintro e w3 ⟨D3, hw, hs, hsm, hop⟩
  rcases hop with ⟨q3, a3, l3, c3, rs3, rfl, ht, hl3, -, hob, hv⟩ | ⟨_, hdn, _, hv⟩
  case inr =>
    have := hv.d.calm dk (hw.stops.trans e2)
    rw [this] at hdn; cases hdn
  replace HR8 := hidd ((hsm wr.heap.size (.inr rfl)).trans HR8.out)
  replace HLG := hidd (HLG.out.keep hs fun b e => hsm b (.inl e))
  have HRM : Hid (D3.safe.length = 2000) := hw.room.trans (e0.trans rD)
  have HPT : Hid (D3.puts.length ≤ 400) := Nat.le_trans hw.puts (by omega)
  replace hv := hv.more (Y := fun b => M b ∨ TBlock a3 l3 b) dk wl (Nat.le_refl _) hv.w.b (fun _ _ _ => rfl) (fun b e => .inl (by rcases e with e | e; exact .inl (.inl e); exact .inr e))
  unfold ptr
  clear OP PP hw hs hsm d0 d1 d2 e0 e1 e2 HD2
  have OS := hidd (refOpens w3 m L M HLG.out (by have := HH.out.bd.n; omega) (fun s hs => by have := (HH.out.bd.s s hs).1; omega) a3 l3 c3 rs3 ht (by unfold maxLen; omega) true)
  rw [hob] at OS
  unfold ptr at OS
  have HV := hidd hv
  clear hv ht
  go_wp2_with fail
  refine OS.out.mono ?_
  rintro e wz ⟨rfl, ⟨M9, hlg9, hM9⟩, haw⟩
  have hz := haw.size
  have HF : Hid (RunS At WM WP W wz p q3 m f r (k + 1) D3 (opensL L rs3 true) M9) := by
    refine ⟨HV.out.more dk wl hz (haw.below HV.out.w.b HV.out.w.b.size HH.out.mb) (fun b hl hX => haw.block b hl fun e => hX (.inl e)) (fun b e => ?_), hlg9, fun b e => ?_, HH.out.bd.opens, HRM.out, by have := HPT.out; omega⟩
    · rcases hM9 b e with e | e | e
      · exact .inl (.inl e)
      · exact e.elim
      · exact .inr (.inl e)
    · rcases hM9 b e with e | e | e
      · exact HH.out.mb b e
      · exact e.elim
      · have := HV.out.w.b.size; omega
  clear OS hM9 haw hlg9
  go_wp2
  go_ret
  exact ⟨q3, rfl, _, _, _, HF.out⟩
set_option maxHeartbeats 16000000 in
theorem opened6 (dk : DiskC At) (wl : WalC At WM WP PA) (W : World) (TB : TabW W) (wr : World) (p q m f r k : Nat) (D : DkT) (L : LgT) (M : Nat → Prop) (h : RunS At WM WP W wr p q m f r k D L M) (hk : k ≤ 60) (h1 : 64 ≤ r ∧ r ≤ 1000000) (h2 : f + r ≤ 2000) (on ok : Int) (hon : In64 on) (hok : In64 ok) (ta : Option Addr) (tl tc : Nat) :
    Calls Tryd.prog 20 #[ptr p, ptr m, .agg #[.int .i64 6, .int .i64 on, .int .i64 ok, .slice ta tl tc], .int .i64 (f : Int), .int .i64 (r : Int)] wr fun e w' => ∃ q', e = .returned (ptr q') ∧ ∃ D' L' M', RunS At WM WP W w' p q' m f r (k + 1) D' L' M' := by
  have hB := h.lv.w.b
  have hsz := hB.size
  have hb1 : Below wr.heap.size wr (wr.alloc (.cells #[.int .i64 6, .int .i64 on, .int .i64 ok, .slice ta tl tc] 36)) := (Below.refl _ _).alloc (Nat.le_refl _) _
  have HR8 : Hid ((wr.alloc (.cells #[.int .i64 6, .int .i64 on, .int .i64 ok, .slice ta tl tc] 36)).heap[wr.heap.size]? = some (.cells #[.int .i64 6, .int .i64 on, .int .i64 ok, .slice ta tl tc] 36 (0, 0))) := heap_alloc_new wr (.cells #[.int .i64 6, .int .i64 on, .int .i64 ok, .slice ta tl tc] 36)
  have HLG := hidd (h.lg.below hb1)
  have hv1 := h.lv.more (Y := (fun b => M b ∨ b = wr.heap.size)) dk wl hb1.size (hB.trans (hb1.mono hsz)) (fun b hl _ => hb1.block b hl) (fun b e => by
    rcases e with e | e
    · exact .inl e
    · exact .inr (.inl (by omega)))
  have HH := hidd h
  have bD := h.puts
  have rD := h.room
  obtain ⟨w1, H1⟩ : ∃ w, Hid (w = wr.alloc (.cells #[.int .i64 6, .int .i64 on, .int .i64 ok, .slice ta tl tc] 36)) := ⟨_, hidd rfl⟩
  rw [← H1.out] at HR8 HLG hv1
  have c0 : w1.cell? ⟨wr.heap.size, 0, none⟩ = some (.int .i64 6) := by rw [cell_of_row _ _ 0 _ _ (0, 0) HR8.out]; rfl
  have c1 : w1.cell? ⟨wr.heap.size, 1, none⟩ = some (.int .i64 on) := by rw [cell_of_row _ _ 1 _ _ (0, 0) HR8.out]; rfl
  have c2 : w1.cell? ⟨wr.heap.size, 2, none⟩ = some (.int .i64 ok) := by rw [cell_of_row _ _ 2 _ _ (0, 0) HR8.out]; rfl
  rw [H1.out] at c0 c1 c2
  clear h hb1
  have PP := hidd (hv1.w.part wl)
  have OP := hidd (dx_open wl (fun b => M b ∨ b = wr.heap.size) W TB w1 p D hv1.dx (fun b e => by rcases e with e | rfl; exact HLG.out.lt b e; exact heap_lt HR8.out) (by omega) f r h1 (by omega) L false PP.out)
  unfold ptr at OP
  clear hv1
  unfold ptr
  go_enter Tryd.func20, Tryd.ntmps20
  go_wp2_with fail
  rw [← H1.out]
  rw [← H1.out] at c0 c1 c2
  refine OP.out.mono ?_
  rintro e w3 ⟨D3, hw, hs, hsm, hop⟩
  replace HR8 := hidd ((hsm wr.heap.size (.inr rfl)).trans HR8.out)
  replace HLG := hidd (HLG.out.keep hs fun b e => hsm b (.inl e))
  have HRM : Hid (D3.safe.length = 2000) := hw.room.trans rD
  have HPT : Hid (D3.puts.length ≤ 1200 * (k + 1) + 400) := Nat.le_trans hw.puts (by omega)
  clear c0 c1 c2
  rcases hop with ⟨q3, a3, l3, c3, rs3, rfl, ht, hl3, -, hob, hv⟩ | ⟨⟨a3, c3, rfl⟩, hdn, hpa, hv⟩
  · replace hv := hv.more (Y := fun b => M b ∨ TBlock a3 l3 b) dk wl (Nat.le_refl _) hv.w.b (fun _ _ _ => rfl) (fun b e => .inl (by rcases e with e | e; exact .inl (.inl e); exact .inr e))
    unfold ptr
    clear OP PP hw hs hsm
    have OS := hidd (refOpens w3 m L M HLG.out (by have := HH.out.bd.n; omega) (fun s hs => by have := (HH.out.bd.s s hs).1; omega) a3 l3 c3 rs3 ht (by unfold maxLen; omega) false)
    rw [hob] at OS
    unfold ptr at OS
    have HV := hidd hv
    clear hv ht
    go_wp2_with fail
    refine OS.out.mono ?_
    rintro e wz ⟨rfl, ⟨M9, hlg9, hM9⟩, haw⟩
    have hz := haw.size
    have HF : Hid (RunS At WM WP W wz p q3 m f r (k + 1) D3 (opensL L rs3 false) M9) := by
      refine ⟨HV.out.more dk wl hz (haw.below HV.out.w.b HV.out.w.b.size HH.out.mb) (fun b hl hX => haw.block b hl fun e => hX (.inl e)) (fun b e => ?_), hlg9, fun b e => ?_, HH.out.bd.opens, HRM.out, by have := HPT.out; omega⟩
      · rcases hM9 b e with e | e | e
        · exact .inl (.inl e)
        · exact e.elim
        · exact .inr (.inl e)
      · rcases hM9 b e with e | e | e
        · exact HH.out.mb b e
        · exact e.elim
        · have := HV.out.w.b.size; omega
    clear OS hM9 haw hlg9
    go_wp2
    go_ret
    exact ⟨q3, rfl, _, _, _, HF.out⟩
  · have DN := hidd (lvd_down dk W w3 p D3 hv.d)
    rw [hdn] at DN
    have HV3 := hidd hv
    have HPA := hidd hpa
    unfold ptr at DN
    clear OP PP hw hs hsm hdn hpa hv
    go_wp2_with fail
    refine DN.out.mono ?_
    rintro e w4 ⟨rfl, hb4⟩
    have hbv : Below W.heap.size W w3 := by
      obtain ⟨_, _, _, hx⟩ := HV3.out.d
      exact hx
    have hv := HV3.out.more (Y := (fun b => M b ∨ b = wr.heap.size)) dk hb4.size (hbv.trans (hb4.mono hbv.size)) (fun b hl _ => hb4.block b hl) (fun b e => .inl e)
    replace HR8 := hidd ((hb4.block wr.heap.size (heap_lt HR8.out)).trans HR8.out)
    replace HLG := hidd (HLG.out.below hb4)
    have d0 : w4.cell? ⟨wr.heap.size, 0, none⟩ = some (.int .i64 6) := by rw [cell_of_row _ _ 0 _ _ (0, 0) HR8.out]; rfl
    have d1 : w4.cell? ⟨wr.heap.size, 1, none⟩ = some (.int .i64 on) := by rw [cell_of_row _ _ 1 _ _ (0, 0) HR8.out]; rfl
    have d2 : w4.cell? ⟨wr.heap.size, 2, none⟩ = some (.int .i64 ok) := by rw [cell_of_row _ _ 2 _ _ (0, 0) HR8.out]; rfl
    have hp3 := HPT.out
    have CR := hidd (dx_crash dk (fun b => M b ∨ b = wr.heap.size) W w4 p D3 hv (fun b e => by rcases e with e | rfl; exact HLG.out.lt b e; exact heap_lt HR8.out) (by omega) ok on hok hon)
    have PP := hidd (wl.crash ok on (hv.d.ok dk) HPA.out)
    obtain ⟨e0, e1, e2⟩ := crash_room (hv.d.ok dk) ok on
    unfold ptr at CR
    clear hv DN hb4 HV3 HPA
    go_wp2_with fail
    refine CR.out.mono ?_
    rintro e w5 ⟨rfl, hv, hs, hsm⟩
    obtain ⟨D5, HD5⟩ : ∃ Dx, Hid (Dx = crashD D3 ok on) := ⟨_, hidd rfl⟩
    rw [← HD5.out] at hv e0 e1 e2 PP
    replace HR8 := hidd ((hsm wr.heap.size (.inr rfl)).trans HR8.out)
    replace HLG := hidd (HLG.out.keep hs fun b e => hsm b (.inl e))
    have hr5 : D5.safe.length = 2000 := e0.trans HRM.out
    clear CR hs hsm d0 d1 d2
    have OP := hidd (dx_open wl (fun b => M b ∨ b = wr.heap.size) W TB w5 p D5 hv (fun b e => by rcases e with e | rfl; exact HLG.out.lt b e; exact heap_lt HR8.out) (by omega) f r h1 (by omega) L true PP.out)
    unfold ptr at OP
    clear hv
    go_wp2_with fail
    refine OP.out.mono ?_
    rintro e w6 ⟨D6, hw, hs, hsm, hop⟩
    rcases hop with ⟨q6, a6, l6, c6, rs6, rfl, ht, hl6, -, hob, hv⟩ | ⟨_, hdn, _, hv⟩
    case inr =>
      have := hv.d.calm dk (hw.stops.trans e2)
      rw [this] at hdn; cases hdn
    replace HR8 := hidd ((hsm wr.heap.size (.inr rfl)).trans HR8.out)
    replace HLG := hidd (HLG.out.keep hs fun b e => hsm b (.inl e))
    replace HRM : Hid (D6.safe.length = 2000) := hw.room.trans hr5
    replace HPT : Hid (D6.puts.length ≤ 400) := Nat.le_trans hw.puts (by omega)
    replace hv := hv.more (Y := fun b => M b ∨ TBlock a6 l6 b) dk wl (Nat.le_refl _) hv.w.b (fun _ _ _ => rfl) (fun b e => .inl (by rcases e with e | e; exact .inl (.inl e); exact .inr e))
    unfold ptr
    clear OP PP hw hs hsm e0 e1 e2 HD5
    have OS := hidd (refOpens w6 m L M HLG.out (by have := HH.out.bd.n; omega) (fun s hs => by have := (HH.out.bd.s s hs).1; omega) a6 l6 c6 rs6 ht (by unfold maxLen; omega) true)
    rw [hob] at OS
    unfold ptr at OS
    have HV := hidd hv
    clear hv ht
    go_wp2_with fail
    refine OS.out.mono ?_
    rintro e wz ⟨rfl, ⟨M9, hlg9, hM9⟩, haw⟩
    have hz := haw.size
    have HF : Hid (RunS At WM WP W wz p q6 m f r (k + 1) D6 (opensL L rs6 true) M9) := by
      refine ⟨HV.out.more dk wl hz (haw.below HV.out.w.b HV.out.w.b.size HH.out.mb) (fun b hl hX => haw.block b hl fun e => hX (.inl e)) (fun b e => ?_), hlg9, fun b e => ?_, HH.out.bd.opens, HRM.out, by have := HPT.out; omega⟩
      · rcases hM9 b e with e | e | e
        · exact .inl (.inl e)
        · exact e.elim
        · exact .inr (.inl e)
      · rcases hM9 b e with e | e | e
        · exact HH.out.mb b e
        · exact e.elim
        · have := HV.out.w.b.size; omega
    clear OS hM9 haw hlg9
    go_wp2
    go_ret
    exact ⟨q6, rfl, _, _, _, HF.out⟩
end Go.Proofs.YtdnnhmihigdnkaaDoor

/- The rounds of WalRuns: what each kind of call leaves. -/
namespace Go.Proofs.YtdnnhmihigdnkaaDoor
open Go.RowKit Nums
set_option linter.unusedVariables false
set_option linter.unusedSimpArgs false
set_option maxRecDepth 100000
variable {At : World → Nat → DkT → (Nat → Prop) → Prop} {Vt : Type} {WM : World → Nat → Nat → Nat → Nat → Vt → (Nat → Prop) → Prop} {WP : Nat → Nat → Vt → DkT → LgT → Prop} {PA : Nat → Nat → DkT → LgT → Bool → Prop}
theorem RunS.below (dk : DiskC At) (wl : WalC At WM WP PA) {W wr w' : World} {p q m f r k : Nat} {D : DkT} {L : LgT} {M : Nat → Prop} (h : RunS At WM WP W wr p q m f r k D L M) (hb : Below wr.heap.size wr w') : RunS At WM WP W w' p q m f r k D L M := ⟨h.lv.below dk wl hb, h.lg.below hb, h.mb, h.bd, h.room, h.puts⟩
theorem RunS.next {W wr : World} {p q m f r k : Nat} {D : DkT} {L : LgT} {M : Nat → Prop} (h : RunS At WM WP W wr p q m f r k D L M) : RunS At WM WP W wr p q m f r (k + 1) D L M := ⟨h.lv, h.lg, h.mb, h.bd.next, h.room, by have := h.puts; omega⟩
theorem run_stop (dk : DiskC At) (wl : WalC At WM WP PA) (W wr : World) (p q m f r k : Nat) (D : DkT) (L : LgT) (M : Nat → Prop) (h : RunS At WM WP W wr p q m f r k D L M) (n : Int) (hn : In64 n) :
    Calls Tryd.prog 19 #[ptr p, .int .i64 n] wr fun e w' => (∃ x, e = .returned (.int .i64 x)) ∧ ∃ D', RunS At WM WP W w' p q m f r (k + 1) D' L M := by
  refine (x_stop dk wl M W wr p q f r D L h.lv h.lg.lt n hn).mono ?_
  rintro e w' ⟨rfl, h1, h2, h3⟩
  exact ⟨⟨_, rfl⟩, _, h1, h.lg.keep h2 h3, h.mb, h.bd.next, by rw [(stopD_safe D n).1]; exact h.room, by rw [(stopD_safe D n).2]; have := h.puts; omega⟩
/-- Behind a Sync: the document's log is not told yet. -/
structure SyS (At : World → Nat → DkT → (Nat → Prop) → Prop) (WM : World → Nat → Nat → Nat → Nat → Vt → (Nat → Prop) → Prop) (WP : Nat → Nat → Vt → DkT → LgT → Prop) (W wr : World) (p q m f r k : Nat) (D : DkT) (L L' : LgT) (M : Nat → Prop) : Prop where
  lv : LvX At WM WP M W wr p q f r D L'
  lg : LogAt wr m L M
  mb : ∀ b, M b → W.heap.size ≤ b
  bd : BdL k L
  room : D.safe.length = 2000
  puts : D.puts.length ≤ 1200 * (k + 1) + 400
theorem SyS.below (dk : DiskC At) (wl : WalC At WM WP PA) {W wr w' : World} {p q m f r k : Nat} {D : DkT} {L L' : LgT} {M : Nat → Prop} (h : SyS At WM WP W wr p q m f r k D L L' M) (hb : Below wr.heap.size wr w') : SyS At WM WP W w' p q m f r k D L L' M := ⟨h.lv.below dk wl hb, h.lg.below hb, h.mb, h.bd, h.room, h.puts⟩
theorem SyS.same {W wr : World} {p q m f r k : Nat} {D : DkT} {L : LgT} {M : Nat → Prop} (h : SyS At WM WP W wr p q m f r k D L L M) : RunS At WM WP W wr p q m f r (k + 1) D L M := ⟨h.lv, h.lg, h.mb, h.bd.next, h.room, by have := h.puts; omega⟩
theorem run_sync (dk : DiskC At) (wl : WalC At WM WP PA) (W wr : World) (p q m f r k : Nat) (D : DkT) (L : LgT) (M : Nat → Prop) (h : RunS At WM WP W wr p q m f r k D L M) (hk : k ≤ 60) :
    Calls Tryd.prog 16 #[ptr q] wr fun e w' => ∃ n D', e = .returned (.int .i64 n) ∧ ((n = 0 ∧ SyS At WM WP W w' p q m f r k D' L (syncedL L) M) ∨ (n = 80 ∧ D'.down = true ∧ SyS At WM WP W w' p q m f r k D' L L M)) := by
  have hp := h.puts
  refine (lvx_sync dk wl M W wr p q f r D L h.lv h.lg.lt (by omega)).mono ?_
  rintro e w' ⟨n, D', L', rfl, h1, h2, h3, h4, h5⟩
  have hpp := h2.puts
  refine ⟨n, D', rfl, ?_⟩
  rcases h1 with ⟨rfl, rfl⟩ | ⟨rfl, h1, rfl⟩
  · exact .inl ⟨rfl, h3, h.lg.keep h4 h5, h.mb, h.bd, h2.room.trans h.room, by omega⟩
  · exact .inr ⟨rfl, h1, h3, h.lg.keep h4 h5, h.mb, h.bd, h2.room.trans h.room, by omega⟩
theorem run_synced (dk : DiskC At) (wl : WalC At WM WP PA) (W wr : World) (p q m f r k : Nat) (D : DkT) (L : LgT) (M : Nat → Prop) (h : SyS At WM WP W wr p q m f r k D L (syncedL L) M) (hk : k ≤ 60) :
    Calls Tryd.prog 18 #[ptr m] wr fun e w' => (∃ v, e = .returned v) ∧ ∃ M', RunS At WM WP W w' p q m f r (k + 1) D (syncedL L) M' := by
  have hn := h.bd.n
  refine (refSynced wr m L M h.lg (by omega)).mono ?_
  rintro e w' ⟨hv, ⟨M', h1, h2⟩, h3⟩
  have hB := h.lv.w.b
  have hs := hB.size
  refine ⟨hv, M', ⟨h.lv.more dk wl h3.size (h3.below hB hs h.mb) (fun b hl hx => h3.block b hl hx) (fun b e => ?_), h1, fun b e => ?_, h.bd.synced.next, h.room, by have := h.puts; omega⟩⟩
  · rcases h2 b e with e | e | e
    · exact .inl e
    · cases e
    · exact .inr (.inl e)
  · rcases h2 b e with e | e | e
    · exact h.mb b e
    · cases e
    · omega
/-- Len, held against the document's. -/
theorem run_len (dk : DiskC At) (wl : WalC At WM WP PA) (W wr : World) (p q m f r k : Nat) (D : DkT) (L : LgT) (M : Nat → Prop) (h : RunS At WM WP W wr p q m f r k D L M) :
    Calls Tryd.prog 21 #[ptr q] wr fun e w' => e = .returned (.int .i64 (L.now.recs.length : Nat)) ∧ RunS At WM WP W w' p q m f r k D L M := by
  refine (lvw_len wl W wr p q f r D L h.lv.w).mono ?_
  rintro e w' ⟨rfl, hb⟩
  exact ⟨rfl, h.below dk wl hb⟩
theorem run_now (dk : DiskC At) (wl : WalC At WM WP PA) (W wr : World) (p q m f r k : Nat) (D : DkT) (L : LgT) (M : Nat → Prop) (h : RunS At WM WP W wr p q m f r k D L M) (hk : k ≤ 100) :
    Calls Tryd.prog 22 #[ptr m] wr fun e w' => (∃ (c : SvT), e = .returned (.agg #[.slice c.a (L.now.recs.length) c.cap, .int .i64 (c.cost : Int)])) ∧ RunS At WM WP W w' p q m f r k D L M := by
  obtain ⟨sv, cs, x, hL, hM⟩ := h.lg
  have hn := h.bd.n
  have hcl := hL.recs.1
  refine (refNowL wr m sv cs x L hL (by omega)).mono ?_
  rintro e w' ⟨⟨c, rfl, h1, h2⟩, hb⟩
  refine ⟨⟨c, ?_⟩, h.below dk wl hb⟩
  unfold SvT.v
  rw [h2.recs.1]
theorem now_bd {W wr : World} {p q m f r k : Nat} {D : DkT} {L : LgT} {M : Nat → Prop} (h : RunS At WM WP W wr p q m f r k D L M) (hk : k ≤ 100) : L.now.recs.length ≤ 3000 := by
  have := (h.bd.s L.now (.inl ((statesL_mem L _).2 (.inr rfl)))).1
  omega
end Go.Proofs.YtdnnhmihigdnkaaDoor

/- Whatever is done, the wal's records are what the document lets be. -/
namespace Go.Proofs.YtdnnhmihigdnkaaDoor
open Go.RowKit Nums
set_option linter.unusedVariables false
set_option linter.unusedSimpArgs false
set_option maxRecDepth 100000
variable {At : World → Nat → DkT → (Nat → Prop) → Prop} {Vt : Type} {WM : World → Nat → Nat → Nat → Nat → Vt → (Nat → Prop) → Prop} {WP : Nat → Nat → Vt → DkT → LgT → Prop} {PA : Nat → Nat → DkT → LgT → Bool → Prop}
theorem wpList_field {P : Program} {w : World} {ops : Array Oper} {rest : List Oper} {o : Oper} {a : Act} {Q : Exit → Act → World → Prop} (hgd : o.guard = none) (t : TypeId) (x : Operand) (k : Nat) (ho : o.op = .field t x k) (vx v : Value) (hx : a.eval x = vx) (hrun : (Instr.field t vx k).run P w = .ok v w) (h : wpList P ops Q rest (a.put o.dst v) w) : wpList P ops Q (o :: rest) a w := by
  refine wpList_plain hgd fun K hK => ?_
  unfold Oper.wp execOp
  simp only [ho, hx, hrun, Sem.run_bind, Sem.run_pure, Result.andThen_ok]
  exact hK _ _ h
theorem field_st (a : Option Addr) (n c : Nat) (z : Int) (W : World) : (Instr.field 44 (.agg #[.slice a n c, .int .i64 z]) 0).run Tryd.prog W = .ok (.slice a n c) W := by
  simp [Instr.field, run_underlying Tryd.underlying44]
  rfl
theorem lvd_b {w0 w : World} {p : Nat} {D : DkT} (h : LvD At w0 w p D) : Below w0.heap.size w0 w := by
  obtain ⟨S, _, _, h3⟩ := h
  exact h3
/-- The first Open, and the document's log told of it. -/
theorem run_first (dk : DiskC At) (wl : WalC At WM WP PA) (W w : World) (TB : TabW W) (p m f r : Nat) (M : Nat → Prop) (h : LvDX At M W w p (newD 2000)) (hl : LogAt w m newL M) (h1 : 64 ≤ r ∧ r ≤ 1000000) (h2 : f + r ≤ 2000) :
    Calls Tryd.prog 12 #[ptr p, .int .i64 f, .int .i64 r] w fun e w' => ∃ q a cap D', e = .returned (.tuple #[ptr q, .slice a 0 cap, .int .i64 0]) ∧ Texts w' a 0 [] ∧ LogAt w' m newL M ∧ LvX At WM WP M W w' p q f r D' newL ∧ D'.safe.length = 2000 ∧ D'.puts.length ≤ 400 := by
  refine (dx_open wl M W TB w p (newD 2000) h hl.lt (Nat.zero_le _) f r h1 (by show f + r ≤ (List.replicate 2000 (0 : UInt8)).length; rw [List.length_replicate]; exact h2) newL false (wl.fresh 2000 f r h1.1 h2)).mono ?_
  rintro e w' ⟨D', k1, k2, k3, k4⟩
  have hst : D'.stops = false := k1.stops
  have hrm : D'.safe.length = 2000 := k1.room.trans List.length_replicate
  have hpt : D'.puts.length ≤ 400 := Nat.le_trans k1.puts (by show 0 + 400 ≤ 400; omega)
  rcases k4 with ⟨q, a, len, cap, rs, rfl, g1, g2, g3, g4, g5⟩ | ⟨_, g1, _, g2⟩
  · obtain ⟨hrs, hI⟩ := isL_new.opens g4
    have hrs' : rs = [] := hrs
    subst hrs'
    obtain rfl : len = 0 := g1.1.symm
    have hL : opensL newL [] false = newL := by
      obtain ⟨i1, i2, i3⟩ := hI
      have e : (opensL newL [] false).may = newL.may := rfl
      cases hq : opensL newL [] false with
      | mk olds now may maybe =>
        rw [hq] at i1 i2 i3 e
        show LgT.mk olds now may maybe = ⟨[], ⟨[], 0⟩, ⟨[], 0⟩, false⟩
        have e1 : olds = [] := i1
        have e2 : now = ⟨[], 0⟩ := i2
        have e3 : maybe = false := i3
        have e4 : may = ⟨[], 0⟩ := e
        rw [e1, e2, e3, e4]
    rw [hL] at g5
    exact ⟨q, a, cap, D', rfl, g1, hl.keep k2 k3, g5.more dk wl (Nat.le_refl _) g5.w.b (fun _ _ _ => rfl) (fun b e => .inl (.inl e)), hrm, hpt⟩
  · have := g2.d.calm dk hst
    rw [this] at g1; cases g1
theorem bd_new : BdL 0 newL := ⟨by show 1 ≤ 0 + 1; omega, fun s hs => by
  rcases hs with hs | hs
  · obtain rfl : s = ⟨[], 0⟩ := by
      have : s ∈ [(⟨[], 0⟩ : StT)] := hs
      simpa using this
    exact ⟨Nat.le_refl _, Nat.le_refl _⟩
  · obtain rfl : s = ⟨[], 0⟩ := hs
    exact ⟨Nat.le_refl _, Nat.le_refl _⟩⟩
theorem opens_new : opensB newL [] false = true ∧ opensL newL [] false = newL := ⟨(opensB_calm newL []).2 rfl, rfl⟩
theorem run_opens (dk : DiskC At) (wl : WalC At WM WP PA) (W w : World) (p q m f r : Nat) (D : DkT) (M : Nat → Prop) (h : LvX At WM WP M W w p q f r D newL) (hl : LogAt w m newL M) (hm : ∀ b, M b → W.heap.size ≤ b) (hr : D.safe.length = 2000) (hp : D.puts.length ≤ 400) (a : Option Addr) (cap : Nat) (hT : Texts w a 0 []) :
    Calls Tryd.prog 14 #[ptr m, .slice a 0 cap, .bool false] w fun e w' => e = .returned (.bool true) ∧ ∃ L M', RunS At WM WP W w' p q m f r 0 D L M' := by
  refine (refOpens w m newL M hl (by show 1 ≤ 1000000; omega) (fun s hs => by have := (bd_new.s s hs).1; omega) a 0 cap [] hT (Nat.zero_le _) false).mono ?_
  rw [opens_new.1, opens_new.2]
  rintro e w' ⟨rfl, ⟨M', k1, k2⟩, k3⟩
  have hB := h.w.b
  have hs := hB.size
  refine ⟨rfl, newL, M', h.more dk wl k3.size (k3.below hB hs hm) (fun b hl hx => k3.block b hl hx) (fun b e => ?_), k1, fun b e => ?_, bd_new, hr, by omega⟩
  · rcases k2 b e with e | e | e
    · exact .inl e
    · cases e
    · exact .inr (.inl e)
  · rcases k2 b e with e | e | e
    · exact hm b e
    · cases e
    · omega
set_option maxHeartbeats 16000000 in
theorem walRuns_in (dk : DiskC At) (wl : WalC At WM WP PA) (a0 a1 : Int) (a2 : Option Addr) (len2 cap2 : Nat) (z2 : List OwT) (W : World) (h0 : In64 a0) (h1 : In64 a1) (h2 : WReads W a2 len2 cap2 z2) (TB : TabW W) :
    Calls Tryd.prog 3 #[.int .i64 a0, .int .i64 a1, .slice a2 len2 cap2] W fun e w' => e = .returned (.bool true) ∧ Below W.heap.size W w' := by
  have LG := hidd (large10_any a2 len2 cap2 z2 W W h2 (Below.refl _ _))
  have GR := hidd (ground_any dk W W (Below.refl _ _))
  unfold LargeE at LG
  have H2 := hidd h2
  have hlm : len2 ≤ 9223372036854775807 := by have := h2.2.1; have := h2.2.2.1; omega
  clear h2
  unfold ptr at GR
  by_cases c1 : a1 < 64
  · have dc1 : decide (a1 < 64) = true := by rw [decide_eq_true_eq]; exact c1
    go_enter Tryd.func3, Tryd.ntmps3
    go_wp2_with fail
    refine LG.out.mono ?_
    rintro e wl0 ⟨x, rfl, e0, hx⟩
    subst e0
    cases x with
    | true =>
      go_wp2
      go_ret
      exact ⟨rfl, Below.refl _ _⟩
    | false =>
      obtain ⟨hlen, hsm⟩ := hx rfl
      have HSM := hidd hsm
      clear hx hsm LG
      go_wp2_with fail
      refine GR.out.mono ?_
      rintro e w1 ⟨p, rfl, hv1⟩
      have HV1 := hidd hv1
      clear GR hv1
      have NW := hidd (refNewL w1)
      unfold ptr at NW
      go_wp2_with fail
      refine NW.out.mono ?_
      rintro e w2 ⟨m, M, rfl, hl2, hm2, hb2⟩
      have HB2 := hidd ((lvd_b HV1.out).trans (hb2.mono (lvd_b HV1.out).size))
      have HL2 := hidd hl2
      obtain ⟨S1, k1, k2, k3⟩ := HV1.out
      have HA2 := hidd (dk.keep k1 hb2.size fun b e => hb2.block b (dk.lt k1 b e))
      have ON := hidd (wl.openNo w2 p (newD 2000) S1 HA2.out a0 a1 h0 h1 (by show ¬ (64 ≤ a1 ∧ a1 ≤ 1000000 ∧ 0 ≤ a0 ∧ a0 ≤ (List.replicate 2000 (0 : UInt8)).length ∧ a1 ≤ (List.replicate 2000 (0 : UInt8)).length - a0); rw [List.length_replicate]; omega))
      clear NW hl2 hm2 hb2 k1 k2 k3 HA2 HL2 HV1
      unfold ptr at ON
      go_wp2_with fail
      refine ON.out.mono ?_
      rintro e w3 ⟨⟨ax, cx, rfl⟩, hb3⟩
      have HB3 := hidd (HB2.out.trans (hb3.mono HB2.out.size))
      clear ON hb3
      have AW := hidd (awake_any dk wl w3 (TB.on HB3.out))
      go_wp2_with fail
      refine AW.out.mono ?_
      rintro e w4 ⟨rfl, hb4⟩
      have HB4 := hidd (HB3.out.trans (hb4.mono HB3.out.size))
      clear AW hb4
      go_wp2
      go_ret
      exact ⟨rfl, HB4.out⟩
  · have dc1 : decide (a1 < 64) = false := by rw [decide_eq_false_iff_not]; exact c1
    by_cases c2 : 1000000 < a1
    · have dc2 : decide ((1000000 : Int) < a1) = true := by rw [decide_eq_true_eq]; exact c2
      go_enter Tryd.func3, Tryd.ntmps3
      go_wp2_with fail
      refine LG.out.mono ?_
      rintro e wl0 ⟨x, rfl, e0, hx⟩
      subst e0
      cases x with
      | true =>
        go_wp2
        go_ret
        exact ⟨rfl, Below.refl _ _⟩
      | false =>
        obtain ⟨hlen, hsm⟩ := hx rfl
        have HSM := hidd hsm
        clear hx hsm LG
        go_wp2_with fail
        refine GR.out.mono ?_
        rintro e w1 ⟨p, rfl, hv1⟩
        have HV1 := hidd hv1
        clear GR hv1
        have NW := hidd (refNewL w1)
        unfold ptr at NW
        go_wp2_with fail
        refine NW.out.mono ?_
        rintro e w2 ⟨m, M, rfl, hl2, hm2, hb2⟩
        have HB2 := hidd ((lvd_b HV1.out).trans (hb2.mono (lvd_b HV1.out).size))
        have HL2 := hidd hl2
        obtain ⟨S1, k1, k2, k3⟩ := HV1.out
        have HA2 := hidd (dk.keep k1 hb2.size fun b e => hb2.block b (dk.lt k1 b e))
        have ON := hidd (wl.openNo w2 p (newD 2000) S1 HA2.out a0 a1 h0 h1 (by show ¬ (64 ≤ a1 ∧ a1 ≤ 1000000 ∧ 0 ≤ a0 ∧ a0 ≤ (List.replicate 2000 (0 : UInt8)).length ∧ a1 ≤ (List.replicate 2000 (0 : UInt8)).length - a0); rw [List.length_replicate]; omega))
        clear NW hl2 hm2 hb2 k1 k2 k3 HA2 HL2 HV1
        unfold ptr at ON
        go_wp2_with fail
        refine ON.out.mono ?_
        rintro e w3 ⟨⟨ax, cx, rfl⟩, hb3⟩
        have HB3 := hidd (HB2.out.trans (hb3.mono HB2.out.size))
        clear ON hb3
        have AW := hidd (awake_any dk wl w3 (TB.on HB3.out))
        go_wp2_with fail
        refine AW.out.mono ?_
        rintro e w4 ⟨rfl, hb4⟩
        have HB4 := hidd (HB3.out.trans (hb4.mono HB3.out.size))
        clear AW hb4
        go_wp2
        go_ret
        exact ⟨rfl, HB4.out⟩
    · have dc2 : decide ((1000000 : Int) < a1) = false := by rw [decide_eq_false_iff_not]; exact c2
      by_cases c3 : a0 < 0
      · have dc3 : decide (a0 < 0) = true := by rw [decide_eq_true_eq]; exact c3
        go_enter Tryd.func3, Tryd.ntmps3
        go_wp2_with fail
        refine LG.out.mono ?_
        rintro e wl0 ⟨x, rfl, e0, hx⟩
        subst e0
        cases x with
        | true =>
          go_wp2
          go_ret
          exact ⟨rfl, Below.refl _ _⟩
        | false =>
          obtain ⟨hlen, hsm⟩ := hx rfl
          have HSM := hidd hsm
          clear hx hsm LG
          go_wp2_with fail
          refine GR.out.mono ?_
          rintro e w1 ⟨p, rfl, hv1⟩
          have HV1 := hidd hv1
          clear GR hv1
          have NW := hidd (refNewL w1)
          unfold ptr at NW
          go_wp2_with fail
          refine NW.out.mono ?_
          rintro e w2 ⟨m, M, rfl, hl2, hm2, hb2⟩
          have HB2 := hidd ((lvd_b HV1.out).trans (hb2.mono (lvd_b HV1.out).size))
          have HL2 := hidd hl2
          obtain ⟨S1, k1, k2, k3⟩ := HV1.out
          have HA2 := hidd (dk.keep k1 hb2.size fun b e => hb2.block b (dk.lt k1 b e))
          have ON := hidd (wl.openNo w2 p (newD 2000) S1 HA2.out a0 a1 h0 h1 (by show ¬ (64 ≤ a1 ∧ a1 ≤ 1000000 ∧ 0 ≤ a0 ∧ a0 ≤ (List.replicate 2000 (0 : UInt8)).length ∧ a1 ≤ (List.replicate 2000 (0 : UInt8)).length - a0); rw [List.length_replicate]; omega))
          clear NW hl2 hm2 hb2 k1 k2 k3 HA2 HL2 HV1
          unfold ptr at ON
          go_wp2_with fail
          refine ON.out.mono ?_
          rintro e w3 ⟨⟨ax, cx, rfl⟩, hb3⟩
          have HB3 := hidd (HB2.out.trans (hb3.mono HB2.out.size))
          clear ON hb3
          have AW := hidd (awake_any dk wl w3 (TB.on HB3.out))
          go_wp2_with fail
          refine AW.out.mono ?_
          rintro e w4 ⟨rfl, hb4⟩
          have HB4 := hidd (HB3.out.trans (hb4.mono HB3.out.size))
          clear AW hb4
          go_wp2
          go_ret
          exact ⟨rfl, HB4.out⟩
      · have dc3 : decide (a0 < 0) = false := by rw [decide_eq_false_iff_not]; exact c3
        by_cases c4 : 2000 < a0
        · have dc4 : decide ((2000 : Int) < a0) = true := by rw [decide_eq_true_eq]; exact c4
          go_enter Tryd.func3, Tryd.ntmps3
          go_wp2_with fail
          refine LG.out.mono ?_
          rintro e wl0 ⟨x, rfl, e0, hx⟩
          subst e0
          cases x with
          | true =>
            go_wp2
            go_ret
            exact ⟨rfl, Below.refl _ _⟩
          | false =>
            obtain ⟨hlen, hsm⟩ := hx rfl
            have HSM := hidd hsm
            clear hx hsm LG
            go_wp2_with fail
            refine GR.out.mono ?_
            rintro e w1 ⟨p, rfl, hv1⟩
            have HV1 := hidd hv1
            clear GR hv1
            have NW := hidd (refNewL w1)
            unfold ptr at NW
            go_wp2_with fail
            refine NW.out.mono ?_
            rintro e w2 ⟨m, M, rfl, hl2, hm2, hb2⟩
            have HB2 := hidd ((lvd_b HV1.out).trans (hb2.mono (lvd_b HV1.out).size))
            have HL2 := hidd hl2
            obtain ⟨S1, k1, k2, k3⟩ := HV1.out
            have HA2 := hidd (dk.keep k1 hb2.size fun b e => hb2.block b (dk.lt k1 b e))
            have ON := hidd (wl.openNo w2 p (newD 2000) S1 HA2.out a0 a1 h0 h1 (by show ¬ (64 ≤ a1 ∧ a1 ≤ 1000000 ∧ 0 ≤ a0 ∧ a0 ≤ (List.replicate 2000 (0 : UInt8)).length ∧ a1 ≤ (List.replicate 2000 (0 : UInt8)).length - a0); rw [List.length_replicate]; omega))
            clear NW hl2 hm2 hb2 k1 k2 k3 HA2 HL2 HV1
            unfold ptr at ON
            go_wp2_with fail
            refine ON.out.mono ?_
            rintro e w3 ⟨⟨ax, cx, rfl⟩, hb3⟩
            have HB3 := hidd (HB2.out.trans (hb3.mono HB2.out.size))
            clear ON hb3
            have AW := hidd (awake_any dk wl w3 (TB.on HB3.out))
            go_wp2_with fail
            refine AW.out.mono ?_
            rintro e w4 ⟨rfl, hb4⟩
            have HB4 := hidd (HB3.out.trans (hb4.mono HB3.out.size))
            clear AW hb4
            go_wp2
            go_ret
            exact ⟨rfl, HB4.out⟩
        · have dc4 : decide ((2000 : Int) < a0) = false := by rw [decide_eq_false_iff_not]; exact c4
          have w20 : IntKind.i64.wrap ((2000 : Int) - a0) = 2000 - a0 := wrap_int (2000 - a0) (by omega) (by omega)
          by_cases c5 : 2000 - a0 < a1
          · have dc5 : decide ((2000 : Int) - a0 < a1) = true := by rw [decide_eq_true_eq]; exact c5
            go_enter Tryd.func3, Tryd.ntmps3
            go_wp2_with fail
            refine LG.out.mono ?_
            rintro e wl0 ⟨x, rfl, e0, hx⟩
            subst e0
            cases x with
            | true =>
              go_wp2
              go_ret
              exact ⟨rfl, Below.refl _ _⟩
            | false =>
              obtain ⟨hlen, hsm⟩ := hx rfl
              have HSM := hidd hsm
              clear hx hsm LG
              go_wp2_with fail
              refine GR.out.mono ?_
              rintro e w1 ⟨p, rfl, hv1⟩
              have HV1 := hidd hv1
              clear GR hv1
              have NW := hidd (refNewL w1)
              unfold ptr at NW
              go_wp2_with fail
              refine NW.out.mono ?_
              rintro e w2 ⟨m, M, rfl, hl2, hm2, hb2⟩
              have HB2 := hidd ((lvd_b HV1.out).trans (hb2.mono (lvd_b HV1.out).size))
              have HL2 := hidd hl2
              obtain ⟨S1, k1, k2, k3⟩ := HV1.out
              have HA2 := hidd (dk.keep k1 hb2.size fun b e => hb2.block b (dk.lt k1 b e))
              have ON := hidd (wl.openNo w2 p (newD 2000) S1 HA2.out a0 a1 h0 h1 (by show ¬ (64 ≤ a1 ∧ a1 ≤ 1000000 ∧ 0 ≤ a0 ∧ a0 ≤ (List.replicate 2000 (0 : UInt8)).length ∧ a1 ≤ (List.replicate 2000 (0 : UInt8)).length - a0); rw [List.length_replicate]; omega))
              clear NW hl2 hm2 hb2 k1 k2 k3 HA2 HL2 HV1
              unfold ptr at ON
              go_wp2_with fail
              refine ON.out.mono ?_
              rintro e w3 ⟨⟨ax, cx, rfl⟩, hb3⟩
              have HB3 := hidd (HB2.out.trans (hb3.mono HB2.out.size))
              clear ON hb3
              have AW := hidd (awake_any dk wl w3 (TB.on HB3.out))
              go_wp2_with fail
              refine AW.out.mono ?_
              rintro e w4 ⟨rfl, hb4⟩
              have HB4 := hidd (HB3.out.trans (hb4.mono HB3.out.size))
              clear AW hb4
              go_wp2
              go_ret
              exact ⟨rfl, HB4.out⟩
          · have dc5 : decide ((2000 : Int) - a0 < a1) = false := by rw [decide_eq_false_iff_not]; exact c5
            obtain ⟨f, rfl⟩ : ∃ f : Nat, a0 = (f : Int) := ⟨a0.toNat, by omega⟩
            obtain ⟨r, rfl⟩ : ∃ r : Nat, a1 = (r : Int) := ⟨a1.toNat, by omega⟩
            have hr1 : 64 ≤ r := by omega
            have hr2 : r ≤ 1000000 := by omega
            have hfr : f + r ≤ 2000 := by omega
            go_enter Tryd.func3, Tryd.ntmps3
            go_wp2_with fail
            refine LG.out.mono ?_
            rintro e wl0 ⟨x, rfl, e0, hx⟩
            subst e0
            cases x with
            | true =>
              go_wp2
              go_ret
              exact ⟨rfl, Below.refl _ _⟩
            | false =>
              obtain ⟨hlen, hsm⟩ := hx rfl
              have HSM := hidd hsm
              clear hx hsm LG
              go_wp2_with fail
              refine GR.out.mono ?_
              rintro e w1 ⟨p, rfl, hv1⟩
              have HV1 := hidd hv1
              clear GR hv1
              have NW := hidd (refNewL w1)
              unfold ptr at NW
              go_wp2_with fail
              refine NW.out.mono ?_
              rintro e w2 ⟨m, M, rfl, hl2, hm2, hb2⟩
              have HB2 := hidd ((lvd_b HV1.out).trans (hb2.mono (lvd_b HV1.out).size))
              have HL2 := hidd hl2
              have HV2 : Hid (LvDX At M W w2 p (newD 2000)) := by
                obtain ⟨S1, k1, k2, k3⟩ := HV1.out
                exact ⟨S1, dk.keep k1 hb2.size fun b e => hb2.block b (dk.lt k1 b e), k2, HB2.out, fun b e e2 => by have := hm2 b e; have := dk.lt k1 b e2; omega⟩
              have HMB : Hid (∀ b, M b → W.heap.size ≤ b) := fun b e => by have := hm2 b e; have := (lvd_b HV1.out).size; omega
              have OP := hidd (run_first dk wl W w2 TB p m f r M HV2.out HL2.out ⟨hr1, hr2⟩ hfr)
              clear NW hl2 hm2 hb2 HV1 HL2 HV2
              unfold ptr at OP
              go_wp2_with fail
              refine OP.out.mono ?_
              rintro e w3 ⟨q, ax, cx, D3, rfl, ht3, hl3, hv3, hr3, hp3⟩
              have RO := hidd (run_opens dk wl W w3 p q m f r D3 M hv3 hl3 HMB.out hr3 hp3 ax cx ht3)
              clear OP ht3 hl3 hv3 hr3 hp3 HMB
              unfold ptr at RO
              go_wp2_with fail
              refine RO.out.mono ?_
              rintro e w4 ⟨rfl, L4, M4, hs4⟩
              have HS4 := hidd hs4
              clear RO hs4
              go_wp2
              go_loopw [9, 12, 13, 14] (fun wv i x y wr => ∃ (k q : Nat) (D : DkT) (L : LgT) (M : Nat → Prop), k ≤ len2 ∧ i = .int .i64 k ∧ wv = .pointer (some ⟨q, 0, none⟩) ∧ Hid (RunS At WM WP W wr p q m f r k D L M)) (fun _ i _ _ _ => len2 - (intOf i).toNat)
              case atStart => exact ⟨0, q, D3, L4, M4, by omega, rfl, rfl, HS4⟩
              case round =>
                obtain ⟨k, q, D, L, M, hk, rfl, rfl, HS⟩ := hrel
                clear HS4
                by_cases hlt : k < len2
                · obtain ⟨b, off, o, ea, hbl, ho, hom, hin, c0, c1, c2, c3⟩ := H2.out.at k hlt
                  subst ea
                  have hsmo := HSM.out o hom
                  obtain ⟨kk, nn, kp, ta, tl, tc, ts⟩ := o
                  have HB := hidd HS.out.lv.w.b
                  have e0 : wr.cell? ⟨b, off + k * 4, none⟩ = some (.int .i64 kk) := (HB.out.cell (p := ⟨b, off + k * 4, none⟩) hbl).trans c0
                  have e1 : wr.cell? ⟨b, off + k * 4 + 1, none⟩ = some (.int .i64 nn) := (HB.out.cell (p := ⟨b, off + k * 4 + 1, none⟩) hbl).trans c1
                  have e2 : wr.cell? ⟨b, off + k * 4 + 2, none⟩ = some (.int .i64 kp) := (HB.out.cell (p := ⟨b, off + k * 4 + 2, none⟩) hbl).trans c2
                  have e3 : wr.cell? ⟨b, off + k * 4 + 3, none⟩ = some (.slice ta tl tc) := (HB.out.cell (p := ⟨b, off + k * 4 + 3, none⟩) hbl).trans c3
                  have IX := fun V => index_ow b off len2 cap2 k hlt V
                  have hd : decide ((k : Int) < (len2 : Int)) = true := by rw [decide_eq_true_eq]; omega
                  have hw1 := wrap_int ((k : Int) + 1) (by omega) (by omega)
                  have HIN : Hid (InT W ⟨ta, tl, tc, ts⟩) := hin.t
                  have HNN : Hid (In64 nn) := hin.n
                  have HKP : Hid (In64 kp) := hin.keep
                  have HSO : Hid (Small 30 5000 ts) := hsmo
                  clear c0 c1 c2 c3 ho hom hin hsmo HB
                  have HS1 : Hid (RunS At WM WP W (wr.alloc (.cells #[.int .i64 kk, .int .i64 nn, .int .i64 kp, .slice ta tl tc] 36)) p q m f r k D L M) := HS.out.below dk wl ((Below.refl _ _).alloc (Nat.le_refl _) _)
                  clear HS
                  by_cases hk1 : kk = 1
                  · subst hk1
                    have CH := hidd (change1 dk wl W (wr.alloc (.cells #[.int .i64 1, .int .i64 nn, .int .i64 kp, .slice ta tl tc] 36)) p q m f r k D L M HS1.out (by omega) hr2 nn kp ta tl tc ts HIN.out HSO.out)
                    clear HS1
                    unfold ptr at CH
                    go_wp2_with fail
                    refine CH.out.mono ?_
                    rintro e w5 ⟨rfl, D5, L5, M5, h5⟩
                    have HS5 := hidd h5
                    clear CH h5
                    have hnb := now_bd HS5.out (by omega)
                    have LN := hidd (run_len dk wl W w5 p q m f r (k + 1) D5 L5 M5 HS5.out)
                    obtain ⟨n, Hn⟩ : ∃ n, Hid (n = L5.now.recs.length) := ⟨_, hidd rfl⟩
                    rw [← Hn.out] at LN hnb
                    unfold ptr at LN
                    go_wp2_with fail
                    refine LN.out.mono ?_
                    rintro e w6 ⟨rfl, h6⟩
                    have NWx := hidd (run_now dk wl W w6 p q m f r (k + 1) D5 L5 M5 h6 (by omega))
                    rw [← Hn.out] at NWx
                    clear LN h6 Hn HS5
                    unfold ptr at NWx
                    have hnm : n ≤ 9223372036854775807 := by omega
                    go_wp2_with fail
                    refine NWx.out.mono ?_
                    rintro e w7 ⟨⟨cc, rfl⟩, h7⟩
                    have HS7 := hidd h7
                    clear NWx h7
                    go_wp2_with (first
                      | ((with_reducible show wpList _ _ _ ({ dst := some 132, op := _, type := _, pos := _, after := _, guard := _ } :: _) _ _); refine wpList_field rfl _ (.tmp 131) 0 rfl _ _ rfl (field_st _ _ _ _ _) ?_; try simp only [Act.put, pS1, pS2, pS3])
                      | fail)
                    go_roundw
                    case rel => exact ⟨k + 1, q, D5, L5, M5, by omega, by go_num, rfl, HS7⟩
                    case measure => simp [intOf]; omega
                  · have hb1 : (kk == 1) = false := by rw [beq_eq_false_iff_ne]; exact hk1
                    by_cases hk3 : kk = 3
                    · subst hk3
                      have CH := hidd (change3 dk wl W (wr.alloc (.cells #[.int .i64 3, .int .i64 nn, .int .i64 kp, .slice ta tl tc] 36)) p q m f r k D L M HS1.out (by omega) hr2 nn kp ta tl tc ts HIN.out HSO.out)
                      clear HS1
                      unfold ptr at CH
                      go_wp2_with fail
                      refine CH.out.mono ?_
                      rintro e w5 ⟨rfl, D5, L5, M5, h5⟩
                      have HS5 := hidd h5
                      clear CH h5
                      have hnb := now_bd HS5.out (by omega)
                      have LN := hidd (run_len dk wl W w5 p q m f r (k + 1) D5 L5 M5 HS5.out)
                      obtain ⟨n, Hn⟩ : ∃ n, Hid (n = L5.now.recs.length) := ⟨_, hidd rfl⟩
                      rw [← Hn.out] at LN hnb
                      unfold ptr at LN
                      go_wp2_with fail
                      refine LN.out.mono ?_
                      rintro e w6 ⟨rfl, h6⟩
                      have NWx := hidd (run_now dk wl W w6 p q m f r (k + 1) D5 L5 M5 h6 (by omega))
                      rw [← Hn.out] at NWx
                      clear LN h6 Hn HS5
                      unfold ptr at NWx
                      have hnm : n ≤ 9223372036854775807 := by omega
                      go_wp2_with fail
                      refine NWx.out.mono ?_
                      rintro e w7 ⟨⟨cc, rfl⟩, h7⟩
                      have HS7 := hidd h7
                      clear NWx h7
                      go_wp2_with (first
                        | ((with_reducible show wpList _ _ _ ({ dst := some 132, op := _, type := _, pos := _, after := _, guard := _ } :: _) _ _); refine wpList_field rfl _ (.tmp 131) 0 rfl _ _ rfl (field_st _ _ _ _ _) ?_; try simp only [Act.put, pS1, pS2, pS3])
                        | fail)
                      go_roundw
                      case rel => exact ⟨k + 1, q, D5, L5, M5, by omega, by go_num, rfl, HS7⟩
                      case measure => simp [intOf]; omega
                    · have hb3 : (kk == 3) = false := by rw [beq_eq_false_iff_ne]; exact hk3
                      by_cases hk2 : kk = 2
                      · subst hk2
                        have CH := hidd (run_sync dk wl W (wr.alloc (.cells #[.int .i64 2, .int .i64 nn, .int .i64 kp, .slice ta tl tc] 36)) p q m f r k D L M HS1.out (by omega))
                        clear HS1
                        unfold ptr at CH
                        go_wp2_with fail
                        refine CH.out.mono ?_
                        rintro e w3x ⟨n3, D5, rfl, hc3⟩
                        clear CH
                        rcases hc3 with ⟨rfl, hs3⟩ | ⟨rfl, hdn, hs3⟩
                        · have HY := hidd hs3
                          have FA := hidd (fair_any dk W w3x p D5 hs3.lv.w.disk 0 (.inl rfl))
                          clear hs3
                          unfold ptr at FA
                          go_wp2_with fail
                          refine FA.out.mono ?_
                          rintro e w4x ⟨rfl, hb4⟩
                          have SYD := hidd (run_synced dk wl W w4x p q m f r k D5 L M (HY.out.below dk wl hb4) (by omega))
                          clear FA hb4 HY
                          unfold ptr at SYD
                          go_wp2_with fail
                          refine SYD.out.mono ?_
                          rintro e w5 ⟨⟨vs, rfl⟩, M5, h5⟩
                          have HS5 := hidd h5
                          clear SYD h5
                          have hnb := now_bd HS5.out (by omega)
                          have LN := hidd (run_len dk wl W w5 p q m f r (k + 1) D5 (syncedL L) M5 HS5.out)
                          obtain ⟨n, Hn⟩ : ∃ n, Hid (n = (syncedL L).now.recs.length) := ⟨_, hidd rfl⟩
                          rw [← Hn.out] at LN hnb
                          unfold ptr at LN
                          go_wp2_with fail
                          refine LN.out.mono ?_
                          rintro e w6 ⟨rfl, h6⟩
                          have NWx := hidd (run_now dk wl W w6 p q m f r (k + 1) D5 (syncedL L) M5 h6 (by omega))
                          rw [← Hn.out] at NWx
                          clear LN h6 Hn HS5
                          unfold ptr at NWx
                          have hnm : n ≤ 9223372036854775807 := by omega
                          go_wp2_with fail
                          refine NWx.out.mono ?_
                          rintro e w7 ⟨⟨cc, rfl⟩, h7⟩
                          have HS7 := hidd h7
                          clear NWx h7
                          go_wp2_with (first
                            | ((with_reducible show wpList _ _ _ ({ dst := some 132, op := _, type := _, pos := _, after := _, guard := _ } :: _) _ _); refine wpList_field rfl _ (.tmp 131) 0 rfl _ _ rfl (field_st _ _ _ _ _) ?_; try simp only [Act.put, pS1, pS2, pS3])
                            | fail)
                          go_roundw
                          case rel => exact ⟨k + 1, q, D5, (syncedL L), M5, by omega, by go_num, rfl, HS7⟩
                          case measure => simp [intOf]; omega
                        · have HY := hidd hs3.same
                          have FA := hidd (fair_any dk W w3x p D5 hs3.lv.w.disk 80 (.inr ⟨rfl, hdn⟩))
                          clear hs3
                          unfold ptr at FA
                          go_wp2_with fail
                          refine FA.out.mono ?_
                          rintro e w5 ⟨rfl, hb4⟩
                          have HS5 := hidd (HY.out.below dk wl hb4)
                          clear FA hb4 HY
                          have hnb := now_bd HS5.out (by omega)
                          have LN := hidd (run_len dk wl W w5 p q m f r (k + 1) D5 L M HS5.out)
                          obtain ⟨n, Hn⟩ : ∃ n, Hid (n = L.now.recs.length) := ⟨_, hidd rfl⟩
                          rw [← Hn.out] at LN hnb
                          unfold ptr at LN
                          go_wp2_with fail
                          refine LN.out.mono ?_
                          rintro e w6 ⟨rfl, h6⟩
                          have NWx := hidd (run_now dk wl W w6 p q m f r (k + 1) D5 L M h6 (by omega))
                          rw [← Hn.out] at NWx
                          clear LN h6 Hn HS5
                          unfold ptr at NWx
                          have hnm : n ≤ 9223372036854775807 := by omega
                          go_wp2_with fail
                          refine NWx.out.mono ?_
                          rintro e w7 ⟨⟨cc, rfl⟩, h7⟩
                          have HS7 := hidd h7
                          clear NWx h7
                          go_wp2_with (first
                            | ((with_reducible show wpList _ _ _ ({ dst := some 132, op := _, type := _, pos := _, after := _, guard := _ } :: _) _ _); refine wpList_field rfl _ (.tmp 131) 0 rfl _ _ rfl (field_st _ _ _ _ _) ?_; try simp only [Act.put, pS1, pS2, pS3])
                            | fail)
                          go_roundw
                          case rel => exact ⟨k + 1, q, D5, L, M, by omega, by go_num, rfl, HS7⟩
                          case measure => simp [intOf]; omega
                      · have hb2 : (kk == 2) = false := by rw [beq_eq_false_iff_ne]; exact hk2
                        by_cases hk4 : kk = 4
                        · subst hk4
                          have CH := hidd (run_stop dk wl W (wr.alloc (.cells #[.int .i64 4, .int .i64 nn, .int .i64 kp, .slice ta tl tc] 36)) p q m f r k D L M HS1.out nn HNN.out)
                          clear HS1
                          unfold ptr at CH
                          go_wp2_with fail
                          refine CH.out.mono ?_
                          rintro e w5 ⟨⟨xs, rfl⟩, D5, h5⟩
                          have HS5 := hidd h5
                          clear CH h5
                          have hnb := now_bd HS5.out (by omega)
                          have LN := hidd (run_len dk wl W w5 p q m f r (k + 1) D5 L M HS5.out)
                          obtain ⟨n, Hn⟩ : ∃ n, Hid (n = L.now.recs.length) := ⟨_, hidd rfl⟩
                          rw [← Hn.out] at LN hnb
                          unfold ptr at LN
                          go_wp2_with fail
                          refine LN.out.mono ?_
                          rintro e w6 ⟨rfl, h6⟩
                          have NWx := hidd (run_now dk wl W w6 p q m f r (k + 1) D5 L M h6 (by omega))
                          rw [← Hn.out] at NWx
                          clear LN h6 Hn HS5
                          unfold ptr at NWx
                          have hnm : n ≤ 9223372036854775807 := by omega
                          go_wp2_with fail
                          refine NWx.out.mono ?_
                          rintro e w7 ⟨⟨cc, rfl⟩, h7⟩
                          have HS7 := hidd h7
                          clear NWx h7
                          go_wp2_with (first
                            | ((with_reducible show wpList _ _ _ ({ dst := some 132, op := _, type := _, pos := _, after := _, guard := _ } :: _) _ _); refine wpList_field rfl _ (.tmp 131) 0 rfl _ _ rfl (field_st _ _ _ _ _) ?_; try simp only [Act.put, pS1, pS2, pS3])
                            | fail)
                          go_roundw
                          case rel => exact ⟨k + 1, q, D5, L, M, by omega, by go_num, rfl, HS7⟩
                          case measure => simp [intOf]; omega
                        · have hb4 : (kk == 4) = false := by rw [beq_eq_false_iff_ne]; exact hk4
                          by_cases hk5 : kk = 5
                          · subst hk5
                            have CH := hidd (opened5 dk wl W TB (wr.alloc (.cells #[.int .i64 5, .int .i64 nn, .int .i64 kp, .slice ta tl tc] 36)) p q m f r k D L M HS1.out (by omega) ⟨hr1, hr2⟩ hfr nn kp HNN.out HKP.out ta tl tc)
                            clear HS1
                            unfold ptr at CH
                            go_wp2_with fail
                            refine CH.out.mono ?_
                            rintro e w5 ⟨q5, rfl, D5, L5, M5, h5⟩
                            have HS5 := hidd h5
                            clear CH h5
                            have hnb := now_bd HS5.out (by omega)
                            have LN := hidd (run_len dk wl W w5 p q5 m f r (k + 1) D5 L5 M5 HS5.out)
                            obtain ⟨n, Hn⟩ : ∃ n, Hid (n = L5.now.recs.length) := ⟨_, hidd rfl⟩
                            rw [← Hn.out] at LN hnb
                            unfold ptr at LN
                            go_wp2_with fail
                            refine LN.out.mono ?_
                            rintro e w6 ⟨rfl, h6⟩
                            have NWx := hidd (run_now dk wl W w6 p q5 m f r (k + 1) D5 L5 M5 h6 (by omega))
                            rw [← Hn.out] at NWx
                            clear LN h6 Hn HS5
                            unfold ptr at NWx
                            have hnm : n ≤ 9223372036854775807 := by omega
                            go_wp2_with fail
                            refine NWx.out.mono ?_
                            rintro e w7 ⟨⟨cc, rfl⟩, h7⟩
                            have HS7 := hidd h7
                            clear NWx h7
                            go_wp2_with (first
                              | ((with_reducible show wpList _ _ _ ({ dst := some 132, op := _, type := _, pos := _, after := _, guard := _ } :: _) _ _); refine wpList_field rfl _ (.tmp 131) 0 rfl _ _ rfl (field_st _ _ _ _ _) ?_; try simp only [Act.put, pS1, pS2, pS3])
                              | fail)
                            go_roundw
                            case rel => exact ⟨k + 1, q5, D5, L5, M5, by omega, by go_num, rfl, HS7⟩
                            case measure => simp [intOf]; omega
                          · have hb5 : (kk == 5) = false := by rw [beq_eq_false_iff_ne]; exact hk5
                            by_cases hk6 : kk = 6
                            · subst hk6
                              have CH := hidd (opened6 dk wl W TB (wr.alloc (.cells #[.int .i64 6, .int .i64 nn, .int .i64 kp, .slice ta tl tc] 36)) p q m f r k D L M HS1.out (by omega) ⟨hr1, hr2⟩ hfr nn kp HNN.out HKP.out ta tl tc)
                              clear HS1
                              unfold ptr at CH
                              go_wp2_with fail
                              refine CH.out.mono ?_
                              rintro e w5 ⟨q5, rfl, D5, L5, M5, h5⟩
                              have HS5 := hidd h5
                              clear CH h5
                              have hnb := now_bd HS5.out (by omega)
                              have LN := hidd (run_len dk wl W w5 p q5 m f r (k + 1) D5 L5 M5 HS5.out)
                              obtain ⟨n, Hn⟩ : ∃ n, Hid (n = L5.now.recs.length) := ⟨_, hidd rfl⟩
                              rw [← Hn.out] at LN hnb
                              unfold ptr at LN
                              go_wp2_with fail
                              refine LN.out.mono ?_
                              rintro e w6 ⟨rfl, h6⟩
                              have NWx := hidd (run_now dk wl W w6 p q5 m f r (k + 1) D5 L5 M5 h6 (by omega))
                              rw [← Hn.out] at NWx
                              clear LN h6 Hn HS5
                              unfold ptr at NWx
                              have hnm : n ≤ 9223372036854775807 := by omega
                              go_wp2_with fail
                              refine NWx.out.mono ?_
                              rintro e w7 ⟨⟨cc, rfl⟩, h7⟩
                              have HS7 := hidd h7
                              clear NWx h7
                              go_wp2_with (first
                                | ((with_reducible show wpList _ _ _ ({ dst := some 132, op := _, type := _, pos := _, after := _, guard := _ } :: _) _ _); refine wpList_field rfl _ (.tmp 131) 0 rfl _ _ rfl (field_st _ _ _ _ _) ?_; try simp only [Act.put, pS1, pS2, pS3])
                                | fail)
                              go_roundw
                              case rel => exact ⟨k + 1, q5, D5, L5, M5, by omega, by go_num, rfl, HS7⟩
                              case measure => simp [intOf]; omega
                            · have hb6 : (kk == 6) = false := by rw [beq_eq_false_iff_ne]; exact hk6
                              have HS5 := hidd HS1.out.next
                              clear HS1
                              have hnb := now_bd HS5.out (by omega)
                              have LN := hidd (run_len dk wl W (wr.alloc (.cells #[.int .i64 kk, .int .i64 nn, .int .i64 kp, .slice ta tl tc] 36)) p q m f r (k + 1) D L M HS5.out)
                              obtain ⟨n, Hn⟩ : ∃ n, Hid (n = L.now.recs.length) := ⟨_, hidd rfl⟩
                              rw [← Hn.out] at LN hnb
                              unfold ptr at LN
                              go_wp2_with fail
                              refine LN.out.mono ?_
                              rintro e w6 ⟨rfl, h6⟩
                              have NWx := hidd (run_now dk wl W w6 p q m f r (k + 1) D L M h6 (by omega))
                              rw [← Hn.out] at NWx
                              clear LN h6 Hn HS5
                              unfold ptr at NWx
                              have hnm : n ≤ 9223372036854775807 := by omega
                              go_wp2_with fail
                              refine NWx.out.mono ?_
                              rintro e w7 ⟨⟨cc, rfl⟩, h7⟩
                              have HS7 := hidd h7
                              clear NWx h7
                              go_wp2_with (first
                                | ((with_reducible show wpList _ _ _ ({ dst := some 132, op := _, type := _, pos := _, after := _, guard := _ } :: _) _ _); refine wpList_field rfl _ (.tmp 131) 0 rfl _ _ rfl (field_st _ _ _ _ _) ?_; try simp only [Act.put, pS1, pS2, pS3])
                                | fail)
                              go_roundw
                              case rel => exact ⟨k + 1, q, D, L, M, by omega, by go_num, rfl, HS7⟩
                              case measure => simp [intOf]; omega
                · obtain rfl : len2 = k := by omega
                  have hd : decide ((len2 : Int) < (len2 : Int)) = false := by rw [decide_eq_false_iff_not]; omega
                  have HB := hidd HS.out.lv.w.b
                  have AW := hidd (awake_any dk wl wr (TB.on HB.out))
                  clear HS
                  go_wp2_with fail
                  refine AW.out.mono ?_
                  rintro e w9 ⟨rfl, hb9⟩
                  have HB9 := hidd (HB.out.trans (hb9.mono HB.out.size))
                  clear AW hb9
                  go_wp2
                  go_ret
                  exact ⟨rfl, HB9.out⟩
end Go.Proofs.YtdnnhmihigdnkaaDoor
