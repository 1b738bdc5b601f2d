/- Texts of our own that the row of TopJournal leans on, part 36. -/
import Derived.Test.YtgclohgcehhfnabGreatDoorTopJournalJ0
import Derived.Test.YtgclohgcehhfnabGreatDoorTopJournalJ20
import Derived.Test.YtgclohgcehhfnabGreatDoorTopJournalJ31
import Derived.Test.YtgclohgcehhfnabGreatDoorTopJournalJ32
import Derived.Test.YtgclohgcehhfnabGreatDoorTopJournalJ33
import Derived.Test.YtgclohgcehhfnabGreatDoorTopJournalJ35
/- The statement's journals(): an item comes through a wal. -/
namespace Go.Proofs.YtgclohgcehhfnabGreatDoor
open Go.RowKit Nums Sums
set_option linter.unusedVariables false
set_option linter.unusedSimpArgs false
set_option maxRecDepth 100000
variable {At : World → Nat → DkT → (Nat → Prop) → Prop} {Vt : Type} {WM : World → Nat → Nat → Nat → Nat → Vt → (Nat → Prop) → Prop} {WP : Nat → Nat → Vt → DkT → LgT → Prop} {PA : Nat → Nat → DkT → LgT → Bool → Prop}
theorem one_commit (dk : DiskC At) (wl : WalC At WM WP PA) (X : Nat → Prop) (w0 w : World) (p q : Nat) (D : DkT) (L : LgT) (h : LvX At WM WP X w0 w p q 0 2000 D L) (hI : IsL L ⟨[], 0⟩) (hs : D.stops = false) (hr : D.safe.length = 2000) (hp : D.puts.length ≤ 1000) (hX : ∀ b, X b → b < w.heap.size) (b : Nat) (hb : X b) (s : ByteArray) (hz : s.size ≤ 256) (hT : Texts w (some ⟨b, 0, none⟩) 1 [s]) :
    Calls Tryz.prog 10 #[ptr q, .slice (some ⟨b, 0, none⟩) 1 1] w fun e w' => e = .returned (.int .i64 0) ∧ w.heap.size ≤ w'.heap.size ∧ (∀ b, X b → w'.heap[b]? = w.heap[b]?) ∧ ∃ D' L', LvX At WM WP X w0 w' p q 0 2000 D' L' ∧ L'.now.recs = [s] ∧ D'.stops = false ∧ D'.safe.length = 2000 ∧ D'.puts.length ≤ 1400 := by
  refine (lvx_commit dk wl X w0 w p q 0 2000 D L h hX (by omega) (some ⟨b, 0, none⟩) 1 1 [s] hT ⟨by show 1 ≤ 30; omega, fun y hy => by rw [List.mem_singleton] at hy; rw [hy]; omega⟩ (fun e => by cases e) (fun b' e => .inr (by obtain ⟨o, e, _⟩ := e; cases e; exact hb))).mono ?_
  rintro e w' ⟨n, D', L', rfl, k1, k2, k3, k4, k5⟩
  have hpp := k2.puts
  have hs' := k2.stops.trans hs
  rcases k1 with ⟨k1, _⟩ | ⟨_, ⟨rfl, hL⟩ | ⟨rfl, k1, _⟩ | ⟨rfl, _, k1⟩⟩
  · have : batchB [s] = true := by
      unfold batchB
      rw [decide_eq_true_eq]
      exact ⟨by show 1 ≤ 1000; omega, fun y hy => by rw [List.mem_singleton] at hy; rw [hy]; omega⟩
    rw [this] at k1; cases k1
  · refine ⟨rfl, k4, k5, D', L', k3, ?_, hs', k2.room.trans hr, by omega⟩
    rw [hL]
    show L.now.recs ++ [s] = [s]
    rw [hI.2.1]
    rfl
  · have := k3.w.disk.calm dk hs'
    rw [this] at k1; cases k1
  · have h2 : 2000 / 2 < L.now.cost + (16 + 8 + s.size) + 16 := k1
    rw [hI.2.1] at h2
    have : (1000 : Nat) < 0 + (16 + 8 + s.size) + 16 := h2
    omega
theorem one_open (dk : DiskC At) (wl : WalC At WM WP PA) (X : Nat → Prop) (w0 : World) (TB : TabW w0) (w : World) (p q : Nat) (D : DkT) (L : LgT) (h : LvX At WM WP X w0 w p q 0 2000 D L) (s : ByteArray) (hn : L.now.recs = [s]) (hs : D.stops = false) (hr : D.safe.length = 2000) (hp : D.puts.length ≤ 1400) (hX : ∀ b, X b → b < w.heap.size) :
    Calls Tryz.prog 8 #[ptr p, .int .i64 0, .int .i64 2000] w fun e w' => ∃ q a cap, e = .returned (.tuple #[ptr q, .slice a 1 cap, .int .i64 0]) ∧ Texts w' a 1 [s] ∧ w.heap.size ≤ w'.heap.size ∧ (∀ b, X b → w'.heap[b]? = w.heap[b]?) ∧ Below w0.heap.size w0 w' := by
  refine (dx_open wl X w0 TB w p D h.dx hX (by omega) 0 2000 (by omega) (by omega) L false (h.w.part wl)).mono ?_
  rintro e w' ⟨D', k1, k2, k3, k4⟩
  rcases k4 with ⟨q', a, len, cap, rs, rfl, b1, b2, b3, b4, b5⟩ | ⟨_, b1, _, S, b2, b3, b4, b5⟩
  · have e1 := (opensB_calm L rs).1 b4
    rw [hn] at e1
    subst e1
    obtain rfl : 1 = len := b1.1
    exact ⟨q', a, cap, rfl, b1, k2, k3, b5.w.b⟩
  · have := dk.calm b2 (k1.stops.trans hs)
    rw [this] at b1; cases b1
theorem ju_right : rightI (userI 1 1) = true := by decide
structure HeldJ (w : World) (a : Option Addr) (s : ByteArray) (b : Option Addr) (n c : Nat) (bs : List UInt8) (V : World) : Prop where
  bl : Below w.heap.size w V
  t : Texts V a 1 [s]
  r : Reads V b n c bs
theorem HeldJ.drew {w : World} {a : Option Addr} {s : ByteArray} {b : Option Addr} {n c : Nat} {bs : List UInt8} {V : World} (h : HeldJ w a s b n c bs V) : HeldJ w a s b n c bs V.drew :=
  ⟨h.bl.drew, h.t.keep (Below.refl _ _).drew, h.r.below (Below.refl _ _).drew⟩
set_option maxHeartbeats 16000000 in
theorem journals_true (dk : DiskC At) (wl : WalC At WM WP PA) (w : World) (TB : TabW w) :
    Calls Tryz.prog 6 #[] w fun e w' => e = .returned (.bool true) ∧ Below w.heap.size w w' := by
  have NW := hidd (lvd_new dk w w (Below.refl _ _) 2000 (by omega))
  have PP := hidd (wl.fresh 2000 0 2000 (by omega) (by omega))
  obtain ⟨D1, HD⟩ : ∃ D, Hid (D = newD 2000) := ⟨_, hidd rfl⟩
  have sD1 : D1.stops = false := by rw [HD.out]; rfl
  have rD1 : D1.safe.length = 2000 := by rw [HD.out]; exact List.length_replicate
  have bD1 : D1.puts.length ≤ 0 := by rw [HD.out]; exact Nat.le_refl _
  rw [← HD.out] at NW PP
  have OP : Hid (∀ V p, LvD At w V p D1 → Calls Tryz.prog 8 #[ptr p, .int .i64 0, .int .i64 2000] V fun e w' => ∃ D' q a cap L', e = .returned (.tuple #[ptr q, .slice a 0 cap, .int .i64 0]) ∧ WentD D1 D' ∧ IsL L' ⟨[], 0⟩ ∧ LvW At WM WP w w' p q 0 2000 D' L') := fun V p h => by
    refine (open_one dk wl w TB V p D1 h sD1 (by omega) 0 2000 (by omega) (by omega) newL false PP.out ⟨[], 0⟩ isL_new).mono ?_
    rintro e w' ⟨D', q, a, cap, L', e1, k1, k2, k3, k4, k5, k6⟩
    exact ⟨D', q, a, cap, L', e1, k1, k5, k6⟩
  obtain ⟨X, HX, HSX, H1X, HNX⟩ := item_row (userI 1 1) (userI_ok 1 1)
  obtain ⟨U, HU, HSU, H1U, H109⟩ := entry_row (userI 1 1).e (userI_ok 1 1)
  have HB1 : Hid (Tryz.prog.built 47 [(0, .int .i64 1), (1, .int .i64 1), (2, .int .i64 1)] = some U) := by show _ = _; rw [HU.out]; exact builtUI 1 1
  have HB2 : Hid (Tryz.prog.built 49 [(0, .int .i64 1), (1, .agg U)] = some X) := builtI (userI 1 1) (userI_ok 1 1) U X HU HX
  obtain ⟨bs, Hbs⟩ : ∃ z, Hid (itemB (userI 1 1) = z) := ⟨_, hidk rfl⟩
  obtain ⟨nb, Hnb⟩ : ∃ z, Hid (bs.length = z) := ⟨_, hidk rfl⟩
  have PU : Hid (∀ V, Calls Tryz.prog 9 #[.agg X] V fun e w' => (∃ a cap, e = .returned (.tuple #[.slice a nb cap, .int .i64 0]) ∧ Reads w' a nb cap bs ∧ ∀ b off, a = some ⟨b, off, none⟩ → V.heap.size ≤ b) ∧ Below V.heap.size V w') := fun V => by
    have := putI_new (userI 1 1) (userI_in 1 1 (by unfold In64; decide) (by unfold In64; decide)) ju_right V X HX
    rw [Hbs.out, Hnb.out] at this
    exact this
  obtain ⟨s, Hs⟩ : ∃ s : ByteArray, Hid (s = ⟨bs.toArray⟩) := ⟨_, hidk rfl⟩
  have hsz : s.size ≤ 256 := by
    rw [Hs.out, ← Hbs.out]
    have := itemB_length ju_right (userI_ok 1 1)
    show (itemB (userI 1 1)).toArray.size ≤ 256
    simpa using this
  have CV : Hid (∀ V a c, Reads V a nb c bs → (convert 34 9 (.slice a nb c)).run Tryz.prog V = .ok (.string s) V) := fun V a c h => by rw [Hs.out]; exact conv_reads h
  have HST := hidk hsz
  try unfold ptr at NW OP
  clear HX HU Hbs Hnb Hs H1X HNX H1U H109 HD PP hsz
  go_enter Tryz.func6, Tryz.ntmps6
  go_wp2_with fail
  refine NW.out.mono ?_
  rintro e w1 ⟨p, rfl, h1⟩
  have HO1 := hidk (OP.out w1 p h1)
  try unfold ptr
  clear h1 OP NW
  go_wp2_with fail
  refine HO1.out.mono ?_
  rintro e w2 ⟨D2, q, a2, c2, L2, rfl, k1, k2, k3⟩
  have HLV := hidk k3
  have HIL := hidk k2
  have HS2 : Hid (D2.stops = false ∧ D2.safe.length = 2000 ∧ D2.puts.length ≤ 1000) := ⟨k1.stops.trans sD1, k1.room.trans rD1, by have := k1.puts; omega⟩
  try unfold ptr
  clear HO1 k1 k2 k3 sD1 rD1 bD1
  go_wp2_with (first
    | (show aD 22 _ _ _ _ _ _ _ _ _ _ _; refine wpList_build_some rfl 47 _ rfl [(0, .int .i64 1), (1, .int .i64 1), (2, .int .i64 1)] rfl U HB1.out ?_; try simp only [Act.put, pS1, pS2, pS3])
    | (show aD 23 _ _ _ _ _ _ _ _ _ _ _; refine wpList_build_some rfl 49 _ rfl [(0, .int .i64 1), (1, .agg U)] rfl X HB2.out ?_; try simp only [Act.put, pS1, pS2, pS3])
    | fail)
  refine (PU.out _).mono ?_
  rintro e w3 ⟨⟨a3, c3, rfl, hR3, hnw⟩, hb3⟩
  have hcv := CV.out w3 a3 c3 hR3
  have hba : Below w3.heap.size w3 (w3.alloc (.cells #[.string s] 9)) := (Below.refl _ _).alloc (Nat.le_refl _) _
  have hb4 : Below w2.heap.size w2 (w3.alloc (.cells #[.string s] 9)) := hb3.trans (hba.mono hb3.size)
  have HBU := hidk (build_text w3 s)
  have hR4 := hR3.below hba
  have hT4 := texts_one w3 s
  have hs4 : (w3.alloc (.cells #[.string s] 9)).heap.size = w3.heap.size + 1 := by simp
  obtain ⟨b4, hb4e⟩ : ∃ b, w3.heap.size = b := ⟨_, rfl⟩
  rw [hb4e] at HBU hT4 hs4
  obtain ⟨w4, hw4⟩ : ∃ v, w3.alloc (.cells #[.string s] 9) = v := ⟨_, rfl⟩
  rw [hw4] at hb4 HBU hR4 hT4 hs4
  have hX4 : LvX At WM WP (fun b => w2.heap.size ≤ b ∧ b < w4.heap.size) w w4 p q 0 2000 D2 L2 := HLV.out.x dk wl hb4 (fun b e => .inl e.1)
  have CM := hidk (one_commit dk wl _ w w4 p q D2 L2 hX4 HIL.out HS2.out.1 HS2.out.2.1 HS2.out.2.2 (fun b e => e.2) b4 ⟨by have := hb3.size; omega, by omega⟩ s HST.out hT4)
  have HR4 := hidk hR4
  have HNW := hidk hnw
  try unfold ptr at CM
  clear hR3 hb3 hba hR4 hnw hX4 hT4 hb4 hb4e hw4 HLV HIL HS2 hs4 HST
  go_wp2_with (first
    | (show aD 45 _ _ _ _ _ _ _ _ _ _ _; refine wpList_build_run_w (by rfl) 31 1 _ rfl #[(0, .string s)] rfl _ _ HBU.out ?_; try simp only [Act.put, pS1, pS2, pS3])
    | fail)
  refine CM.out.mono ?_
  rintro e w5 ⟨rfl, hs5, hk5, D5, L5, h5, hn5, hd5, hr5, hp5⟩
  have OP2 := hidk (one_open dk wl _ w TB w5 p q D5 L5 h5 s hn5 hd5 hr5 hp5 (fun b e => by have := e.2; omega))
  have HR5 : Hid (Reads w5 a3 nb c3 bs ∧ (∀ b off, a3 = some ⟨b, off, none⟩ → 0 < nb → w2.heap.size ≤ b ∧ b < w4.heap.size)) := by
    have hlt : ∀ b off, a3 = some ⟨b, off, none⟩ → 0 < nb → w2.heap.size ≤ b ∧ b < w4.heap.size := fun b off e h0 => ⟨HNW.out b off e, by
      obtain ⟨_, _, _, h4⟩ := HR4.out
      rcases h4 with ⟨e2, _⟩ | ⟨ad, e2, h2⟩ | ⟨b', off', e2, hl, _⟩
      · rw [e] at e2; cases e2
      · omega
      · rw [e] at e2; cases e2; exact hl⟩
    exact ⟨reads_same HR4.out hs5 fun b off e h0 => hk5 b (hlt b off e h0), hlt⟩
  try unfold ptr at OP2
  clear CM h5 hn5 hd5 hr5 hp5 hs5 hk5 HR4 HNW
  go_wp2_with fail
  refine OP2.out.mono ?_
  rintro e w6 ⟨q6, a6, c6, rfl, hT6, hs6, hk6, hb6⟩
  obtain ⟨b6, o6, s6, rfl, hc6, he6⟩ := hT6.cell 0 (by omega)
  obtain rfl : s = s6 := by simpa using he6
  have HJ : Hid (HeldJ w (some ⟨b6, o6, none⟩) s a3 nb c3 bs w6) := ⟨hb6, hT6, reads_same HR5.out.1 hs6 fun b off e h0 => hk6 b (HR5.out.2 b off e h0)⟩
  have ix : ∀ V, (Instr.indexAt 31 (.slice (some ⟨b6, o6, none⟩) 1 c6) (.int .i64 0)).run Tryz.prog V = .ok (.pointer (some ⟨b6, o6, none⟩)) V := fun V => by
    have hz : (sizeOf 9).run Tryz.prog V = .ok 1 V := by
      have h : (Tryz.prog.info? 9).map (·.size) = some 1 := by kernel_rfl
      cases hq : Tryz.prog.info? 9 with
      | none => rw [hq] at h; cases h
      | some i => rw [hq] at h; simp only [Option.map_some, Option.some.injEq] at h; simp [sizeOf, typeInfo, hq, h]
    simp [Instr.indexAt, asIntOf, run_underlying Tryz.underlying31, hz]
    rw [add_plain]
    simp
  have HCE : Hid (∀ V, HeldJ w (some ⟨b6, o6, none⟩) s a3 nb c3 bs V → V.cell? ⟨b6, o6, none⟩ = some (.string s)) := fun V h => by
    obtain ⟨b', o', s', e', hc', he'⟩ := h.t.cell 0 (by omega)
    cases e'
    obtain rfl : s = s' := by simpa using he'
    simpa using hc'
  try unfold ptr
  clear OP2 hT6 hs6 hk6 hb6 hc6 he6 HR5
  go_wp2
  refine wp_region_held_drew (S := (HeldJ w (some ⟨b6, o6, none⟩) s a3 nb c3 bs)) (by kernel_rfl) HJ.out.drew (fun hHeld => ?_)
  refine zX 0 (.int .i64 0) rfl hHeld ?_
  try simp only [Act.put, pS1, pS2, pS3]
  refine zX 1 (.bool true) rfl hHeld ?_
  try simp only [Act.put, pS1, pS2, pS3]
  refine zX 2 (.bool true) rfl hHeld ?_
  try simp only [Act.put, pS1, pS2, pS3]
  refine zX 3 (.slice (some ⟨b6, o6, none⟩) 1 c6) rfl hHeld ?_
  try simp only [Act.put, pS1, pS2, pS3]
  refine zX 4 (.int .i64 1) rfl hHeld ?_
  try simp only [Act.put, pS1, pS2, pS3]
  refine zX 5 (.bool true) rfl hHeld ?_
  try simp only [Act.put, pS1, pS2, pS3]
  refine zX 6 (.bool true) rfl hHeld ?_
  try simp only [Act.put, pS1, pS2, pS3]
  refine zX 7 (.bool true) rfl hHeld ?_
  try simp only [Act.put, pS1, pS2, pS3]
  refine zX 8 (.slice (some ⟨b6, o6, none⟩) 1 c6) rfl hHeld ?_
  try simp only [Act.put, pS1, pS2, pS3]
  refine zW 9 (.pointer (some ⟨b6, o6, none⟩)) rfl (Or.inl ⟨by rfl, by intro W hSw; have h1 := ix W; go_simp⟩) hHeld ?_
  try simp only [Act.put, pS1, pS2, pS3]
  refine zW 10 (.string s) rfl (Or.inl ⟨by rfl, by intro W hSw; have h1 := HCE.out W hSw; go_simp⟩) hHeld ?_
  try simp only [Act.put, pS1, pS2, pS3]
  refine zX 11 (.slice a3 nb c3) rfl hHeld ?_
  try simp only [Act.put, pS1, pS2, pS3]
  refine zW 12 (.string s) rfl (Or.inl ⟨by rfl, by intro W hSw; have h1 := CV.out W a3 c3 hSw.r; go_simp⟩) hHeld ?_
  try simp only [Act.put, pS1, pS2, pS3]
  refine zX 13 (.bool true) rfl hHeld ?_
  try simp only [Act.put, pS1, pS2, pS3]
  refine zX 14 (.bool true) rfl hHeld ?_
  try simp only [Act.put, pS1, pS2, pS3]
  refine zX 15 (.bool true) rfl hHeld ?_
  try simp only [Act.put, pS1, pS2, pS3]
  refine wpAnyH_done (by kernel_rfl) ?_ _
  have HZ := hidk hHeld.bl
  clear hHeld
  go_wp2
  go_ret
  exact ⟨rfl, HZ.out⟩
end Go.Proofs.YtgclohgcehhfnabGreatDoor
