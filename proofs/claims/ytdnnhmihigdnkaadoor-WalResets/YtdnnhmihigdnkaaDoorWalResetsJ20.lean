/- Texts of our own that the row of WalResets leans on, part 20. -/
import Derived.Test.YtdnnhmihigdnkaaDoorWalResetsJ17
import Derived.Test.YtdnnhmihigdnkaaDoorWalResetsJ19

/- A wal on a disk that may stop, and crashes. -/
namespace Go.Proofs.YtdnnhmihigdnkaaDoor
open Go.RowKit Nums
set_option linter.unusedVariables false
set_option linter.unusedSimpArgs false
set_option maxRecDepth 100000
variable {At : World → Nat → DkT → (Nat → Prop) → Prop} {Vt : Type} {WM : World → Nat → Nat → Nat → Nat → Vt → (Nat → Prop) → Prop} {WP : Nat → Nat → Vt → DkT → LgT → Prop} {PA : Nat → Nat → DkT → LgT → Bool → Prop}
theorem lvw_stop (dk : DiskC At) (wl : WalC At WM WP PA) (w0 w : World) (p q f r : Nat) (D : DkT) (L : LgT) (h : LvW At WM WP w0 w p q f r D L) (n : Int) (hn : In64 n) :
    Calls Tryd.prog 19 #[ptr p, .int .i64 n] w fun e w' => e = .returned (.int .i64 (stopE D n)) ∧ LvW At WM WP w0 w' p q f r (stopD D n) L := by
  obtain ⟨S, T, V, h1, h2, h3, h4, h5, h6, h7⟩ := h
  refine (dk.stop w p D S h1 n hn).mono ?_
  rintro e w' ⟨rfl, ⟨S', a1, a2⟩, a3⟩
  have hs := h7.size
  refine ⟨rfl, S', T, V, a1, wl.mkeep h2 a3.size fun b e => a3.block b (wl.mlt h2 b e) (h4 b e), wl.stopW n h3, fun b e e2 => ?_, fun b e => ?_, h6, a3.below h7 hs h5⟩
  · rcases a2 b e2 with e3 | e3
    · exact h4 b e e3
    · have := wl.mlt h2 b e; omega
  · rcases a2 b e with e | e
    · exact h5 b e
    · omega
theorem lvw_crashP (dk : DiskC At) (wl : WalC At WM WP PA) {w0 w : World} {p q f r : Nat} {D : DkT} {L : LgT} (h : LvW At WM WP w0 w p q f r D L) (k t : Int) : PA f r (crashD D k t) L true :=
  wl.crash k t (h.disk.ok dk) (h.part wl)
theorem batch_small {l : List ByteArray} {n : Nat} (hn : l.length ≤ n) (h30 : n ≤ 30) (h : batchB l = true) : Small 30 4000 l := by
  unfold batchB at h
  exact ⟨Nat.le_trans hn h30, (of_decide_eq_true h).2⟩
theorem IsL.maybe {L : LgT} {s x : StT} (h : IsL L s) : (toL L x 80).olds = [] ∧ (toL L x 80).now = s ∧ (toL L x 80).may = x ∧ (toL L x 80).maybe = true := by
  obtain ⟨h1, h2, h3⟩ := h
  have e : toL L x 80 = { L with may := x, maybe := true } := by unfold toL; rw [if_neg (by decide), if_pos rfl, if_neg (by rw [h3]; decide)]
  rw [e]
  exact ⟨h1, h2, rfl, rfl⟩
/-- What is told behind a crash within a call that makes x of s. -/
theorem opens_either {L : LgT} {s x : StT} {rs : List ByteArray} (h : L.olds = [] ∧ L.now = s ∧ L.may = x ∧ L.maybe = true) (hb : opensB L rs true = true) : rs = s.recs ∨ rs = x.recs := by
  obtain ⟨h1, h2, h3, h4⟩ := h
  rcases (opensB_crash L rs).1 hb with ⟨y, hy, e⟩ | ⟨_, e⟩
  · unfold statesL at hy
    rw [h1, h2] at hy
    obtain rfl : y = s := by simpa using hy
    exact .inl e.symm
  · rw [h3] at e; exact .inr e
end Go.Proofs.YtdnnhmihigdnkaaDoor

/- The walk of WalResets. -/
namespace Go.Proofs.YtdnnhmihigdnkaaDoor
open Go.RowKit Nums
set_option linter.unusedVariables false
set_option linter.unusedSimpArgs false
set_option maxRecDepth 100000
variable {At : World → Nat → DkT → (Nat → Prop) → Prop} {Vt : Type} {WM : World → Nat → Nat → Nat → Nat → Vt → (Nat → Prop) → Prop} {WP : Nat → Nat → Vt → DkT → LgT → Prop} {PA : Nat → Nat → DkT → LgT → Bool → Prop}
set_option maxHeartbeats 16000000 in
theorem walResets_in (dk : DiskC At) (wl : WalC At WM WP PA) (a0 : Option Addr) (len0 cap0 : Nat) (l0 : List ByteArray) (a1 : Option Addr) (len1 cap1 : Nat) (l1 : List ByteArray) (a2 a3 a4 : Int) (W : World) (h0 : InT W ⟨a0, len0, cap0, l0⟩) (h1 : InT W ⟨a1, len1, cap1, l1⟩) (h2 : In64 a2) (h3 : In64 a3) (h4 : In64 a4) (TB : TabW W) :
    Calls Tryd.prog 5 #[.slice a0 len0 cap0, .slice a1 len1 cap1, .int .i64 a2, .int .i64 a3, .int .i64 a4] W fun e w' => e = .returned (.bool true) ∧ Below W.heap.size W w' := by
  have hl0 : l0.length = len0 := h0.rd.1
  have hl1 : l1.length = len1 := h1.rd.1
  have hm0 : len0 ≤ maxLen := h0.len
  have hm1 : len1 ≤ maxLen := h1.len
  unfold maxLen at hm0 hm1
  have hx0 : len0 ≤ 9223372036854775807 := by omega
  have hx1 : len1 ≤ 9223372036854775807 := by omega
  have HB0 := hidd (refBatch_any a0 len0 cap0 l0 W h0.rd h0.len h0.size)
  have HB1 := hidd (refBatch_any a1 len1 cap1 l1 W h1.rd h1.len h1.size)
  have H0 := hidd h0
  have H1 := hidd h1
  clear h0 h1
  by_cases g0 : 4 < len0
  · have d0 : decide ((4 : Int) < (len0 : Int)) = true := by rw [decide_eq_true_eq]; omega
    go_enter Tryd.func5, Tryd.ntmps5
    go_wp2
    go_ret
    exact ⟨rfl, Below.refl _ _⟩
  have d0 : decide ((4 : Int) < (len0 : Int)) = false := by rw [decide_eq_false_iff_not]; omega
  by_cases g1 : 4 < len1
  · have d1 : decide ((4 : Int) < (len1 : Int)) = true := by rw [decide_eq_true_eq]; omega
    go_enter Tryd.func5, Tryd.ntmps5
    go_wp2
    go_ret
    exact ⟨rfl, Below.refl _ _⟩
  have d1 : decide ((4 : Int) < (len1 : Int)) = false := by rw [decide_eq_false_iff_not]; omega
  go_enter Tryd.func5, Tryd.ntmps5
  go_wp2_with fail
  refine HB0.out.mono ?_
  rintro e w1 ⟨rfl, rfl⟩
  cases hb0 : batchB l0
  case false =>
    go_wp2
    go_ret
    exact ⟨rfl, Below.refl _ _⟩
  go_wp2_with fail
  refine HB1.out.mono ?_
  rintro e w1 ⟨rfl, rfl⟩
  cases hb1 : batchB l1
  case false =>
    go_wp2
    go_ret
    exact ⟨rfl, Below.refl _ _⟩
  have S0 := hidd (batch_small (n := 4) (by omega) (by omega) hb0)
  have S1 := hidd (batch_small (n := 4) (by omega) (by omega) hb1)
  have C0 := hidd (refCost_any a0 len0 cap0 l0 W H0.out.rd (S0.out.mono (by omega) (by omega)))
  have C1 := hidd (refCost_any a1 len1 cap1 l1 W H1.out.rd (S1.out.mono (by omega) (by omega)))
  obtain ⟨k0, Hk0⟩ : ∃ k, Hid (k = costN l0) := ⟨_, hidd rfl⟩
  obtain ⟨k1, Hk1⟩ : ∃ k, Hid (k = costN l1) := ⟨_, hidd rfl⟩
  rw [← Hk0.out] at C0
  rw [← Hk1.out] at C1
  have HBT0 := hidd hb0
  have HBT1 := hidd hb1
  clear HB0 HB1 hb0 hb1
  go_wp2_with fail
  refine C0.out.mono ?_
  rintro e w1 ⟨rfl, rfl⟩
  by_cases g2 : 900 < k0
  · have d2 : decide ((900 : Int) < (k0 : Int)) = true := by rw [decide_eq_true_eq]; omega
    go_wp2
    go_ret
    exact ⟨rfl, Below.refl _ _⟩
  have d2 : decide ((900 : Int) < (k0 : Int)) = false := by rw [decide_eq_false_iff_not]; omega
  go_wp2_with fail
  refine C1.out.mono ?_
  rintro e w1 ⟨rfl, rfl⟩
  by_cases g3 : 900 < k1
  · have d3 : decide ((900 : Int) < (k1 : Int)) = true := by rw [decide_eq_true_eq]; omega
    go_wp2
    go_ret
    exact ⟨rfl, Below.refl _ _⟩
  have d3 : decide ((900 : Int) < (k1 : Int)) = false := by rw [decide_eq_false_iff_not]; omega
  clear C0 C1
  by_cases g4 : a2 < 0
  · have d4 : decide (a2 < (0 : Int)) = true := by rw [decide_eq_true_eq]; exact g4
    go_wp2
    go_ret
    exact ⟨rfl, Below.refl _ _⟩
  have d4 : decide (a2 < (0 : Int)) = false := by rw [decide_eq_false_iff_not]; exact g4
  by_cases g5 : 100 < a2
  · have d5 : decide ((100 : Int) < a2) = true := by rw [decide_eq_true_eq]; exact g5
    go_wp2
    go_ret
    exact ⟨rfl, Below.refl _ _⟩
  have d5 : decide ((100 : Int) < a2) = false := by rw [decide_eq_false_iff_not]; exact g5
  have GR := hidd (ground_any dk W W (Below.refl _ _))
  go_wp2_with fail
  refine GR.out.mono ?_
  rintro e w1 ⟨p, rfl, h⟩
  have PP := hidd (wl.fresh 2000 0 2000 (by omega) (by omega))
  obtain ⟨D1, HD⟩ : ∃ D, Hid (D = newD 2000) := ⟨_, hidd rfl⟩
  have sD1 : D1.stops = false := by rw [HD.out]; rfl
  have rD1 : D1.safe.length = 2000 := by rw [HD.out]; exact List.length_replicate
  have bD1 : D1.puts.length ≤ 0 := by rw [HD.out]; exact Nat.le_refl _
  rw [← HD.out] at h PP
  have OP := hidd (open_one dk wl W TB w1 p D1 h sD1 (by omega) 0 2000 (by omega) (by omega) newL false PP.out ⟨[], 0⟩ isL_new)
  rw [show (⟨[], 0⟩ : StT).recs.length = 0 from rfl] at OP
  unfold ptr at OP ⊢
  clear h HD GR
  go_wp2_with fail
  refine OP.out.mono ?_
  rintro e w2 ⟨D2, q, ax, cx, L1, rfl, hw, ht, -, -, hI, hv⟩
  have sD2 : D2.stops = false := hw.stops.trans sD1
  have rD2 : D2.safe.length = 2000 := hw.room.trans rD1
  have bD2 : D2.puts.length ≤ 400 := Nat.le_trans hw.puts (by omega)
  have CM := hidd (calm_commit dk wl W w2 w2 p q 0 2000 D2 L1 hv sD2 (Below.refl _ _) (by omega) a0 len0 cap0 l0 (H0.out.rd.keep (hv.b)) S0.out H0.out.cap (fun b e => .inl (H0.out.rd.blk_lt b e)) (by rw [hI.2.1, ← Hk0.out]; show 0 + k0 + 16 ≤ 2000 / 2; omega))
  have HI := hidd hI
  unfold ptr at CM
  clear OP hw ht hv hI sD1 rD1 bD1 PP
  go_wp2_with fail
  refine CM.out.mono ?_
  rintro e w3 ⟨rfl, D3, hw, hv⟩
  have sD3 : D3.stops = false := hw.stops.trans sD2
  have rD3 : D3.safe.length = 2000 := hw.room.trans rD2
  have bD3 : D3.puts.length ≤ 800 := Nat.le_trans hw.puts (by omega)
  have hI2 := HI.out.commit l0
  have SY := hidd (calm_sync dk wl W w3 p q 0 2000 D3 _ hv sD3 (by omega))
  unfold ptr at SY
  replace HI := hidd hI2.synced
  clear CM hw hv hI2 sD2 rD2 bD2
  go_wp2_with fail
  refine SY.out.mono ?_
  rintro e w4 ⟨rfl, D4, hw, hv⟩
  have sD4 : D4.stops = false := hw.stops.trans sD3
  have rD4 : D4.safe.length = 2000 := hw.room.trans rD3
  have bD4 : D4.puts.length ≤ 1200 := Nat.le_trans hw.puts (by omega)
  obtain ⟨L2, HL2⟩ : ∃ L, Hid (L = syncedL (toL L1 (committed L1 l0) 0)) := ⟨_, hidd rfl⟩
  rw [← HL2.out] at hv HI
  have hdn : D4.down = false := hv.disk.calm dk sD4
  have hse : stopE D4 a2 = 0 := by unfold stopE; rw [if_neg (by rw [hdn]; decide), if_pos (by omega)]
  have ST := hidd (lvw_stop dk wl W w4 p q 0 2000 D4 L2 hv a2 h2)
  rw [hse] at ST
  unfold ptr at ST
  clear SY hw hv HL2 hdn hse sD3 rD3 bD3
  go_wp2_with fail
  refine ST.out.mono ?_
  rintro e w5 ⟨rfl, hv⟩
  obtain ⟨D5, HD5⟩ : ∃ D, Hid (D = stopD D4 a2) := ⟨_, hidd rfl⟩
  have rD5 : D5.safe.length = 2000 := by rw [HD5.out, (stopD_safe D4 a2).1]; exact rD4
  have bD5 : D5.puts.length ≤ 1200 := by rw [HD5.out, (stopD_safe D4 a2).2]; exact bD4
  rw [← HD5.out] at hv
  have RS := hidd (lvw_reset dk wl W w5 w5 p q 0 2000 D5 L2 hv (Below.refl _ _) (by omega) a1 len1 cap1 l1 (H1.out.rd.keep hv.b) (S1.out.mono (by omega) (by omega)) H1.out.cap (fun b e => .inl (H1.out.rd.blk_lt b e)))
  unfold ptr at RS
  clear ST hv HD5 sD4 rD4 bD4
  go_wp2_with fail
  refine RS.out.mono ?_
  rintro e w6 ⟨n, D6, L3, rfl, hch, hw, hv⟩
  have rD6 : D6.safe.length = 2000 := hw.room.trans rD5
  have bD6 : D6.puts.length ≤ 1600 := Nat.le_trans hw.puts (by omega)
  have HV := hidd hv
  have HCH : Hid ((n = 0 ∧ IsL L3 (wasS l1)) ∨ (n = 80 ∧ L3 = toL L2 (wasS l1) 80)) := by
    rcases hch with ⟨hb, _⟩ | ⟨_, ⟨rfl, hL⟩ | ⟨rfl, _, hL⟩ | ⟨rfl, _, hc⟩⟩
    · rw [HBT1.out] at hb; cases hb
    · left
      rw [hL]
      exact ⟨rfl, IsL.reset l1 HI.out.2.2⟩
    · exact .inr ⟨rfl, hL⟩
    · have : 2000 / 2 < costN l1 + 16 := hc
      rw [← Hk1.out] at this
      omega
  have PP := hidd (lvw_crashP dk wl hv a3 a4)
  have CR := hidd (lvd_crash dk W w6 p D6 hv.disk (by omega) a3 a4 h3 h4)
  obtain ⟨e0, e1, e2⟩ := crash_room (hv.disk.ok dk) a3 a4
  unfold ptr at CR
  clear RS hch hw hv rD5 bD5
  go_wp2_with fail
  refine CR.out.mono ?_
  rintro e w7 ⟨rfl, hv, -⟩
  obtain ⟨D7, HD7⟩ : ∃ D, Hid (D = crashD D6 a3 a4) := ⟨_, hidd rfl⟩
  rw [← HD7.out] at hv e0 e1 e2 PP
  have OP2 := hidd (calm_open dk wl W TB w7 p D7 hv e2 (by omega) 0 2000 (by omega) (by rw [e0]; omega) L3 true PP.out)
  unfold ptr at OP2
  clear CR hv HD7 HV e0 e1 e2 PP rD6 bD6
  go_wp2_with fail
  refine OP2.out.mono ?_
  rintro e w8 ⟨D8, q2, ar, lr, cr, rs, rfl, hw, ht, hlr, hbr, hob, hv⟩
  have HT := hidd ht
  have HOB := hidd hob
  have HBW := hidd hv.b
  have AW := hidd (awake_any dk wl w8 (TB.on HBW.out))
  clear OP2 hw ht hbr hob hv
  rcases HCH.out with ⟨rfl, hI3⟩ | ⟨rfl, hL3⟩
  · have hrs : rs = l1 := (hI3.opens HOB.out).1
    have HRS := hidd hrs
    clear hI3 hrs HCH HOB HI
    go_wp2_with fail
    refine AW.out.mono ?_
    rintro e w9 ⟨rfl, hb9⟩
    have HB9 := hidd hb9
    have SM := hidd (refSame_any ar lr cr rs a1 len1 cap1 l1 w9 (HT.out.keep HB9.out) (H1.out.rd.keep (HBW.out.trans (HB9.out.mono HBW.out.size))) (by unfold maxLen; omega) H1.out.len)
    rw [decide_eq_true HRS.out] at SM
    clear AW hb9
    go_wp2_with fail
    refine SM.out.mono ?_
    rintro e w10 ⟨rfl, hb10⟩
    have HBF := hidd ((HBW.out.trans (HB9.out.mono HBW.out.size)).trans (hb10.mono (Nat.le_trans HBW.out.size HB9.out.size)))
    clear SM hb10
    go_wp2
    go_ret
    exact ⟨rfl, HBF.out⟩
  · have hei := opens_either (by rw [hL3]; exact HI.out.maybe) HOB.out
    have HEI : Hid (rs = l0 ∨ rs = l1) := hei
    clear hei hL3 HCH HOB HI
    go_wp2_with fail
    refine AW.out.mono ?_
    rintro e w9 ⟨rfl, hb9⟩
    have HB9 := hidd hb9
    have SM0 := hidd (refSame_any ar lr cr rs a0 len0 cap0 l0 w9 (HT.out.keep HB9.out) (H0.out.rd.keep (HBW.out.trans (HB9.out.mono HBW.out.size))) (by unfold maxLen; omega) H0.out.len)
    clear AW hb9
    by_cases hq : rs = l0
    · rw [decide_eq_true hq] at SM0
      clear hq
      go_wp2_with fail
      refine SM0.out.mono ?_
      rintro e w10 ⟨rfl, hb10⟩
      have HBF := hidd ((HBW.out.trans (HB9.out.mono HBW.out.size)).trans (hb10.mono (Nat.le_trans HBW.out.size HB9.out.size)))
      clear SM0 hb10
      go_wp2
      go_ret
      exact ⟨rfl, HBF.out⟩
    · rw [decide_eq_false hq] at SM0
      have HRS : Hid (rs = l1) := by rcases HEI.out with e | e; exact absurd e hq; exact e
      clear hq HEI
      go_wp2_with fail
      refine SM0.out.mono ?_
      rintro e w10 ⟨rfl, hb10⟩
      replace HB9 := hidd (HB9.out.trans (hb10.mono HB9.out.size))
      have SM := hidd (refSame_any ar lr cr rs a1 len1 cap1 l1 w10 (HT.out.keep HB9.out) (H1.out.rd.keep (HBW.out.trans (HB9.out.mono HBW.out.size))) (by unfold maxLen; omega) H1.out.len)
      rw [decide_eq_true HRS.out] at SM
      clear SM0 hb10
      go_wp2_with fail
      refine SM.out.mono ?_
      rintro e w11 ⟨rfl, hb11⟩
      have HBF := hidd ((HBW.out.trans (HB9.out.mono HBW.out.size)).trans (hb11.mono (Nat.le_trans HBW.out.size HB9.out.size)))
      clear SM hb11
      go_wp2
      go_ret
      exact ⟨rfl, HBF.out⟩
end Go.Proofs.YtdnnhmihigdnkaaDoor
