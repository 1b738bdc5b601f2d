/- Texts of our own that the row of TopJournal leans on, part 40. -/
import Derived.Test.YtgclohgcehhfnabGreatDoorTopJournalJ0
import Derived.Test.YtgclohgcehhfnabGreatDoorTopJournalJ26
import Derived.Test.YtgclohgcehhfnabGreatDoorTopJournalJ28
import Derived.Test.YtgclohgcehhfnabGreatDoorTopJournalJ29
import Derived.Test.YtgclohgcehhfnabGreatDoorTopJournalJ31
import Derived.Test.YtgclohgcehhfnabGreatDoorTopJournalJ36
import Derived.Test.YtgclohgcehhfnabGreatDoorTopJournalJ38
import Derived.Test.YtgclohgcehhfnabGreatDoorTopJournalJ39
/- TopJournal. -/
namespace Go.Proofs.YtgclohgcehhfnabGreatDoor
open Go.RowKit Nums Sums
set_option linter.unusedVariables false
set_option linter.unusedSimpArgs false
set_option maxRecDepth 100000
variable {At : World → Nat → DkT → (Nat → Prop) → Prop} {Vt : Type} {WM : World → Nat → Nat → Nat → Nat → Vt → (Nat → Prop) → Prop} {WP : Nat → Nat → Vt → DkT → LgT → Prop} {PA : Nat → Nat → DkT → LgT → Bool → Prop}
theorem head_first {l : List ItT} {n : Nat} (hr : rightL l = true) (hn : n ≤ l.length) : hdE l n 1 1 1 = 0 ∧ hdE (l.take n) n 1 1 1 = 0 ∧ hdO (l.take n) n 1 1 1 = hdO l n 1 1 1 := by
  have hln : l.length ≤ 2000 := ((rightL_iff l).1 hr).1
  obtain ⟨z1, z2⟩ := sizeX_first hr hn
  have e1 : headX (l.take n) n 1 1 1 = headX l n 1 1 1 := by unfold headX; rw [Int.toNat_natCast, List.take_take, Nat.min_self]
  have r1 : rightH (headX l n 1 1 1) = true := by
    rw [rightH_iff]
    show 1 ≤ (1 : Int) ∧ (1 : Int) ≤ 5 ∧ (1 : Int) ≤ 1 ∧ (1 : Int) ≤ 900000000 ∧ 0 ≤ (n : Int) ∧ (n : Int) ≤ 100000 ∧ (0 : Int) ≤ 1 ∧ (1 : Int) ≤ 900000000
    omega
  obtain ⟨a1, a2⟩ := hdE_ok z1 r1
  obtain ⟨b1, b2⟩ := hdE_ok z2 (by rw [e1]; exact r1)
  exact ⟨a1, b1, by rw [a2, b2, e1]⟩
structure BackS (w6 wr : World) (l : List ItT) (ab : Option Addr) (n : Nat) (rs : List ByteArray) (v : Value) (i : Nat) : Prop where
  own : wr.ownsRow w6.heap.size 49 110 v i (icL (l.take i))
  t : Texts wr ab n rs
  b : Below w6.heap.size w6 wr
set_option maxHeartbeats 16000000 in
theorem topJournal_in (dk : DiskC At) (wl : WalC At WM WP PA) (ck : EntryC) (hc : HistoryC) (a : Option Addr) (len cap : Nat) (l : List ItT) (sy kp tn : Int) (w : World) (h : IReads w a len cap l) (hc0 : a = none → cap = 0) (hm : ∀ x ∈ l, CmI x) (isy : In64 sy) (ikp : In64 kp) (itn : In64 tn) (hT : TabH w) (TB : TabW w) :
    Calls Tryz.prog 3 #[.slice a len cap, .int .i64 sy, .int .i64 kp, .int .i64 tn] w fun e w' => e = .returned (.bool true) ∧ Below w.heap.size w w' := by
  have BG := hidk (refBig_any a len cap l w h (fun x hx => (hm x hx).e.t))
  have JR : Hid (∀ V, Below w.heap.size w V → Calls Tryz.prog 6 #[] V fun e w' => e = .returned (.bool true) ∧ Below V.heap.size V w') := fun V hb => journals_true dk wl V (TB.on hb)
  have hmx : len ≤ 9223372036854775807 := by have := h.mx; unfold maxLen at this; omega
  have HBR : Hid (Below w.heap.size w w) := Below.refl _ _
  obtain ⟨b, Hb⟩ : ∃ b, Hid (bigL l = b) := ⟨_, hidk rfl⟩
  rw [Hb.out] at BG
  cases b
  · have hin := inL_of h hc0 hm Hb.out
    have hln := h.ln
    by_cases h20 : 20 < len
    · have d0 : decide ((20 : Int) < (len : Int)) = true := by rw [decide_eq_true_eq]; omega
      clear dk wl ck hc h hc0 hm isy ikp itn hT TB Hb hin hln
      go_enter Tryz.func3, Tryz.ntmps3
      go_wp2_with fail
      refine BG.out.mono ?_
      rintro e w1 ⟨rfl, rfl⟩
      go_wp2_with fail
      refine (JR.out _ HBR.out).mono ?_
      rintro e v9 ⟨rfl, hb9⟩
      go_wp2
      go_ret
      exact ⟨rfl, hb9⟩
    have d0 : decide ((20 : Int) < (len : Int)) = false := by rw [decide_eq_false_iff_not]; omega
    have CK := hidk (hc.check a len cap l w hin)
    by_cases hr : rightL l = true
    · rw [show chkE l = 0 by unfold chkE; rw [if_pos hr]] at CK
      have hR : ∀ x ∈ l, rightI x = true := fun x hx => right_item hr hx
      have HIN := hidk hin
      have HIR := hidk h
      have HRT := hidk hr
      have HRI := hidk hR
      have HCC := hidk hc
      have HEC := hidk ck
      have HTH := hidk hT
      have HLN := hidk hln
      have NW : Hid (∀ V, Below w.heap.size w V → Calls Tryz.prog 7 #[.int .i64 20000] V fun e w' => ∃ p, e = .returned (.tuple #[ptr p, .int .i64 0]) ∧ LvD At w w' p (newD 20000)) := fun V hb => lvd_new dk w V hb 20000 (by omega)
      have PP := hidd (wl.fresh 20000 0 20000 (by omega) (by omega))
      obtain ⟨D1, HD⟩ : ∃ D, Hid (D = newD 20000) := ⟨_, hidd rfl⟩
      have sD1 : D1.stops = false := by rw [HD.out]; rfl
      have rD1 : D1.safe.length = 20000 := by rw [HD.out]; exact List.length_replicate
      have bD1 : D1.puts.length ≤ 0 := by rw [HD.out]; exact Nat.le_refl _
      rw [← HD.out] at NW PP
      have OP : Hid (∀ V p, LvD At w V p D1 → Calls Tryz.prog 8 #[ptr p, .int .i64 0, .int .i64 20000] V fun e w' => ∃ D' q a cap L', e = .returned (.tuple #[ptr q, .slice a 0 cap, .int .i64 0]) ∧ WentD D1 D' ∧ IsL L' ⟨[], 0⟩ ∧ LvW At WM WP w w' p q 0 20000 D' L') := fun V p h => by
        refine (open_one dk wl w TB V p D1 h sD1 (by omega) 0 20000 (by omega) (by omega) newL false PP.out ⟨[], 0⟩ isL_new).mono ?_
        rintro e w' ⟨D', q, a, cap, L', e1, k1, k2, k3, k4, k5, k6⟩
        exact ⟨D', q, a, cap, L', e1, k1, k5, k6⟩
      try unfold ptr at NW OP
      clear h hc hc0 hm hin hr hR hT HD PP Hb hln ck
      go_enter Tryz.func3, Tryz.ntmps3
      go_wp2_with fail
      refine BG.out.mono ?_
      rintro e w1 ⟨rfl, rfl⟩
      go_wp2_with fail
      refine CK.out.mono ?_
      rintro e w2 ⟨rfl, hb2⟩
      have NW2 := hidk (NW.out w2 hb2)
      clear hb2 NW CK BG
      go_wp2_with fail
      refine NW2.out.mono ?_
      rintro e w3 ⟨p, rfl, h3⟩
      have OP3 := hidk (OP.out w3 p h3)
      try unfold ptr
      clear OP NW2 h3
      go_wp2_with fail
      refine OP3.out.mono ?_
      rintro e w4 ⟨D4, q, a4, c4, L4, rfl, k1, k2, k3⟩
      have HJ0 : Hid (JouS At WM WP w w4 p q 20000 0 (txL l) 0 D4 L4) := jou_new k3 k2 (k1.stops.trans sD1) (k1.room.trans rD1) (by have := k1.puts; omega)
      try unfold ptr
      clear OP3 k1 k2 k3 sD1 rD1 bD1
      go_wp2
      go_loopw [14] (fun v wr => ∃ (k least : Nat) (D : DkT) (L : LgT), k ≤ len ∧ v = .int .i64 k ∧ Hid ((least : Int) = min (max sy 0) (k : Int)) ∧ Hid (JouS At WM WP w wr p q 20000 k (txL l) least D L)) (fun v _ => len - (intOf v).toNat)
      case atStart => exact ⟨0, 0, D4, L4, Nat.zero_le _, rfl, by show _ = _; omega, HJ0⟩
      case round =>
        clear HJ0
        obtain ⟨k, least, D, L, hk, rfl, HLE, HJ⟩ := hrel
        by_cases hlt : k < len
        · have hd : decide ((k : Int) < (len : Int)) = true := by rw [decide_eq_true_eq]; omega
          have hw1 := wrap_int ((k : Int) + 1) (by omega) (by omega)
          obtain ⟨g, o, rfl, hg⟩ := HIR.out.at (by omega)
          have hkl : k < l.length := by have := HLN.out; omega
          obtain ⟨x, HX⟩ : ∃ x, Hid (x = l[k]) := ⟨_, hidk rfl⟩
          have hxi : InI x := by rw [HX.out]; exact HIN.out.its _ (List.getElem_mem hkl)
          have hxr : rightI x = true := by rw [HX.out]; exact HRI.out _ (List.getElem_mem hkl)
          obtain ⟨X, HXX, HSX, H1X, HNX⟩ := item_row x hxi.e.ok
          have HRX : Hid (wr.rangeAt g (o + 110 * k) X.toList) := by
            show World.rangeAt _ _ _ _
            rw [HXX.out, HX.out]
            simpa using (HIR.out.keep HJ.out.lv.b).range k hkl
          have ix := fun V => index_item V g o len cap k .i64 hlt
          obtain ⟨bs, Hbs⟩ : ∃ z, Hid (itemB x = z) := ⟨_, hidk rfl⟩
          obtain ⟨nb, Hnb⟩ : ∃ z, Hid (bs.length = z) := ⟨_, hidk rfl⟩
          have PU : Hid (Calls Tryz.prog 9 #[.agg X] wr fun e w' => (∃ a cap, e = .returned (.tuple #[.slice a nb cap, .int .i64 0]) ∧ Reads w' a nb cap bs ∧ ∀ b off, a = some ⟨b, off, none⟩ → wr.heap.size ≤ b) ∧ Below wr.heap.size wr w') := by
            have := putI_new x hxi hxr wr X HXX
            rw [Hbs.out, Hnb.out] at this
            exact this
          obtain ⟨s, Hs⟩ : ∃ s : ByteArray, Hid (s = txI x) := ⟨_, hidk rfl⟩
          have hss : s.size ≤ 256 := by rw [Hs.out]; exact txI_size hxr hxi.e.ok
          have CV : Hid (∀ V a c, Reads V a nb c bs → (convert 34 9 (.slice a nb c)).run Tryz.prog V = .ok (.string s) V) := fun V a c h => by rw [Hs.out]; unfold txI; rw [Hbs.out]; exact conv_reads h
          have hkt : k < (txL l).length := by rw [txL_length]; exact hkl
          have hts : (txL l)[k] = s := by
            have e1 : (txL l)[k]? = some s := by unfold txL; rw [List.getElem?_map, List.getElem?_eq_getElem hkl, Hs.out, HX.out]; rfl
            exact Option.some.inj ((List.getElem?_eq_getElem hkt).symm.trans e1)
          have CMT : Hid (∀ V b, Below wr.heap.size wr V → wr.heap.size ≤ b → Texts V (some ⟨b, 0, none⟩) 1 [s] → Calls Tryz.prog 10 #[ptr q, .slice (some ⟨b, 0, none⟩) 1 1] V fun e w' => e = .returned (.int .i64 0) ∧ ∃ D' L', JouS At WM WP w w' p q 20000 (k + 1) (txL l) least D' L' ∧ D'.puts.length ≤ 800 * (k + 1) + 400) := fun V b hb hbl ht =>
            jou_commit dk wl w wr V p q 20000 k (txL l) least D L HJ.out hb hkt (by omega) (by omega) (by rw [hts]; exact hss) b hbl (by rw [hts]; exact ht)
          try unfold ptr at CMT
          clear HXX H1X HNX HX hxi hxr Hbs Hnb Hs hss hkt hts hg hkl
          have hk20 : k ≤ 19 := by omega
          by_cases hks : (k : Int) < sy
          · have dk1 : decide ((k : Int) < sy) = true := decide_eq_true hks
            go_wp2_with (first
              | (show aD 71 _ _ _ _ _ _ _ _ _ _ _; refine wpList_mid_w (by rfl) 49 (.tmp 70) rfl g (o + 110 * k) rfl X _ HRX.out Tryz.underlying49 rfl HSX.out ?_; try simp only [Act.put, pS1, pS2, pS3])
              | fail)
            refine PU.out.mono ?_
            rintro e v5 ⟨⟨a5, c5, rfl, hR5, _⟩, hb5⟩
            have hcv := CV.out v5 a5 c5 hR5
            have hba : Below v5.heap.size v5 (v5.alloc (.cells #[.string s] 9)) := (Below.refl _ _).alloc (Nat.le_refl _) _
            have HBU := hidk (build_text v5 s)
            have CM5 := hidk (CMT.out (v5.alloc (.cells #[.string s] 9)) v5.heap.size (hb5.trans (hba.mono hb5.size)) hb5.size (texts_one v5 s))
            clear hR5 hb5 hba CMT PU CV
            go_wp2_with (first
              | (show aD 81 _ _ _ _ _ _ _ _ _ _ _; refine wpList_build_run_w (by rfl) 31 1 _ rfl #[(0, .string s)] rfl _ _ HBU.out ?_; try simp only [Act.put, pS1, pS2, pS3])
              | fail)
            refine CM5.out.mono ?_
            rintro e v6 ⟨rfl, D6, L6, hJ6, hp6⟩
            have HJ6 := hidk hJ6
            have HP6 := hidk hp6
            clear CM5 hJ6 hp6 hcv
            have SY := hidk (jou_sync dk wl w v6 p q 20000 (k + 1) (txL l) least D6 L6 HJ6.out (by omega) (by have := HP6.out; omega))
            try unfold ptr at SY
            go_wp2_with fail
            refine SY.out.mono ?_
            rintro e v7 ⟨rfl, D7, L7, hJ7⟩
            have HJ7 := hidk hJ7
            have HLE7 : Hid (((k + 1 : Nat) : Int) = min (max sy 0) ((k + 1 : Nat) : Int)) := by show _ = _; omega
            clear SY hJ7
            go_wp2
            go_roundw
            case rel => exact ⟨k + 1, k + 1, D7, L7, by omega, by go_num, HLE7, HJ7⟩
            case measure => simp [intOf]; omega
          · have dk1 : decide ((k : Int) < sy) = false := decide_eq_false hks
            go_wp2_with (first
              | (show aD 71 _ _ _ _ _ _ _ _ _ _ _; refine wpList_mid_w (by rfl) 49 (.tmp 70) rfl g (o + 110 * k) rfl X _ HRX.out Tryz.underlying49 rfl HSX.out ?_; try simp only [Act.put, pS1, pS2, pS3])
              | fail)
            refine PU.out.mono ?_
            rintro e v5 ⟨⟨a5, c5, rfl, hR5, _⟩, hb5⟩
            have hcv := CV.out v5 a5 c5 hR5
            have hba : Below v5.heap.size v5 (v5.alloc (.cells #[.string s] 9)) := (Below.refl _ _).alloc (Nat.le_refl _) _
            have HBU := hidk (build_text v5 s)
            have CM5 := hidk (CMT.out (v5.alloc (.cells #[.string s] 9)) v5.heap.size (hb5.trans (hba.mono hb5.size)) hb5.size (texts_one v5 s))
            clear hR5 hb5 hba CMT PU CV
            go_wp2_with (first
              | (show aD 81 _ _ _ _ _ _ _ _ _ _ _; refine wpList_build_run_w (by rfl) 31 1 _ rfl #[(0, .string s)] rfl _ _ HBU.out ?_; try simp only [Act.put, pS1, pS2, pS3])
              | fail)
            refine CM5.out.mono ?_
            rintro e v6 ⟨rfl, D6, L6, hJ6, hp6⟩
            have HJ6 := hidk hJ6
            have HP6 := hidk hp6
            clear CM5 hJ6 hp6 hcv
            have HLE7 : Hid ((least : Int) = min (max sy 0) ((k + 1 : Nat) : Int)) := by show _ = _; have := HLE.out; omega
            go_wp2
            go_roundw
            case rel => exact ⟨k + 1, least, D6, L6, by omega, by go_num, HLE7, HJ6⟩
            case measure => simp [intOf]; omega
        · obtain rfl : k = len := by omega
          have hkd : decide ((k : Int) < (k : Int)) = false := by rw [decide_eq_false_iff_not]; omega
          have CR := hidk (lvd_crash dk w wr p D HJ.out.lv.disk (by have := HJ.out.puts; omega) kp tn ikp itn)
          have HPA := hidk (lvw_crashP dk wl HJ.out.lv kp tn)
          try unfold ptr at CR
          go_wp2_with fail
          refine CR.out.mono ?_
          rintro e v5 ⟨rfl, h5, ok5⟩
          obtain ⟨cr1, cr2, cr3⟩ := crash_room ok5 kp tn
          have hrm := HJ.out.room
          have OP5 := hidk (calm_open dk wl w TB v5 p (crashD D kp tn) h5 cr3 (by omega) 0 20000 (by omega) (by omega) L true HPA.out)
          try unfold ptr at OP5
          clear CR h5 ok5 cr1 cr2 cr3 hrm HPA
          go_wp2_with fail
          refine OP5.out.mono ?_
          rintro e v6 ⟨D6, q6, a6, n, c6, rs, rfl, _, hT6, hn6, _, ho6, hv6⟩
          obtain ⟨e0, e1, e2, e3⟩ := HJ.out.told ho6
          have htl : (txL l).length = k := by rw [txL_length]; exact HLN.out
          obtain rfl : e0 = n := by rw [← hT6.1, e3, List.length_take, htl]; omega
          have HRS := hidk e3
          have HTX := hidk hT6
          have HB6 := hidk hv6.b
          have hnl : e0 ≤ k := e2
          have hle0 : least ≤ e0 := e1
          obtain ⟨m1, Hm1⟩ : ∃ z, Hid (z = max sy 0) := ⟨_, hidk rfl⟩
          obtain ⟨m2, Hm2⟩ : ∃ z, Hid (z = min m1 (k : Int)) := ⟨_, hidk rfl⟩
          have dm : decide ((e0 : Int) < m2) = false := decide_eq_false (by have := HLE.out; have := Hm1.out; have := Hm2.out; omega)
          have MX : ∀ V : World, (Builtin.max_ #[3, 3] 3 #[.int .i64 sy, .int .i64 0]).run Tryz.prog V = .ok (.int .i64 m1) V := fun V => by rw [Hm1.out]; exact run_max2 V _ _ _ _
          have MN : ∀ V : World, (Builtin.min_ #[3, 3] 3 #[.int .i64 m1, .int .i64 (k : Int)]).run Tryz.prog V = .ok (.int .i64 m2) V := fun V => by rw [Hm2.out]; exact run_min2 V _ _ _ _
          have dn : decide ((k : Int) < (e0 : Int)) = false := by rw [decide_eq_false_iff_not]; omega
          have dn2 : decide (k < e0) = false := decide_eq_false (by omega)
          have hk20 : k ≤ 20 := by omega
          try unfold ptr
          clear OP5 hT6 hv6 ho6 e3 HJ HLE hle0 htl
          go_wp2
          go_loopw [20, 21] (fun vb vi wr2 => ∃ i : Nat, i ≤ e0 ∧ vi = .int .i64 i ∧ Hid (BackS v6 wr2 l a6 e0 rs vb i)) (fun _ vi _ => e0 - (intOf vi).toNat)
          case atStart => exact ⟨0, Nat.zero_le _, rfl, ⟨World.ownsRow_nil _ _ _ _, HTX.out, Below.refl _ _⟩⟩
          case round =>
            obtain ⟨i, hi, rfl, HBK⟩ := hrel
            have hokt : ∀ y ∈ l.take i, OkE y.e := fun y hy => HIR.out.ok y (List.mem_of_mem_take hy)
            obtain ⟨ab, cb, hvb, hrb, hnb, _⟩ := IReads.own HBK.out.own hokt
            subst hvb
            have HBW : Hid (Below w.heap.size w wr) := HB6.out.trans (HBK.out.b.mono HB6.out.size)
            by_cases hie : i < e0
            · have hd2 : decide ((i : Int) < (e0 : Int)) = true := by rw [decide_eq_true_eq]; omega
              have hw2 := wrap_int ((i : Int) + 1) (by omega) (by omega)
              have hil : i < l.length := by have := HLN.out; omega
              obtain ⟨bt, ot, s, ha6, hct, hes⟩ := HBK.out.t.cell i hie
              subst ha6
              obtain ⟨x, HX⟩ : ∃ x, Hid (x = l[i]) := ⟨_, hidk rfl⟩
              have hxi : InI x := by rw [HX.out]; exact HIN.out.its _ (List.getElem_mem hil)
              have hxr : rightI x = true := by rw [HX.out]; exact HRI.out _ (List.getElem_mem hil)
              have hsx : s = txI x := by
                rw [HRS.out, List.getElem?_take_of_lt hie] at hes
                unfold txL at hes
                rw [List.getElem?_map, List.getElem?_eq_getElem hil] at hes
                rw [HX.out]
                exact (Option.some.inj hes).symm
              have hsz : s.size ≤ 256 := by rw [hsx]; exact txI_size hxr hxi.e.ok
              have hsm : s.size ≤ maxLen := by unfold maxLen; omega
              obtain ⟨X, HXX, HSX, H1X, HNX⟩ := item_row x hxi.e.ok
              obtain ⟨Z, HZ, HAZ, HBZ, HNZ⟩ := noughtsI
              have HZX : Hid (Z.size = X.size) := by show _ = _; rw [HNZ.out, HNX.out]
              have GE : Hid (∀ V a c, Reads V a s.size c s.data.toList → Calls Tryz.prog 13 #[.slice a s.size c] V fun e w' => e = .returned (.tuple #[.agg X, .int .i64 0]) ∧ Below V.heap.size V w') := fun V a c hh => by
                have hg := getI_item hxr hxi.e.ok
                have hd : s.data.toList = itemB x := by rw [hsx]; exact txI_data x
                have := HEC.out.getI a s.size c s.data.toList V hh (by omega) X (by show _ = _; unfold getIO; rw [hd, hg]; exact HXX.out)
                rwa [show getIE s.data.toList = 0 by unfold getIE; rw [hd, hg]; rfl] at this
              have ixt : ∀ V, (Instr.indexAt 31 (.slice (some ⟨bt, ot, none⟩) e0 c6) (.int .i64 (i : Int))).run Tryz.prog V = .ok (.pointer (some ⟨bt, ot + i, none⟩)) V := fun V => by
                have hz : (sizeOf 9).run Tryz.prog V = .ok 1 V := by
                  have h : (Tryz.prog.info? 9).map (·.size) = some 1 := by kernel_rfl
                  cases hq : Tryz.prog.info? 9 with
                  | none => rw [hq] at h; cases h
                  | some i => rw [hq] at h; simp only [Option.map_some, Option.some.injEq] at h; simp [sizeOf, typeInfo, hq, h]
                simp [Instr.indexAt, asIntOf, run_underlying Tryz.underlying31, hz, hie]
                rw [add_plain]
              have okx : ∀ y ∈ [x], OkE y.e := fun y hy => by rw [List.mem_singleton] at hy; rw [hy]; exact hxi.e.ok
              have BU : Hid (∀ V : World, (Instr.buildSlice 22 1 #[(0, .agg X)]).run Tryz.prog V = .ok (.slice (some ⟨V.heap.size, 0, none⟩) 1 1) (V.alloc (.cells X 49))) := fun V => by
                rw [run_build_items V 1 [x] okx rfl (by omega) (by omega) _ (by rw [HXX.out]; rfl), icL_cons, icL_nil, List.append_nil, HXX.out]
              have htk : l.take (i + 1) = l.take i ++ [x] := by rw [HX.out, List.take_succ_eq_append_getElem hil]
              have AP : Hid (∀ V, Below wr.heap.size wr V → ∃ aa ca V2, (Builtin.append_ #[22, 22] 22 #[.slice ab i cb, .slice (some ⟨V.heap.size, 0, none⟩) 1 1]).run Tryz.prog (V.alloc (.cells X 49)) = .ok (.slice aa (i + 1) ca) V2 ∧ BackS v6 V2 l (some ⟨bt, ot, none⟩) e0 rs (.slice aa (i + 1) ca) (i + 1)) := fun V hb => by
                have hal : Below V.heap.size V (V.alloc (.cells X 49)) := (Below.refl _ _).alloc (Nat.le_refl _) _
                have hbv : Below v6.heap.size v6 V := HBK.out.b.trans (hb.mono HBK.out.b.size)
                have ho2 := own_below (own_below HBK.out.own hb) hal
                obtain ⟨v', V2, hrun, hown, hgr⟩ := run_append_items (IReads.new V [x] 1 rfl okx (by omega) X (by show _ = _; rw [HXX.out, icL_cons, icL_nil, List.append_nil])) (fun e => by cases e) v6.heap.size i (.slice ab i cb) (l.take i) ho2 (Nat.le_trans hbv.size hal.size) (by omega)
                rw [← htk] at hown
                obtain ⟨aa, ca, rfl, _, _, _⟩ := IReads.own hown (fun y hy => HIR.out.ok y (List.mem_of_mem_take hy))
                have hb2 : Below v6.heap.size v6 V2 := (hbv.trans (hal.mono hbv.size)).grown hgr (Nat.le_trans hbv.size hal.size) (fun k e => (ho2.lt k e).1)
                exact ⟨aa, ca, V2, hrun, hown, HTX.out.keep hb2, hb2⟩
              clear HXX HNX HX hxi hxr hsx hsz hokt hrb hnb htk okx hil hes HZ HBZ HNZ HBK HRS
              go_wp2_with (first
                | (show aD 135 _ _ _ _ _ _ _ _ _ _ _; refine wpList_conv_text rfl 9 34 5 (.tmp 134) rfl s rfl Tryz.underlying9 Tryz.underlying34 Tryz.underlying5 hsm ?_; intro ax cx wx HV; try simp only [Act.put, pS1, pS2, pS3])
                | fail)
              refine (GE.out _ _ _ HV.out.1).mono ?_
              rintro e v8 ⟨rfl, hb8⟩
              have HB8 := hidk (HV.out.2.trans (hb8.mono HV.out.2.size))
              clear HV hb8
              go_wp2_with (first
                | (show aD 22 _ _ _ _ _ _ _ _ _ _ _; refine wpList_new_var rfl 49 rfl Z HAZ.out ?_; intro g22 u9 HM; have HG := hidk HM.out.row; try simp only [Act.put, pS1, pS2, pS3])
                | (refine wpList_set_var rfl 49 (.tmp 22) (.tmp 137) rfl g22 X rfl rfl 49 Z HG.out HSX.out HZX.out H1X.out ?_; intro v9 HW; have hbj : Below v8.heap.size v8 v9 := HW.out.below _ _ HM.out.below (by rw [HM.out.new]; exact Nat.le_refl _); have HG22 := hidk HW.out.row; have HB9 := hidk (HB8.out.trans (hbj.mono HB8.out.size)); obtain ⟨aa, ca, V2, hrun, hbk⟩ := AP.out v9 HB9.out; have HRUN := hidk hrun; have HBK2 := hidk hbk; have HBU := hidk (BU.out v9); clear hbj HM HG HW hrun hbk; try simp only [Act.put, pS1, pS2, pS3])
                | (show aD 142 _ _ _ _ _ _ _ _ _ _ _; refine wpList_load_row_w (by rfl) 49 (.tmp 22) rfl g22 rfl 49 X (0, 0) _ HG22.out Tryz.underlying49 rfl HSX.out ?_; try simp only [Act.put, pS1, pS2, pS3])
                | (show aD 143 _ _ _ _ _ _ _ _ _ _ _; refine wpList_build_run rfl 22 1 _ rfl #[(0, .agg X)] rfl _ _ HBU.out ?_; try simp only [Act.put, pS1, pS2, pS3])
                | (show aD 144 _ _ _ _ _ _ _ _ _ _ _; refine wpList_append_runD rfl (.tmp 141) (.tmp 143) 22 22 rfl _ _ _ _ rfl rfl HRUN.out ?_; try simp only [Act.put, pS1, pS2, pS3])
                | fail)
              go_roundw
              case rel => exact ⟨i + 1, by omega, by go_num, HBK2⟩
              case measure => simp [intOf]; omega
            · obtain rfl : i = e0 := by omega
              have hd2 : decide ((i : Int) < (i : Int)) = false := by rw [decide_eq_false_iff_not]; omega
              have hnl2 : i ≤ l.length := by have := HLN.out; omega
              obtain ⟨q1, q2, q3⟩ := head_first HRT.out hnl2
              obtain ⟨C, HC⟩ : ∃ C : Array Value, Hid (C = (hcells (hdO l i 1 1 1)).toArray) := ⟨_, hidk rfl⟩
              obtain ⟨ZH, HZH, HAH, HBZH, H36⟩ := noughtsH
              have hdR := hdO_digs l i 1 1 1
              have HSC : Hid ((Tryz.prog.info? 41).map (·.size) = some C.size) := by show _ = _; rw [sizeH, HC.out]; simp [hcells_length _ hdR]
              have H1C : Hid (C.all (·.oneCell') = true) := by show _ = _; rw [HC.out]; exact one_cells _
              have HZC : Hid (ZH.size = C.size) := by show _ = _; rw [H36.out, HC.out]; simp [hcells_length _ hdR]
              have EQH : Hid (∀ V, (binOp .eql 41 (.agg C) (.agg C)).run Tryz.prog V = .ok (.bool true) V) := fun V => eqHead _ _ hdR hdR C C HC HC true (by simp) V
              have eqh := EQH.out
              have i64 : In64 (i : Int) := by unfold In64; omega
              have o64 : In64 1 := by unfold In64; decide
              have CA : Hid (∀ V, Below w.heap.size w V → IReads V ab i cb (l.take i) → Calls Tryz.prog 14 #[.slice ab i cb, .int .i64 (i : Int), .int .i64 1, .int .i64 1, .int .i64 1] V fun e w' => e = .returned (.tuple #[.agg C, .int .i64 0]) ∧ Below V.heap.size V w') := fun V hb hr => by
                have := HCC.out.head ab i cb (l.take i) (i : Int) 1 1 1 V ⟨hr, hnb, fun x hx => HIN.out.its x (List.mem_of_mem_take hx), by omega⟩ i64 o64 o64 o64 C (by show _ = _; rw [q3]; exact HC.out) (HTH.out.keep hb)
                rwa [q2] at this
              have CB : Hid (∀ V, Below w.heap.size w V → Calls Tryz.prog 14 #[.slice a k cap, .int .i64 (i : Int), .int .i64 1, .int .i64 1, .int .i64 1] V fun e w' => e = .returned (.tuple #[.agg C, .int .i64 0]) ∧ Below V.heap.size V w') := fun V hb => by
                have := HCC.out.head a k cap l (i : Int) 1 1 1 V (HIN.out.keep hb) i64 o64 o64 o64 C HC (HTH.out.keep hb)
                rwa [q1] at this
              obtain ⟨a2, SL, hRs⟩ := slice_log HIR.out (i : Int) (by omega) (by omega)
              rw [Int.toNat_natCast] at SL hRs
              have CS : Hid (∀ V, Below w.heap.size w V → IReads V ab i cb (l.take i) → Calls Tryz.prog 15 #[.slice ab i cb, .slice a2 i cap] V fun e w' => e = .returned (.bool true) ∧ Below V.heap.size V w') := fun V hb hr => refSame_any ab a2 i cb cap (l.take i) V hr (hRs V (HIR.out.keep hb))
              have HO := hidk hrb
              clear hokt hrb hnb hRs HC hdR q1 q2 q3 HZH HBK HRS HTX HIN HIR HRT HRI HCC HEC HTH HLN HB6 hnl2
              go_wp2_with fail
              refine (CA.out _ HBW.out HO.out).mono ?_
              rintro e x1 ⟨rfl, hbj⟩
              have B1 := hidk (HBW.out.trans (hbj.mono HBW.out.size))
              have O1 := hidk (HO.out.keep hbj)
              clear hbj
              go_wp2_with (first
                | (show aD 24 _ _ _ _ _ _ _ _ _ _ _; refine wpList_new_var rfl 41 rfl ZH HAH.out ?_; intro g24 u9 HM; have HG := hidk HM.out.row; try simp only [Act.put, pS1, pS2, pS3])
                | (refine wpList_set_var rfl 41 (.tmp 24) (.tmp 150) rfl g24 C rfl rfl 41 ZH HG.out HSC.out HZC.out H1C.out ?_; intro x2 HW; have hbj : Below x1.heap.size x1 x2 := HW.out.below _ _ HM.out.below (by rw [HM.out.new]; exact Nat.le_refl _); have G24_2 := hidk HW.out.row; have B2 := hidk (B1.out.trans (hbj.mono B1.out.size)); have O2 := hidk (O1.out.keep hbj); clear hbj HM HG HW; try simp only [Act.put, pS1, pS2, pS3])
                | fail)
              refine (CB.out _ B2.out).mono ?_
              rintro e x3 ⟨rfl, hbj⟩
              have B3 := hidk (B2.out.trans (hbj.mono B2.out.size))
              have O3 := hidk (O2.out.keep hbj)
              have G24_3 := hidk ((hbj.block _ (heap_lt G24_2.out)).trans G24_2.out)
              clear hbj
              go_wp2_with (first
                | (show aD 26 _ _ _ _ _ _ _ _ _ _ _; refine wpList_new_var rfl 41 rfl ZH HAH.out ?_; intro g26 u9 HM; have HG := hidk HM.out.row; try simp only [Act.put, pS1, pS2, pS3])
                | (refine wpList_set_var rfl 41 (.tmp 26) (.tmp 157) rfl g26 C rfl rfl 41 ZH HG.out HSC.out HZC.out H1C.out ?_; intro x4 HW; have hbj : Below x3.heap.size x3 x4 := HW.out.below _ _ HM.out.below (by rw [HM.out.new]; exact Nat.le_refl _); have G26_4 := hidk HW.out.row; have B4 := hidk (B3.out.trans (hbj.mono B3.out.size)); have O4 := hidk (O3.out.keep hbj); have G24_4 := hidk ((hbj.block _ (heap_lt G24_3.out)).trans G24_3.out); clear hbj HM HG HW; try simp only [Act.put, pS1, pS2, pS3])
                | fail)
              refine (JR.out _ B4.out).mono ?_
              rintro e x5 ⟨rfl, hbj⟩
              have B5 := hidk (B4.out.trans (hbj.mono B4.out.size))
              have O5 := hidk (O4.out.keep hbj)
              have G24_5 := hidk ((hbj.block _ (heap_lt G24_4.out)).trans G24_4.out)
              have G26_5 := hidk ((hbj.block _ (heap_lt G26_4.out)).trans G26_4.out)
              clear hbj
              go_wp2_with (first
                | (show aD 169 _ _ _ _ _ _ _ _ _ _ _; refine wpList_load_row_w (by rfl) 41 (.tmp 24) rfl g24 rfl 41 C (0, 0) _ G24_5.out Tryz.underlying41 rfl HSC.out ?_; try simp only [Act.put, pS1, pS2, pS3])
                | (show aD 170 _ _ _ _ _ _ _ _ _ _ _; refine wpList_load_row_w (by rfl) 41 (.tmp 26) rfl g26 rfl 41 C (0, 0) _ G26_5.out Tryz.underlying41 rfl HSC.out ?_; try simp only [Act.put, pS1, pS2, pS3])
                | fail)
              refine (CS.out _ B5.out O5.out).mono ?_
              rintro e x6 ⟨rfl, hbj⟩
              have B6 := hidk (B5.out.trans (hbj.mono B5.out.size))
              clear hbj
              go_wp2
              go_ret
              exact ⟨rfl, B6.out⟩
    · rw [show chkE l = 100 by unfold chkE; rw [if_neg hr]] at CK
      clear dk wl ck hc h hc0 hm isy ikp itn hT TB Hb hin hln hr
      go_enter Tryz.func3, Tryz.ntmps3
      go_wp2_with fail
      refine BG.out.mono ?_
      rintro e w1 ⟨rfl, rfl⟩
      go_wp2_with fail
      refine CK.out.mono ?_
      rintro e w2 ⟨rfl, hb2⟩
      have HB2 := hidk hb2
      clear hb2
      go_wp2_with fail
      refine (JR.out _ HB2.out).mono ?_
      rintro e v9 ⟨rfl, hb9⟩
      go_wp2
      go_ret
      exact ⟨rfl, HB2.out.trans (hb9.mono HB2.out.size)⟩
  · clear dk wl ck hc h hc0 hm isy ikp itn hT TB Hb
    go_enter Tryz.func3, Tryz.ntmps3
    go_wp2_with fail
    refine BG.out.mono ?_
    rintro e w1 ⟨rfl, rfl⟩
    go_wp2_with fail
    refine (JR.out _ HBR.out).mono ?_
    rintro e v9 ⟨rfl, hb9⟩
    go_wp2
    go_ret
    exact ⟨rfl, hb9⟩
end Go.Proofs.YtgclohgcehhfnabGreatDoor
