/- Texts of our own that the row of HistoryGrows leans on, part 31. -/
import Derived.Test.YtgclohgcehhfnaaDoorHistoryGrowsJ20
import Derived.Test.YtgclohgcehhfnaaDoorHistoryGrowsJ24
import Derived.Test.YtgclohgcehhfnaaDoorHistoryGrowsJ25
import Derived.Test.YtgclohgcehhfnaaDoorHistoryGrowsJ27
import Derived.Test.YtgclohgcehhfnaaDoorHistoryGrowsJ30

/- HistoryHeads. -/
namespace Go.Proofs.YtgclohgcehhfnaaDoor
open Go.RowKit Nums Sums
set_option linter.unusedVariables false
set_option linter.unusedSimpArgs false
set_option maxRecDepth 100000
/-- A log that came in and is not too big. -/
theorem inL_of {w : World} {a : Option Addr} {len cap : Nat} {l : List ItT} (h : IReads w a len cap l) (hc0 : a = none → cap = 0) (hm : ∀ x ∈ l, CmI x) (hb : bigL l = false) : InL w a len cap l := by
  obtain ⟨h1, h2⟩ := bigL_false hb
  exact ⟨h, hc0, fun x hx => (hm x hx).in (by have := h2 x hx; omega), by have := h.ln; omega⟩
end Go.Proofs.YtgclohgcehhfnaaDoor

/- HistoryGrows. -/
namespace Go.Proofs.YtgclohgcehhfnaaDoor
open Go.RowKit Nums Sums
set_option linter.unusedVariables false
set_option linter.unusedSimpArgs false
set_option maxRecDepth 100000
structure HeldG (w : World) (L : List ItT) (len1 : Nat) (aa : Option Addr) (ca : Nat) (X : Array Value) (V : World) : Prop where
  b : Below w.heap.size w V
  o : IReads V aa len1 ca L
  g : V.heap[w.heap.size]? = some (.cells X 50 (0, 0))
theorem HeldG.keep {w : World} {L : List ItT} {len1 : Nat} {aa : Option Addr} {ca : Nat} {X : Array Value} {V V' : World} (h : HeldG w L len1 aa ca X V) (hb : Below V.heap.size V V') : HeldG w L len1 aa ca X V' :=
  ⟨h.b.trans (hb.mono h.b.size), h.o.keep hb, (hb.block _ (heap_lt h.g)).trans h.g⟩
set_option maxHeartbeats 16000000 in
theorem historyGrows_of (ck : EntryC) (hc : HistoryC) (a : Option Addr) (len cap : Nat) (l : List ItT) (x : ItT) (n : Int) (w : World) (h : IReads w a len cap l) (hc0 : a = none → cap = 0) (hm : ∀ x ∈ l, CmI x) (hx : CmI x) (hn : In64 n) (hT : TabH w) :
    Calls Tryd.prog 5 #[.slice a len cap, .agg (icells x).toArray, .int .i64 n] w fun e w' => e = .returned (.bool true) ∧ Below w.heap.size w w' := by
  obtain ⟨X, HX, HSX, H1X, HNX⟩ := item_row x hx.ok
  rw [← HX.out]
  have HBX : Hid (Below w.heap.size w (w.alloc (.cells X 50))) := (Below.refl _ _).alloc (Nat.le_refl _) _
  have HGX := hidk (heap_alloc_new w (.cells X 50))
  have HCX : Hid (∀ (V : World), V.heap[w.heap.size]? = some (.cells X 50 (0, 0)) → V.cell? ⟨w.heap.size, 1, none⟩ = some (.int .i64 x.e.k) ∧ V.cell? ⟨w.heap.size, 2, none⟩ = some (.int .i64 x.e.c) ∧ V.cell? ⟨w.heap.size, 3, none⟩ = some (.int .i64 x.e.s)) := fun V hh => by
    have hr := range_row (l := icells x) (W := V) (g := w.heap.size) (t := 50) (fr := (0, 0)) (by rw [← HX.out]; exact hh)
    exact ⟨by simpa using hr 1 _ (icells_k x), by simpa using hr 2 _ (icells_c x), by simpa using hr 3 _ (icells_s x)⟩
  have BG := hidk (refBig_any a len cap l _ (h.keep HBX.out) (fun x hx => (hm x hx).e.t))
  have c4 : (w.alloc (.cells X 50)).cell? ⟨w.heap.size, 4, none⟩ = some (.string x.e.t) := by rw [cell_of_row _ _ 4 _ _ (0, 0) HGX.out, HX.out]; rfl
  have htm : x.e.t.size ≤ 9223372036854775807 := by have := hx.e.t; unfold maxLen at this; omega
  obtain ⟨b, Hb⟩ : ∃ b, Hid (bigL l = b) := ⟨_, hidk rfl⟩
  rw [Hb.out] at BG
  cases b
  · by_cases ht : 1000 < x.e.t.size
    · have d1 : decide ((1000 : Int) < (x.e.t.size : Int)) = true := by rw [decide_eq_true_eq]; omega
      clear ck hc h hc0 hm hx hn HX hT Hb H1X HNX HSX HCX
      go_enter Tryd.func5, Tryd.ntmps5
      go_wp2_with fail
      refine BG.out.mono ?_
      rintro e w1 ⟨rfl, rfl⟩
      go_wp2
      go_ret
      exact ⟨rfl, HBX.out⟩
    · have d1 : decide ((1000 : Int) < (x.e.t.size : Int)) = false := by rw [decide_eq_false_iff_not]; omega
      have hin := inL_of h hc0 hm Hb.out
      have hlb := (bigL_false Hb.out).1
      have hln := h.ln
      have hxi : InI x := hx.in (by omega)
      have FT : Hid (∀ W, Below w.heap.size w W → Calls Tryd.prog 22 #[] W fun e w' => e = .returned (.bool true) ∧ Below W.heap.size W w') := fun W hb => finds_true hc W
      have RT : Hid (∀ W, Below w.heap.size w W → Calls Tryd.prog 14 #[] W fun e w' => e = .returned (.bool true) ∧ Below W.heap.size W w') := fun W hb => roots_true ck hc W (hT.keep hb)
      have CM : Hid (∀ W, Below w.heap.size w W → Calls Tryd.prog 21 #[.slice a len cap, .agg X] W fun e w' => e = .returned (.int .i64 (mayE l x)) ∧ Below W.heap.size W w') := fun W hb => hc.may a len cap l x W (hin.keep hb) hxi X HX
      by_cases hme : mayE l x = 0
      · rw [hme] at CM
        obtain ⟨hr1, hr2, hr3, hr4, hr5⟩ := may_ok hme
        have hrs := right_snoc hme
        have OW : Hid (∀ W, Below w.heap.size w W → Calls Tryd.prog 9 #[.slice a len cap] W fun e w' => ∃ v, e = .returned v ∧ w'.ownsRow W.heap.size 50 110 v len (icL l) ∧ Below W.heap.size W w') := fun W hb => refOwn_any a len cap l W (h.keep hb) hc0 (by omega)
        have okx : ∀ y ∈ [x], OkE y.e := fun y hy => by rw [List.mem_singleton] at hy; rw [hy]; exact hx.ok
        have okl : ∀ y ∈ l ++ [x], OkE y.e := fun y hy => by
          rcases List.mem_append.1 hy with hy | hy
          · exact h.ok y hy
          · exact okx y hy
        have inl : ∀ y ∈ l ++ [x], InI y := fun y hy => by
          rcases List.mem_append.1 hy with hy | hy
          · exact hin.its y hy
          · rw [List.mem_singleton] at hy; rw [hy]; exact hxi
        have BU : Hid (∀ V : World, (Instr.buildSlice 22 1 #[(0, .agg X)]).run Tryd.prog V = .ok (.slice (some ⟨V.heap.size, 0, none⟩) 1 1) (V.alloc (.cells X 50))) := fun V => by
          rw [run_build_items V 1 [x] okx rfl (by omega) (by omega) _ (by rw [HX.out]; rfl), icL_cons, icL_nil, List.append_nil, HX.out]
        have AP : Hid (∀ (U V : World) (vo : Value), Below w.heap.size w U → U.heap[w.heap.size]? = some (.cells X 50 (0, 0)) → V.ownsRow U.heap.size 50 110 vo len (icL l) → Below U.heap.size U V → ∃ aa ca V2, (Builtin.append_ #[22, 22] 22 #[vo, .slice (some ⟨V.heap.size, 0, none⟩) 1 1]).run Tryd.prog (V.alloc (.cells X 50)) = .ok (.slice aa (len + 1) ca) V2 ∧ HeldG w (l ++ [x]) (len + 1) aa ca X V2 ∧ (aa = none → ca = 0)) := fun U V vo hwu hgu ho hb => by
          have hal : Below V.heap.size V (V.alloc (.cells X 50)) := (Below.refl _ _).alloc (Nat.le_refl _) _
          have ho2 : (V.alloc (.cells X 50)).ownsRow U.heap.size 50 110 vo len (icL l) := own_below ho hal
          obtain ⟨v', V2, hrun, hown, hgr⟩ := run_append_items (IReads.new V [x] 1 rfl okx (by omega) X (by show _ = _; rw [HX.out, icL_cons, icL_nil, List.append_nil])) (fun e => by cases e) U.heap.size len vo l ho2 (Nat.le_trans hb.size hal.size) (by omega)
          obtain ⟨aa, ca, rfl, hra, hnil, _⟩ := IReads.own hown okl
          have hb2 : Below U.heap.size U V2 := (hb.trans (hal.mono hb.size)).grown hgr (Nat.le_trans hb.size hal.size) (fun k e => (ho2.lt k e).1)
          exact ⟨aa, ca, V2, hrun, ⟨hwu.trans (hb2.mono hwu.size), hra, (hb2.block _ (heap_lt hgu)).trans hgu⟩, hnil⟩
        obtain ⟨D, HD⟩ : ∃ D : Array Value, Hid (D = (cellsOf (rootO l n)).toArray) := ⟨_, hidk rfl⟩
        obtain ⟨C, HC⟩ : ∃ C : Array Value, Hid (C = (cellsOf (rootO (l ++ [x]) n)).toArray) := ⟨_, hidk rfl⟩
        obtain ⟨Z, HZ, HA, HS, H1, H32⟩ := noughts27
        have h32 : (rootO l n).length = 32 := rootO_length l n
        have h32c : (rootO (l ++ [x]) n).length = 32 := rootO_length _ n
        have HSD : Hid ((Tryd.prog.info? 26).map (·.size) = some D.size) := by show _ = _; rw [size23, HD.out]; simp [cellsOf_length, h32]
        have HZD : Hid (Z.size = D.size) := by show _ = _; rw [H32.out, HD.out]; simp [cellsOf_length, h32]
        have H1D : Hid (D.all (·.oneCell') = true) := by show _ = _; rw [HD.out]; exact cellsOf_all _
        have HSC : Hid ((Tryd.prog.info? 26).map (·.size) = some C.size) := by show _ = _; rw [size23, HC.out]; simp [cellsOf_length, h32c]
        have HZC : Hid (Z.size = C.size) := by show _ = _; rw [H32.out, HC.out]; simp [cellsOf_length, h32c]
        have H1C : Hid (C.all (·.oneCell') = true) := by show _ = _; rw [HC.out]; exact cellsOf_all _
        have C1 : Hid (∀ W, Below w.heap.size w W → Calls Tryd.prog 10 #[.slice a len cap, .int .i64 n] W fun e w' => e = .returned (.tuple #[.agg D, .int .i64 (sizeX l n)]) ∧ Below W.heap.size W w') := fun W hb => hc.root a len cap l n W (hin.keep hb) hn D HD (hT.keep hb)
        have INL : Hid (∀ (W : World) (aa : Option Addr) (ca : Nat), (aa = none → ca = 0) → HeldG w (l ++ [x]) (len + 1) aa ca X W → InL W aa (len + 1) ca (l ++ [x])) := fun W aa ca hni hh => ⟨hh.o, hni, inl, by omega⟩
        have C2 : Hid (∀ (W : World) (aa : Option Addr) (ca : Nat), (aa = none → ca = 0) → HeldG w (l ++ [x]) (len + 1) aa ca X W → Calls Tryd.prog 10 #[.slice aa (len + 1) ca, .int .i64 n] W fun e w' => e = .returned (.tuple #[.agg C, .int .i64 (sizeX (l ++ [x]) n)]) ∧ Below W.heap.size W w') := fun W aa ca hni hh => hc.root aa (len + 1) ca (l ++ [x]) n W (INL.out W aa ca hni hh) hn C HC (hT.keep hh.b)
        have C3 : Hid (∀ W, Below w.heap.size w W → Calls Tryd.prog 23 #[.slice a len cap] W fun e w' => e = .returned (.int .i64 0) ∧ Below W.heap.size W w') := fun W hb => by
          have := hc.check a len cap l W (hin.keep hb)
          rwa [show chkE l = 0 by unfold chkE; rw [if_pos hr1]] at this
        have C4 : Hid (∀ (W : World) (aa : Option Addr) (ca : Nat), (aa = none → ca = 0) → HeldG w (l ++ [x]) (len + 1) aa ca X W → Calls Tryd.prog 23 #[.slice aa (len + 1) ca] W fun e w' => e = .returned (.int .i64 0) ∧ Below W.heap.size W w') := fun W aa ca hni hh => by
          have := hc.check aa (len + 1) ca (l ++ [x]) W (INL.out W aa ca hni hh)
          rwa [show chkE (l ++ [x]) = 0 by unfold chkE; rw [if_pos hrs]] at this
        obtain ⟨kk, hkk⟩ : ∃ z, x.e.k = z := ⟨_, rfl⟩
        obtain ⟨cc, hcc⟩ : ∃ z, x.e.c = z := ⟨_, rfl⟩
        obtain ⟨ss, hss⟩ : ∃ z, x.e.s = z := ⟨_, rfl⟩
        have C5 : Hid (kk = 1 → ∀ (W : World) (aa : Option Addr) (ca : Nat), (aa = none → ca = 0) → HeldG w (l ++ [x]) (len + 1) aa ca X W → Calls Tryd.prog 24 #[.slice aa (len + 1) ca, .int .i64 cc, .int .i64 ss] W fun e w' => e = .returned (.tuple #[.int .i64 (len : Int), .bool true]) ∧ Below W.heap.size W w') := fun hk W aa ca hni hh => by
          have := hc.find aa (len + 1) ca (l ++ [x]) cc ss W (INL.out W aa ca hni hh) (by rw [← hcc]; exact hxi.e.c) (by rw [← hss]; exact hxi.e.s)
          have hf := find_snoc hme (by rw [hkk]; exact hk)
          rw [hcc, hss] at hf
          rwa [findN, hf, show (some l.length).getD 0 = len by rw [← hln]; rfl] at this
        have C6 : Hid (∀ (W : World) (aa : Option Addr) (ca : Nat), (aa = none → ca = 0) → HeldG w (l ++ [x]) (len + 1) aa ca X W → Calls Tryd.prog 21 #[.slice aa (len + 1) ca, .agg X] W fun e w' => e = .returned (.int .i64 (mayE (l ++ [x]) x)) ∧ Below W.heap.size W w') := fun W aa ca hni hh => hc.may aa (len + 1) ca (l ++ [x]) x W (INL.out W aa ca hni hh) hxi X HX
        have HMA : Hid (kk = 1 → mayE (l ++ [x]) x ≠ 0) := fun hk => may_again hme (by rw [hkk]; exact hk)
        obtain ⟨m2, Hm2⟩ : ∃ z, Hid (mayE (l ++ [x]) x = z) := ⟨_, hidk rfl⟩
        rw [Hm2.out] at C6 HMA
        rw [hkk, hcc, hss] at HCX
        have HRS : Hid (sizeX l n = 0 → sizeX (l ++ [x]) n = 0 ∧ C = D) := fun hs => by
          obtain ⟨e1, e2⟩ := root_snoc hme hs
          exact ⟨e1, by rw [HC.out, HD.out, e2]⟩
        have EQD : Hid (∀ V, (binOp .neq 26 (.agg D) (.agg D)).run Tryd.prog V = .ok (.bool false) V) := fun V => neqSelf D (rootO l n) h32 HD V
        have eqd := EQD.out
        have hlm : len ≤ 100 := by omega
        have OKL := hidk (fun y hy => h.ok y hy)
        obtain ⟨s1, Hs1⟩ : ∃ z, Hid (sizeX l n = z) := ⟨_, hidk rfl⟩
        obtain ⟨s2, Hs2⟩ : ∃ z, Hid (sizeX (l ++ [x]) n = z) := ⟨_, hidk rfl⟩
        rw [Hs1.out] at C1 HRS
        rw [Hs2.out] at C2 HRS
        clear ck hc h hc0 hm hx hn HX hT Hb H1X HNX hin hlb hln hxi hme hr1 hr2 hr3 hr4 hr5 hrs okx okl inl HD HC HZ h32 h32c hkk hcc hss INL Hm2 Hs1 Hs2 ht
        by_cases hk1 : kk = 1
        · have C5' := hidk (C5.out hk1)
          have hm2 := HMA.out hk1
          have bm : (!(m2 == 0)) = true := by simp [hm2]
          have bm2 : (m2 != 0) = true := by simpa using hm2
          replace C5 := C5'
          clear HMA hm2 C5'
          subst hk1
          by_cases hs1 : s1 = 0
          · obtain ⟨e1, e2⟩ := HRS.out hs1
            clear HRS
            subst hs1
            subst e1
            replace e2 := e2.symm
            subst e2
            go_enter Tryd.func5, Tryd.ntmps5
            go_wp2_with fail
            refine BG.out.mono ?_
            rintro e w1 ⟨rfl, rfl⟩
            go_wp2_with (first
              | (show wpList _ _ _ ({ dst := some 24, op := _, type := _, pos := _, after := _, guard := _ } :: _) _ _; refine wpList_load_row_w (by rfl) 50 (.tmp 4) rfl w.heap.size rfl 50 X (0, 0) _ HGX.out Tryd.underlying50 rfl HSX.out ?_; try simp only [Act.put, List.setIfInBounds_toArray, List.set_cons_zero, List.set_cons_succ])
              | fail)
            refine (CM.out _ HBX.out).mono ?_
            rintro e v2 ⟨rfl, hb2⟩
            have HB2 := hidk (HBX.out.trans (hb2.mono HBX.out.size))
            have HG2 := hidk ((hb2.block _ (heap_lt HGX.out)).trans HGX.out)
            clear hb2 c4
            go_wp2_with fail
            refine (OW.out _ HB2.out).mono ?_
            rintro e v3 ⟨vo, rfl, ho, hb3⟩
            obtain ⟨aa, ca, v4, AR, hH4, hni⟩ := AP.out v2 v3 vo HB2.out HG2.out ho hb3
            obtain ⟨ao, co, rfl, hro, _, _⟩ := IReads.own ho OKL.out
            have HG3 := hidk ((hb3.block _ (heap_lt HG2.out)).trans HG2.out)
            have HBU := hidk (BU.out v3)
            have HAR := hidk AR
            have H4 := hidk hH4
            have HNI := hidk hni
            clear ho hro hb3 AR hH4 hni
            go_wp2_with (first
              | (show wpList _ _ _ ({ dst := some 34, op := _, type := _, pos := _, after := _, guard := _ } :: _) _ _; refine wpList_load_row_w (by rfl) 50 (.tmp 4) rfl w.heap.size rfl 50 X (0, 0) _ HG3.out Tryd.underlying50 rfl HSX.out ?_; try simp only [Act.put, List.setIfInBounds_toArray, List.set_cons_zero, List.set_cons_succ])
              | (show wpList _ _ _ ({ dst := some 35, op := _, type := _, pos := _, after := _, guard := _ } :: _) _ _; refine wpList_build_run rfl 22 1 _ rfl #[(0, .agg X)] rfl _ _ HBU.out ?_; try simp only [Act.put, List.setIfInBounds_toArray, List.set_cons_zero, List.set_cons_succ])
              | (show wpList _ _ _ ({ dst := some 36, op := _, type := _, pos := _, after := _, guard := _ } :: _) _ _; refine wpList_append_runD rfl (.tmp 33) (.tmp 35) 22 22 rfl _ _ _ _ rfl rfl HAR.out ?_; try simp only [Act.put, List.setIfInBounds_toArray, List.set_cons_zero, List.set_cons_succ])
              | fail)
            refine (C1.out _ H4.out.b).mono ?_
            rintro e v5 ⟨rfl, hbj⟩
            have H5 := hidk (H4.out.keep hbj)
            clear hbj HAR HBU
            go_wp2_with (first
              | (show wpList _ _ _ ({ dst := some 8, op := _, type := _, pos := _, after := _, guard := _ } :: _) _ _; refine wpList_new_var rfl 26 rfl Z HA.out ?_; intro g8 u6 HM; have HG := hidk HM.out.row; try simp only [Act.put, List.setIfInBounds_toArray, List.set_cons_zero, List.set_cons_succ])
              | (refine wpList_set_var rfl 26 (.tmp 8) (.tmp 41) rfl g8 D rfl rfl 26 Z HG.out HSD.out HZD.out H1D.out ?_; intro v6 HW; have hbj : Below v5.heap.size v5 v6 := HW.out.below _ _ HM.out.below (by rw [HM.out.new]; exact Nat.le_refl _); have HG8 := hidk HW.out.row; have H6 := hidk (H5.out.keep hbj); clear hbj HM HG HW; try simp only [Act.put, List.setIfInBounds_toArray, List.set_cons_zero, List.set_cons_succ])
              | fail)
            refine (C2.out _ _ _ HNI.out H6.out).mono ?_
            rintro e v7 ⟨rfl, hbj⟩
            have H7 := hidk (H6.out.keep hbj)
            have HG8_7 := hidk ((hbj.block _ (heap_lt HG8.out)).trans HG8.out)
            clear hbj
            go_wp2_with (first
              | (show wpList _ _ _ ({ dst := some 10, op := _, type := _, pos := _, after := _, guard := _ } :: _) _ _; refine wpList_new_var rfl 26 rfl Z HA.out ?_; intro g10 u8 HM; have HG := hidk HM.out.row; try simp only [Act.put, List.setIfInBounds_toArray, List.set_cons_zero, List.set_cons_succ])
              | (refine wpList_set_var rfl 26 (.tmp 10) (.tmp 47) rfl g10 D rfl rfl 26 Z HG.out HSD.out HZD.out H1D.out ?_; intro v8 HW; have hbj : Below v7.heap.size v7 v8 := HW.out.below _ _ HM.out.below (by rw [HM.out.new]; exact Nat.le_refl _); have HG10 := hidk HW.out.row; have H8 := hidk (H7.out.keep hbj); have HG8_8 := hidk ((hbj.block _ (heap_lt HG8_7.out)).trans HG8_7.out); clear hbj HM HG HW; try simp only [Act.put, List.setIfInBounds_toArray, List.set_cons_zero, List.set_cons_succ])
              | fail)
            refine (C3.out _ H8.out.b).mono ?_
            rintro e v9 ⟨rfl, hbj⟩
            have H9 := hidk (H8.out.keep hbj)
            have HG8_9 := hidk ((hbj.block _ (heap_lt HG8_8.out)).trans HG8_8.out)
            have HG10_9 := hidk ((hbj.block _ (heap_lt HG10.out)).trans HG10.out)
            clear hbj
            go_wp2_with fail
            refine (C4.out _ _ _ HNI.out H9.out).mono ?_
            rintro e v10 ⟨rfl, hbj⟩
            have H10 := hidk (H9.out.keep hbj)
            have HG8_10 := hidk ((hbj.block _ (heap_lt HG8_9.out)).trans HG8_9.out)
            have HG10_10 := hidk ((hbj.block _ (heap_lt HG10_9.out)).trans HG10_9.out)
            obtain ⟨k1, k2, k3⟩ := HCX.out _ H10.out.g
            clear hbj
            go_wp2_with (first
              | (show wpList _ _ _ ({ dst := some 64, op := _, type := _, pos := _, after := _, guard := _ } :: _) _ _; refine wpList_load_row_w (by rfl) 26 (.tmp 10) rfl g10 rfl 26 D (0, 0) _ HG10_10.out Tryd.underlying26 rfl HSD.out ?_; try simp only [Act.put, List.setIfInBounds_toArray, List.set_cons_zero, List.set_cons_succ])
              | (show wpList _ _ _ ({ dst := some 65, op := _, type := _, pos := _, after := _, guard := _ } :: _) _ _; refine wpList_load_row_w (by rfl) 26 (.tmp 8) rfl g8 rfl 26 D (0, 0) _ HG8_10.out Tryd.underlying26 rfl HSD.out ?_; try simp only [Act.put, List.setIfInBounds_toArray, List.set_cons_zero, List.set_cons_succ])
              | fail)
            refine (C5.out _ _ _ HNI.out H10.out).mono ?_
            rintro e v11 ⟨rfl, hbj⟩
            have H11 := hidk (H10.out.keep hbj)
            clear hbj
            go_wp2_with fail
            refine (FT.out _ H11.out.b).mono ?_
            rintro e v12 ⟨rfl, hbj⟩
            have H12 := hidk (H11.out.keep hbj)
            clear hbj
            go_wp2_with fail
            refine (RT.out _ H12.out.b).mono ?_
            rintro e v13 ⟨rfl, hbj⟩
            have H13 := hidk (H12.out.keep hbj)
            clear hbj
            go_wp2_with (first
              | (show wpList _ _ _ ({ dst := some 104, op := _, type := _, pos := _, after := _, guard := _ } :: _) _ _; refine wpList_load_row_w (by rfl) 50 (.tmp 4) rfl w.heap.size rfl 50 X (0, 0) _ H13.out.g Tryd.underlying50 rfl HSX.out ?_; try simp only [Act.put, List.setIfInBounds_toArray, List.set_cons_zero, List.set_cons_succ])
              | fail)
            refine (C6.out _ _ _ HNI.out H13.out).mono ?_
            rintro e v14 ⟨rfl, hbj⟩
            have H14 := hidk (H13.out.keep hbj)
            clear hbj
            go_wp2
            go_ret
            exact ⟨rfl, H14.out.b⟩
          · have b1 : (s1 == 0) = false := by simp [hs1]
            have b1d : decide (s1 = 0) = false := decide_eq_false hs1
            clear HRS
            go_enter Tryd.func5, Tryd.ntmps5
            go_wp2_with fail
            refine BG.out.mono ?_
            rintro e w1 ⟨rfl, rfl⟩
            go_wp2_with (first
              | (show wpList _ _ _ ({ dst := some 24, op := _, type := _, pos := _, after := _, guard := _ } :: _) _ _; refine wpList_load_row_w (by rfl) 50 (.tmp 4) rfl w.heap.size rfl 50 X (0, 0) _ HGX.out Tryd.underlying50 rfl HSX.out ?_; try simp only [Act.put, List.setIfInBounds_toArray, List.set_cons_zero, List.set_cons_succ])
              | fail)
            refine (CM.out _ HBX.out).mono ?_
            rintro e v2 ⟨rfl, hb2⟩
            have HB2 := hidk (HBX.out.trans (hb2.mono HBX.out.size))
            have HG2 := hidk ((hb2.block _ (heap_lt HGX.out)).trans HGX.out)
            clear hb2 c4
            go_wp2_with fail
            refine (OW.out _ HB2.out).mono ?_
            rintro e v3 ⟨vo, rfl, ho, hb3⟩
            obtain ⟨aa, ca, v4, AR, hH4, hni⟩ := AP.out v2 v3 vo HB2.out HG2.out ho hb3
            obtain ⟨ao, co, rfl, hro, _, _⟩ := IReads.own ho OKL.out
            have HG3 := hidk ((hb3.block _ (heap_lt HG2.out)).trans HG2.out)
            have HBU := hidk (BU.out v3)
            have HAR := hidk AR
            have H4 := hidk hH4
            have HNI := hidk hni
            clear ho hro hb3 AR hH4 hni
            go_wp2_with (first
              | (show wpList _ _ _ ({ dst := some 34, op := _, type := _, pos := _, after := _, guard := _ } :: _) _ _; refine wpList_load_row_w (by rfl) 50 (.tmp 4) rfl w.heap.size rfl 50 X (0, 0) _ HG3.out Tryd.underlying50 rfl HSX.out ?_; try simp only [Act.put, List.setIfInBounds_toArray, List.set_cons_zero, List.set_cons_succ])
              | (show wpList _ _ _ ({ dst := some 35, op := _, type := _, pos := _, after := _, guard := _ } :: _) _ _; refine wpList_build_run rfl 22 1 _ rfl #[(0, .agg X)] rfl _ _ HBU.out ?_; try simp only [Act.put, List.setIfInBounds_toArray, List.set_cons_zero, List.set_cons_succ])
              | (show wpList _ _ _ ({ dst := some 36, op := _, type := _, pos := _, after := _, guard := _ } :: _) _ _; refine wpList_append_runD rfl (.tmp 33) (.tmp 35) 22 22 rfl _ _ _ _ rfl rfl HAR.out ?_; try simp only [Act.put, List.setIfInBounds_toArray, List.set_cons_zero, List.set_cons_succ])
              | fail)
            refine (C1.out _ H4.out.b).mono ?_
            rintro e v5 ⟨rfl, hbj⟩
            have H5 := hidk (H4.out.keep hbj)
            clear hbj HAR HBU
            go_wp2_with (first
              | (show wpList _ _ _ ({ dst := some 8, op := _, type := _, pos := _, after := _, guard := _ } :: _) _ _; refine wpList_new_var rfl 26 rfl Z HA.out ?_; intro g8 u6 HM; have HG := hidk HM.out.row; try simp only [Act.put, List.setIfInBounds_toArray, List.set_cons_zero, List.set_cons_succ])
              | (refine wpList_set_var rfl 26 (.tmp 8) (.tmp 41) rfl g8 D rfl rfl 26 Z HG.out HSD.out HZD.out H1D.out ?_; intro v6 HW; have hbj : Below v5.heap.size v5 v6 := HW.out.below _ _ HM.out.below (by rw [HM.out.new]; exact Nat.le_refl _); have HG8 := hidk HW.out.row; have H6 := hidk (H5.out.keep hbj); clear hbj HM HG HW; try simp only [Act.put, List.setIfInBounds_toArray, List.set_cons_zero, List.set_cons_succ])
              | fail)
            refine (C2.out _ _ _ HNI.out H6.out).mono ?_
            rintro e v7 ⟨rfl, hbj⟩
            have H7 := hidk (H6.out.keep hbj)
            have HG8_7 := hidk ((hbj.block _ (heap_lt HG8.out)).trans HG8.out)
            clear hbj
            go_wp2_with (first
              | (show wpList _ _ _ ({ dst := some 10, op := _, type := _, pos := _, after := _, guard := _ } :: _) _ _; refine wpList_new_var rfl 26 rfl Z HA.out ?_; intro g10 u8 HM; have HG := hidk HM.out.row; try simp only [Act.put, List.setIfInBounds_toArray, List.set_cons_zero, List.set_cons_succ])
              | (refine wpList_set_var rfl 26 (.tmp 10) (.tmp 47) rfl g10 C rfl rfl 26 Z HG.out HSC.out HZC.out H1C.out ?_; intro v8 HW; have hbj : Below v7.heap.size v7 v8 := HW.out.below _ _ HM.out.below (by rw [HM.out.new]; exact Nat.le_refl _); have HG10 := hidk HW.out.row; have H8 := hidk (H7.out.keep hbj); have HG8_8 := hidk ((hbj.block _ (heap_lt HG8_7.out)).trans HG8_7.out); clear hbj HM HG HW; try simp only [Act.put, List.setIfInBounds_toArray, List.set_cons_zero, List.set_cons_succ])
              | fail)
            refine (C3.out _ H8.out.b).mono ?_
            rintro e v9 ⟨rfl, hbj⟩
            have H9 := hidk (H8.out.keep hbj)
            have HG8_9 := hidk ((hbj.block _ (heap_lt HG8_8.out)).trans HG8_8.out)
            have HG10_9 := hidk ((hbj.block _ (heap_lt HG10.out)).trans HG10.out)
            clear hbj
            go_wp2_with fail
            refine (C4.out _ _ _ HNI.out H9.out).mono ?_
            rintro e v10 ⟨rfl, hbj⟩
            have H10 := hidk (H9.out.keep hbj)
            have HG8_10 := hidk ((hbj.block _ (heap_lt HG8_9.out)).trans HG8_9.out)
            have HG10_10 := hidk ((hbj.block _ (heap_lt HG10_9.out)).trans HG10_9.out)
            obtain ⟨k1, k2, k3⟩ := HCX.out _ H10.out.g
            clear hbj
            go_wp2_with (first
              | (show wpList _ _ _ ({ dst := some 64, op := _, type := _, pos := _, after := _, guard := _ } :: _) _ _; refine wpList_load_row_w (by rfl) 26 (.tmp 10) rfl g10 rfl 26 C (0, 0) _ HG10_10.out Tryd.underlying26 rfl HSC.out ?_; try simp only [Act.put, List.setIfInBounds_toArray, List.set_cons_zero, List.set_cons_succ])
              | (show wpList _ _ _ ({ dst := some 65, op := _, type := _, pos := _, after := _, guard := _ } :: _) _ _; refine wpList_load_row_w (by rfl) 26 (.tmp 8) rfl g8 rfl 26 D (0, 0) _ HG8_10.out Tryd.underlying26 rfl HSD.out ?_; try simp only [Act.put, List.setIfInBounds_toArray, List.set_cons_zero, List.set_cons_succ])
              | fail)
            refine (C5.out _ _ _ HNI.out H10.out).mono ?_
            rintro e v11 ⟨rfl, hbj⟩
            have H11 := hidk (H10.out.keep hbj)
            clear hbj
            go_wp2_with fail
            refine (FT.out _ H11.out.b).mono ?_
            rintro e v12 ⟨rfl, hbj⟩
            have H12 := hidk (H11.out.keep hbj)
            clear hbj
            go_wp2_with fail
            refine (RT.out _ H12.out.b).mono ?_
            rintro e v13 ⟨rfl, hbj⟩
            have H13 := hidk (H12.out.keep hbj)
            clear hbj
            go_wp2_with (first
              | (show wpList _ _ _ ({ dst := some 104, op := _, type := _, pos := _, after := _, guard := _ } :: _) _ _; refine wpList_load_row_w (by rfl) 50 (.tmp 4) rfl w.heap.size rfl 50 X (0, 0) _ H13.out.g Tryd.underlying50 rfl HSX.out ?_; try simp only [Act.put, List.setIfInBounds_toArray, List.set_cons_zero, List.set_cons_succ])
              | fail)
            refine (C6.out _ _ _ HNI.out H13.out).mono ?_
            rintro e v14 ⟨rfl, hbj⟩
            have H14 := hidk (H13.out.keep hbj)
            clear hbj
            go_wp2
            go_ret
            exact ⟨rfl, H14.out.b⟩
        · have bk : (!(kk == 1)) = true := by simp [hk1]
          have bkd : decide (kk = 1) = false := decide_eq_false hk1
          clear HMA C5 C6
          by_cases hs1 : s1 = 0
          · obtain ⟨e1, e2⟩ := HRS.out hs1
            clear HRS
            subst hs1
            subst e1
            replace e2 := e2.symm
            subst e2
            go_enter Tryd.func5, Tryd.ntmps5
            go_wp2_with fail
            refine BG.out.mono ?_
            rintro e w1 ⟨rfl, rfl⟩
            go_wp2_with (first
              | (show wpList _ _ _ ({ dst := some 24, op := _, type := _, pos := _, after := _, guard := _ } :: _) _ _; refine wpList_load_row_w (by rfl) 50 (.tmp 4) rfl w.heap.size rfl 50 X (0, 0) _ HGX.out Tryd.underlying50 rfl HSX.out ?_; try simp only [Act.put, List.setIfInBounds_toArray, List.set_cons_zero, List.set_cons_succ])
              | fail)
            refine (CM.out _ HBX.out).mono ?_
            rintro e v2 ⟨rfl, hb2⟩
            have HB2 := hidk (HBX.out.trans (hb2.mono HBX.out.size))
            have HG2 := hidk ((hb2.block _ (heap_lt HGX.out)).trans HGX.out)
            clear hb2 c4
            go_wp2_with fail
            refine (OW.out _ HB2.out).mono ?_
            rintro e v3 ⟨vo, rfl, ho, hb3⟩
            obtain ⟨aa, ca, v4, AR, hH4, hni⟩ := AP.out v2 v3 vo HB2.out HG2.out ho hb3
            obtain ⟨ao, co, rfl, hro, _, _⟩ := IReads.own ho OKL.out
            have HG3 := hidk ((hb3.block _ (heap_lt HG2.out)).trans HG2.out)
            have HBU := hidk (BU.out v3)
            have HAR := hidk AR
            have H4 := hidk hH4
            have HNI := hidk hni
            clear ho hro hb3 AR hH4 hni
            go_wp2_with (first
              | (show wpList _ _ _ ({ dst := some 34, op := _, type := _, pos := _, after := _, guard := _ } :: _) _ _; refine wpList_load_row_w (by rfl) 50 (.tmp 4) rfl w.heap.size rfl 50 X (0, 0) _ HG3.out Tryd.underlying50 rfl HSX.out ?_; try simp only [Act.put, List.setIfInBounds_toArray, List.set_cons_zero, List.set_cons_succ])
              | (show wpList _ _ _ ({ dst := some 35, op := _, type := _, pos := _, after := _, guard := _ } :: _) _ _; refine wpList_build_run rfl 22 1 _ rfl #[(0, .agg X)] rfl _ _ HBU.out ?_; try simp only [Act.put, List.setIfInBounds_toArray, List.set_cons_zero, List.set_cons_succ])
              | (show wpList _ _ _ ({ dst := some 36, op := _, type := _, pos := _, after := _, guard := _ } :: _) _ _; refine wpList_append_runD rfl (.tmp 33) (.tmp 35) 22 22 rfl _ _ _ _ rfl rfl HAR.out ?_; try simp only [Act.put, List.setIfInBounds_toArray, List.set_cons_zero, List.set_cons_succ])
              | fail)
            refine (C1.out _ H4.out.b).mono ?_
            rintro e v5 ⟨rfl, hbj⟩
            have H5 := hidk (H4.out.keep hbj)
            clear hbj HAR HBU
            go_wp2_with (first
              | (show wpList _ _ _ ({ dst := some 8, op := _, type := _, pos := _, after := _, guard := _ } :: _) _ _; refine wpList_new_var rfl 26 rfl Z HA.out ?_; intro g8 u6 HM; have HG := hidk HM.out.row; try simp only [Act.put, List.setIfInBounds_toArray, List.set_cons_zero, List.set_cons_succ])
              | (refine wpList_set_var rfl 26 (.tmp 8) (.tmp 41) rfl g8 D rfl rfl 26 Z HG.out HSD.out HZD.out H1D.out ?_; intro v6 HW; have hbj : Below v5.heap.size v5 v6 := HW.out.below _ _ HM.out.below (by rw [HM.out.new]; exact Nat.le_refl _); have HG8 := hidk HW.out.row; have H6 := hidk (H5.out.keep hbj); clear hbj HM HG HW; try simp only [Act.put, List.setIfInBounds_toArray, List.set_cons_zero, List.set_cons_succ])
              | fail)
            refine (C2.out _ _ _ HNI.out H6.out).mono ?_
            rintro e v7 ⟨rfl, hbj⟩
            have H7 := hidk (H6.out.keep hbj)
            have HG8_7 := hidk ((hbj.block _ (heap_lt HG8.out)).trans HG8.out)
            clear hbj
            go_wp2_with (first
              | (show wpList _ _ _ ({ dst := some 10, op := _, type := _, pos := _, after := _, guard := _ } :: _) _ _; refine wpList_new_var rfl 26 rfl Z HA.out ?_; intro g10 u8 HM; have HG := hidk HM.out.row; try simp only [Act.put, List.setIfInBounds_toArray, List.set_cons_zero, List.set_cons_succ])
              | (refine wpList_set_var rfl 26 (.tmp 10) (.tmp 47) rfl g10 D rfl rfl 26 Z HG.out HSD.out HZD.out H1D.out ?_; intro v8 HW; have hbj : Below v7.heap.size v7 v8 := HW.out.below _ _ HM.out.below (by rw [HM.out.new]; exact Nat.le_refl _); have HG10 := hidk HW.out.row; have H8 := hidk (H7.out.keep hbj); have HG8_8 := hidk ((hbj.block _ (heap_lt HG8_7.out)).trans HG8_7.out); clear hbj HM HG HW; try simp only [Act.put, List.setIfInBounds_toArray, List.set_cons_zero, List.set_cons_succ])
              | fail)
            refine (C3.out _ H8.out.b).mono ?_
            rintro e v9 ⟨rfl, hbj⟩
            have H9 := hidk (H8.out.keep hbj)
            have HG8_9 := hidk ((hbj.block _ (heap_lt HG8_8.out)).trans HG8_8.out)
            have HG10_9 := hidk ((hbj.block _ (heap_lt HG10.out)).trans HG10.out)
            clear hbj
            go_wp2_with fail
            refine (C4.out _ _ _ HNI.out H9.out).mono ?_
            rintro e v10 ⟨rfl, hbj⟩
            have H10 := hidk (H9.out.keep hbj)
            have HG8_10 := hidk ((hbj.block _ (heap_lt HG8_9.out)).trans HG8_9.out)
            have HG10_10 := hidk ((hbj.block _ (heap_lt HG10_9.out)).trans HG10_9.out)
            obtain ⟨k1, k2, k3⟩ := HCX.out _ H10.out.g
            clear hbj
            go_wp2_with (first
              | (show wpList _ _ _ ({ dst := some 64, op := _, type := _, pos := _, after := _, guard := _ } :: _) _ _; refine wpList_load_row_w (by rfl) 26 (.tmp 10) rfl g10 rfl 26 D (0, 0) _ HG10_10.out Tryd.underlying26 rfl HSD.out ?_; try simp only [Act.put, List.setIfInBounds_toArray, List.set_cons_zero, List.set_cons_succ])
              | (show wpList _ _ _ ({ dst := some 65, op := _, type := _, pos := _, after := _, guard := _ } :: _) _ _; refine wpList_load_row_w (by rfl) 26 (.tmp 8) rfl g8 rfl 26 D (0, 0) _ HG8_10.out Tryd.underlying26 rfl HSD.out ?_; try simp only [Act.put, List.setIfInBounds_toArray, List.set_cons_zero, List.set_cons_succ])
              | fail)
            refine (FT.out _ H10.out.b).mono ?_
            rintro e v11 ⟨rfl, hbj⟩
            have H11 := hidk (H10.out.keep hbj)
            clear hbj
            go_wp2_with fail
            refine (RT.out _ H11.out.b).mono ?_
            rintro e v12 ⟨rfl, hbj⟩
            have H12 := hidk (H11.out.keep hbj)
            clear hbj
            go_wp2
            go_ret
            exact ⟨rfl, H12.out.b⟩
          · have b1 : (s1 == 0) = false := by simp [hs1]
            have b1d : decide (s1 = 0) = false := decide_eq_false hs1
            clear HRS
            go_enter Tryd.func5, Tryd.ntmps5
            go_wp2_with fail
            refine BG.out.mono ?_
            rintro e w1 ⟨rfl, rfl⟩
            go_wp2_with (first
              | (show wpList _ _ _ ({ dst := some 24, op := _, type := _, pos := _, after := _, guard := _ } :: _) _ _; refine wpList_load_row_w (by rfl) 50 (.tmp 4) rfl w.heap.size rfl 50 X (0, 0) _ HGX.out Tryd.underlying50 rfl HSX.out ?_; try simp only [Act.put, List.setIfInBounds_toArray, List.set_cons_zero, List.set_cons_succ])
              | fail)
            refine (CM.out _ HBX.out).mono ?_
            rintro e v2 ⟨rfl, hb2⟩
            have HB2 := hidk (HBX.out.trans (hb2.mono HBX.out.size))
            have HG2 := hidk ((hb2.block _ (heap_lt HGX.out)).trans HGX.out)
            clear hb2 c4
            go_wp2_with fail
            refine (OW.out _ HB2.out).mono ?_
            rintro e v3 ⟨vo, rfl, ho, hb3⟩
            obtain ⟨aa, ca, v4, AR, hH4, hni⟩ := AP.out v2 v3 vo HB2.out HG2.out ho hb3
            obtain ⟨ao, co, rfl, hro, _, _⟩ := IReads.own ho OKL.out
            have HG3 := hidk ((hb3.block _ (heap_lt HG2.out)).trans HG2.out)
            have HBU := hidk (BU.out v3)
            have HAR := hidk AR
            have H4 := hidk hH4
            have HNI := hidk hni
            clear ho hro hb3 AR hH4 hni
            go_wp2_with (first
              | (show wpList _ _ _ ({ dst := some 34, op := _, type := _, pos := _, after := _, guard := _ } :: _) _ _; refine wpList_load_row_w (by rfl) 50 (.tmp 4) rfl w.heap.size rfl 50 X (0, 0) _ HG3.out Tryd.underlying50 rfl HSX.out ?_; try simp only [Act.put, List.setIfInBounds_toArray, List.set_cons_zero, List.set_cons_succ])
              | (show wpList _ _ _ ({ dst := some 35, op := _, type := _, pos := _, after := _, guard := _ } :: _) _ _; refine wpList_build_run rfl 22 1 _ rfl #[(0, .agg X)] rfl _ _ HBU.out ?_; try simp only [Act.put, List.setIfInBounds_toArray, List.set_cons_zero, List.set_cons_succ])
              | (show wpList _ _ _ ({ dst := some 36, op := _, type := _, pos := _, after := _, guard := _ } :: _) _ _; refine wpList_append_runD rfl (.tmp 33) (.tmp 35) 22 22 rfl _ _ _ _ rfl rfl HAR.out ?_; try simp only [Act.put, List.setIfInBounds_toArray, List.set_cons_zero, List.set_cons_succ])
              | fail)
            refine (C1.out _ H4.out.b).mono ?_
            rintro e v5 ⟨rfl, hbj⟩
            have H5 := hidk (H4.out.keep hbj)
            clear hbj HAR HBU
            go_wp2_with (first
              | (show wpList _ _ _ ({ dst := some 8, op := _, type := _, pos := _, after := _, guard := _ } :: _) _ _; refine wpList_new_var rfl 26 rfl Z HA.out ?_; intro g8 u6 HM; have HG := hidk HM.out.row; try simp only [Act.put, List.setIfInBounds_toArray, List.set_cons_zero, List.set_cons_succ])
              | (refine wpList_set_var rfl 26 (.tmp 8) (.tmp 41) rfl g8 D rfl rfl 26 Z HG.out HSD.out HZD.out H1D.out ?_; intro v6 HW; have hbj : Below v5.heap.size v5 v6 := HW.out.below _ _ HM.out.below (by rw [HM.out.new]; exact Nat.le_refl _); have HG8 := hidk HW.out.row; have H6 := hidk (H5.out.keep hbj); clear hbj HM HG HW; try simp only [Act.put, List.setIfInBounds_toArray, List.set_cons_zero, List.set_cons_succ])
              | fail)
            refine (C2.out _ _ _ HNI.out H6.out).mono ?_
            rintro e v7 ⟨rfl, hbj⟩
            have H7 := hidk (H6.out.keep hbj)
            have HG8_7 := hidk ((hbj.block _ (heap_lt HG8.out)).trans HG8.out)
            clear hbj
            go_wp2_with (first
              | (show wpList _ _ _ ({ dst := some 10, op := _, type := _, pos := _, after := _, guard := _ } :: _) _ _; refine wpList_new_var rfl 26 rfl Z HA.out ?_; intro g10 u8 HM; have HG := hidk HM.out.row; try simp only [Act.put, List.setIfInBounds_toArray, List.set_cons_zero, List.set_cons_succ])
              | (refine wpList_set_var rfl 26 (.tmp 10) (.tmp 47) rfl g10 C rfl rfl 26 Z HG.out HSC.out HZC.out H1C.out ?_; intro v8 HW; have hbj : Below v7.heap.size v7 v8 := HW.out.below _ _ HM.out.below (by rw [HM.out.new]; exact Nat.le_refl _); have HG10 := hidk HW.out.row; have H8 := hidk (H7.out.keep hbj); have HG8_8 := hidk ((hbj.block _ (heap_lt HG8_7.out)).trans HG8_7.out); clear hbj HM HG HW; try simp only [Act.put, List.setIfInBounds_toArray, List.set_cons_zero, List.set_cons_succ])
              | fail)
            refine (C3.out _ H8.out.b).mono ?_
            rintro e v9 ⟨rfl, hbj⟩
            have H9 := hidk (H8.out.keep hbj)
            have HG8_9 := hidk ((hbj.block _ (heap_lt HG8_8.out)).trans HG8_8.out)
            have HG10_9 := hidk ((hbj.block _ (heap_lt HG10.out)).trans HG10.out)
            clear hbj
            go_wp2_with fail
            refine (C4.out _ _ _ HNI.out H9.out).mono ?_
            rintro e v10 ⟨rfl, hbj⟩
            have H10 := hidk (H9.out.keep hbj)
            have HG8_10 := hidk ((hbj.block _ (heap_lt HG8_9.out)).trans HG8_9.out)
            have HG10_10 := hidk ((hbj.block _ (heap_lt HG10_9.out)).trans HG10_9.out)
            obtain ⟨k1, k2, k3⟩ := HCX.out _ H10.out.g
            clear hbj
            go_wp2_with (first
              | (show wpList _ _ _ ({ dst := some 64, op := _, type := _, pos := _, after := _, guard := _ } :: _) _ _; refine wpList_load_row_w (by rfl) 26 (.tmp 10) rfl g10 rfl 26 C (0, 0) _ HG10_10.out Tryd.underlying26 rfl HSC.out ?_; try simp only [Act.put, List.setIfInBounds_toArray, List.set_cons_zero, List.set_cons_succ])
              | (show wpList _ _ _ ({ dst := some 65, op := _, type := _, pos := _, after := _, guard := _ } :: _) _ _; refine wpList_load_row_w (by rfl) 26 (.tmp 8) rfl g8 rfl 26 D (0, 0) _ HG8_10.out Tryd.underlying26 rfl HSD.out ?_; try simp only [Act.put, List.setIfInBounds_toArray, List.set_cons_zero, List.set_cons_succ])
              | fail)
            refine (FT.out _ H10.out.b).mono ?_
            rintro e v11 ⟨rfl, hbj⟩
            have H11 := hidk (H10.out.keep hbj)
            clear hbj
            go_wp2_with fail
            refine (RT.out _ H11.out.b).mono ?_
            rintro e v12 ⟨rfl, hbj⟩
            have H12 := hidk (H11.out.keep hbj)
            clear hbj
            go_wp2
            go_ret
            exact ⟨rfl, H12.out.b⟩
      · obtain ⟨me, Hme⟩ : ∃ z, Hid (mayE l x = z) := ⟨_, hidk rfl⟩
        rw [Hme.out] at CM hme
        have bm : (!(me == 0)) = true := by simp [hme]
        clear ck hc h hc0 hm hx hn HX hT Hb H1X HNX hin hlb hln hxi Hme
        go_enter Tryd.func5, Tryd.ntmps5
        go_wp2_with fail
        refine BG.out.mono ?_
        rintro e w1 ⟨rfl, rfl⟩
        go_wp2_with (first
          | (show wpList _ _ _ ({ dst := some 24, op := _, type := _, pos := _, after := _, guard := _ } :: _) _ _; refine wpList_load_row_w (by rfl) 50 (.tmp 4) rfl w.heap.size rfl 50 X (0, 0) _ HGX.out Tryd.underlying50 rfl HSX.out ?_; try simp only [Act.put, List.setIfInBounds_toArray, List.set_cons_zero, List.set_cons_succ])
          | fail)
        refine (CM.out _ HBX.out).mono ?_
        rintro e v2 ⟨rfl, hb2⟩
        have HB2 := hidk (HBX.out.trans (hb2.mono HBX.out.size))
        have HG2 := hidk ((hb2.block _ (heap_lt HGX.out)).trans HGX.out)
        clear hb2 c4
        go_wp2_with fail
        refine (FT.out _ HB2.out).mono ?_
        rintro e v3 ⟨rfl, hbj⟩
        have HB3 := hidk (HB2.out.trans (hbj.mono HB2.out.size))
        clear hbj
        go_wp2_with fail
        refine (RT.out _ HB3.out).mono ?_
        rintro e v4 ⟨rfl, hbj⟩
        have HB4 := hidk (HB3.out.trans (hbj.mono HB3.out.size))
        clear hbj
        go_wp2
        go_ret
        exact ⟨rfl, HB4.out⟩
  · clear ck hc h hc0 hm hx hn HX hT Hb
    go_enter Tryd.func5, Tryd.ntmps5
    go_wp2_with fail
    refine BG.out.mono ?_
    rintro e w1 ⟨rfl, rfl⟩
    go_wp2
    go_ret
    exact ⟨rfl, HBX.out⟩
end Go.Proofs.YtgclohgcehhfnaaDoor
