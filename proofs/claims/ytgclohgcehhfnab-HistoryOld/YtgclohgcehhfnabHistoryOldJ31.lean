/- Texts of our own that the row of HistoryOld leans on, part 31. -/
import Derived.Test.YtgclohgcehhfnabHistoryOldJ20
import Derived.Test.YtgclohgcehhfnabHistoryOldJ24
import Derived.Test.YtgclohgcehhfnabHistoryOldJ25
import Derived.Test.YtgclohgcehhfnabHistoryOldJ27
import Derived.Test.YtgclohgcehhfnabHistoryOldJ30

/- HistoryHeads. -/
namespace Go.Proofs.Ytgclohgcehhfnab
open Go.RowKit Nums Sums
set_option linter.unusedVariables false
set_option linter.unusedSimpArgs false
set_option maxRecDepth 100000
/-- A log that came in and is not too big. -/
theorem inL_of {w : World} {a : Option Addr} {len cap : Nat} {l : List ItT} (h : IReads w a len cap l) (hc0 : a = none → cap = 0) (hm : ∀ x ∈ l, CmI x) (hb : bigL l = false) : InL w a len cap l := by
  obtain ⟨h1, h2⟩ := bigL_false hb
  exact ⟨h, hc0, fun x hx => (hm x hx).in (by have := h2 x hx; omega), by have := h.ln; omega⟩
end Go.Proofs.Ytgclohgcehhfnab

/- HistoryOld. -/
namespace Go.Proofs.Ytgclohgcehhfnab
open Go.RowKit Nums Sums
set_option linter.unusedVariables false
set_option linter.unusedSimpArgs false
set_option maxRecDepth 100000
/-- The latest counts of the three clients, as they lie. -/
def lastA (L : List ItT) : Array Value := #[.int .i64 0, .int .i64 (lastS L 1), .int .i64 (lastS L 2), .int .i64 (lastS L 3)]
theorem isU_other {x : ItT} {c d : Int} (h : x.e.c = c) (hd : d ≠ c) : isU x d = false := by
  unfold isU
  rw [h, decide_eq_false (p := c = d) (fun e => hd e.symm), Bool.and_false]
theorem isU_kind {x : ItT} (h : x.e.k ≠ 1) (d : Int) : isU x d = false := by
  unfold isU
  rw [decide_eq_false h, Bool.false_and]
theorem lastA_skip {L : List ItT} {x : ItT} (h : x.e.k ≠ 1) : lastA (L ++ [x]) = lastA L := by
  unfold lastA
  rw [lastS_snoc, lastS_snoc, lastS_snoc, isU_kind h, isU_kind h, isU_kind h]
  rfl
theorem lastA_put {L : List ItT} {x : ItT} {c : Nat} (hk : x.e.k = 1) (hc : x.e.c = (c : Int)) (h1 : 1 ≤ c) (h3 : c ≤ 3) : (lastA L).setIfInBounds c (.int .i64 x.e.s) = lastA (L ++ [x]) ∧ (lastA L)[c]? = some (.int .i64 (lastS L (c : Int))) := by
  have hu : isU x x.e.c = true := by unfold isU; simp [hk]
  have hcs : c = 1 ∨ c = 2 ∨ c = 3 := by omega
  rcases hcs with rfl | rfl | rfl
  · refine ⟨?_, rfl⟩
    unfold lastA
    rw [hc] at hu
    rw [lastS_snoc, lastS_snoc, lastS_snoc, show isU x 1 = true from hu, isU_other hc (by decide), isU_other hc (by decide)]
    rfl
  · refine ⟨?_, rfl⟩
    unfold lastA
    rw [hc] at hu
    rw [lastS_snoc, lastS_snoc, lastS_snoc, show isU x 2 = true from hu, isU_other hc (by decide), isU_other hc (by decide)]
    rfl
  · refine ⟨?_, rfl⟩
    unfold lastA
    rw [hc] at hu
    rw [lastS_snoc, lastS_snoc, lastS_snoc, show isU x 3 = true from hu, isU_other hc (by decide), isU_other hc (by decide)]
    rfl
theorem size4 : (Try.prog.info? 39).map (·.size) = some 4 := by kernel_rfl
theorem info4 : (Try.prog.info? 39).map (fun i => (i.zero, i.size)) = some (some (.agg (lastA [])), (lastA []).size) := by kernel_rfl
theorem built4 : Try.prog.built 39 [] = some (lastA []) := by kernel_rfl
theorem index4 (V : World) (g c : Nat) (hc : c < 4) : (Instr.indexAt 39 (.pointer (some ⟨g, 0, none⟩)) (.int .i64 (c : Int))).run Try.prog V = .ok (.pointer (some ⟨g, c, none⟩)) V := by
  simp [Instr.indexAt, asIntOf, run_underlying Try.underlying39, sizeOf3, hc, Instr.sureAddr]
  rw [add_plain]
  simp
/-- What the second loop holds. -/
structure HeldO (w : World) (all : List ItT) (ao : Option Addr) (n co g5 : Nat) (L : List ItT) (V : World) : Prop where
  b : Below w.heap.size w V
  o : IReads V ao n co all
  g : V.heap[g5]? = some (.cells (lastA L) 39 (0, 0))
theorem HeldO.keep {w : World} {all : List ItT} {ao : Option Addr} {n co g5 : Nat} {L : List ItT} {V V' : World} (h : HeldO w all ao n co g5 L V) (hb : Below V.heap.size V V') : HeldO w all ao n co g5 L V' :=
  ⟨h.b.trans (hb.mono h.b.size), h.o.keep hb, (hb.block _ (heap_lt h.g)).trans h.g⟩
theorem HeldO.put {w : World} {all : List ItT} {ao : Option Addr} {n co g5 : Nat} {L : List ItT} {V : World} (h : HeldO w all ao n co g5 L V) (hw : w.heap.size ≤ g5) (hlt : ∀ g o, ao = some ⟨g, o, none⟩ → 0 < n → g < g5) (c : Nat) (v : Value) (L' : List ItT) (hL : (lastA L).setIfInBounds c v = lastA L') : HeldO w all ao n co g5 L' (V.setCell ⟨g5, c, none⟩ v) := by
  refine ⟨h.b.setCell (p := ⟨g5, c, none⟩) hw _, h.o.below ((Below.refl g5 V).setCell (p := ⟨g5, c, none⟩) (Nat.le_refl _) _) hlt, ?_⟩
  rw [← hL]
  exact Go.heap_setCell_same V g5 c _ _ _ h.g
set_option maxHeartbeats 16000000 in
theorem historyOld_of (hc : HistoryC) (a : Option Addr) (len cap : Nat) (l : List ItT) (w : World) (h : IReads w a len cap l) (hc0 : a = none → cap = 0) (hm : ∀ x ∈ l, CmI x) :
    Calls Try.prog 3 #[.slice a len cap] w fun e w' => e = .returned (.bool true) ∧ Below w.heap.size w w' := by
  have BG := hidk (refBig_any a len cap l w h (fun x hx => (hm x hx).e.t))
  obtain ⟨b, Hb⟩ : ∃ b, Hid (bigL l = b) := ⟨_, hidk rfl⟩
  rw [Hb.out] at BG
  cases b
  · have HIN := hidk (inL_of h hc0 hm Hb.out)
    have HLN := hidk h.ln
    have hle : len ≤ 60 := by have := (bigL_false Hb.out).1; have := h.ln; omega
    have HOK := hidk h.ok
    have HCC := hidk hc
    have FT : Hid (∀ W, Calls Try.prog 7 #[] W fun e w' => e = .returned (.bool true) ∧ Below W.heap.size W w') := fun W => finds_true hc W
    have BU : Hid (∀ (V : World) (x : ItT) (X : Array Value), OkE x.e → X = (icells x).toArray → (Instr.buildSlice 22 1 #[(0, .agg X)]).run Try.prog V = .ok (.slice (some ⟨V.heap.size, 0, none⟩) 1 1) (V.alloc (.cells X 38))) := fun V x X ok e => by
      rw [run_build_items V 1 [x] (fun y hy => by rw [List.mem_singleton] at hy; rw [hy]; exact ok) rfl (by omega) (by omega) _ (by rw [e]; rfl), icL_cons, icL_nil, List.append_nil, e]
    have AP : Hid (∀ (V : World) (vo : Value) (all : List ItT) (x : ItT) (X : Array Value), (∀ y ∈ all, OkE y.e) → OkE x.e → X = (icells x).toArray → V.ownsRow w.heap.size 38 110 vo all.length (icL all) → Below w.heap.size w V → all.length ≤ 1000 → ∃ v2 V2, (Builtin.append_ #[22, 22] 22 #[vo, .slice (some ⟨V.heap.size, 0, none⟩) 1 1]).run Try.prog (V.alloc (.cells X 38)) = .ok v2 V2 ∧ V2.ownsRow w.heap.size 38 110 v2 (all ++ [x]).length (icL (all ++ [x])) ∧ Below w.heap.size w V2) := fun V vo all x X oka ok e ho hb hal0 => by
      have hal : Below V.heap.size V (V.alloc (.cells X 38)) := (Below.refl _ _).alloc (Nat.le_refl _) _
      have ho2 := own_below ho hal
      obtain ⟨v', V2, hrun, hown, hgr⟩ := run_append_items (IReads.new V [x] 1 rfl (fun y hy => by rw [List.mem_singleton] at hy; rw [hy]; exact ok) (by omega) X (by show _ = _; rw [e, icL_cons, icL_nil, List.append_nil])) (fun e => by cases e) w.heap.size all.length vo all ho2 (Nat.le_trans hb.size hal.size) (by omega)
      refine ⟨v', V2, hrun, ?_, (hb.trans (hal.mono hb.size)).grown hgr (Nat.le_trans hb.size hal.size) (fun k e => (ho2.lt k e).1)⟩
      rw [List.length_append]
      exact hown
    obtain ⟨Z4, HZ4⟩ : ∃ Z, Hid (Z = lastA []) := ⟨_, hidk rfl⟩
    have HA4 : Hid ((Try.prog.info? 39).map (fun i => (i.zero, i.size)) = some (some (.agg Z4), Z4.size)) := by show _ = _; rw [HZ4.out]; exact info4
    have HB4 : Hid (Try.prog.built 39 [] = some Z4) := by show _ = _; rw [HZ4.out]; exact built4
    have HS4 : Hid ((Try.prog.info? 39).map (·.size) = some Z4.size) := by show _ = _; rw [HZ4.out]; exact size4
    have H14 : Hid (Z4.all (·.oneCell') = true) := by show _ = _; rw [HZ4.out]; simp [lastA, Value.oneCell']
    obtain ⟨ZE, HZE, HAE, HBZE, HNE⟩ := noughtsE
    clear hc h hc0 hm Hb HZE HBZE
    go_enter Try.func3, Try.ntmps3
    go_wp2_with fail
    refine BG.out.mono ?_
    rintro e w1 ⟨rfl, rfl⟩
    go_wp2
    go_loopw [3, 4] (fun va vi wr => ∃ (k : Nat) (all : List ItT), k ≤ len ∧ vi = .int .i64 k ∧ Hid (Grew11 all ∧ all.length ≤ k ∧ (∀ y ∈ all, OkE y.e) ∧ (∀ y ∈ all, InI y)) ∧ Hid (wr.ownsRow w.heap.size 38 110 va all.length (icL all)) ∧ Hid (Below w.heap.size w wr)) (fun _ vi _ => len - (intOf vi).toNat)
    case atStart => exact ⟨0, [], Nat.zero_le _, rfl, ⟨grew_nil, Nat.le_refl _, (fun y hy => by cases hy), (fun y hy => by cases hy)⟩, World.ownsRow_nil _ _ _ _, Below.refl _ _⟩
    case round =>
      obtain ⟨k, all, hk, rfl, HALL, HOWN, HB⟩ := hrel
      obtain ⟨ao, co, hva, hro, hni, hpl⟩ := IReads.own HOWN.out HALL.out.2.2.1
      subst hva
      obtain ⟨n, Hn⟩ : ∃ n, Hid (all.length = n) := ⟨_, hidk rfl⟩
      rw [Hn.out] at hro ⊢
      have hnk : n ≤ k := by rw [← Hn.out]; exact HALL.out.2.1
      have HIR := hidk hro
      have HNI := hidk hni
      have HPL := hidk hpl
      rw [Hn.out] at HOWN HPL
      clear hro hni hpl
      by_cases hlt : k < len
      · have hd : decide ((k : Int) < (len : Int)) = true := by rw [decide_eq_true_eq]; omega
        have hw1 := wrap_int ((k : Int) + 1) (by omega) (by omega)
        obtain ⟨g, o, rfl, hg⟩ := HIN.out.rd.at (by omega)
        have hkl : k < l.length := by have := HLN.out; omega
        obtain ⟨x, HX⟩ : ∃ x, Hid (x = l[k]) := ⟨_, hidk rfl⟩
        have hxi : InI x := by rw [HX.out]; exact HIN.out.its _ (List.getElem_mem hkl)
        obtain ⟨X, HXX, HSX, H1X, HNX⟩ := item_row x hxi.e.ok
        have HRX : Hid (∀ V, Below wr.heap.size wr V → V.rangeAt g (o + 110 * k) X.toList) := fun V hb => by
          rw [HXX.out, HX.out]
          have h1 := ((HIN.out.rd.keep HB.out).keep hb).range k hkl
          simpa using h1
        have HRX0 := hidk (HRX.out wr (Below.refl _ _))
        have ix := fun V => index_item V g o len cap k .i64 hlt
        have CM : Hid (Calls Try.prog 5 #[.slice ao n co, .agg X] wr fun e w' => e = .returned (.int .i64 (mayE all x)) ∧ Below wr.heap.size wr w') := HCC.out.may ao n co all x wr ⟨HIR.out, HNI.out, HALL.out.2.2.2, by omega⟩ hxi X HXX
        obtain ⟨me, Hme⟩ : ∃ z, Hid (mayE all x = z) := ⟨_, hidk rfl⟩
        rw [Hme.out] at CM
        by_cases hme : me = 0
        · have AP2 : Hid (∀ V, Below wr.heap.size wr V → ∃ v2 V2, (Builtin.append_ #[22, 22] 22 #[.slice ao n co, .slice (some ⟨V.heap.size, 0, none⟩) 1 1]).run Try.prog (V.alloc (.cells X 38)) = .ok v2 V2 ∧ V2.ownsRow w.heap.size 38 110 v2 (all ++ [x]).length (icL (all ++ [x])) ∧ Below w.heap.size w V2) := fun V hb =>
            AP.out V _ all x X HALL.out.2.2.1 hxi.e.ok HXX.out (own_below (by rw [Hn.out]; exact HOWN.out) hb) (HB.out.trans (hb.mono HB.out.size)) (by rw [Hn.out]; omega)
          have BU2 : Hid (∀ V, (Instr.buildSlice 22 1 #[(0, .agg X)]).run Try.prog V = .ok (.slice (some ⟨V.heap.size, 0, none⟩) 1 1) (V.alloc (.cells X 38))) := fun V => BU.out V x X hxi.e.ok HXX.out
          have HG2 : Hid (Grew11 (all ++ [x]) ∧ (all ++ [x]).length ≤ k + 1 ∧ (∀ y ∈ all ++ [x], OkE y.e) ∧ (∀ y ∈ all ++ [x], InI y)) := by
            refine ⟨grew_snoc HALL.out.1 (Hme.out.trans hme), by rw [List.length_append, Hn.out]; show n + 1 ≤ k + 1; omega, fun y hy => ?_, fun y hy => ?_⟩
            · rcases List.mem_append.1 hy with hy | hy
              · exact HALL.out.2.2.1 y hy
              · rw [List.mem_singleton] at hy; rw [hy]; exact hxi.e.ok
            · rcases List.mem_append.1 hy with hy | hy
              · exact HALL.out.2.2.2 y hy
              · rw [List.mem_singleton] at hy; rw [hy]; exact hxi
          clear HXX H1X HNX HX Hme hxi hkl hg AP BU HALL HIR HNI HPL HOWN Hn
          subst hme
          go_wp2_with (first
            | (show wpList _ _ _ ({ dst := some 22, op := _, type := _, pos := _, after := _, guard := _ } :: _) _ _; refine wpList_mid_w (by rfl) 38 (.tmp 21) rfl g (o + 110 * k) rfl X _ HRX0.out Try.underlying38 rfl HSX.out ?_; try simp only [Act.put, List.setIfInBounds_toArray, List.set_cons_zero, List.set_cons_succ])
            | fail)
          refine CM.out.mono ?_
          rintro e v2 ⟨rfl, hb2⟩
          have HRX2 := hidk (HRX.out v2 hb2)
          obtain ⟨v3, V3, hrun, hown, hbw⟩ := AP2.out v2 hb2
          obtain ⟨a3, c3, hv3, _, _, _⟩ := IReads.own hown HG2.out.2.2.1
          subst hv3
          have HRUN := hidk hrun
          have HOW3 := hidk hown
          have HB3 := hidk hbw
          have HBU2 := hidk (BU2.out v2)
          clear hb2 hrun hown hbw AP2 BU2
          go_wp2_with (first
            | (show wpList _ _ _ ({ dst := some 29, op := _, type := _, pos := _, after := _, guard := _ } :: _) _ _; refine wpList_mid_w (by rfl) 38 (.tmp 28) rfl g (o + 110 * k) rfl X _ HRX2.out Try.underlying38 rfl HSX.out ?_; try simp only [Act.put, List.setIfInBounds_toArray, List.set_cons_zero, List.set_cons_succ])
            | (show wpList _ _ _ ({ dst := some 30, op := _, type := _, pos := _, after := _, guard := _ } :: _) _ _; refine wpList_build_run rfl 22 1 _ rfl #[(0, .agg X)] rfl _ _ HBU2.out ?_; try simp only [Act.put, List.setIfInBounds_toArray, List.set_cons_zero, List.set_cons_succ])
            | (show wpList _ _ _ ({ dst := some 31, op := _, type := _, pos := _, after := _, guard := _ } :: _) _ _; refine wpList_append_runD rfl (.tmp 25) (.tmp 30) 22 22 rfl _ _ _ _ rfl rfl HRUN.out ?_; try simp only [Act.put, List.setIfInBounds_toArray, List.set_cons_zero, List.set_cons_succ])
            | fail)
          go_roundw
          case rel => exact ⟨k + 1, all ++ [x], by omega, by go_num, HG2, HOW3, HB3⟩
          case measure => simp [intOf]; omega
        · have bm : (me == 0) = false := by simp [hme]
          have bmd : decide (me = 0) = false := decide_eq_false hme
          have HALL2 : Hid (Grew11 all ∧ all.length ≤ k + 1 ∧ (∀ y ∈ all, OkE y.e) ∧ (∀ y ∈ all, InI y)) := ⟨HALL.out.1, by have := HALL.out.2.1; omega, HALL.out.2.2⟩
          have HOWN2 : Hid (wr.ownsRow w.heap.size 38 110 (.slice ao n co) all.length (icL all)) := by rw [Hn.out]; exact HOWN.out
          clear HXX H1X HNX HX Hme hxi hkl hg AP BU HALL HIR HNI HPL HOWN Hn
          go_wp2_with (first
            | (show wpList _ _ _ ({ dst := some 22, op := _, type := _, pos := _, after := _, guard := _ } :: _) _ _; refine wpList_mid_w (by rfl) 38 (.tmp 21) rfl g (o + 110 * k) rfl X _ HRX0.out Try.underlying38 rfl HSX.out ?_; try simp only [Act.put, List.setIfInBounds_toArray, List.set_cons_zero, List.set_cons_succ])
            | fail)
          refine CM.out.mono ?_
          rintro e v2 ⟨rfl, hb2⟩
          have HB2 := hidk (HB.out.trans (hb2.mono HB.out.size))
          have HOW2 := hidk (own_below HOWN2.out hb2)
          clear hb2
          go_wp2
          go_roundw
          case rel => exact ⟨k + 1, all, by omega, by go_num, HALL2, HOW2, HB2⟩
          case measure => simp [intOf]; omega
      · have hkd : decide ((k : Int) < (len : Int)) = false := by rw [decide_eq_false_iff_not]; omega
        have hn60 : n ≤ 60 := by omega
        have HGR := hidk HALL.out.1
        have HOKA := hidk HALL.out.2.2.1
        have HINA := hidk HALL.out.2.2.2
        clear AP BU HALL HOWN HOK
        go_wp2_with (first
          | (show wpList _ _ _ ({ dst := some 32, op := _, type := _, pos := _, after := _, guard := _ } :: _) _ _; refine wpList_build_none rfl 39 rfl Z4 HB4.out ?_; try simp only [Act.put, List.setIfInBounds_toArray, List.set_cons_zero, List.set_cons_succ])
          | (show wpList _ _ _ ({ dst := some 5, op := _, type := _, pos := _, after := _, guard := _ } :: _) _ _; refine wpList_new_var rfl 39 rfl Z4 HA4.out ?_; intro g5 w5 HM; have HG := hidk HM.out.row; try simp only [Act.put, List.setIfInBounds_toArray, List.set_cons_zero, List.set_cons_succ])
          | (refine wpList_set_var rfl 39 (.tmp 5) (.tmp 32) rfl g5 Z4 rfl rfl 39 Z4 HG.out HS4.out rfl H14.out ?_; intro w6 HW; have hbj : Below wr.heap.size wr w6 := HW.out.below _ _ HM.out.below (by rw [HM.out.new]; exact Nat.le_refl _); have hg5 : wr.heap.size ≤ g5 := (by rw [HM.out.new]; exact Nat.le_refl _); have H0 : Hid (HeldO w all ao n co g5 (all.take 0) w6) := ⟨HB.out.trans (hbj.mono HB.out.size), HIR.out.keep hbj, (by have := HW.out.row; rw [HZ4.out] at this; exact this)⟩; clear hbj HM HG HW; try simp only [Act.put, List.setIfInBounds_toArray, List.set_cons_zero, List.set_cons_succ])
          | fail)
        have HLT : Hid (∀ g o, ao = some ⟨g, o, none⟩ → 0 < n → g < g5) := fun g o e h0 => by
          obtain ⟨g', o', e', hl⟩ := HIR.out.at h0
          rw [e] at e'; cases e'; omega
        have hwg : w.heap.size ≤ g5 := by have := HB.out.size; omega
        clear hg5 HIR HB HPL
        go_loopw [6] (fun v wr2 => ∃ i : Nat, i ≤ n ∧ v = .int .i64 i ∧ Hid (HeldO w all ao n co g5 (all.take i) wr2)) (fun v _ => n - (intOf v).toNat)
        case atStart => exact ⟨0, Nat.zero_le _, rfl, H0⟩
        case round =>
          obtain ⟨i, hi, rfl, HH⟩ := hrel
          by_cases hin : i < n
          · have hd2 : decide ((i : Int) < (n : Int)) = true := by rw [decide_eq_true_eq]; omega
            have hw2 := wrap_int ((i : Int) + 1) (by omega) (by omega)
            obtain ⟨g, o, rfl, hg⟩ := HH.out.o.at (by omega)
            have hil : i < all.length := by rw [Hn.out]; exact hin
            obtain ⟨x, HX⟩ : ∃ x, Hid (x = all[i]) := ⟨_, hidk rfl⟩
            have hxi : InI x := by rw [HX.out]; exact HINA.out _ (List.getElem_mem hil)
            obtain ⟨U, HU, HSU, H1U, HNU⟩ := entry_row x.e hxi.e.ok
            have HRU : Hid (wr.rangeAt g (o + 110 * i + 1) U.toList) := by
              show World.rangeAt _ _ _ _
              rw [HU.out, HX.out]
              simpa using range_entry (HH.out.o.range i hil)
            have HZU : Hid (ZE.size = U.size) := by show _ = _; rw [HNE.out, HNU.out]
            have ix := fun V => index_item V g o n co i .i64 hin
            have HCU : Hid (∀ (V : World) (b : Nat), V.heap[b]? = some (.cells U 36 (0, 0)) → V.cell? ⟨b, 0, none⟩ = some (.int .i64 x.e.k) ∧ V.cell? ⟨b, 1, none⟩ = some (.int .i64 x.e.c) ∧ V.cell? ⟨b, 2, none⟩ = some (.int .i64 x.e.s)) := fun V b hh => entry_new HU b _ _ hh
            have htk : all.take (i + 1) = all.take i ++ [x] := by rw [HX.out, List.take_succ_eq_append_getElem hil]
            have HTK := hidk htk
            clear htk
            by_cases hk1 : x.e.k = 1
            · have hbd := user_bounds (may_ok (HGR.out i hil)).2.1 (by rw [← HX.out]; exact hk1)
              have hlast := grew_last HGR.out hil (by rw [← HX.out]; exact hk1)
              have hfind := grew_find HGR.out hil (by rw [← HX.out]; exact hk1)
              rw [← HX.out] at hbd hlast hfind
              obtain ⟨c, hc⟩ : ∃ c : Nat, x.e.c = (c : Int) := ⟨x.e.c.toNat, by omega⟩
              obtain ⟨hput, hget⟩ := lastA_put (L := all.take i) hk1 hc (by omega) (by omega)
              rw [← HTK.out] at hput
              have HPUT := hidk hput
              have HGET : Hid (∀ V : World, V.heap[g5]? = some (.cells (lastA (all.take i)) 39 (0, 0)) → V.cell? ⟨g5, c, none⟩ = some (.int .i64 (lastS (all.take i) (c : Int)))) := fun V hh => by rw [cell_of_row _ _ c _ _ (0, 0) hh]; exact hget
              have CF : Hid (∀ V, HeldO w all (some ⟨g, o, none⟩) n co g5 (all.take i) V → Calls Try.prog 6 #[.slice (some ⟨g, o, none⟩) n co, .int .i64 (c : Int), .int .i64 x.e.s] V fun e w' => e = .returned (.tuple #[.int .i64 (i : Int), .bool true]) ∧ Below V.heap.size V w') := fun V hh => by
                have := HCC.out.find (some ⟨g, o, none⟩) n co all (c : Int) x.e.s V ⟨hh.o, HNI.out, HINA.out, by omega⟩ (by rw [← hc]; exact hxi.e.c) hxi.e.s
                rw [hc] at hfind
                rwa [findN, hfind] at this
              rw [hc] at hlast hbd
              obtain ⟨ss, hss⟩ : ∃ z, x.e.s = z := ⟨_, rfl⟩
              obtain ⟨lv, hlv⟩ : ∃ z, lastS (all.take i) (c : Int) = z := ⟨_, rfl⟩
              rw [hss] at hlast CF HPUT HCU
              rw [hlv] at hlast HGET
              rw [hk1, hc] at HCU
              have d1 : decide ((c : Int) < 1) = false := decide_eq_false (by omega)
              have d2 : decide ((3 : Int) < (c : Int)) = false := decide_eq_false (by omega)
              have d3 : decide (ss ≤ lv) = false := decide_eq_false (by omega)
              have hc4 : c < 4 := by omega
              have ix4 := fun V => index4 V g5 c hc4
              clear hbd hlast hfind hput hget hss hlv hc hk1 HU HNU hxi HX hg hil HGR HTK hc4
              go_wp2_with (first
                | (show wpList _ _ _ ({ dst := some 43, op := _, type := _, pos := _, after := _, guard := _ } :: _) _ _; refine wpList_mid_w (by rfl) 36 (.tmp 42) rfl g (o + 110 * i + 1) rfl U _ HRU.out Try.underlying36 rfl HSU.out ?_; try simp only [Act.put, List.setIfInBounds_toArray, List.set_cons_zero, List.set_cons_succ])
                | (show wpList _ _ _ ({ dst := some 7, op := _, type := _, pos := _, after := _, guard := _ } :: _) _ _; refine wpList_new_var rfl 36 rfl ZE HAE.out ?_; intro g7 u7 HM; have HG := hidk HM.out.row; try simp only [Act.put, List.setIfInBounds_toArray, List.set_cons_zero, List.set_cons_succ])
                | (refine wpList_set_var rfl 36 (.tmp 7) (.tmp 43) rfl g7 U rfl rfl 36 ZE HG.out HSU.out HZU.out H1U.out ?_; intro v7 HW; have hbj : Below wr.heap.size wr v7 := HW.out.below _ _ HM.out.below (by rw [HM.out.new]; exact Nat.le_refl _); have HG7 := hidk HW.out.row; have H7 := hidk (HH.out.keep hbj); obtain ⟨k0, k1, k2⟩ := HCU.out _ _ HW.out.row; clear hbj HM HG HW; try simp only [Act.put, List.setIfInBounds_toArray, List.set_cons_zero, List.set_cons_succ])
                | fail)
              refine (CF.out _ H7.out).mono ?_
              rintro e v8 ⟨rfl, hb8⟩
              have H8 := hidk (H7.out.keep hb8)
              obtain ⟨j0, j1, j2⟩ := HCU.out v8 g7 ((hb8.block _ (heap_lt HG7.out)).trans HG7.out)
              have jg := HGET.out v8 H8.out.g
              clear hb8 k0 k1 k2 j0
              have hS : v8.cell? ⟨g7, 1, none⟩ = some (.int .i64 (c : Int)) ∧ v8.cell? ⟨g7, 2, none⟩ = some (.int .i64 ss) ∧ v8.cell? ⟨g5, c, none⟩ = some (.int .i64 lv) := ⟨j1, j2, jg⟩
              have HFR := frozen_of_row v8 g5 c _ _ H8.out.g
              have HPT := hidk (H8.out.put hwg HLT.out c (.int .i64 ss) (all.take (i + 1)) HPUT.out)
              go_wp2
              refine wp_region_held_drew (S := (fun V => V.cell? ⟨g7, 1, none⟩ = some (.int .i64 (c : Int)) ∧ V.cell? ⟨g7, 2, none⟩ = some (.int .i64 ss) ∧ V.cell? ⟨g5, c, none⟩ = some (.int .i64 lv))) (by kernel_rfl) hS (fun hHeld => ?_)
              refine wpAnyH_take (i := 0) (oi := { dst := some 56, op := Op.fieldAddr 36 (Operand.tmp 7) 1, type := 0, pos := "law.go:155", after := #[], guard := none }) (v := .pointer (some ⟨g7, 1, none⟩)) rfl (by kernel_rfl) (by kernel_rfl) (by kernel_rfl) (fun _ _ _ h => h) (Or.inl ⟨by rfl, by intro w hSw; go_simp⟩) hHeld ?_
              try simp only [Act.put, List.setIfInBounds_toArray, List.set_cons_zero, List.set_cons_succ]
              refine wpAnyH_take (i := 1) (oi := { dst := some 57, op := Op.load 3 (Operand.tmp 56), type := 3, pos := "law.go:155", after := #[{ on := 0, ground := Ground.data }], guard := none }) (v := .int .i64 (c : Int)) rfl (by kernel_rfl) (by kernel_rfl) (by kernel_rfl) (fun _ _ _ h => h) (Or.inl ⟨by rfl, by intro W hSw; have h1 := hSw.1; go_simp⟩) hHeld ?_
              try simp only [Act.put, List.setIfInBounds_toArray, List.set_cons_zero, List.set_cons_succ]
              refine wpAnyH_take (i := 2) (oi := { dst := some 58, op := Op.binOp BinOp.lss 3 (Operand.tmp 57) (Operand.const (Value.int IntKind.i64 1)) 3, type := 4, pos := "law.go:155", after := #[{ on := 1, ground := Ground.data }], guard := none }) (v := .bool false) rfl (by kernel_rfl) (by kernel_rfl) (by kernel_rfl) (fun _ _ _ h => h) (Or.inl ⟨by rfl, by intro w hSw; go_simp⟩) hHeld ?_
              try simp only [Act.put, List.setIfInBounds_toArray, List.set_cons_zero, List.set_cons_succ]
              refine wpAnyH_take (i := 3) (oi := { dst := some 59, op := Op.move (Operand.tmp 58), type := 4, pos := "law.go:155", after := #[{ on := 2, ground := Ground.data }], guard := none }) (v := .bool false) rfl (by kernel_rfl) (by kernel_rfl) (by kernel_rfl) (fun _ _ _ h => h) (Or.inl ⟨by rfl, by intro w hSw; go_simp⟩) hHeld ?_
              try simp only [Act.put, List.setIfInBounds_toArray, List.set_cons_zero, List.set_cons_succ]
              refine wpAnyH_take (i := 4) (oi := { dst := some 60, op := Op.fieldAddr 36 (Operand.tmp 7) 1, type := 0, pos := "law.go:155", after := #[{ on := 3, ground := Ground.guard }], guard := some (3, false) }) (v := .pointer (some ⟨g7, 1, none⟩)) rfl (by kernel_rfl) (by kernel_rfl) (by kernel_rfl) (fun _ _ _ h => h) (Or.inl ⟨by rfl, by intro w hSw; go_simp⟩) hHeld ?_
              try simp only [Act.put, List.setIfInBounds_toArray, List.set_cons_zero, List.set_cons_succ]
              refine wpAnyH_take (i := 5) (oi := { dst := some 61, op := Op.load 3 (Operand.tmp 60), type := 3, pos := "law.go:155", after := #[{ on := 4, ground := Ground.data }, { on := 3, ground := Ground.guard }], guard := some (3, false) }) (v := .int .i64 (c : Int)) rfl (by kernel_rfl) (by kernel_rfl) (by kernel_rfl) (fun _ _ _ h => h) (Or.inl ⟨by rfl, by intro W hSw; have h1 := hSw.1; go_simp⟩) hHeld ?_
              try simp only [Act.put, List.setIfInBounds_toArray, List.set_cons_zero, List.set_cons_succ]
              refine wpAnyH_take (i := 6) (oi := { dst := some 62, op := Op.binOp BinOp.gtr 3 (Operand.tmp 61) (Operand.const (Value.int IntKind.i64 3)) 3, type := 4, pos := "law.go:155", after := #[{ on := 5, ground := Ground.data }, { on := 3, ground := Ground.guard }], guard := some (3, false) }) (v := .bool false) rfl (by kernel_rfl) (by kernel_rfl) (by kernel_rfl) (fun _ _ _ h => h) (Or.inl ⟨by rfl, by intro w hSw; go_simp⟩) hHeld ?_
              try simp only [Act.put, List.setIfInBounds_toArray, List.set_cons_zero, List.set_cons_succ]
              refine wpAnyH_take (i := 7) (oi := { dst := some 63, op := Op.pick (Operand.tmp 59) (Operand.const (Value.bool true)) (Operand.tmp 62), type := 4, pos := "law.go:155", after := #[{ on := 3, ground := Ground.data }, { on := 6, ground := Ground.data }], guard := none }) (v := .bool false) rfl (by kernel_rfl) (by kernel_rfl) (by kernel_rfl) (fun _ _ _ h => h) (Or.inl ⟨by rfl, by intro w hSw; go_simp⟩) hHeld ?_
              try simp only [Act.put, List.setIfInBounds_toArray, List.set_cons_zero, List.set_cons_succ]
              refine wpAnyH_take (i := 8) (oi := { dst := some 64, op := Op.move (Operand.tmp 63), type := 4, pos := "law.go:155", after := #[{ on := 7, ground := Ground.data }, { on := 3, ground := Ground.chain }], guard := none }) (v := .bool false) rfl (by kernel_rfl) (by kernel_rfl) (by kernel_rfl) (fun _ _ _ h => h) (Or.inl ⟨by rfl, by intro w hSw; go_simp⟩) hHeld ?_
              try simp only [Act.put, List.setIfInBounds_toArray, List.set_cons_zero, List.set_cons_succ]
              refine wpAnyH_take (i := 9) (oi := { dst := some 65, op := Op.fieldAddr 36 (Operand.tmp 7) 2, type := 0, pos := "law.go:155", after := #[{ on := 8, ground := Ground.guard }], guard := some (8, false) }) (v := .pointer (some ⟨g7, 2, none⟩)) rfl (by kernel_rfl) (by kernel_rfl) (by kernel_rfl) (fun _ _ _ h => h) (Or.inl ⟨by rfl, by intro w hSw; go_simp⟩) hHeld ?_
              try simp only [Act.put, List.setIfInBounds_toArray, List.set_cons_zero, List.set_cons_succ]
              refine wpAnyH_take (i := 10) (oi := { dst := some 66, op := Op.load 3 (Operand.tmp 65), type := 3, pos := "law.go:155", after := #[{ on := 9, ground := Ground.data }, { on := 8, ground := Ground.guard }], guard := some (8, false) }) (v := .int .i64 ss) rfl (by kernel_rfl) (by kernel_rfl) (by kernel_rfl) (fun _ _ _ h => h) (Or.inl ⟨by rfl, by intro W hSw; have h1 := hSw.2.1; go_simp⟩) hHeld ?_
              try simp only [Act.put, List.setIfInBounds_toArray, List.set_cons_zero, List.set_cons_succ]
              refine wpAnyH_take (i := 11) (oi := { dst := some 67, op := Op.fieldAddr 36 (Operand.tmp 7) 1, type := 0, pos := "law.go:155", after := #[{ on := 8, ground := Ground.guard }], guard := some (8, false) }) (v := .pointer (some ⟨g7, 1, none⟩)) rfl (by kernel_rfl) (by kernel_rfl) (by kernel_rfl) (fun _ _ _ h => h) (Or.inl ⟨by rfl, by intro w hSw; go_simp⟩) hHeld ?_
              try simp only [Act.put, List.setIfInBounds_toArray, List.set_cons_zero, List.set_cons_succ]
              refine wpAnyH_take (i := 12) (oi := { dst := some 68, op := Op.load 3 (Operand.tmp 67), type := 3, pos := "law.go:155", after := #[{ on := 11, ground := Ground.data }, { on := 8, ground := Ground.guard }], guard := some (8, false) }) (v := .int .i64 (c : Int)) rfl (by kernel_rfl) (by kernel_rfl) (by kernel_rfl) (fun _ _ _ h => h) (Or.inl ⟨by rfl, by intro W hSw; have h1 := hSw.1; go_simp⟩) hHeld ?_
              try simp only [Act.put, List.setIfInBounds_toArray, List.set_cons_zero, List.set_cons_succ]
              refine wpAnyH_take (i := 13) (oi := { dst := some 69, op := Op.indexAddr 39 (Operand.tmp 5) (Operand.tmp 68), type := 0, pos := "law.go:155", after := #[{ on := 12, ground := Ground.data }, { on := 8, ground := Ground.guard }], guard := some (8, false) }) (v := .pointer (some ⟨g5, c, none⟩)) rfl (by kernel_rfl) (by kernel_rfl) (by kernel_rfl) (fun _ _ _ h => h) (Or.inl ⟨by rfl, by intro W hSw; have := ix4 W; go_simp⟩) hHeld ?_
              try simp only [Act.put, List.setIfInBounds_toArray, List.set_cons_zero, List.set_cons_succ]
              refine wpAnyH_take (i := 14) (oi := { dst := some 70, op := Op.load 3 (Operand.tmp 69), type := 3, pos := "law.go:155", after := #[{ on := 13, ground := Ground.data }, { on := 8, ground := Ground.guard }], guard := some (8, false) }) (v := .int .i64 lv) rfl (by kernel_rfl) (by kernel_rfl) (by kernel_rfl) (fun _ _ _ h => h) (Or.inl ⟨by rfl, by intro W hSw; have h1 := hSw.2.2; go_simp⟩) hHeld ?_
              try simp only [Act.put, List.setIfInBounds_toArray, List.set_cons_zero, List.set_cons_succ]
              refine wpAnyH_take (i := 15) (oi := { dst := some 71, op := Op.binOp BinOp.leq 3 (Operand.tmp 66) (Operand.tmp 70) 3, type := 4, pos := "law.go:155", after := #[{ on := 10, ground := Ground.data }, { on := 14, ground := Ground.data }, { on := 8, ground := Ground.guard }], guard := some (8, false) }) (v := .bool false) rfl (by kernel_rfl) (by kernel_rfl) (by kernel_rfl) (fun _ _ _ h => h) (Or.inl ⟨by rfl, by intro w hSw; go_simp⟩) hHeld ?_
              try simp only [Act.put, List.setIfInBounds_toArray, List.set_cons_zero, List.set_cons_succ]
              refine wpAnyH_take (i := 16) (oi := { dst := some 72, op := Op.pick (Operand.tmp 64) (Operand.const (Value.bool true)) (Operand.tmp 71), type := 4, pos := "law.go:155", after := #[{ on := 8, ground := Ground.data }, { on := 15, ground := Ground.data }], guard := none }) (v := .bool false) rfl (by kernel_rfl) (by kernel_rfl) (by kernel_rfl) (fun _ _ _ h => h) (Or.inl ⟨by rfl, by intro w hSw; go_simp⟩) hHeld ?_
              try simp only [Act.put, List.setIfInBounds_toArray, List.set_cons_zero, List.set_cons_succ]
              refine wpAnyH_take (i := 17) (oi := { dst := some 73, op := Op.move (Operand.tmp 72), type := 4, pos := "law.go:155", after := #[{ on := 16, ground := Ground.data }, { on := 8, ground := Ground.chain }], guard := none }) (v := .bool false) rfl (by kernel_rfl) (by kernel_rfl) (by kernel_rfl) (fun _ _ _ h => h) (Or.inl ⟨by rfl, by intro w hSw; go_simp⟩) hHeld ?_
              try simp only [Act.put, List.setIfInBounds_toArray, List.set_cons_zero, List.set_cons_succ]
              refine wpAnyH_take (i := 18) (oi := { dst := some 74, op := Op.move (Operand.tmp 9), type := 4, pos := "law.go:155", after := #[{ on := 17, ground := Ground.guard }], guard := some (17, false) }) (v := .bool true) rfl (by kernel_rfl) (by kernel_rfl) (by kernel_rfl) (fun _ _ _ h => h) (Or.inl ⟨by rfl, by intro w hSw; go_simp⟩) hHeld ?_
              try simp only [Act.put, List.setIfInBounds_toArray, List.set_cons_zero, List.set_cons_succ]
              refine wpAnyH_take (i := 19) (oi := { dst := some 75, op := Op.unOp UnOp.not 4 (Operand.tmp 74), type := 4, pos := "law.go:155", after := #[{ on := 18, ground := Ground.data }, { on := 17, ground := Ground.guard }], guard := some (17, false) }) (v := .bool false) rfl (by kernel_rfl) (by kernel_rfl) (by kernel_rfl) (fun _ _ _ h => h) (Or.inl ⟨by rfl, by intro w hSw; go_simp⟩) hHeld ?_
              try simp only [Act.put, List.setIfInBounds_toArray, List.set_cons_zero, List.set_cons_succ]
              refine wpAnyH_take (i := 20) (oi := { dst := some 76, op := Op.pick (Operand.tmp 73) (Operand.const (Value.bool true)) (Operand.tmp 75), type := 4, pos := "law.go:155", after := #[{ on := 17, ground := Ground.data }, { on := 19, ground := Ground.data }], guard := none }) (v := .bool false) rfl (by kernel_rfl) (by kernel_rfl) (by kernel_rfl) (fun _ _ _ h => h) (Or.inl ⟨by rfl, by intro w hSw; go_simp⟩) hHeld ?_
              try simp only [Act.put, List.setIfInBounds_toArray, List.set_cons_zero, List.set_cons_succ]
              refine wpAnyH_take (i := 21) (oi := { dst := some 77, op := Op.move (Operand.tmp 76), type := 4, pos := "law.go:155", after := #[{ on := 20, ground := Ground.data }, { on := 17, ground := Ground.chain }], guard := none }) (v := .bool false) rfl (by kernel_rfl) (by kernel_rfl) (by kernel_rfl) (fun _ _ _ h => h) (Or.inl ⟨by rfl, by intro w hSw; go_simp⟩) hHeld ?_
              try simp only [Act.put, List.setIfInBounds_toArray, List.set_cons_zero, List.set_cons_succ]
              refine wpAnyH_take (i := 22) (oi := { dst := some 78, op := Op.move (Operand.tmp 8), type := 3, pos := "law.go:155", after := #[{ on := 21, ground := Ground.guard }], guard := some (21, false) }) (v := .int .i64 (i : Int)) rfl (by kernel_rfl) (by kernel_rfl) (by kernel_rfl) (fun _ _ _ h => h) (Or.inl ⟨by rfl, by intro w hSw; go_simp⟩) hHeld ?_
              try simp only [Act.put, List.setIfInBounds_toArray, List.set_cons_zero, List.set_cons_succ]
              refine wpAnyH_take (i := 23) (oi := { dst := some 79, op := Op.move (Operand.tmp 6), type := 3, pos := "law.go:155", after := #[{ on := 21, ground := Ground.guard }], guard := some (21, false) }) (v := .int .i64 (i : Int)) rfl (by kernel_rfl) (by kernel_rfl) (by kernel_rfl) (fun _ _ _ h => h) (Or.inl ⟨by rfl, by intro w hSw; go_simp⟩) hHeld ?_
              try simp only [Act.put, List.setIfInBounds_toArray, List.set_cons_zero, List.set_cons_succ]
              refine wpAnyH_take (i := 24) (oi := { dst := some 80, op := Op.binOp BinOp.neq 3 (Operand.tmp 78) (Operand.tmp 79) 3, type := 4, pos := "law.go:155", after := #[{ on := 22, ground := Ground.data }, { on := 23, ground := Ground.data }, { on := 21, ground := Ground.guard }], guard := some (21, false) }) (v := .bool false) rfl (by kernel_rfl) (by kernel_rfl) (by kernel_rfl) (fun _ _ _ h => h) (Or.inl ⟨by rfl, by intro w hSw; go_simp⟩) hHeld ?_
              try simp only [Act.put, List.setIfInBounds_toArray, List.set_cons_zero, List.set_cons_succ]
              refine wpAnyH_take (i := 25) (oi := { dst := some 81, op := Op.pick (Operand.tmp 77) (Operand.const (Value.bool true)) (Operand.tmp 80), type := 4, pos := "law.go:155", after := #[{ on := 21, ground := Ground.data }, { on := 24, ground := Ground.data }], guard := none }) (v := .bool false) rfl (by kernel_rfl) (by kernel_rfl) (by kernel_rfl) (fun _ _ _ h => h) (Or.inl ⟨by rfl, by intro w hSw; go_simp⟩) hHeld ?_
              try simp only [Act.put, List.setIfInBounds_toArray, List.set_cons_zero, List.set_cons_succ]
              refine wpAnyH_done (by kernel_rfl) ?_ _
              go_wp2
              go_roundw
              case rel => exact ⟨i + 1, by omega, by go_num, HPT.out.keep (Below.refl _ _).drew⟩
              case measure => simp [intOf]; omega
            · obtain ⟨kk, hkk⟩ : ∃ z, x.e.k = z := ⟨_, rfl⟩
              have HSK := hidk (lastA_skip (L := all.take i) hk1)
              rw [← HTK.out] at HSK
              rw [hkk] at HCU hk1
              have bk : (kk == (1 : Int)) = false := by rw [beq_eq_false_iff_ne]; exact hk1
              have bkd : decide (kk = 1) = false := decide_eq_false hk1
              clear HU HNU hxi HX hg hil HGR HTK hkk hk1
              go_wp2_with (first
                | (show wpList _ _ _ ({ dst := some 43, op := _, type := _, pos := _, after := _, guard := _ } :: _) _ _; refine wpList_mid_w (by rfl) 36 (.tmp 42) rfl g (o + 110 * i + 1) rfl U _ HRU.out Try.underlying36 rfl HSU.out ?_; try simp only [Act.put, List.setIfInBounds_toArray, List.set_cons_zero, List.set_cons_succ])
                | (show wpList _ _ _ ({ dst := some 7, op := _, type := _, pos := _, after := _, guard := _ } :: _) _ _; refine wpList_new_var rfl 36 rfl ZE HAE.out ?_; intro g7 u7 HM; have HG := hidk HM.out.row; try simp only [Act.put, List.setIfInBounds_toArray, List.set_cons_zero, List.set_cons_succ])
                | (refine wpList_set_var rfl 36 (.tmp 7) (.tmp 43) rfl g7 U rfl rfl 36 ZE HG.out HSU.out HZU.out H1U.out ?_; intro v7 HW; have hbj : Below wr.heap.size wr v7 := HW.out.below _ _ HM.out.below (by rw [HM.out.new]; exact Nat.le_refl _); have H7 := hidk (HH.out.keep hbj); obtain ⟨k0, k1, k2⟩ := HCU.out _ _ HW.out.row; clear hbj HM HG HW; try simp only [Act.put, List.setIfInBounds_toArray, List.set_cons_zero, List.set_cons_succ])
                | fail)
              go_roundw
              case rel => exact ⟨i + 1, by omega, by go_num, ⟨H7.out.b, H7.out.o, by rw [HSK.out]; exact H7.out.g⟩⟩
              case measure => simp [intOf]; omega
          · have hd2 : decide ((i : Int) < (n : Int)) = false := by rw [decide_eq_false_iff_not]; omega
            have CH : Hid (∀ V, HeldO w all ao n co g5 (all.take i) V → Calls Try.prog 8 #[.slice ao n co] V fun e w' => e = .returned (.int .i64 0) ∧ Below V.heap.size V w') := fun V hh => by
              have := HCC.out.check ao n co all V ⟨hh.o, HNI.out, HINA.out, by omega⟩
              rwa [show chkE all = 0 by unfold chkE; rw [if_pos (grew_right HGR.out)]] at this
            clear HGR HINA HCC
            go_wp2_with fail
            refine (FT.out _).mono ?_
            rintro e v2 ⟨rfl, hbj⟩
            have H2 := hidk (HH.out.keep hbj)
            clear hbj
            go_wp2_with fail
            refine (CH.out _ H2.out).mono ?_
            rintro e v3 ⟨rfl, hbj⟩
            have H3 := hidk (H2.out.keep hbj)
            clear hbj
            go_wp2
            go_ret
            exact ⟨rfl, H3.out.b⟩
  · clear hc h hc0 hm Hb
    go_enter Try.func3, Try.ntmps3
    go_wp2_with fail
    refine BG.out.mono ?_
    rintro e w1 ⟨rfl, rfl⟩
    go_wp2
    go_ret
    exact ⟨rfl, Below.refl _ _⟩
theorem historyOld_in (hc : HistoryC) (a : Option Addr) (len cap : Nat) (l : List ItT) (w : World) (h : IReads w a len cap l) (hc0 : a = none → cap = 0) (hm : ∀ x ∈ l, CmI x) :
    Calls Try.prog 3 #[.slice a len cap] w fun e w' => e = .returned (.bool true) ∧ Below w.heap.size w w' := historyOld_of hc a len cap l w h hc0 hm
end Go.Proofs.Ytgclohgcehhfnab
