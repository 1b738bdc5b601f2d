/- Texts of our own that the row of AnchorsFinds leans on, part 31. -/
import Derived.Test.YtjalebncfnekiaaDoorAnchorsFindsJ25
import Derived.Test.YtjalebncfnekiaaDoorAnchorsFindsJ27
import Derived.Test.YtjalebncfnekiaaDoorAnchorsFindsJ30

/- HistoryHeads. -/
namespace Go.Proofs.YtjalebncfnekiaaDoor
open Go.RowKit Nums Sums
set_option linter.unusedVariables false
set_option linter.unusedSimpArgs false
set_option maxRecDepth 100000
/-- A log that came in and is not too big. -/
theorem inL_of {w : World} {a : Option Addr} {len cap : Nat} {l : List ItT} (h : IReads w a len cap l) (hc0 : a = none → cap = 0) (hm : ∀ x ∈ l, CmI x) (hb : bigL l = false) : InL w a len cap l := by
  obtain ⟨h1, h2⟩ := bigL_false hb
  exact ⟨h, hc0, fun x hx => (hm x hx).in (by have := h2 x hx; omega), by have := h.ln; omega⟩
end Go.Proofs.YtjalebncfnekiaaDoor

/- AnchorsFinds. -/
namespace Go.Proofs.YtjalebncfnekiaaDoor
open Go.RowKit Nums Sums
set_option linter.unusedVariables false
set_option linter.unusedSimpArgs false
set_option maxRecDepth 100000
/-- What is held: the log's own copy. -/
structure HeldO (w : World) (p : Option Addr) (len pc : Nat) (l : List ItT) (V : World) : Prop where
  b : Below w.heap.size w V
  o : IReads V p len pc l
theorem HeldO.keep {w : World} {p : Option Addr} {len pc : Nat} {l : List ItT} {V V' : World} (h : HeldO w p len pc l V) (hb : Below V.heap.size V V') : HeldO w p len pc l V' :=
  ⟨h.b.trans (hb.mono h.b.size), h.o.keep hb⟩
set_option maxHeartbeats 16000000 in
theorem anchorsFinds_of (hd : HeadC) (an : AnchorsC) (a : Option Addr) (len cap : Nat) (l : List ItT) (r s : Int) (w : World) (h : IReads w a len cap l) (hc0 : a = none → cap = 0) (hm : ∀ x ∈ l, CmI x) (ir : In64 r) (is : In64 s) (hT : TabH w) :
    Calls Tryd.prog 3 #[.slice a len cap, .int .i64 r, .int .i64 s] w fun x w' => x = .returned (.bool true) ∧ Below w.heap.size w w' := by
  have BG := hidk (refBig_any a len cap l w h (fun x hx => (hm x hx).e.t))
  obtain ⟨b, Hb⟩ : ∃ b, Hid (bigL l = b) := ⟨_, hidk rfl⟩
  rw [Hb.out] at BG
  cases b
  · have hin := inL_of h hc0 hm Hb.out
    have hle := hin.le
    have hok := latS_ok (l := l) (r := r) h.ok
    obtain ⟨R, HR, HSR, H1R, N69⟩ := sign_row (latS l r) hok.1 hok.2
    obtain ⟨Z, HZ, HA, HBZ, H69⟩ := noughtsS
    have HZR : Hid (Z.size = R.size) := by show _ = _; rw [H69.out, N69.out]
    obtain ⟨y, hy⟩ : ∃ y, (latA l r).isSome = y := ⟨_, rfl⟩
    obtain ⟨q, hq⟩ : ∃ q : Int, (((plcA l r s).getD 0 : Nat) : Int) = q := ⟨_, rfl⟩
    obtain ⟨z, hz⟩ : ∃ y, (plcA l r s).isSome = y := ⟨_, rfl⟩
    have OW : Hid (Calls Tryd.prog 9 #[.slice a len cap] w fun e w' => ∃ v, e = .returned v ∧ w'.ownsRow w.heap.size 48 110 v len (icL l) ∧ Below w.heap.size w w') := refOwn_any a len cap l w h hc0 (by omega)
    have L1 : Hid (∀ W, Below w.heap.size w W → Calls Tryd.prog 10 #[.slice a len cap, .int .i64 r] W fun e w' => e = .returned (.tuple #[.agg R, .bool y]) ∧ Below W.heap.size W w') := fun W hb => by rw [← hy]; exact an.latest a len cap l r W (hin.keep hb) ir R HR
    have P1 : Hid (∀ W, Below w.heap.size w W → Calls Tryd.prog 12 #[.slice a len cap, .int .i64 r, .int .i64 s] W fun e w' => e = .returned (.tuple #[.int .i64 q, .bool z]) ∧ Below W.heap.size W w') := fun W hb => by rw [← hq, ← hz]; exact an.place a len cap l r s W (hin.keep hb) ir is
    have L2 : Hid (∀ W p c, IReads W p len c l → Calls Tryd.prog 11 #[.slice p len c, .int .i64 r] W fun e w' => e = .returned (.tuple #[.agg R, .bool y]) ∧ Below W.heap.size W w') := fun W p c hi => by rw [← hy]; exact refLatest_any p len c l r W hi (by omega) R HR
    have P2 : Hid (∀ W p c, IReads W p len c l → Calls Tryd.prog 13 #[.slice p len c, .int .i64 r, .int .i64 s] W fun e w' => e = .returned (.tuple #[.int .i64 q, .bool z]) ∧ Below W.heap.size W w') := fun W p c hi => by rw [← hq, ← hz]; exact refPlace_any p len c l r s W hi (by omega)
    have AD : Hid (∀ W, Below w.heap.size w W → Calls Tryd.prog 14 #[] W fun e w' => e = .returned (.bool true) ∧ Below W.heap.size W w') := fun W hb => admits_true hd an W (hT.keep hb)
    have SM : Hid (∀ W p c, Below w.heap.size w W → IReads W p len c l → Calls Tryd.prog 15 #[.slice a len cap, .slice p len c] W fun e w' => e = .returned (.bool true) ∧ Below W.heap.size W w') := fun W p c hb hi => refSame_any a p len cap c l W (hin.rd.keep hb) hi
    have HOK := hidk h.ok
    have EQS : Hid (∀ W, (binOp .eql 30 (.agg R) (.agg R)).run Tryd.prog W = .ok (.bool true) W) := fun W => eqSigned _ _ hok.1 hok.1 hok.2 hok.2 R R HR HR true (by simp) W
    have eqs := EQS.out
    clear hd an h hc0 hm ir is hT Hb hin HR HZ HBZ N69 H69 hy hq hz EQS hok
    go_enter Tryd.func3, Tryd.ntmps3
    go_wp2_with fail
    refine BG.out.mono ?_
    rintro x w1 ⟨rfl, rfl⟩
    go_wp2_with fail
    refine OW.out.mono ?_
    rintro x v1 ⟨v, rfl, hrow, hb1⟩
    obtain ⟨p, pc, rfl, hi1, _, _⟩ := IReads.own hrow HOK.out
    have HH1 : Hid (HeldO w p len pc l v1) := ⟨hb1, hi1⟩
    clear hrow hb1 hi1 HOK OW BG
    go_wp2_with fail
    refine (L1.out _ HH1.out.b).mono ?_
    rintro x v2 ⟨rfl, hbj⟩
    have HH2 := hidk (HH1.out.keep hbj)
    clear hbj HH1
    go_wp2_with (first
      | (show wpList _ _ _ ({ dst := some 8, op := _, type := _, pos := _, after := _, guard := _ } :: _) _ _; refine wpList_new_var rfl 30 rfl Z HA.out ?_; intro g8 u3 HM; have HG := hidk HM.out.row; try simp only [Act.put, List.setIfInBounds_toArray, List.set_cons_zero, List.set_cons_succ])
      | (refine wpList_set_var rfl 30 (.tmp 8) (.tmp 24) rfl g8 R rfl rfl 30 Z HG.out HSR.out HZR.out H1R.out ?_; intro v3 HW; have hbj : Below v2.heap.size v2 v3 := HW.out.below _ _ HM.out.below (by rw [HM.out.new]; exact Nat.le_refl _); have HG8 := hidk HW.out.row; have HH3 := hidk (HH2.out.keep hbj); clear hbj HM HG HW; try simp only [Act.put, List.setIfInBounds_toArray, List.set_cons_zero, List.set_cons_succ])
      | fail)
    refine (L2.out _ _ _ HH3.out.o).mono ?_
    rintro x v4 ⟨rfl, hbj⟩
    have HH4 := hidk (HH3.out.keep hbj)
    have HG8_4 := hidk ((hbj.block _ (heap_lt HG8.out)).trans HG8.out)
    clear hbj HH2 HH3 HG8
    go_wp2_with (first
      | (show wpList _ _ _ ({ dst := some 10, op := _, type := _, pos := _, after := _, guard := _ } :: _) _ _; refine wpList_new_var rfl 30 rfl Z HA.out ?_; intro g10 u5 HM; have HG := hidk HM.out.row; try simp only [Act.put, List.setIfInBounds_toArray, List.set_cons_zero, List.set_cons_succ])
      | (refine wpList_set_var rfl 30 (.tmp 10) (.tmp 30) rfl g10 R rfl rfl 30 Z HG.out HSR.out HZR.out H1R.out ?_; intro v5 HW; have hbj : Below v4.heap.size v4 v5 := HW.out.below _ _ HM.out.below (by rw [HM.out.new]; exact Nat.le_refl _); have HG10 := hidk HW.out.row; have HG8_5 := hidk ((hbj.block _ (heap_lt HG8_4.out)).trans HG8_4.out); have HH5 := hidk (HH4.out.keep hbj); clear hbj HM HG HW; try simp only [Act.put, List.setIfInBounds_toArray, List.set_cons_zero, List.set_cons_succ])
      | fail)
    refine (P1.out _ HH5.out.b).mono ?_
    rintro x v6 ⟨rfl, hbj⟩
    have HH6 := hidk (HH5.out.keep hbj)
    have HG8_6 := hidk ((hbj.block _ (heap_lt HG8_5.out)).trans HG8_5.out)
    have HG10_6 := hidk ((hbj.block _ (heap_lt HG10.out)).trans HG10.out)
    clear hbj HH4 HH5 HG8_4 HG8_5 HG10
    go_wp2_with fail
    refine (P2.out _ _ _ HH6.out.o).mono ?_
    rintro x v7 ⟨rfl, hbj⟩
    have HH7 := hidk (HH6.out.keep hbj)
    have HG8_7 := hidk ((hbj.block _ (heap_lt HG8_6.out)).trans HG8_6.out)
    have HG10_7 := hidk ((hbj.block _ (heap_lt HG10_6.out)).trans HG10_6.out)
    clear hbj HH6 HG8_6 HG10_6
    go_wp2_with fail
    refine (AD.out _ HH7.out.b).mono ?_
    rintro x v8 ⟨rfl, hbj⟩
    have HH8 := hidk (HH7.out.keep hbj)
    have HG8_8 := hidk ((hbj.block _ (heap_lt HG8_7.out)).trans HG8_7.out)
    have HG10_8 := hidk ((hbj.block _ (heap_lt HG10_7.out)).trans HG10_7.out)
    clear hbj HH7 HG8_7 HG10_7
    go_wp2_with (first
      | (show wpList _ _ _ ({ dst := some 48, op := _, type := _, pos := _, after := _, guard := _ } :: _) _ _; refine wpList_load_row_w (by rfl) 30 (.tmp 8) rfl g8 rfl 30 R (0, 0) _ HG8_8.out Tryd.underlying30 rfl HSR.out ?_; try simp only [Act.put, List.setIfInBounds_toArray, List.set_cons_zero, List.set_cons_succ])
      | (show wpList _ _ _ ({ dst := some 49, op := _, type := _, pos := _, after := _, guard := _ } :: _) _ _; refine wpList_load_row_w (by rfl) 30 (.tmp 10) rfl g10 rfl 30 R (0, 0) _ HG10_8.out Tryd.underlying30 rfl HSR.out ?_; try simp only [Act.put, List.setIfInBounds_toArray, List.set_cons_zero, List.set_cons_succ])
      | fail)
    refine (SM.out _ _ _ HH8.out.b HH8.out.o).mono ?_
    rintro x v9 ⟨rfl, hbj⟩
    have HH9 := hidk (HH8.out.keep hbj)
    clear hbj
    go_wp2
    go_ret
    exact ⟨rfl, HH9.out.b⟩
  · clear hd an h hc0 hm ir is hT Hb
    go_enter Tryd.func3, Tryd.ntmps3
    go_wp2_with fail
    refine BG.out.mono ?_
    rintro x w1 ⟨rfl, rfl⟩
    go_wp2
    go_ret
    exact ⟨rfl, Below.refl _ _⟩
end Go.Proofs.YtjalebncfnekiaaDoor
