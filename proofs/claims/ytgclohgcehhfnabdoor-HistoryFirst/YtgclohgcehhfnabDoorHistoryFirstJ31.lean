/- Texts of our own that the row of HistoryFirst leans on, part 31. -/
import Derived.Test.YtgclohgcehhfnabDoorHistoryFirstJ20
import Derived.Test.YtgclohgcehhfnabDoorHistoryFirstJ24
import Derived.Test.YtgclohgcehhfnabDoorHistoryFirstJ25
import Derived.Test.YtgclohgcehhfnabDoorHistoryFirstJ27
import Derived.Test.YtgclohgcehhfnabDoorHistoryFirstJ30

/- HistoryHeads. -/
namespace Go.Proofs.YtgclohgcehhfnabDoor
open Go.RowKit Nums Sums
set_option linter.unusedVariables false
set_option linter.unusedSimpArgs false
set_option maxRecDepth 100000
/-- A log that came in and is not too big. -/
theorem inL_of {w : World} {a : Option Addr} {len cap : Nat} {l : List ItT} (h : IReads w a len cap l) (hc0 : a = none → cap = 0) (hm : ∀ x ∈ l, CmI x) (hb : bigL l = false) : InL w a len cap l := by
  obtain ⟨h1, h2⟩ := bigL_false hb
  exact ⟨h, hc0, fun x hx => (hm x hx).in (by have := h2 x hx; omega), by have := h.ln; omega⟩
end Go.Proofs.YtgclohgcehhfnabDoor

/- HistoryFirst. -/
namespace Go.Proofs.YtgclohgcehhfnabDoor
open Go.RowKit Nums Sums
set_option linter.unusedVariables false
set_option linter.unusedSimpArgs false
set_option maxRecDepth 100000
theorem slice_log2 {w : World} {a : Option Addr} {len cap : Nat} {l : List ItT} (h : IReads w a len cap l) (hc0 : a = none → cap = 0) (n : Nat) (h1 : n ≤ len) : ∃ a', (∀ W, (Instr.sliceAt 22 (.slice a len cap) none (some (.int .i64 (n : Int))) none).run Tryd.prog W = .ok (.slice a' n cap) W) ∧ (∀ W, IReads W a len cap l → IReads W a' n cap (l.take n)) ∧ (a' = none → cap = 0) := by
  cases a with
  | none =>
    have e0 := hc0 rfl
    obtain ⟨a', h2, h3⟩ := slice_log h (n : Int) (by omega) (by omega)
    rw [Int.toNat_natCast] at h2 h3
    exact ⟨a', h2, h3, fun _ => e0⟩
  | some p =>
    refine ⟨if cap = 0 then some p else some (p.add 0), fun W => ?_, fun W h => ?_, fun e => ?_⟩
    · have hc := h.cp
      simp [Instr.sliceAt, Instr.slice, Instr.sliceBounds, Instr.sliceBound, asIntOf, run_underlying Tryd.underlying22, sizeOfI]
      intro hh
      omega
    · have ht := h.take n h1
      refine ⟨ht.ln, ht.cp, ht.mx, ht.ok, ?_⟩
      rcases ht.lies with e | ⟨g, o, e, hl⟩
      · exact .inl e
      · cases e
        refine .inr ⟨g, o, ?_, hl⟩
        split
        · rfl
        · rw [add_plain]; rfl
    · split at e <;> cases e
theorem conL_first {l : List ItT} {n : Nat} (m : Int) (h : rightL l = true) (hn : n ≤ l.length) : conL11 (l.take n) m n = conL11 l m n := by
  unfold conL11
  rw [conE_first m h hn, Int.toNat_natCast, List.take_take, Nat.min_self]
set_option maxHeartbeats 16000000 in
theorem historyFirst_of (hc : HistoryC) (a : Option Addr) (len cap : Nat) (l : List ItT) (m n i : Int) (w : World) (h : IReads w a len cap l) (hc0 : a = none → cap = 0) (hm : ∀ x ∈ l, CmI x) (im : In64 m) (inn : In64 n) (ii : In64 i) (hT : TabH w) :
    Calls Tryd.prog 3 #[.slice a len cap, .int .i64 m, .int .i64 n, .int .i64 i] w fun e w' => e = .returned (.bool true) ∧ Below w.heap.size w w' := by
  have BG := hidk (refBig_any a len cap l w h (fun x hx => (hm x hx).e.t))
  have FT : Hid (∀ W, Calls Tryd.prog 6 #[] W fun e w' => e = .returned (.bool true) ∧ Below W.heap.size W w') := fun W => finds_true hc W
  have hmx : len ≤ 9223372036854775807 := by have := h.mx; unfold maxLen at this; omega
  obtain ⟨b, Hb⟩ : ∃ b, Hid (bigL l = b) := ⟨_, hidk rfl⟩
  rw [Hb.out] at BG
  cases b
  · have hin := inL_of h hc0 hm Hb.out
    have hln := h.ln
    have hle := hin.le
    by_cases hn0 : n < 0
    · have d0 : decide (n < 0) = true := decide_eq_true hn0
      clear hc h hc0 hm im inn ii hT Hb hin hln
      go_enter Tryd.func3, Tryd.ntmps3
      go_wp2_with fail
      refine BG.out.mono ?_
      rintro e w1 ⟨rfl, rfl⟩
      go_wp2_with fail
      refine (FT.out _).mono ?_
      rintro e w2 ⟨rfl, hb2⟩
      go_wp2
      go_ret
      exact ⟨rfl, hb2⟩
    have d0 : decide (n < 0) = false := decide_eq_false hn0
    by_cases hnl : (len : Int) < n
    · have d1 : decide ((len : Int) < n) = true := decide_eq_true hnl
      clear hc h hc0 hm im inn ii hT Hb hin hln hn0 hnl
      go_enter Tryd.func3, Tryd.ntmps3
      go_wp2_with fail
      refine BG.out.mono ?_
      rintro e w1 ⟨rfl, rfl⟩
      go_wp2_with fail
      refine (FT.out _).mono ?_
      rintro e w2 ⟨rfl, hb2⟩
      go_wp2
      go_ret
      exact ⟨rfl, hb2⟩
    have d1 : decide ((len : Int) < n) = false := decide_eq_false hnl
    have CK := hidk (hc.check a len cap l w hin)
    by_cases hr : rightL l = true
    · rw [show chkE l = 0 by unfold chkE; rw [if_pos hr]] at CK
      obtain ⟨N, hN⟩ : ∃ N : Nat, n = N := ⟨n.toNat, by omega⟩
      subst hN
      have hNl : N ≤ l.length := by omega
      have hNle : N ≤ len := by omega
      have dN : decide (len < N) = false := decide_eq_false (by omega)
      obtain ⟨a2, SL, hRs, hni⟩ := slice_log2 h hc0 N (by omega)
      have IN2 : Hid (∀ W, Below w.heap.size w W → InL W a2 N cap (l.take N)) := fun W hb => ⟨hRs W (h.keep hb), hni, fun x hx => hin.its x (List.mem_of_mem_take hx), by omega⟩
      obtain ⟨z1, z2⟩ := sizeX_first hr hNl
      obtain ⟨D, HD⟩ : ∃ D : Array Value, Hid (D = (cellsOf (rootO l N)).toArray) := ⟨_, hidk rfl⟩
      obtain ⟨Z, HZ, HA, HS, H1, H32⟩ := noughts27
      have h32 : (rootO l N).length = 32 := rootO_length l N
      have HSD : Hid ((Tryd.prog.info? 28).map (·.size) = some D.size) := by show _ = _; rw [size23, HD.out]; simp [cellsOf_length, h32]
      have HZD : Hid (Z.size = D.size) := by show _ = _; rw [H32.out, HD.out]; simp [cellsOf_length, h32]
      have H1D : Hid (D.all (·.oneCell') = true) := by show _ = _; rw [HD.out]; exact cellsOf_all _
      have EQD : Hid (∀ W, (binOp .eql 28 (.agg D) (.agg D)).run Tryd.prog W = .ok (.bool true) W) := fun W => eqDigV _ _ h32 h32 D D HD HD true (by simp) W
      have eqd := EQD.out
      have C1 : Hid (∀ W, Below w.heap.size w W → Calls Tryd.prog 7 #[.slice a len cap, .int .i64 (N : Int)] W fun e w' => e = .returned (.tuple #[.agg D, .int .i64 0]) ∧ Below W.heap.size W w') := fun W hb => by
        have := hc.root a len cap l N W (hin.keep hb) inn D HD (hT.keep hb)
        rwa [z1] at this
      have C2 : Hid (∀ W, Below w.heap.size w W → Calls Tryd.prog 7 #[.slice a2 N cap, .int .i64 (N : Int)] W fun e w' => e = .returned (.tuple #[.agg D, .int .i64 0]) ∧ Below W.heap.size W w') := fun W hb => by
        have := hc.root a2 N cap (l.take N) N W (IN2.out W hb) inn D (by show _ = _; rw [root_first hr hNl]; exact HD.out) (hT.keep hb)
        rwa [z2] at this
      obtain ⟨e1, e2⟩ := inc_first i hr hNl
      have e3 := conE_first m hr hNl
      have e4 := conL_first m hr hNl
      obtain ⟨P, HP⟩ : ∃ P, Hid (incL11 l N i = P) := ⟨_, hidk rfl⟩
      obtain ⟨pe, Hpe⟩ : ∃ P, Hid (incE11 l N i = P) := ⟨_, hidk rfl⟩
      obtain ⟨Q, HQ⟩ : ∃ P, Hid (conL11 l m N = P) := ⟨_, hidk rfl⟩
      obtain ⟨qe, Hqe⟩ : ∃ P, Hid (conE11 l m N = P) := ⟨_, hidk rfl⟩
      have C3 : Hid (∀ W, Below w.heap.size w W → _) := fun W hb => hc.incl a len cap l N i W (hin.keep hb) inn ii (hT.keep hb)
      have C4 : Hid (∀ W, Below w.heap.size w W → _) := fun W hb => hc.incl a2 N cap (l.take N) N i W (IN2.out W hb) inn ii (hT.keep hb)
      have C5 : Hid (∀ W, Below w.heap.size w W → _) := fun W hb => hc.cons a len cap l m N W (hin.keep hb) im inn (hT.keep hb)
      have C6 : Hid (∀ W, Below w.heap.size w W → _) := fun W hb => hc.cons a2 N cap (l.take N) m N W (IN2.out W hb) im inn (hT.keep hb)
      simp only [e1, e2] at C4
      simp only [e3, e4] at C6
      simp only [HP.out, Hpe.out] at C3 C4
      simp only [HQ.out, Hqe.out] at C5 C6
      clear hc h hc0 hm im inn ii hT Hb hin hln hn0 hnl hr hRs hni IN2 z1 z2 HD HZ h32 e1 e2 e3 e4 HP Hpe HQ Hqe hNl
      go_enter Tryd.func3, Tryd.ntmps3
      go_wp2_with fail
      refine BG.out.mono ?_
      rintro e w1 ⟨rfl, rfl⟩
      go_wp2_with fail
      refine CK.out.mono ?_
      rintro e v2 ⟨rfl, hb2⟩
      have HB2 := hidk hb2
      clear hb2
      go_wp2_with fail
      refine (C1.out _ HB2.out).mono ?_
      rintro e v3 ⟨rfl, hbj⟩
      have HB3 := hidk (HB2.out.trans (hbj.mono HB2.out.size))
      clear hbj
      go_wp2_with (first
        | (show wpList _ _ _ ({ dst := some 9, op := _, type := _, pos := _, after := _, guard := _ } :: _) _ _; refine wpList_new_var rfl 28 rfl Z HA.out ?_; intro g9 u4 HM; have HG := hidk HM.out.row; try simp only [Act.put, List.setIfInBounds_toArray, List.set_cons_zero, List.set_cons_succ])
        | (refine wpList_set_var rfl 28 (.tmp 9) (.tmp 43) rfl g9 D rfl rfl 28 Z HG.out HSD.out HZD.out H1D.out ?_; intro v4 HW; have hbj : Below v3.heap.size v3 v4 := HW.out.below _ _ HM.out.below (by rw [HM.out.new]; exact Nat.le_refl _); have G9_4 := hidk HW.out.row; have HB4 := hidk (HB3.out.trans (hbj.mono HB3.out.size)); clear hbj HM HG HW; try simp only [Act.put, List.setIfInBounds_toArray, List.set_cons_zero, List.set_cons_succ])
        | fail)
      refine (C2.out _ HB4.out).mono ?_
      rintro e v5 ⟨rfl, hbj⟩
      have HB5 := hidk (HB4.out.trans (hbj.mono HB4.out.size))
      have G9_5 := hidk ((hbj.block _ (heap_lt G9_4.out)).trans G9_4.out)
      clear hbj
      go_wp2_with (first
        | (show wpList _ _ _ ({ dst := some 11, op := _, type := _, pos := _, after := _, guard := _ } :: _) _ _; refine wpList_new_var rfl 28 rfl Z HA.out ?_; intro g11 u6 HM; have HG := hidk HM.out.row; try simp only [Act.put, List.setIfInBounds_toArray, List.set_cons_zero, List.set_cons_succ])
        | (refine wpList_set_var rfl 28 (.tmp 11) (.tmp 51) rfl g11 D rfl rfl 28 Z HG.out HSD.out HZD.out H1D.out ?_; intro v6 HW; have hbj : Below v5.heap.size v5 v6 := HW.out.below _ _ HM.out.below (by rw [HM.out.new]; exact Nat.le_refl _); have G11_6 := hidk HW.out.row; have HB6 := hidk (HB5.out.trans (hbj.mono HB5.out.size)); have G9_6 := hidk ((hbj.block _ (heap_lt G9_5.out)).trans G9_5.out); clear hbj HM HG HW; try simp only [Act.put, List.setIfInBounds_toArray, List.set_cons_zero, List.set_cons_succ])
        | fail)
      have GG6 : Hid (_ ∧ _) := ⟨G9_6.out, G11_6.out⟩
      refine (C3.out _ HB6.out).mono ?_
      rintro e v7 ⟨x7, c7, rfl, hx, hbj⟩
      have HB7 := hidk (HB6.out.trans (hbj.mono HB6.out.size))
      have GG7 : Hid (_ ∧ _) := ⟨(hbj.block _ (heap_lt GG6.out.1)).trans GG6.out.1, (hbj.block _ (heap_lt GG6.out.2)).trans GG6.out.2⟩
      have X7_7 := hidk hx
      clear hbj hx
      go_wp2_with fail
      refine (C4.out _ HB7.out).mono ?_
      rintro e v8 ⟨x8, c8, rfl, hx, hbj⟩
      have HB8 := hidk (HB7.out.trans (hbj.mono HB7.out.size))
      have GG8 : Hid (_ ∧ _) := ⟨(hbj.block _ (heap_lt GG7.out.1)).trans GG7.out.1, (hbj.block _ (heap_lt GG7.out.2)).trans GG7.out.2⟩
      have X8_8 := hidk hx
      have X7_8 := hidk (X7_7.out.keep hbj)
      clear hbj hx
      go_wp2_with fail
      refine (C5.out _ HB8.out).mono ?_
      rintro e v9 ⟨x9, c9, rfl, hx, hbj⟩
      have HB9 := hidk (HB8.out.trans (hbj.mono HB8.out.size))
      have GG9 : Hid (_ ∧ _) := ⟨(hbj.block _ (heap_lt GG8.out.1)).trans GG8.out.1, (hbj.block _ (heap_lt GG8.out.2)).trans GG8.out.2⟩
      have X9_9 := hidk hx
      have X7_9 := hidk (X7_8.out.keep hbj)
      have X8_9 := hidk (X8_8.out.keep hbj)
      clear hbj hx
      go_wp2_with fail
      refine (C6.out _ HB9.out).mono ?_
      rintro e v10 ⟨x10, c10, rfl, hx, hbj⟩
      have HB10 := hidk (HB9.out.trans (hbj.mono HB9.out.size))
      have GG10 : Hid (_ ∧ _) := ⟨(hbj.block _ (heap_lt GG9.out.1)).trans GG9.out.1, (hbj.block _ (heap_lt GG9.out.2)).trans GG9.out.2⟩
      have X10_10 := hidk hx
      have X7_10 := hidk (X7_9.out.keep hbj)
      have X8_10 := hidk (X8_9.out.keep hbj)
      have X9_10 := hidk (X9_9.out.keep hbj)
      clear hbj hx
      go_wp2_with fail
      refine (FT.out _).mono ?_
      rintro e v11 ⟨rfl, hbj⟩
      have HB11 := hidk (HB10.out.trans (hbj.mono HB10.out.size))
      have G9 := hidk ((hbj.block _ (heap_lt GG10.out.1)).trans GG10.out.1)
      have G11 := hidk ((hbj.block _ (heap_lt GG10.out.2)).trans GG10.out.2)
      have X7_11 := hidk (X7_10.out.keep hbj)
      have X8_11 := hidk (X8_10.out.keep hbj)
      have X9_11 := hidk (X9_10.out.keep hbj)
      have X10_11 := hidk (X10_10.out.keep hbj)
      clear hbj
      go_wp2_with (first
        | (show wpList _ _ _ ({ dst := some 95, op := _, type := _, pos := _, after := _, guard := _ } :: _) _ _; refine wpList_load_row_w (by rfl) 28 (.tmp 11) rfl g11 rfl 28 D (0, 0) _ G11.out Tryd.underlying28 rfl HSD.out ?_; try simp only [Act.put, List.setIfInBounds_toArray, List.set_cons_zero, List.set_cons_succ])
        | (show wpList _ _ _ ({ dst := some 96, op := _, type := _, pos := _, after := _, guard := _ } :: _) _ _; refine wpList_load_row_w (by rfl) 28 (.tmp 9) rfl g9 rfl 28 D (0, 0) _ G9.out Tryd.underlying28 rfl HSD.out ?_; try simp only [Act.put, List.setIfInBounds_toArray, List.set_cons_zero, List.set_cons_succ])
        | fail)
      refine (same_digs _ _ _ _ _ P v11 X7_11.out X8_11.out).mono ?_
      rintro e v12 ⟨rfl, hbj⟩
      have HB12 := hidk (HB11.out.trans (hbj.mono HB11.out.size))
      have X9_12 := hidk (X9_11.out.keep hbj)
      have X10_12 := hidk (X10_11.out.keep hbj)
      clear hbj
      go_wp2_with fail
      refine (same_digs _ _ _ _ _ Q v12 X9_12.out X10_12.out).mono ?_
      rintro e v13 ⟨rfl, hbj⟩
      have HB13 := hidk (HB12.out.trans (hbj.mono HB12.out.size))
      clear hbj
      go_wp2
      go_ret
      exact ⟨rfl, HB13.out⟩
    · rw [show chkE l = 100 by unfold chkE; rw [if_neg hr]] at CK
      clear hc h hc0 hm im inn ii hT Hb hin hln hn0 hnl hr
      go_enter Tryd.func3, Tryd.ntmps3
      go_wp2_with fail
      refine BG.out.mono ?_
      rintro e w1 ⟨rfl, rfl⟩
      go_wp2_with fail
      refine CK.out.mono ?_
      rintro e v2 ⟨rfl, hb2⟩
      have HB2 := hidk hb2
      clear hb2
      go_wp2_with fail
      refine (FT.out _).mono ?_
      rintro e v3 ⟨rfl, hbj⟩
      have HB3 := hidk (HB2.out.trans (hbj.mono HB2.out.size))
      clear hbj
      go_wp2
      go_ret
      exact ⟨rfl, HB3.out⟩
  · clear hc h hc0 hm im inn ii hT Hb
    go_enter Tryd.func3, Tryd.ntmps3
    go_wp2_with fail
    refine BG.out.mono ?_
    rintro e w1 ⟨rfl, rfl⟩
    go_wp2_with fail
    refine (FT.out _).mono ?_
    rintro e w2 ⟨rfl, hb2⟩
    go_wp2
    go_ret
    exact ⟨rfl, hb2⟩
end Go.Proofs.YtgclohgcehhfnabDoor
