/- What check.growthMakes answers: what a proof of consistency makes; or it gives up. -/
import Derived.Test.YtehfoeedlchphaaDoorCuts
import Derived.OneCell
namespace Go.Proofs.YtehfoeedlchphaaDoor
open Go.RowKit Sums
set_option linter.unusedVariables false
set_option linter.unusedSimpArgs false

attribute [local go_sem] store_func

theorem results_row_row {P : Program} {fn : Func} {p1 p2 : Tmp} {ty : TypeId} (h : fn.results = #[.cell p1 ty, .cell p2 ty]) (tmps : Array Value) (w : World) (g1 g2 : Nat) (t1 t2 : TypeId) (c1 c2 : Array Value) (f1 f2 : Nat × Nat) (d : TypeDesc)
    (hp1 : tmps.getD p1 undef = .pointer (some ⟨g1, 0, none⟩)) (hp2 : tmps.getD p2 undef = .pointer (some ⟨g2, 0, none⟩)) (h1 : w.heap[g1]? = some (.cells c1 t1 f1)) (h2 : w.heap[g2]? = some (.cells c2 t2 f2))
    (hu : P.underlying ty = some d) (hd : (match d with | .struct _ | .array _ _ => true | _ => false) = true) (hi1 : (P.info? ty).map (·.size) = some c1.size) (hi2 : (P.info? ty).map (·.size) = some c2.size) :
    (results fn tmps).run P w = .ok (.tuple #[.agg c1, .agg c2]) w := by
  have hp1' : tmps[p1]?.getD undef = .pointer (some ⟨g1, 0, none⟩) := by simpa using hp1
  have hp2' : tmps[p2]?.getD undef = .pointer (some ⟨g2, 0, none⟩) := by simpa using hp2
  simp [results, h, hp1', hp2', asAddr, run_loadVar_row w g1 t1 ty c1 f1 d h1 hu hd hi1, run_loadVar_row w g2 t2 ty c2 f2 d h2 hu hd hi2]

set_option maxHeartbeats 4000000 in
/-- Down to the old root, where the proof makes nothing: it gives up. -/
theorem growm_no (r : List (List UInt8)) : ∀ (M N : Nat) (x : List UInt8) (k : Bool) (a : Option Addr) (len cap gl gf : Nat) (w : World) (hM1 : 1 ≤ M) (hMN : M ≤ N) (hN : N ≤ 100000) (hR : LReads w a len cap r.reverse)
    (hF : w.heap[gf]? = some (.cells #[.func (.func 49) #[] #[.pointer (some ⟨gl, 0, none⟩), .pointer (some ⟨gf, 0, none⟩)]] 77 (0, 0))) (hm : (bothR r M N x k).2.2 = false),
    Calls Tryd.prog 49 #[.int .i64 M, .int .i64 N, .bool k, .slice a len cap, .pointer (some ⟨gl, 0, none⟩), .pointer (some ⟨gf, 0, none⟩)] w fun e w' => (∃ u p, e = .panicked [{ v := .iface u p, recovered := false }]) ∧ Below w.heap.size w w' := by
  induction r with
  | nil =>
    intro M N x k a len cap gl gf w hM1 hMN hN hR hF hm
    obtain ⟨Z, HZ, HA, HS, H1, H32⟩ := noughts27
    have hl : len = 0 := by have := hR.1; simpa using this.symm
    subst hl
    have hml : 0 ≤ maxLen := Nat.zero_le _
    by_cases hmn : M = N
    · subst hmn
      obtain rfl : k = false := by simpa [bothR] using hm
      have cq : ((M : Int) == (M : Int)) = true := by simp
      have MU : Hid (∀ W, Calls Tryd.prog 43 #[.int .i64 1, .slice a 0 cap] W fun e w' => (∃ u p, e = .panicked [{ v := .iface u p, recovered := false }]) ∧ w' = W) := fun W => must_no 1 a 0 cap W (by omega) hml
      clear hm hF hR
      go_enter Tryd.func49, Tryd.ntmps49
      go_wp2_with (first
        | (show wpList _ _ _ ({ dst := some 10, op := _, type := _, pos := _, after := _, guard := _ } :: _) _ _; refine wpList_new_var rfl 23 rfl Z HA.out ?_; intro g10 wa HM10; try simp only [Act.put, List.setIfInBounds_toArray, List.set_cons_zero, List.set_cons_succ])
        | (show wpList _ _ _ ({ dst := some 11, op := _, type := _, pos := _, after := _, guard := _ } :: _) _ _; refine wpList_new_var rfl 23 rfl Z HA.out ?_; intro g11 wb HM11; try simp only [Act.put, List.setIfInBounds_toArray, List.set_cons_zero, List.set_cons_succ])
        | fail)
      have HBB := hidk (HM10.out.below.trans (HM11.out.below.mono HM10.out.below.size))
      refine (MU.out _).mono ?_
      rintro e wc ⟨⟨u, q, rfl⟩, rfl⟩
      exact ⟨rfl, ⟨_, _, rfl⟩, HBB.out⟩
    · have cq : ((M : Int) == (N : Int)) = false := by rw [beq_eq_false_iff_ne]; omega
      obtain ⟨s, hs⟩ : ∃ s, s = split N := ⟨_, rfl⟩
      have hsl := split_lt N (by omega)
      have hsp := split_pos N (by omega)
      rw [← hs] at hsl hsp
      have SP : Hid (∀ W, Calls Tryd.prog 44 #[.int .i64 (N : Int)] W fun e w' => e = .returned (.int .i64 (s : Nat)) ∧ W = w') := fun W => by
        have := split_any (N : Int) W (by omega)
        rw [Int.toNat_natCast, ← hs] at this
        exact this
      clear hm hF hR hs
      go_enter Tryd.func49, Tryd.ntmps49
      go_wp2_with (first
        | (show wpList _ _ _ ({ dst := some 10, op := _, type := _, pos := _, after := _, guard := _ } :: _) _ _; refine wpList_new_var rfl 23 rfl Z HA.out ?_; intro g10 wa HM10; try simp only [Act.put, List.setIfInBounds_toArray, List.set_cons_zero, List.set_cons_succ])
        | (show wpList _ _ _ ({ dst := some 11, op := _, type := _, pos := _, after := _, guard := _ } :: _) _ _; refine wpList_new_var rfl 23 rfl Z HA.out ?_; intro g11 wb HM11; try simp only [Act.put, List.setIfInBounds_toArray, List.set_cons_zero, List.set_cons_succ])
        | fail)
      have HBB := hidk (HM10.out.below.trans (HM11.out.below.mono HM10.out.below.size))
      refine (SP.out _).mono ?_
      rintro e wc ⟨rfl, rfl⟩
      go_wp2_with fail
      refine (cut_no _ _ _).mono ?_
      rintro e w3 ⟨⟨u, q, rfl⟩, hb3⟩
      exact ⟨rfl, ⟨_, _, rfl⟩, HBB.out.trans (hb3.mono HBB.out.size)⟩
  | cons d r ih =>
    intro M N x k a len cap gl gf w hM1 hMN hN hR hF hm
    obtain ⟨Z, HZ, HA, HS, H1, H32⟩ := noughts27
    have hlen : r.length + 1 = len := by have := hR.1; simpa using this
    obtain ⟨m, hmm⟩ : ∃ m, m = r.length := ⟨_, rfl⟩
    obtain rfl : len = m + 1 := by omega
    have hml := hR.2.2.2.1
    by_cases hmn : M = N
    · subst hmn
      have cq : ((M : Int) == (M : Int)) = true := by simp
      cases k
      · have h0 : m ≠ 0 := by
          rw [bothR_all] at hm
          intro e
          have : r = [] := List.eq_nil_of_length_eq_zero (by omega)
          subst this
          simp at hm
        have MU : Hid (∀ W, Calls Tryd.prog 43 #[.int .i64 1, .slice a (m + 1) cap] W fun e w' => (∃ u p, e = .panicked [{ v := .iface u p, recovered := false }]) ∧ w' = W) := fun W => must_no 1 a (m + 1) cap W (by omega) hml
        clear hm hF hR ih
        go_enter Tryd.func49, Tryd.ntmps49
        go_wp2_with (first
          | (show wpList _ _ _ ({ dst := some 10, op := _, type := _, pos := _, after := _, guard := _ } :: _) _ _; refine wpList_new_var rfl 23 rfl Z HA.out ?_; intro g10 wa HM10; try simp only [Act.put, List.setIfInBounds_toArray, List.set_cons_zero, List.set_cons_succ])
          | (show wpList _ _ _ ({ dst := some 11, op := _, type := _, pos := _, after := _, guard := _ } :: _) _ _; refine wpList_new_var rfl 23 rfl Z HA.out ?_; intro g11 wb HM11; try simp only [Act.put, List.setIfInBounds_toArray, List.set_cons_zero, List.set_cons_succ])
          | fail)
        have HBB := hidk (HM10.out.below.trans (HM11.out.below.mono HM10.out.below.size))
        refine (MU.out _).mono ?_
        rintro e wc ⟨⟨u, q, rfl⟩, rfl⟩
        exact ⟨rfl, ⟨_, _, rfl⟩, HBB.out⟩
      · have MU : Hid (∀ W, Calls Tryd.prog 43 #[.int .i64 0, .slice a (m + 1) cap] W fun e w' => (∃ u p, e = .panicked [{ v := .iface u p, recovered := false }]) ∧ w' = W) := fun W => must_no 0 a (m + 1) cap W (by omega) hml
        clear hm hF hR ih
        go_enter Tryd.func49, Tryd.ntmps49
        go_wp2_with (first
          | (show wpList _ _ _ ({ dst := some 10, op := _, type := _, pos := _, after := _, guard := _ } :: _) _ _; refine wpList_new_var rfl 23 rfl Z HA.out ?_; intro g10 wa HM10; try simp only [Act.put, List.setIfInBounds_toArray, List.set_cons_zero, List.set_cons_succ])
          | (show wpList _ _ _ ({ dst := some 11, op := _, type := _, pos := _, after := _, guard := _ } :: _) _ _; refine wpList_new_var rfl 23 rfl Z HA.out ?_; intro g11 wb HM11; try simp only [Act.put, List.setIfInBounds_toArray, List.set_cons_zero, List.set_cons_succ])
          | fail)
        have HBB := hidk (HM10.out.below.trans (HM11.out.below.mono HM10.out.below.size))
        refine (MU.out _).mono ?_
        rintro e wc ⟨⟨u, q, rfl⟩, rfl⟩
        exact ⟨rfl, ⟨_, _, rfl⟩, HBB.out⟩
    · have cq : ((M : Int) == (N : Int)) = false := by rw [beq_eq_false_iff_ne]; omega
      obtain ⟨s, hs⟩ : ∃ s, s = split N := ⟨_, rfl⟩
      have hsl := split_lt N (by omega)
      have hsp := split_pos N (by omega)
      rw [← hs] at hsl hsp
      have SP : Hid (∀ W, Calls Tryd.prog 44 #[.int .i64 (N : Int)] W fun e w' => e = .returned (.int .i64 (s : Nat)) ∧ W = w') := fun W => by
        have := split_any (N : Int) W (by omega)
        rw [Int.toNat_natCast, ← hs] at this
        exact this
      obtain ⟨g, o, rfl, hgl⟩ := hR.at (by omega)
      have hRr : (d :: r).reverse = r.reverse ++ [d] := by simp
      have hd : d.length = 32 := hR.2.1 d (by simp)
      obtain ⟨D, HD, HSD, H1D, H32D⟩ := dig_row' d hd
      have HZD : Hid (Z.size = D.size) := by show _ = _; rw [H32.out, H32D.out]
      rw [hRr] at hR
      have CU : Hid (∀ W, Below w.heap.size w W → Calls Tryd.prog 45 #[.slice (some ⟨g, o, none⟩) (m + 1) cap] W fun e w' => e = .returned (.tuple #[.slice (some ⟨g, o, none⟩) m cap, .agg D]) ∧ Below W.heap.size W w') := fun W hb =>
        cut_ok g o m cap r.reverse d W (hR.keep hb) D HD
      have RR : ∀ W, Below w.heap.size w W → LReads W (some ⟨g, o, none⟩) m cap r.reverse := fun W hb => by
        have := (hR.keep hb).take m (by omega)
        rwa [List.take_left' (by simp [hmm])] at this
      have FN : Hid (∀ W, Below w.heap.size w W → W.cell? ⟨gf, 0, none⟩ = some (.func (.func 49) #[] #[.pointer (some ⟨gl, 0, none⟩), .pointer (some ⟨gf, 0, none⟩)])) := fun W hb => cell_of_one ((hb.block _ (heap_lt hF)).trans hF)
      have FH : ∀ W, Below w.heap.size w W → W.heap[gf]? = some (.cells #[.func (.func 49) #[] #[.pointer (some ⟨gl, 0, none⟩), .pointer (some ⟨gf, 0, none⟩)]] 77 (0, 0)) := fun W hb => (hb.block _ (heap_lt hF)).trans hF
      by_cases hle : M ≤ s
      · -- the left part
        cases k
        · skip
          have hm1 : (bothR r M s x false).2.2 = false := by rw [bothR_left d r M N x false hmn (by rw [← hs]; exact hle), ← hs] at hm; exact hm
          have IH : Hid (∀ W, Below w.heap.size w W → Calls Tryd.prog 49 #[.int .i64 (M : Int), .int .i64 (s : Int), .bool false, .slice (some ⟨g, o, none⟩) m cap, .pointer (some ⟨gl, 0, none⟩), .pointer (some ⟨gf, 0, none⟩)] W fun e w' => (∃ u p, e = .panicked [{ v := .iface u p, recovered := false }]) ∧ Below W.heap.size W w') := fun W hb => ih M s x false (some ⟨g, o, none⟩) m cap gl gf W hM1 hle (by omega) (RR W hb) (FH W hb) hm1
          have dl : (decide ((M : Int) ≤ (s : Int))) = true := by rw [decide_eq_true_eq]; omega
          have dl' : (decide (M ≤ s)) = true := by rw [decide_eq_true_eq]; omega
          clear hm hm1 hF hR ih FH RR hs hmm hRr
          go_enter Tryd.func49, Tryd.ntmps49
          go_wp2_with (first
            | (show wpList _ _ _ ({ dst := some 10, op := _, type := _, pos := _, after := _, guard := _ } :: _) _ _; refine wpList_new_var rfl 23 rfl Z HA.out ?_; intro g10 wa HM10; try simp only [Act.put, List.setIfInBounds_toArray, List.set_cons_zero, List.set_cons_succ])
            | (show wpList _ _ _ ({ dst := some 11, op := _, type := _, pos := _, after := _, guard := _ } :: _) _ _; refine wpList_new_var rfl 23 rfl Z HA.out ?_; intro g11 wb HM11; try simp only [Act.put, List.setIfInBounds_toArray, List.set_cons_zero, List.set_cons_succ])
            | fail)
          have HBB := hidk (HM10.out.below.trans (HM11.out.below.mono HM10.out.below.size))
          refine (SP.out _).mono ?_
          rintro e wc ⟨rfl, rfl⟩
          go_wp2_with fail
          refine (CU.out _ HBB.out).mono ?_
          rintro e wd ⟨rfl, hb3⟩
          have HB3 := hidk (HBB.out.trans (hb3.mono HBB.out.size))
          clear hb3 SP CU HBB
          go_wp2_with (first
            | (show wpList _ _ _ ({ dst := some 14, op := _, type := _, pos := _, after := _, guard := _ } :: _) _ _; refine wpList_new_var rfl 23 rfl Z HA.out ?_; intro g14 we HM14; try simp only [Act.put, List.setIfInBounds_toArray, List.set_cons_zero, List.set_cons_succ])
            | (refine wpList_set_var rfl 23 (.tmp 14) (.tmp 46) rfl g14 D rfl rfl 23 Z HM14.out.row HSD.out HZD.out H1D.out ?_; intro wf HW14; have hcf := FN.out _ (HW14.out.below w.heap.size w (HB3.out.trans (HM14.out.below.mono HB3.out.size)) (by rw [HM14.out.new]; exact HB3.out.size)); try simp only [Act.put, List.setIfInBounds_toArray, List.set_cons_zero, List.set_cons_succ])
            | fail)
          have hg14 : w.heap.size ≤ g14 := by rw [HM14.out.new]; exact HB3.out.size
          have HB5 := hidk (HW14.out.below w.heap.size w (HB3.out.trans (HM14.out.below.mono HB3.out.size)) hg14)

          refine (IH.out _ HB5.out).mono ?_
          rintro e wg ⟨⟨u, q, rfl⟩, hb7⟩
          exact ⟨rfl, ⟨_, _, rfl⟩, HB5.out.trans (hb7.mono HB5.out.size)⟩
        · skip
          have hm1 : (bothR r M s x true).2.2 = false := by rw [bothR_left d r M N x true hmn (by rw [← hs]; exact hle), ← hs] at hm; exact hm
          have IH : Hid (∀ W, Below w.heap.size w W → Calls Tryd.prog 49 #[.int .i64 (M : Int), .int .i64 (s : Int), .bool true, .slice (some ⟨g, o, none⟩) m cap, .pointer (some ⟨gl, 0, none⟩), .pointer (some ⟨gf, 0, none⟩)] W fun e w' => (∃ u p, e = .panicked [{ v := .iface u p, recovered := false }]) ∧ Below W.heap.size W w') := fun W hb => ih M s x true (some ⟨g, o, none⟩) m cap gl gf W hM1 hle (by omega) (RR W hb) (FH W hb) hm1
          have dl : (decide ((M : Int) ≤ (s : Int))) = true := by rw [decide_eq_true_eq]; omega
          have dl' : (decide (M ≤ s)) = true := by rw [decide_eq_true_eq]; omega
          clear hm hm1 hF hR ih FH RR hs hmm hRr
          go_enter Tryd.func49, Tryd.ntmps49
          go_wp2_with (first
            | (show wpList _ _ _ ({ dst := some 10, op := _, type := _, pos := _, after := _, guard := _ } :: _) _ _; refine wpList_new_var rfl 23 rfl Z HA.out ?_; intro g10 wa HM10; try simp only [Act.put, List.setIfInBounds_toArray, List.set_cons_zero, List.set_cons_succ])
            | (show wpList _ _ _ ({ dst := some 11, op := _, type := _, pos := _, after := _, guard := _ } :: _) _ _; refine wpList_new_var rfl 23 rfl Z HA.out ?_; intro g11 wb HM11; try simp only [Act.put, List.setIfInBounds_toArray, List.set_cons_zero, List.set_cons_succ])
            | fail)
          have HBB := hidk (HM10.out.below.trans (HM11.out.below.mono HM10.out.below.size))
          refine (SP.out _).mono ?_
          rintro e wc ⟨rfl, rfl⟩
          go_wp2_with fail
          refine (CU.out _ HBB.out).mono ?_
          rintro e wd ⟨rfl, hb3⟩
          have HB3 := hidk (HBB.out.trans (hb3.mono HBB.out.size))
          clear hb3 SP CU HBB
          go_wp2_with (first
            | (show wpList _ _ _ ({ dst := some 14, op := _, type := _, pos := _, after := _, guard := _ } :: _) _ _; refine wpList_new_var rfl 23 rfl Z HA.out ?_; intro g14 we HM14; try simp only [Act.put, List.setIfInBounds_toArray, List.set_cons_zero, List.set_cons_succ])
            | (refine wpList_set_var rfl 23 (.tmp 14) (.tmp 46) rfl g14 D rfl rfl 23 Z HM14.out.row HSD.out HZD.out H1D.out ?_; intro wf HW14; have hcf := FN.out _ (HW14.out.below w.heap.size w (HB3.out.trans (HM14.out.below.mono HB3.out.size)) (by rw [HM14.out.new]; exact HB3.out.size)); try simp only [Act.put, List.setIfInBounds_toArray, List.set_cons_zero, List.set_cons_succ])
            | fail)
          have hg14 : w.heap.size ≤ g14 := by rw [HM14.out.new]; exact HB3.out.size
          have HB5 := hidk (HW14.out.below w.heap.size w (HB3.out.trans (HM14.out.below.mono HB3.out.size)) hg14)

          refine (IH.out _ HB5.out).mono ?_
          rintro e wg ⟨⟨u, q, rfl⟩, hb7⟩
          exact ⟨rfl, ⟨_, _, rfl⟩, HB5.out.trans (hb7.mono HB5.out.size)⟩
      · -- the right part
        have hm1 : (bothR r (M - s) (N - s) x false).2.2 = false := by rw [bothR_right d r M N x k hmn (by rw [← hs]; exact hle), ← hs] at hm; exact hm
        have IH : Hid (∀ W, Below w.heap.size w W → Calls Tryd.prog 49 #[.int .i64 ((M : Int) - (s : Int)), .int .i64 ((N : Int) - (s : Int)), .bool false, .slice (some ⟨g, o, none⟩) m cap, .pointer (some ⟨gl, 0, none⟩), .pointer (some ⟨gf, 0, none⟩)] W fun e w' => (∃ u p, e = .panicked [{ v := .iface u p, recovered := false }]) ∧ Below W.heap.size W w') := fun W hb => by
          rw [show ((M : Int) - (s : Int)) = ((M - s : Nat) : Int) by omega, show ((N : Int) - (s : Int)) = ((N - s : Nat) : Int) by omega]
          exact ih (M - s) (N - s) x false (some ⟨g, o, none⟩) m cap gl gf W (by omega) (by omega) (by omega) (RR W hb) (FH W hb) hm1
        have dl : (decide ((M : Int) ≤ (s : Int))) = false := by rw [decide_eq_false_iff_not]; omega
        have dl' : (decide (M ≤ s)) = false := by rw [decide_eq_false_iff_not]; omega
        have wr1 := wrap_int ((M : Int) - (s : Int)) (by omega) (by omega)
        have wr2 := wrap_int ((N : Int) - (s : Int)) (by omega) (by omega)
        clear hm hm1 hF hR ih FH RR hs hmm hRr
        go_enter Tryd.func49, Tryd.ntmps49
        go_wp2_with (first
          | (show wpList _ _ _ ({ dst := some 10, op := _, type := _, pos := _, after := _, guard := _ } :: _) _ _; refine wpList_new_var rfl 23 rfl Z HA.out ?_; intro g10 wa HM10; try simp only [Act.put, List.setIfInBounds_toArray, List.set_cons_zero, List.set_cons_succ])
          | (show wpList _ _ _ ({ dst := some 11, op := _, type := _, pos := _, after := _, guard := _ } :: _) _ _; refine wpList_new_var rfl 23 rfl Z HA.out ?_; intro g11 wb HM11; try simp only [Act.put, List.setIfInBounds_toArray, List.set_cons_zero, List.set_cons_succ])
          | fail)
        have HBB := hidk (HM10.out.below.trans (HM11.out.below.mono HM10.out.below.size))
        refine (SP.out _).mono ?_
        rintro e wc ⟨rfl, rfl⟩
        go_wp2_with fail
        refine (CU.out _ HBB.out).mono ?_
        rintro e wd ⟨rfl, hb3⟩
        have HB3 := hidk (HBB.out.trans (hb3.mono HBB.out.size))
        clear hb3 SP CU HBB
        go_wp2_with (first
          | (show wpList _ _ _ ({ dst := some 14, op := _, type := _, pos := _, after := _, guard := _ } :: _) _ _; refine wpList_new_var rfl 23 rfl Z HA.out ?_; intro g14 we HM14; try simp only [Act.put, List.setIfInBounds_toArray, List.set_cons_zero, List.set_cons_succ])
          | (refine wpList_set_var rfl 23 (.tmp 14) (.tmp 46) rfl g14 D rfl rfl 23 Z HM14.out.row HSD.out HZD.out H1D.out ?_; intro wf HW14; have hcf := FN.out _ (HW14.out.below w.heap.size w (HB3.out.trans (HM14.out.below.mono HB3.out.size)) (by rw [HM14.out.new]; exact HB3.out.size)); try simp only [Act.put, List.setIfInBounds_toArray, List.set_cons_zero, List.set_cons_succ])
          | fail)
        have hg14 : w.heap.size ≤ g14 := by rw [HM14.out.new]; exact HB3.out.size
        have HB5 := hidk (HW14.out.below w.heap.size w (HB3.out.trans (HM14.out.below.mono HB3.out.size)) hg14)

        refine (IH.out _ HB5.out).mono ?_
        rintro e wg ⟨⟨u, q, rfl⟩, hb7⟩
        exact ⟨rfl, ⟨_, _, rfl⟩, HB5.out.trans (hb7.mono HB5.out.size)⟩
set_option maxHeartbeats 8000000 in
/-- Down to the old root, where the proof makes something. -/
theorem growm_ok (r : List (List UInt8)) : ∀ (M N : Nat) (x : List UInt8) (k : Bool) (a : Option Addr) (len cap gl gf : Nat) (w : World) (X : Array Value) (HX : Hid (X = (cellsOf x).toArray)) (hx : x.length = 32) (hM1 : 1 ≤ M) (hMN : M ≤ N) (hN : N ≤ 100000) (hR : LReads w a len cap r.reverse)
    (hF : w.heap[gf]? = some (.cells #[.func (.func 49) #[] #[.pointer (some ⟨gl, 0, none⟩), .pointer (some ⟨gf, 0, none⟩)]] 77 (0, 0))) (hL : w.heap[gl]? = some (.cells X 23 (0, 0))) (hK : Table 0 w) (hm : (bothR r M N x k).2.2 = true) (M1 : Array Value) (HM1 : Hid (M1 = (cellsOf (bothR r M N x k).1).toArray)) (M2 : Array Value) (HM2 : Hid (M2 = (cellsOf (bothR r M N x k).2.1).toArray)),
    Calls Tryd.prog 49 #[.int .i64 M, .int .i64 N, .bool k, .slice a len cap, .pointer (some ⟨gl, 0, none⟩), .pointer (some ⟨gf, 0, none⟩)] w fun e w' => e = .returned (.tuple #[.agg M1, .agg M2]) ∧ Below w.heap.size w w' := by
  induction r with
  | nil =>
    intro M N x k a len cap gl gf w X HX hx hM1 hMN hN hR hF hL hK hm M1 HM1 M2 HM2
    obtain ⟨Z, HZ, HA, HS, H1, H32⟩ := noughts27
    have hl : len = 0 := by have := hR.1; simpa using this.symm
    subst hl
    obtain ⟨hmn, hk⟩ : M = N ∧ k = true := by simpa [bothR] using hm
    subst hmn hk
    have hl1 : x.length = 32 := hx
    obtain rfl : M1 = X := by rw [HM1.out, HX.out]; rfl
    obtain rfl : M1 = M2 := by rw [HM2.out, HX.out]; rfl
    have HM1 := HX
    have HSM1 : Hid ((Tryd.prog.info? 23).map (·.size) = some M1.size) := by show _ = _; rw [size23, HM1.out]; simp [cellsOf_length, hl1]
    have H1M1 : Hid (M1.all (·.oneCell') = true) := by show _ = _; rw [HM1.out]; exact cellsOf_all _
    have HZM1 : Hid (Z.size = M1.size) := by show _ = _; rw [H32.out, HM1.out]; simp [cellsOf_length, hl1]
    have MU : Hid (∀ W, Calls Tryd.prog 43 #[.int .i64 0, .slice a 0 cap] W fun e w' => e = .returned (.tuple #[]) ∧ w' = W) := fun W => must_ok 0 a 0 cap W rfl (by unfold maxLen; omega)
    have cq : ((M : Int) == (M : Int)) = true := by simp
    have HL := hidk hL
    clear hm hF hR hK HX HM1 HM2 hL
    go_enter Tryd.func49, Tryd.ntmps49
    go_wp2_with (first
      | (show wpList _ _ _ ({ dst := some 10, op := _, type := _, pos := _, after := _, guard := _ } :: _) _ _; refine wpList_new_var rfl 23 rfl Z HA.out ?_; intro g10 wa HM10; try simp only [Act.put, List.setIfInBounds_toArray, List.set_cons_zero, List.set_cons_succ])
      | (show wpList _ _ _ ({ dst := some 11, op := _, type := _, pos := _, after := _, guard := _ } :: _) _ _; refine wpList_new_var rfl 23 rfl Z HA.out ?_; intro g11 wb HM11; try simp only [Act.put, List.setIfInBounds_toArray, List.set_cons_zero, List.set_cons_succ])
      | fail)
    have HBB := hidk (HM10.out.below.trans (HM11.out.below.mono HM10.out.below.size))
    have HK10 := hidk ((HM11.out.below.block _ (heap_lt HM10.out.row)).trans HM10.out.row)
    have h10 : w.heap.size ≤ g10 := Nat.le_of_eq HM10.out.new.symm
    have h11 : g10 < g11 := by rw [HM11.out.new]; exact heap_lt HM10.out.row
    refine (MU.out _).mono ?_
    rintro e wc ⟨rfl, rfl⟩
    have HLB := hidk ((HBB.out.block _ (heap_lt HL.out)).trans HL.out)
    have hgl : gl < w.heap.size := heap_lt HL.out
    have HBZ := HBB
    have HR11 := hidk HM11.out.row
    go_wp2
    refine wp_region_held_drew (S := (fun W => W.heap[gl]? = some (.cells M1 23 (0, 0)))) (by kernel_rfl) HLB.out (fun hHeld => ?_)
    refine wpAnyH_take (i := 0) (oi := { dst := some 27, op := Op.load 23 (Operand.tmp 4), type := 23, pos := "check.go:118", after := #[], guard := none }) (v := .agg M1) rfl (by kernel_rfl) (by kernel_rfl) (by kernel_rfl) (fun _ _ _ h => h) (yieldsIf_row (by rfl) 23 (.tmp 4) rfl gl rfl 23 M1 (0, 0) _ (fun _ h => h) Tryd.underlying23 rfl HSM1.out) hHeld ?_
    try simp only [Act.put, List.setIfInBounds_toArray, List.set_cons_zero, List.set_cons_succ]
    refine wpAnyH_take (i := 1) (oi := { dst := some 28, op := Op.load 23 (Operand.tmp 4), type := 23, pos := "check.go:118", after := #[{ on := 2, ground := Ground.gcOnly Departure.lateStores }], guard := none }) (v := .agg M1) rfl (by kernel_rfl) (by kernel_rfl) (by kernel_rfl) (fun _ _ _ h => h) (yieldsIf_row (by rfl) 23 (.tmp 4) rfl gl rfl 23 M1 (0, 0) _ (fun _ h => h) Tryd.underlying23 rfl HSM1.out) hHeld ?_
    try simp only [Act.put, List.setIfInBounds_toArray, List.set_cons_zero, List.set_cons_succ]
    refine wpAnyH_ready (rs := [2]) (by kernel_rfl) (by simp) ?_
    refine (AllReadyH.cons (o := { dst := none, op := Op.store 23 (Operand.tmp 10) (Operand.tmp 27), type := 0, pos := "check.go:118", after := #[{ on := 0, ground := Ground.data }, { on := 0, ground := Ground.phase }, { on := 1, ground := Ground.textOnly Departure.lateStores }], guard := none }) rfl (fun K hK => ?_) AllReadyH.nil)
    refine step_set_var (by rfl) 23 (.tmp 10) (.tmp 27) rfl g10 M1 rfl rfl 23 Z HK10.out HSM1.out HZM1.out H1M1.out ?_
    intro wx HW10
    refine hK.out _ _ ((HW10.out.other gl (by omega)).trans hHeld) (fun hHeld => ?_)
    clear hK K
    try simp only [Act.put, List.setIfInBounds_toArray, List.set_cons_zero, List.set_cons_succ]
    refine wpAnyH_ready (rs := [3]) (by kernel_rfl) (by simp) ?_
    refine (AllReadyH.cons (o := { dst := none, op := Op.store 23 (Operand.tmp 11) (Operand.tmp 28), type := 0, pos := "check.go:118", after := #[{ on := 1, ground := Ground.data }, { on := 2, ground := Ground.chain }, { on := 0, ground := Ground.phase }, { on := 1, ground := Ground.phase }, { on := 2, ground := Ground.phase }], guard := none }) rfl (fun K hK => ?_) AllReadyH.nil)
    refine step_set_var (by rfl) 23 (.tmp 11) (.tmp 28) rfl g11 M1 rfl rfl 23 Z ((HW10.out.other g11 (by omega)).trans HR11.out) HSM1.out HZM1.out H1M1.out ?_
    intro wy HW11
    refine hK.out _ _ ((HW11.out.other gl (by omega)).trans hHeld) (fun hHeld => ?_)
    clear hK K
    try simp only [Act.put, List.setIfInBounds_toArray, List.set_cons_zero, List.set_cons_succ]
    refine wpAnyH_done (by kernel_rfl) ?_ _
    go_wp2
    refine bodyPost_ret (v := .tuple #[.agg M1, .agg M1]) ?_ rfl ⟨rfl, HW11.out.below w.heap.size w (HW10.out.below w.heap.size w HBZ.out.drew (by omega)) (by omega)⟩
    exact results_row_row (p1 := 10) (p2 := 11) (ty := 23) rfl _ _ g10 g11 23 23 M1 M1 (0, 0) (0, 0) _ rfl rfl ((HW11.out.other g10 (by omega)).trans HW10.out.row) HW11.out.row Tryd.underlying23 rfl HSM1.out HSM1.out
  | cons d r ih =>
    intro M N x k a len cap gl gf w X HX hx hM1 hMN hN hR hF hL hK hm M1 HM1 M2 HM2
    obtain ⟨Z, HZ, HA, HS, H1, H32⟩ := noughts27
    have hlen : r.length + 1 = len := by have := hR.1; simpa using this
    obtain ⟨m, hmm⟩ : ∃ m, m = r.length := ⟨_, rfl⟩
    obtain rfl : len = m + 1 := by omega
    have hml := hR.2.2.2.1
    have hdr : Digs32 r := fun z hz => hR.2.1 z (by simp [hz])
    have hdr' : Digs32 (d :: r) := fun z hz => hR.2.1 z (List.mem_reverse.2 hz)
    by_cases hmn : M = N
    · subst hmn
      have cq : ((M : Int) == (M : Int)) = true := by simp
      cases k
      · rw [bothR_all] at hm HM1 HM2
        have hr0 : r = [] := by simpa using hm
        subst hr0
        obtain rfl : m = 0 := by simpa using hmm
        obtain ⟨g, o, rfl, hgl⟩ := hR.at (by omega)
        have hl1 : d.length = 32 := hdr' d (by simp)
        obtain rfl : M1 = M2 := by rw [HM1.out, HM2.out]
        have HSM1 : Hid ((Tryd.prog.info? 23).map (·.size) = some M1.size) := by show _ = _; rw [size23, HM1.out]; simp [cellsOf_length, hl1]
        have H1M1 : Hid (M1.all (·.oneCell') = true) := by show _ = _; rw [HM1.out]; exact cellsOf_all _
        have HZM1 : Hid (Z.size = M1.size) := by show _ = _; rw [H32.out, HM1.out]; simp [cellsOf_length, hl1]
        have HRG : Hid (w.rangeAt g o M1.toList) := by
          have := hR.range 0 (by simp)
          simp only [Nat.mul_zero, Nat.add_zero] at this
          rw [HM1.out]
          show w.rangeAt g o _
          simpa using this
        have hc1 : 1 ≤ cap := hR.2.2.1
        have idx : ∀ W, (Instr.indexAt 24 (.slice (some ⟨g, o, none⟩) 1 cap) (.int .i64 0)).run Tryd.prog W = .ok (.pointer (some ⟨g, o, none⟩)) W := fun W => by
          have := index_list W g o 1 cap 0 .i64 (by omega)
          simpa using this
        have MU : Hid (∀ W, Calls Tryd.prog 43 #[.int .i64 1, .slice (some ⟨g, o, none⟩) 1 cap] W fun e w' => e = .returned (.tuple #[]) ∧ w' = W) := fun W => must_ok 1 (some ⟨g, o, none⟩) 1 cap W rfl hml
        clear hm hF hR hK HX HM1 HM2 hL ih hmm
        go_enter Tryd.func49, Tryd.ntmps49
        go_wp2_with (first
          | (show wpList _ _ _ ({ dst := some 10, op := _, type := _, pos := _, after := _, guard := _ } :: _) _ _; refine wpList_new_var rfl 23 rfl Z HA.out ?_; intro g10 wa HM10; try simp only [Act.put, List.setIfInBounds_toArray, List.set_cons_zero, List.set_cons_succ])
          | (show wpList _ _ _ ({ dst := some 11, op := _, type := _, pos := _, after := _, guard := _ } :: _) _ _; refine wpList_new_var rfl 23 rfl Z HA.out ?_; intro g11 wb HM11; try simp only [Act.put, List.setIfInBounds_toArray, List.set_cons_zero, List.set_cons_succ])
          | fail)
        have HBB := hidk (HM10.out.below.trans (HM11.out.below.mono HM10.out.below.size))
        have HK10 := hidk ((HM11.out.below.block _ (heap_lt HM10.out.row)).trans HM10.out.row)
        have h10 : w.heap.size ≤ g10 := Nat.le_of_eq HM10.out.new.symm
        have h11 : g10 < g11 := by rw [HM11.out.new]; exact heap_lt HM10.out.row
        refine (MU.out _).mono ?_
        rintro e wc ⟨rfl, rfl⟩
        have HBZ := HBB
        have HR11 := hidk HM11.out.row
        go_wp2
        refine wp_region_held_drew (S := (fun W => W.rangeAt g o M1.toList)) (by kernel_rfl) (range_keep HBB.out.drew HRG.out) (fun hHeld => ?_)
        refine wpAnyH_take (i := 0) (oi := { dst := some 34, op := Op.move (Operand.tmp 3), type := 24, pos := "check.go:122", after := #[], guard := none }) (v := .slice (some ⟨g, o, none⟩) 1 cap) rfl (by kernel_rfl) (by kernel_rfl) (by kernel_rfl) (fun _ _ _ h => h) (Or.inl ⟨by rfl, by intro W hSw; go_simp⟩) hHeld ?_
        try simp only [Act.put, List.setIfInBounds_toArray, List.set_cons_zero, List.set_cons_succ]
        refine wpAnyH_take (i := 1) (oi := { dst := some 35, op := Op.indexAddr 24 (Operand.tmp 34) (Operand.const (Value.int IntKind.i64 0)), type := 0, pos := "check.go:122", after := #[{ on := 0, ground := Ground.data }], guard := none }) (v := .pointer (some ⟨g, o, none⟩)) rfl (by kernel_rfl) (by kernel_rfl) (by kernel_rfl) (fun _ _ _ h => h) (Or.inl ⟨by rfl, by intro W hSw; have := idx W; go_simp⟩) hHeld ?_
        try simp only [Act.put, List.setIfInBounds_toArray, List.set_cons_zero, List.set_cons_succ]
        refine wpAnyH_take (i := 2) (oi := { dst := some 36, op := Op.load 23 (Operand.tmp 35), type := 23, pos := "check.go:122", after := #[{ on := 1, ground := Ground.data }], guard := none }) (v := .agg M1) rfl (by kernel_rfl) (by kernel_rfl) (by kernel_rfl) (fun _ _ _ h => h) (yieldsIf_mid (by rfl) 23 (.tmp 35) rfl g o rfl M1 _ (fun _ h => h) Tryd.underlying23 rfl HSM1.out) hHeld ?_
        try simp only [Act.put, List.setIfInBounds_toArray, List.set_cons_zero, List.set_cons_succ]
        refine wpAnyH_take (i := 3) (oi := { dst := some 37, op := Op.move (Operand.tmp 3), type := 24, pos := "check.go:122", after := #[{ on := 6, ground := Ground.gcOnly Departure.lateStores }], guard := none }) (v := .slice (some ⟨g, o, none⟩) 1 cap) rfl (by kernel_rfl) (by kernel_rfl) (by kernel_rfl) (fun _ _ _ h => h) (Or.inl ⟨by rfl, by intro W hSw; go_simp⟩) hHeld ?_
        try simp only [Act.put, List.setIfInBounds_toArray, List.set_cons_zero, List.set_cons_succ]
        refine wpAnyH_take (i := 4) (oi := { dst := some 38, op := Op.indexAddr 24 (Operand.tmp 37) (Operand.const (Value.int IntKind.i64 0)), type := 0, pos := "check.go:122", after := #[{ on := 3, ground := Ground.data }, { on := 6, ground := Ground.gcOnly Departure.lateStores }], guard := none }) (v := .pointer (some ⟨g, o, none⟩)) rfl (by kernel_rfl) (by kernel_rfl) (by kernel_rfl) (fun _ _ _ h => h) (Or.inl ⟨by rfl, by intro W hSw; have := idx W; go_simp⟩) hHeld ?_
        try simp only [Act.put, List.setIfInBounds_toArray, List.set_cons_zero, List.set_cons_succ]
        refine wpAnyH_take (i := 5) (oi := { dst := some 39, op := Op.load 23 (Operand.tmp 38), type := 23, pos := "check.go:122", after := #[{ on := 4, ground := Ground.data }, { on := 6, ground := Ground.gcOnly Departure.lateStores }], guard := none }) (v := .agg M1) rfl (by kernel_rfl) (by kernel_rfl) (by kernel_rfl) (fun _ _ _ h => h) (yieldsIf_mid (by rfl) 23 (.tmp 38) rfl g o rfl M1 _ (fun _ h => h) Tryd.underlying23 rfl HSM1.out) hHeld ?_
        try simp only [Act.put, List.setIfInBounds_toArray, List.set_cons_zero, List.set_cons_succ]
        refine wpAnyH_ready (rs := [6]) (by kernel_rfl) (by simp) ?_
        refine (AllReadyH.cons (o := { dst := none, op := Op.store 23 (Operand.tmp 10) (Operand.tmp 36), type := 0, pos := "check.go:122", after := #[{ on := 2, ground := Ground.data }, { on := 0, ground := Ground.phase }, { on := 1, ground := Ground.phase }, { on := 2, ground := Ground.phase }, { on := 3, ground := Ground.textOnly Departure.lateStores }, { on := 4, ground := Ground.textOnly Departure.lateStores }, { on := 5, ground := Ground.textOnly Departure.lateStores }], guard := none }) rfl (fun K hK => ?_) AllReadyH.nil)
        refine step_set_var (by rfl) 23 (.tmp 10) (.tmp 36) rfl g10 M1 rfl rfl 23 Z HK10.out HSM1.out HZM1.out H1M1.out ?_
        intro wx HW10
        refine hK.out _ _ (fun j v hj => (World.cell?_of_block (a := ⟨g, o + j, none⟩) (HW10.out.other g (by omega))).trans (hHeld j v hj)) (fun hHeld => ?_)
        clear hK K
        try simp only [Act.put, List.setIfInBounds_toArray, List.set_cons_zero, List.set_cons_succ]
        refine wpAnyH_ready (rs := [7]) (by kernel_rfl) (by simp) ?_
        refine (AllReadyH.cons (o := { dst := none, op := Op.store 23 (Operand.tmp 11) (Operand.tmp 39), type := 0, pos := "check.go:122", after := #[{ on := 5, ground := Ground.data }, { on := 6, ground := Ground.chain }, { on := 0, ground := Ground.phase }, { on := 1, ground := Ground.phase }, { on := 2, ground := Ground.phase }, { on := 3, ground := Ground.phase }, { on := 4, ground := Ground.phase }, { on := 5, ground := Ground.phase }, { on := 6, ground := Ground.phase }], guard := none }) rfl (fun K hK => ?_) AllReadyH.nil)
        refine step_set_var (by rfl) 23 (.tmp 11) (.tmp 39) rfl g11 M1 rfl rfl 23 Z ((HW10.out.other g11 (by omega)).trans HR11.out) HSM1.out HZM1.out H1M1.out ?_
        intro wy HW11
        refine hK.out _ _ (fun j v hj => (World.cell?_of_block (a := ⟨g, o + j, none⟩) (HW11.out.other g (by omega))).trans (hHeld j v hj)) (fun hHeld => ?_)
        clear hK K
        try simp only [Act.put, List.setIfInBounds_toArray, List.set_cons_zero, List.set_cons_succ]
        refine wpAnyH_done (by kernel_rfl) ?_ _
        go_wp2
        refine bodyPost_ret (v := .tuple #[.agg M1, .agg M1]) ?_ rfl ⟨rfl, HW11.out.below w.heap.size w (HW10.out.below w.heap.size w HBZ.out.drew (by omega)) (by omega)⟩
        exact results_row_row (p1 := 10) (p2 := 11) (ty := 23) rfl _ _ g10 g11 23 23 M1 M1 (0, 0) (0, 0) _ rfl rfl ((HW11.out.other g10 (by omega)).trans HW10.out.row) HW11.out.row Tryd.underlying23 rfl HSM1.out HSM1.out
      · rw [bothR_known] at hm
        cases hm
    · have cq : ((M : Int) == (N : Int)) = false := by rw [beq_eq_false_iff_ne]; omega
      have hlt0 := bothR_length sumD_length (d :: r) M N x k hx hdr'
      have hl1 := hlt0.1
      have hl2 := hlt0.2
      have HSM1 : Hid ((Tryd.prog.info? 23).map (·.size) = some M1.size) := by show _ = _; rw [size23, HM1.out]; simp [cellsOf_length, hl1]
      have H1M1 : Hid (M1.all (·.oneCell') = true) := by show _ = _; rw [HM1.out]; exact cellsOf_all _
      have HZM1 : Hid (Z.size = M1.size) := by show _ = _; rw [H32.out, HM1.out]; simp [cellsOf_length, hl1]
      have HSM2 : Hid ((Tryd.prog.info? 23).map (·.size) = some M2.size) := by show _ = _; rw [size23, HM2.out]; simp [cellsOf_length, hl2]
      have H1M2 : Hid (M2.all (·.oneCell') = true) := by show _ = _; rw [HM2.out]; exact cellsOf_all _
      have HZM2 : Hid (Z.size = M2.size) := by show _ = _; rw [H32.out, HM2.out]; simp [cellsOf_length, hl2]
      clear hl1 hl2 hlt0
      obtain ⟨s, hs⟩ : ∃ s, s = split N := ⟨_, rfl⟩
      have hsl := split_lt N (by omega)
      have hsp := split_pos N (by omega)
      rw [← hs] at hsl hsp
      have SP : Hid (∀ W, Calls Tryd.prog 44 #[.int .i64 (N : Int)] W fun e w' => e = .returned (.int .i64 (s : Nat)) ∧ W = w') := fun W => by
        have := split_any (N : Int) W (by omega)
        rw [Int.toNat_natCast, ← hs] at this
        exact this
      obtain ⟨g, o, rfl, hgl⟩ := hR.at (by omega)
      have hRr : (d :: r).reverse = r.reverse ++ [d] := by simp
      have hd : d.length = 32 := hR.2.1 d (by simp)
      obtain ⟨D, HD, HSD, H1D, H32D⟩ := dig_row' d hd
      have HZD : Hid (Z.size = D.size) := by show _ = _; rw [H32.out, H32D.out]
      rw [hRr] at hR
      have CU : Hid (∀ W, Below w.heap.size w W → Calls Tryd.prog 45 #[.slice (some ⟨g, o, none⟩) (m + 1) cap] W fun e w' => e = .returned (.tuple #[.slice (some ⟨g, o, none⟩) m cap, .agg D]) ∧ Below W.heap.size W w') := fun W hb =>
        cut_ok g o m cap r.reverse d W (hR.keep hb) D HD
      have RR : ∀ W, Below w.heap.size w W → LReads W (some ⟨g, o, none⟩) m cap r.reverse := fun W hb => by
        have := (hR.keep hb).take m (by omega)
        rwa [List.take_left' (by simp [hmm])] at this
      have FN : Hid (∀ W, Below w.heap.size w W → W.cell? ⟨gf, 0, none⟩ = some (.func (.func 49) #[] #[.pointer (some ⟨gl, 0, none⟩), .pointer (some ⟨gf, 0, none⟩)])) := fun W hb => cell_of_one ((hb.block _ (heap_lt hF)).trans hF)
      have FH : ∀ W, Below w.heap.size w W → W.heap[gf]? = some (.cells #[.func (.func 49) #[] #[.pointer (some ⟨gl, 0, none⟩), .pointer (some ⟨gf, 0, none⟩)]] 77 (0, 0)) := fun W hb => (hb.block _ (heap_lt hF)).trans hF
      by_cases hle : M ≤ s
      · -- the left part
        cases k
        · skip
          have hlt := bothR_length sumD_length r M s x false hx hdr
          obtain ⟨A1, HA1, HSA1, H1A1, H32A1⟩ := dig_row' (bothR r M s x false).1 hlt.1
          obtain ⟨A2, HA2, HSA2, H1A2, H32A2⟩ := dig_row' (bothR r M s x false).2.1 hlt.2
          have HZA1 : Hid (Z.size = A1.size) := by show _ = _; rw [H32.out, H32A1.out]
          have HZA2 : Hid (Z.size = A2.size) := by show _ = _; rw [H32.out, H32A2.out]
          have hE := bothR_left d r M N x false hmn (by rw [← hs]; exact hle)
          rw [← hs] at hE
          rw [hE] at hm HM1 HM2
          have IH : Hid (∀ W, Below w.heap.size w W → Calls Tryd.prog 49 #[.int .i64 (M : Int), .int .i64 (s : Int), .bool false, .slice (some ⟨g, o, none⟩) m cap, .pointer (some ⟨gl, 0, none⟩), .pointer (some ⟨gf, 0, none⟩)] W fun e w' => e = .returned (.tuple #[.agg A1, .agg A2]) ∧ Below W.heap.size W w') := fun W hb => ih M s x false (some ⟨g, o, none⟩) m cap gl gf W X HX hx (by omega) (by omega) (by omega) (RR W hb) (FH W hb) ((hb.block _ (heap_lt hL)).trans hL) (hK.keep hb) hm A1 HA1 A2 HA2
          have dl : (decide ((M : Int) ≤ (s : Int))) = true := by rw [decide_eq_true_eq]; omega
          have dl' : (decide (M ≤ s)) = true := by rw [decide_eq_true_eq]; omega
          obtain rfl : A1 = M1 := by rw [HM1.out, HA1.out]
          obtain ⟨KK, HKK, HSK, H1K, H64K⟩ := knot_row ((bothR r M s x false).2.1 ++ d) (by rw [List.length_append, hlt.2, hd])
          have BK : Hid (∀ W, (Instr.build 57 #[(0, .agg A2), (1, .agg D)]).run Tryd.prog W = .ok (.agg KK) W) := fun W => build_knot W A2 D KK H32A2.out H32D.out (by rw [HKK.out, HA2.out, HD.out]; simp [cellsOf_append])
          have SU : Hid (∀ W, Below w.heap.size w W → Calls Tryd.prog 46 #[.agg KK] W fun e w' => e = .returned (.agg M2) ∧ Below W.heap.size W w') := fun W hb => sum_any (bothR r M s x false).2.1 d hlt.2 hd W (hK.keep hb) KK HKK M2 HM2
          clear hm hE hF hR ih FH RR hs hmm hRr hK hL HM1 HM2 HKK hlt HD
          go_enter Tryd.func49, Tryd.ntmps49
          go_wp2_with (first
            | (show wpList _ _ _ ({ dst := some 10, op := _, type := _, pos := _, after := _, guard := _ } :: _) _ _; refine wpList_new_var rfl 23 rfl Z HA.out ?_; intro g10 wa HM10; try simp only [Act.put, List.setIfInBounds_toArray, List.set_cons_zero, List.set_cons_succ])
            | (show wpList _ _ _ ({ dst := some 11, op := _, type := _, pos := _, after := _, guard := _ } :: _) _ _; refine wpList_new_var rfl 23 rfl Z HA.out ?_; intro g11 wb HM11; try simp only [Act.put, List.setIfInBounds_toArray, List.set_cons_zero, List.set_cons_succ])
            | fail)
          have HBB := hidk (HM10.out.below.trans (HM11.out.below.mono HM10.out.below.size))
          have HK10 := hidk ((HM11.out.below.block _ (heap_lt HM10.out.row)).trans HM10.out.row)
          have h10 : w.heap.size ≤ g10 := Nat.le_of_eq HM10.out.new.symm
          have h11 : g10 < g11 := by rw [HM11.out.new]; exact heap_lt HM10.out.row
          refine (SP.out _).mono ?_
          rintro e wc ⟨rfl, rfl⟩
          go_wp2_with fail
          refine (CU.out _ HBB.out).mono ?_
          rintro e wd ⟨rfl, hb3⟩
          have HB3 := hidk (HBB.out.trans (hb3.mono HBB.out.size))
          have HR10 := hidk ((hb3.block _ (heap_lt (HK10.out))).trans HK10.out)
          have HR11 := hidk ((hb3.block _ (heap_lt HM11.out.row)).trans HM11.out.row)
          clear hb3 SP CU HBB
          go_wp2_with (first
            | (show wpList _ _ _ ({ dst := some 14, op := _, type := _, pos := _, after := _, guard := _ } :: _) _ _; refine wpList_new_var rfl 23 rfl Z HA.out ?_; intro g14 we HM14; try simp only [Act.put, List.setIfInBounds_toArray, List.set_cons_zero, List.set_cons_succ])
            | (refine wpList_set_var rfl 23 (.tmp 14) (.tmp 46) rfl g14 D rfl rfl 23 Z HM14.out.row HSD.out HZD.out H1D.out ?_; intro wf HW14; have hcf := FN.out _ (HW14.out.below w.heap.size w (HB3.out.trans (HM14.out.below.mono HB3.out.size)) (by rw [HM14.out.new]; exact HB3.out.size)); try simp only [Act.put, List.setIfInBounds_toArray, List.set_cons_zero, List.set_cons_succ])
            | fail)
          have hg14 : w.heap.size ≤ g14 := by rw [HM14.out.new]; exact HB3.out.size
          have HB5 := hidk (HW14.out.below w.heap.size w (HB3.out.trans (HM14.out.below.mono HB3.out.size)) hg14)

          have HR10w := hidk ((HW14.out.other g10 (by have := heap_lt HR10.out; have := HM14.out.new; omega)).trans ((HM14.out.below.block _ (heap_lt HR10.out)).trans HR10.out))
          have HR11w := hidk ((HW14.out.other g11 (by have := heap_lt HR11.out; have := HM14.out.new; omega)).trans ((HM14.out.below.block _ (heap_lt HR11.out)).trans HR11.out))
          have h14 : g11 < g14 := by rw [HM14.out.new]; exact heap_lt HR11.out
          have HR14 := hidk HW14.out.row
          clear HR10 HR11 HM14 HW14 HB3 HK10 HM10 HM11
          refine (IH.out _ HB5.out).mono ?_
          rintro e wg ⟨rfl, hb7⟩
          have HB7 := hidk (HB5.out.trans (hb7.mono HB5.out.size))
          have HR10g := hidk ((hb7.block _ (heap_lt HR10w.out)).trans HR10w.out)
          have HR11g := hidk ((hb7.block _ (heap_lt HR11w.out)).trans HR11w.out)
          have HR14g := hidk ((hb7.block _ (heap_lt HR14.out)).trans HR14.out)
          clear hb7 hcf IH FN HR10w HR11w HR14 HB5
          go_wp2_with (first
            | (show wpList _ _ _ ({ dst := some 15, op := _, type := _, pos := _, after := _, guard := _ } :: _) _ _; refine wpList_new_var rfl 23 rfl Z HA.out ?_; intro ga wh HMa; try simp only [Act.put, List.setIfInBounds_toArray, List.set_cons_zero, List.set_cons_succ])
            | (show wpList _ _ _ ({ dst := some 16, op := _, type := _, pos := _, after := _, guard := _ } :: _) _ _; refine wpList_new_var rfl 23 rfl Z HA.out ?_; intro gb wi HMb; have HKa := hidk ((HMb.out.below.block _ (heap_lt HMa.out.row)).trans HMa.out.row); have hab : ga < gb := by { rw [HMb.out.new]; exact heap_lt HMa.out.row }; try simp only [Act.put, List.setIfInBounds_toArray, List.set_cons_zero, List.set_cons_succ])
            | (refine wpList_set_var rfl 23 (.tmp 15) (.tmp 57) rfl ga A1 rfl rfl 23 Z HKa.out HSA1.out HZA1.out H1A1.out ?_; intro wj HWa; have HKb := hidk ((HWa.out.other gb (by omega)).trans HMb.out.row); try simp only [Act.put, List.setIfInBounds_toArray, List.set_cons_zero, List.set_cons_succ])
            | (refine wpList_set_var rfl 23 (.tmp 16) (.tmp 58) rfl gb A2 rfl rfl 23 Z HKb.out HSA2.out HZA2.out H1A2.out ?_; intro wk HWb; try simp only [Act.put, List.setIfInBounds_toArray, List.set_cons_zero, List.set_cons_succ])
            | fail)
          have hga : wg.heap.size = ga := HMa.out.new.symm
          have hl14 := heap_lt HR14g.out
          have hl10 := heap_lt HR10g.out
          have hl11 := heap_lt HR11g.out
          have HBk := hidk (HWb.out.below wg.heap.size wg (HWa.out.below wg.heap.size wg (HMa.out.below.trans (HMb.out.below.mono HMa.out.below.size)) (by omega)) (by omega))
          have HBX := hidk (HB7.out.trans (HBk.out.mono HB7.out.size))
          have HR10k := hidk ((HBk.out.block _ hl10).trans HR10g.out)
          have HR11k := hidk ((HBk.out.block _ hl11).trans HR11g.out)
          have HR14k := hidk ((HBk.out.block _ hl14).trans HR14g.out)
          have HRa := hidk ((HWb.out.other ga (by omega)).trans HWa.out.row)
          have HRb := hidk HWb.out.row
          have hgb : gb < wk.heap.size := heap_lt HRb.out
          clear HMa HMb HKa HKb HWa HWb HBk HR10g HR11g HR14g HB7
          refine wp_region_held_drew (S := (fun W => W.heap[ga]? = some (.cells A1 23 (0, 0)) ∧ W.heap[gb]? = some (.cells A2 23 (0, 0)) ∧ W.heap[g14]? = some (.cells D 23 (0, 0)))) (by kernel_rfl) ⟨HRa.out, HRb.out, HR14k.out⟩ (fun hHeld => ?_)
          refine wpAnyH_take (i := 0) (oi := { dst := some 59, op := Op.load 23 (Operand.tmp 15), type := 23, pos := "check.go:128", after := #[], guard := none }) (v := .agg A1) rfl (by kernel_rfl) (by kernel_rfl) (by kernel_rfl) (fun _ _ _ h => h) (yieldsIf_row (by rfl) 23 (.tmp 15) rfl ga rfl 23 A1 (0, 0) _ (fun _ h => h.1) Tryd.underlying23 rfl HSA1.out) hHeld ?_
          try simp only [Act.put, List.setIfInBounds_toArray, List.set_cons_zero, List.set_cons_succ]
          refine wpAnyH_take (i := 1) (oi := { dst := some 60, op := Op.load 23 (Operand.tmp 16), type := 23, pos := "check.go:128", after := #[], guard := none }) (v := .agg A2) rfl (by kernel_rfl) (by kernel_rfl) (by kernel_rfl) (fun _ _ _ h => h) (yieldsIf_row (by rfl) 23 (.tmp 16) rfl gb rfl 23 A2 (0, 0) _ (fun _ h => h.2.1) Tryd.underlying23 rfl HSA2.out) hHeld ?_
          try simp only [Act.put, List.setIfInBounds_toArray, List.set_cons_zero, List.set_cons_succ]
          refine wpAnyH_take (i := 2) (oi := { dst := some 61, op := Op.load 23 (Operand.tmp 14), type := 23, pos := "check.go:128", after := #[], guard := none }) (v := .agg D) rfl (by kernel_rfl) (by kernel_rfl) (by kernel_rfl) (fun _ _ _ h => h) (yieldsIf_row (by rfl) 23 (.tmp 14) rfl g14 rfl 23 D (0, 0) _ (fun _ h => h.2.2) Tryd.underlying23 rfl HSD.out) hHeld ?_
          try simp only [Act.put, List.setIfInBounds_toArray, List.set_cons_zero, List.set_cons_succ]
          refine wpAnyH_take (i := 3) (oi := { dst := some 62, op := Op.build 57 #[(0, Operand.tmp 60), (1, Operand.tmp 61)], type := 57, pos := "check.go:128", after := #[{ on := 1, ground := Ground.data }, { on := 2, ground := Ground.data }], guard := none }) (v := .agg KK) rfl (by kernel_rfl) (by kernel_rfl) (by kernel_rfl) (fun _ _ _ h => h) (yieldsIf_build (by rfl) 57 _ rfl #[(0, .agg A2), (1, .agg D)] rfl (.agg KK) BK.out) hHeld ?_
          try simp only [Act.put, List.setIfInBounds_toArray, List.set_cons_zero, List.set_cons_succ]
          refine wpAnyH_ready (rs := [4]) (by kernel_rfl) (by simp) ?_
          refine (AllReadyH.cons (o := { dst := some 63, op := Op.call { callee := Callee.value (Operand.func 46), args := #[Operand.tmp 62], argTypes := #[57] }, type := 23, pos := "check.go:128", after := #[{ on := 3, ground := Ground.data }], guard := none }) rfl (fun K hK => ?_) AllReadyH.nil)
          go_simp
          refine (SU.out _ HBX.out.drew).mono ?_
          rintro e w4 ⟨rfl, hb4⟩
          have HBS := hidk (HBX.out.drew.trans (hb4.mono HBX.out.size))
          have HR10s := hidk ((hb4.block _ (heap_lt HR10k.out)).trans HR10k.out)
          have HR11s := hidk ((hb4.block _ (heap_lt HR11k.out)).trans HR11k.out)
          go_wp2_with fail
          refine hK.out _ _ ⟨(hb4.block _ (heap_lt hHeld.1)).trans hHeld.1, (hb4.block _ (heap_lt hHeld.2.1)).trans hHeld.2.1, (hb4.block _ (heap_lt hHeld.2.2)).trans hHeld.2.2⟩ (fun hHeld => ?_)
          clear hK K
          try simp only [Act.put, List.setIfInBounds_toArray, List.set_cons_zero, List.set_cons_succ]
          refine wpAnyH_ready (rs := [5]) (by kernel_rfl) (by simp) ?_
          refine (AllReadyH.cons (o := { dst := none, op := Op.store 23 (Operand.tmp 10) (Operand.tmp 59), type := 0, pos := "check.go:128", after := #[{ on := 0, ground := Ground.data }, { on := 4, ground := Ground.chain }, { on := 0, ground := Ground.phase }, { on := 1, ground := Ground.textOnly Departure.lateStores }, { on := 2, ground := Ground.textOnly Departure.lateStores }, { on := 3, ground := Ground.textOnly Departure.lateStores }, { on := 4, ground := Ground.textOnly Departure.lateStoresUnsure }], guard := none }) rfl (fun K hK => ?_) AllReadyH.nil)
          refine step_set_var (by rfl) 23 (.tmp 10) (.tmp 59) rfl g10 A1 rfl rfl 23 Z HR10s.out HSA1.out HZA1.out H1A1.out ?_
          intro wx HW10
          refine hK.out _ _ ⟨(HW10.out.other ga (by omega)).trans hHeld.1, (HW10.out.other gb (by omega)).trans hHeld.2.1, (HW10.out.other g14 (by omega)).trans hHeld.2.2⟩ (fun hHeld => ?_)
          clear hK K
          try simp only [Act.put, List.setIfInBounds_toArray, List.set_cons_zero, List.set_cons_succ]
          refine wpAnyH_ready (rs := [6]) (by kernel_rfl) (by simp) ?_
          refine (AllReadyH.cons (o := { dst := none, op := Op.store 23 (Operand.tmp 11) (Operand.tmp 63), type := 0, pos := "check.go:128", after := #[{ on := 4, ground := Ground.data }, { on := 5, ground := Ground.chain }, { on := 0, ground := Ground.phase }, { on := 1, ground := Ground.phase }, { on := 2, ground := Ground.phase }, { on := 3, ground := Ground.phase }, { on := 4, ground := Ground.phase }, { on := 5, ground := Ground.phase }], guard := none }) rfl (fun K hK => ?_) AllReadyH.nil)
          refine step_set_var (by rfl) 23 (.tmp 11) (.tmp 63) rfl g11 M2 rfl rfl 23 Z ((HW10.out.other g11 (by omega)).trans HR11s.out) HSM2.out HZM2.out H1M2.out ?_
          intro wy HW11
          refine hK.out _ _ ⟨(HW11.out.other ga (by omega)).trans hHeld.1, (HW11.out.other gb (by omega)).trans hHeld.2.1, (HW11.out.other g14 (by omega)).trans hHeld.2.2⟩ (fun hHeld => ?_)
          clear hK K
          try simp only [Act.put, List.setIfInBounds_toArray, List.set_cons_zero, List.set_cons_succ]
          refine wpAnyH_done (by kernel_rfl) ?_ _
          go_wp2
          refine bodyPost_ret (v := .tuple #[.agg A1, .agg M2]) ?_ rfl ⟨rfl, HW11.out.below w.heap.size w (HW10.out.below w.heap.size w HBS.out (by omega)) (by omega)⟩
          exact results_row_row (p1 := 10) (p2 := 11) (ty := 23) rfl _ _ g10 g11 23 23 A1 M2 (0, 0) (0, 0) _ rfl rfl ((HW11.out.other g10 (by omega)).trans HW10.out.row) HW11.out.row Tryd.underlying23 rfl HSA1.out HSM2.out
        · skip
          have hlt := bothR_length sumD_length r M s x true hx hdr
          obtain ⟨A1, HA1, HSA1, H1A1, H32A1⟩ := dig_row' (bothR r M s x true).1 hlt.1
          obtain ⟨A2, HA2, HSA2, H1A2, H32A2⟩ := dig_row' (bothR r M s x true).2.1 hlt.2
          have HZA1 : Hid (Z.size = A1.size) := by show _ = _; rw [H32.out, H32A1.out]
          have HZA2 : Hid (Z.size = A2.size) := by show _ = _; rw [H32.out, H32A2.out]
          have hE := bothR_left d r M N x true hmn (by rw [← hs]; exact hle)
          rw [← hs] at hE
          rw [hE] at hm HM1 HM2
          have IH : Hid (∀ W, Below w.heap.size w W → Calls Tryd.prog 49 #[.int .i64 (M : Int), .int .i64 (s : Int), .bool true, .slice (some ⟨g, o, none⟩) m cap, .pointer (some ⟨gl, 0, none⟩), .pointer (some ⟨gf, 0, none⟩)] W fun e w' => e = .returned (.tuple #[.agg A1, .agg A2]) ∧ Below W.heap.size W w') := fun W hb => ih M s x true (some ⟨g, o, none⟩) m cap gl gf W X HX hx (by omega) (by omega) (by omega) (RR W hb) (FH W hb) ((hb.block _ (heap_lt hL)).trans hL) (hK.keep hb) hm A1 HA1 A2 HA2
          have dl : (decide ((M : Int) ≤ (s : Int))) = true := by rw [decide_eq_true_eq]; omega
          have dl' : (decide (M ≤ s)) = true := by rw [decide_eq_true_eq]; omega
          obtain rfl : A1 = M1 := by rw [HM1.out, HA1.out]
          obtain ⟨KK, HKK, HSK, H1K, H64K⟩ := knot_row ((bothR r M s x true).2.1 ++ d) (by rw [List.length_append, hlt.2, hd])
          have BK : Hid (∀ W, (Instr.build 57 #[(0, .agg A2), (1, .agg D)]).run Tryd.prog W = .ok (.agg KK) W) := fun W => build_knot W A2 D KK H32A2.out H32D.out (by rw [HKK.out, HA2.out, HD.out]; simp [cellsOf_append])
          have SU : Hid (∀ W, Below w.heap.size w W → Calls Tryd.prog 46 #[.agg KK] W fun e w' => e = .returned (.agg M2) ∧ Below W.heap.size W w') := fun W hb => sum_any (bothR r M s x true).2.1 d hlt.2 hd W (hK.keep hb) KK HKK M2 HM2
          clear hm hE hF hR ih FH RR hs hmm hRr hK hL HM1 HM2 HKK hlt HD
          go_enter Tryd.func49, Tryd.ntmps49
          go_wp2_with (first
            | (show wpList _ _ _ ({ dst := some 10, op := _, type := _, pos := _, after := _, guard := _ } :: _) _ _; refine wpList_new_var rfl 23 rfl Z HA.out ?_; intro g10 wa HM10; try simp only [Act.put, List.setIfInBounds_toArray, List.set_cons_zero, List.set_cons_succ])
            | (show wpList _ _ _ ({ dst := some 11, op := _, type := _, pos := _, after := _, guard := _ } :: _) _ _; refine wpList_new_var rfl 23 rfl Z HA.out ?_; intro g11 wb HM11; try simp only [Act.put, List.setIfInBounds_toArray, List.set_cons_zero, List.set_cons_succ])
            | fail)
          have HBB := hidk (HM10.out.below.trans (HM11.out.below.mono HM10.out.below.size))
          have HK10 := hidk ((HM11.out.below.block _ (heap_lt HM10.out.row)).trans HM10.out.row)
          have h10 : w.heap.size ≤ g10 := Nat.le_of_eq HM10.out.new.symm
          have h11 : g10 < g11 := by rw [HM11.out.new]; exact heap_lt HM10.out.row
          refine (SP.out _).mono ?_
          rintro e wc ⟨rfl, rfl⟩
          go_wp2_with fail
          refine (CU.out _ HBB.out).mono ?_
          rintro e wd ⟨rfl, hb3⟩
          have HB3 := hidk (HBB.out.trans (hb3.mono HBB.out.size))
          have HR10 := hidk ((hb3.block _ (heap_lt (HK10.out))).trans HK10.out)
          have HR11 := hidk ((hb3.block _ (heap_lt HM11.out.row)).trans HM11.out.row)
          clear hb3 SP CU HBB
          go_wp2_with (first
            | (show wpList _ _ _ ({ dst := some 14, op := _, type := _, pos := _, after := _, guard := _ } :: _) _ _; refine wpList_new_var rfl 23 rfl Z HA.out ?_; intro g14 we HM14; try simp only [Act.put, List.setIfInBounds_toArray, List.set_cons_zero, List.set_cons_succ])
            | (refine wpList_set_var rfl 23 (.tmp 14) (.tmp 46) rfl g14 D rfl rfl 23 Z HM14.out.row HSD.out HZD.out H1D.out ?_; intro wf HW14; have hcf := FN.out _ (HW14.out.below w.heap.size w (HB3.out.trans (HM14.out.below.mono HB3.out.size)) (by rw [HM14.out.new]; exact HB3.out.size)); try simp only [Act.put, List.setIfInBounds_toArray, List.set_cons_zero, List.set_cons_succ])
            | fail)
          have hg14 : w.heap.size ≤ g14 := by rw [HM14.out.new]; exact HB3.out.size
          have HB5 := hidk (HW14.out.below w.heap.size w (HB3.out.trans (HM14.out.below.mono HB3.out.size)) hg14)

          have HR10w := hidk ((HW14.out.other g10 (by have := heap_lt HR10.out; have := HM14.out.new; omega)).trans ((HM14.out.below.block _ (heap_lt HR10.out)).trans HR10.out))
          have HR11w := hidk ((HW14.out.other g11 (by have := heap_lt HR11.out; have := HM14.out.new; omega)).trans ((HM14.out.below.block _ (heap_lt HR11.out)).trans HR11.out))
          have h14 : g11 < g14 := by rw [HM14.out.new]; exact heap_lt HR11.out
          have HR14 := hidk HW14.out.row
          clear HR10 HR11 HM14 HW14 HB3 HK10 HM10 HM11
          refine (IH.out _ HB5.out).mono ?_
          rintro e wg ⟨rfl, hb7⟩
          have HB7 := hidk (HB5.out.trans (hb7.mono HB5.out.size))
          have HR10g := hidk ((hb7.block _ (heap_lt HR10w.out)).trans HR10w.out)
          have HR11g := hidk ((hb7.block _ (heap_lt HR11w.out)).trans HR11w.out)
          have HR14g := hidk ((hb7.block _ (heap_lt HR14.out)).trans HR14.out)
          clear hb7 hcf IH FN HR10w HR11w HR14 HB5
          go_wp2_with (first
            | (show wpList _ _ _ ({ dst := some 15, op := _, type := _, pos := _, after := _, guard := _ } :: _) _ _; refine wpList_new_var rfl 23 rfl Z HA.out ?_; intro ga wh HMa; try simp only [Act.put, List.setIfInBounds_toArray, List.set_cons_zero, List.set_cons_succ])
            | (show wpList _ _ _ ({ dst := some 16, op := _, type := _, pos := _, after := _, guard := _ } :: _) _ _; refine wpList_new_var rfl 23 rfl Z HA.out ?_; intro gb wi HMb; have HKa := hidk ((HMb.out.below.block _ (heap_lt HMa.out.row)).trans HMa.out.row); have hab : ga < gb := by { rw [HMb.out.new]; exact heap_lt HMa.out.row }; try simp only [Act.put, List.setIfInBounds_toArray, List.set_cons_zero, List.set_cons_succ])
            | (refine wpList_set_var rfl 23 (.tmp 15) (.tmp 57) rfl ga A1 rfl rfl 23 Z HKa.out HSA1.out HZA1.out H1A1.out ?_; intro wj HWa; have HKb := hidk ((HWa.out.other gb (by omega)).trans HMb.out.row); try simp only [Act.put, List.setIfInBounds_toArray, List.set_cons_zero, List.set_cons_succ])
            | (refine wpList_set_var rfl 23 (.tmp 16) (.tmp 58) rfl gb A2 rfl rfl 23 Z HKb.out HSA2.out HZA2.out H1A2.out ?_; intro wk HWb; try simp only [Act.put, List.setIfInBounds_toArray, List.set_cons_zero, List.set_cons_succ])
            | fail)
          have hga : wg.heap.size = ga := HMa.out.new.symm
          have hl14 := heap_lt HR14g.out
          have hl10 := heap_lt HR10g.out
          have hl11 := heap_lt HR11g.out
          have HBk := hidk (HWb.out.below wg.heap.size wg (HWa.out.below wg.heap.size wg (HMa.out.below.trans (HMb.out.below.mono HMa.out.below.size)) (by omega)) (by omega))
          have HBX := hidk (HB7.out.trans (HBk.out.mono HB7.out.size))
          have HR10k := hidk ((HBk.out.block _ hl10).trans HR10g.out)
          have HR11k := hidk ((HBk.out.block _ hl11).trans HR11g.out)
          have HR14k := hidk ((HBk.out.block _ hl14).trans HR14g.out)
          have HRa := hidk ((HWb.out.other ga (by omega)).trans HWa.out.row)
          have HRb := hidk HWb.out.row
          have hgb : gb < wk.heap.size := heap_lt HRb.out
          clear HMa HMb HKa HKb HWa HWb HBk HR10g HR11g HR14g HB7
          refine wp_region_held_drew (S := (fun W => W.heap[ga]? = some (.cells A1 23 (0, 0)) ∧ W.heap[gb]? = some (.cells A2 23 (0, 0)) ∧ W.heap[g14]? = some (.cells D 23 (0, 0)))) (by kernel_rfl) ⟨HRa.out, HRb.out, HR14k.out⟩ (fun hHeld => ?_)
          refine wpAnyH_take (i := 0) (oi := { dst := some 59, op := Op.load 23 (Operand.tmp 15), type := 23, pos := "check.go:128", after := #[], guard := none }) (v := .agg A1) rfl (by kernel_rfl) (by kernel_rfl) (by kernel_rfl) (fun _ _ _ h => h) (yieldsIf_row (by rfl) 23 (.tmp 15) rfl ga rfl 23 A1 (0, 0) _ (fun _ h => h.1) Tryd.underlying23 rfl HSA1.out) hHeld ?_
          try simp only [Act.put, List.setIfInBounds_toArray, List.set_cons_zero, List.set_cons_succ]
          refine wpAnyH_take (i := 1) (oi := { dst := some 60, op := Op.load 23 (Operand.tmp 16), type := 23, pos := "check.go:128", after := #[], guard := none }) (v := .agg A2) rfl (by kernel_rfl) (by kernel_rfl) (by kernel_rfl) (fun _ _ _ h => h) (yieldsIf_row (by rfl) 23 (.tmp 16) rfl gb rfl 23 A2 (0, 0) _ (fun _ h => h.2.1) Tryd.underlying23 rfl HSA2.out) hHeld ?_
          try simp only [Act.put, List.setIfInBounds_toArray, List.set_cons_zero, List.set_cons_succ]
          refine wpAnyH_take (i := 2) (oi := { dst := some 61, op := Op.load 23 (Operand.tmp 14), type := 23, pos := "check.go:128", after := #[], guard := none }) (v := .agg D) rfl (by kernel_rfl) (by kernel_rfl) (by kernel_rfl) (fun _ _ _ h => h) (yieldsIf_row (by rfl) 23 (.tmp 14) rfl g14 rfl 23 D (0, 0) _ (fun _ h => h.2.2) Tryd.underlying23 rfl HSD.out) hHeld ?_
          try simp only [Act.put, List.setIfInBounds_toArray, List.set_cons_zero, List.set_cons_succ]
          refine wpAnyH_take (i := 3) (oi := { dst := some 62, op := Op.build 57 #[(0, Operand.tmp 60), (1, Operand.tmp 61)], type := 57, pos := "check.go:128", after := #[{ on := 1, ground := Ground.data }, { on := 2, ground := Ground.data }], guard := none }) (v := .agg KK) rfl (by kernel_rfl) (by kernel_rfl) (by kernel_rfl) (fun _ _ _ h => h) (yieldsIf_build (by rfl) 57 _ rfl #[(0, .agg A2), (1, .agg D)] rfl (.agg KK) BK.out) hHeld ?_
          try simp only [Act.put, List.setIfInBounds_toArray, List.set_cons_zero, List.set_cons_succ]
          refine wpAnyH_ready (rs := [4]) (by kernel_rfl) (by simp) ?_
          refine (AllReadyH.cons (o := { dst := some 63, op := Op.call { callee := Callee.value (Operand.func 46), args := #[Operand.tmp 62], argTypes := #[57] }, type := 23, pos := "check.go:128", after := #[{ on := 3, ground := Ground.data }], guard := none }) rfl (fun K hK => ?_) AllReadyH.nil)
          go_simp
          refine (SU.out _ HBX.out.drew).mono ?_
          rintro e w4 ⟨rfl, hb4⟩
          have HBS := hidk (HBX.out.drew.trans (hb4.mono HBX.out.size))
          have HR10s := hidk ((hb4.block _ (heap_lt HR10k.out)).trans HR10k.out)
          have HR11s := hidk ((hb4.block _ (heap_lt HR11k.out)).trans HR11k.out)
          go_wp2_with fail
          refine hK.out _ _ ⟨(hb4.block _ (heap_lt hHeld.1)).trans hHeld.1, (hb4.block _ (heap_lt hHeld.2.1)).trans hHeld.2.1, (hb4.block _ (heap_lt hHeld.2.2)).trans hHeld.2.2⟩ (fun hHeld => ?_)
          clear hK K
          try simp only [Act.put, List.setIfInBounds_toArray, List.set_cons_zero, List.set_cons_succ]
          refine wpAnyH_ready (rs := [5]) (by kernel_rfl) (by simp) ?_
          refine (AllReadyH.cons (o := { dst := none, op := Op.store 23 (Operand.tmp 10) (Operand.tmp 59), type := 0, pos := "check.go:128", after := #[{ on := 0, ground := Ground.data }, { on := 4, ground := Ground.chain }, { on := 0, ground := Ground.phase }, { on := 1, ground := Ground.textOnly Departure.lateStores }, { on := 2, ground := Ground.textOnly Departure.lateStores }, { on := 3, ground := Ground.textOnly Departure.lateStores }, { on := 4, ground := Ground.textOnly Departure.lateStoresUnsure }], guard := none }) rfl (fun K hK => ?_) AllReadyH.nil)
          refine step_set_var (by rfl) 23 (.tmp 10) (.tmp 59) rfl g10 A1 rfl rfl 23 Z HR10s.out HSA1.out HZA1.out H1A1.out ?_
          intro wx HW10
          refine hK.out _ _ ⟨(HW10.out.other ga (by omega)).trans hHeld.1, (HW10.out.other gb (by omega)).trans hHeld.2.1, (HW10.out.other g14 (by omega)).trans hHeld.2.2⟩ (fun hHeld => ?_)
          clear hK K
          try simp only [Act.put, List.setIfInBounds_toArray, List.set_cons_zero, List.set_cons_succ]
          refine wpAnyH_ready (rs := [6]) (by kernel_rfl) (by simp) ?_
          refine (AllReadyH.cons (o := { dst := none, op := Op.store 23 (Operand.tmp 11) (Operand.tmp 63), type := 0, pos := "check.go:128", after := #[{ on := 4, ground := Ground.data }, { on := 5, ground := Ground.chain }, { on := 0, ground := Ground.phase }, { on := 1, ground := Ground.phase }, { on := 2, ground := Ground.phase }, { on := 3, ground := Ground.phase }, { on := 4, ground := Ground.phase }, { on := 5, ground := Ground.phase }], guard := none }) rfl (fun K hK => ?_) AllReadyH.nil)
          refine step_set_var (by rfl) 23 (.tmp 11) (.tmp 63) rfl g11 M2 rfl rfl 23 Z ((HW10.out.other g11 (by omega)).trans HR11s.out) HSM2.out HZM2.out H1M2.out ?_
          intro wy HW11
          refine hK.out _ _ ⟨(HW11.out.other ga (by omega)).trans hHeld.1, (HW11.out.other gb (by omega)).trans hHeld.2.1, (HW11.out.other g14 (by omega)).trans hHeld.2.2⟩ (fun hHeld => ?_)
          clear hK K
          try simp only [Act.put, List.setIfInBounds_toArray, List.set_cons_zero, List.set_cons_succ]
          refine wpAnyH_done (by kernel_rfl) ?_ _
          go_wp2
          refine bodyPost_ret (v := .tuple #[.agg A1, .agg M2]) ?_ rfl ⟨rfl, HW11.out.below w.heap.size w (HW10.out.below w.heap.size w HBS.out (by omega)) (by omega)⟩
          exact results_row_row (p1 := 10) (p2 := 11) (ty := 23) rfl _ _ g10 g11 23 23 A1 M2 (0, 0) (0, 0) _ rfl rfl ((HW11.out.other g10 (by omega)).trans HW10.out.row) HW11.out.row Tryd.underlying23 rfl HSA1.out HSM2.out
      · -- the right part
        have hlt := bothR_length sumD_length r (M - s) (N - s) x false hx hdr
        obtain ⟨A1, HA1, HSA1, H1A1, H32A1⟩ := dig_row' (bothR r (M - s) (N - s) x false).1 hlt.1
        obtain ⟨A2, HA2, HSA2, H1A2, H32A2⟩ := dig_row' (bothR r (M - s) (N - s) x false).2.1 hlt.2
        have HZA1 : Hid (Z.size = A1.size) := by show _ = _; rw [H32.out, H32A1.out]
        have HZA2 : Hid (Z.size = A2.size) := by show _ = _; rw [H32.out, H32A2.out]
        have hE := bothR_right d r M N x k hmn (by rw [← hs]; exact hle)
        rw [← hs] at hE
        rw [hE] at hm HM1 HM2
        have IH : Hid (∀ W, Below w.heap.size w W → Calls Tryd.prog 49 #[.int .i64 ((M : Int) - (s : Int)), .int .i64 ((N : Int) - (s : Int)), .bool false, .slice (some ⟨g, o, none⟩) m cap, .pointer (some ⟨gl, 0, none⟩), .pointer (some ⟨gf, 0, none⟩)] W fun e w' => e = .returned (.tuple #[.agg A1, .agg A2]) ∧ Below W.heap.size W w') := fun W hb => by
          rw [show ((M : Int) - (s : Int)) = ((M - s : Nat) : Int) by omega, show ((N : Int) - (s : Int)) = ((N - s : Nat) : Int) by omega]
          exact ih (M - s) (N - s) x false (some ⟨g, o, none⟩) m cap gl gf W X HX hx (by omega) (by omega) (by omega) (RR W hb) (FH W hb) ((hb.block _ (heap_lt hL)).trans hL) (hK.keep hb) hm A1 HA1 A2 HA2
        have dl : (decide ((M : Int) ≤ (s : Int))) = false := by rw [decide_eq_false_iff_not]; omega
        have dl' : (decide (M ≤ s)) = false := by rw [decide_eq_false_iff_not]; omega
        have wr1 := wrap_int ((M : Int) - (s : Int)) (by omega) (by omega)
        have wr2 := wrap_int ((N : Int) - (s : Int)) (by omega) (by omega)
        obtain ⟨KK1, HKK1, HSK1, H1K1, H64K1⟩ := knot_row (d ++ (bothR r (M - s) (N - s) x false).1) (by rw [List.length_append, hlt.1, hd])
        obtain ⟨KK, HKK, HSK, H1K, H64K⟩ := knot_row (d ++ (bothR r (M - s) (N - s) x false).2.1) (by rw [List.length_append, hlt.2, hd])
        have BK1 : Hid (∀ W, (Instr.build 57 #[(0, .agg D), (1, .agg A1)]).run Tryd.prog W = .ok (.agg KK1) W) := fun W => build_knot W D A1 KK1 H32D.out H32A1.out (by rw [HKK1.out, HA1.out, HD.out]; simp [cellsOf_append])
        have BK : Hid (∀ W, (Instr.build 57 #[(0, .agg D), (1, .agg A2)]).run Tryd.prog W = .ok (.agg KK) W) := fun W => build_knot W D A2 KK H32D.out H32A2.out (by rw [HKK.out, HA2.out, HD.out]; simp [cellsOf_append])
        have SU1 : Hid (∀ W, Below w.heap.size w W → Calls Tryd.prog 46 #[.agg KK1] W fun e w' => e = .returned (.agg M1) ∧ Below W.heap.size W w') := fun W hb => sum_any d (bothR r (M - s) (N - s) x false).1 hd hlt.1 W (hK.keep hb) KK1 HKK1 M1 HM1
        have SU : Hid (∀ W, Below w.heap.size w W → Calls Tryd.prog 46 #[.agg KK] W fun e w' => e = .returned (.agg M2) ∧ Below W.heap.size W w') := fun W hb => sum_any d (bothR r (M - s) (N - s) x false).2.1 hd hlt.2 W (hK.keep hb) KK HKK M2 HM2
        clear hm hE hF hR ih FH RR hs hmm hRr hK hL HM1 HM2 HKK hlt HD HKK1
        go_enter Tryd.func49, Tryd.ntmps49
        go_wp2_with (first
          | (show wpList _ _ _ ({ dst := some 10, op := _, type := _, pos := _, after := _, guard := _ } :: _) _ _; refine wpList_new_var rfl 23 rfl Z HA.out ?_; intro g10 wa HM10; try simp only [Act.put, List.setIfInBounds_toArray, List.set_cons_zero, List.set_cons_succ])
          | (show wpList _ _ _ ({ dst := some 11, op := _, type := _, pos := _, after := _, guard := _ } :: _) _ _; refine wpList_new_var rfl 23 rfl Z HA.out ?_; intro g11 wb HM11; try simp only [Act.put, List.setIfInBounds_toArray, List.set_cons_zero, List.set_cons_succ])
          | fail)
        have HBB := hidk (HM10.out.below.trans (HM11.out.below.mono HM10.out.below.size))
        have HK10 := hidk ((HM11.out.below.block _ (heap_lt HM10.out.row)).trans HM10.out.row)
        have h10 : w.heap.size ≤ g10 := Nat.le_of_eq HM10.out.new.symm
        have h11 : g10 < g11 := by rw [HM11.out.new]; exact heap_lt HM10.out.row
        refine (SP.out _).mono ?_
        rintro e wc ⟨rfl, rfl⟩
        go_wp2_with fail
        refine (CU.out _ HBB.out).mono ?_
        rintro e wd ⟨rfl, hb3⟩
        have HB3 := hidk (HBB.out.trans (hb3.mono HBB.out.size))
        have HR10 := hidk ((hb3.block _ (heap_lt (HK10.out))).trans HK10.out)
        have HR11 := hidk ((hb3.block _ (heap_lt HM11.out.row)).trans HM11.out.row)
        clear hb3 SP CU HBB
        go_wp2_with (first
          | (show wpList _ _ _ ({ dst := some 14, op := _, type := _, pos := _, after := _, guard := _ } :: _) _ _; refine wpList_new_var rfl 23 rfl Z HA.out ?_; intro g14 we HM14; try simp only [Act.put, List.setIfInBounds_toArray, List.set_cons_zero, List.set_cons_succ])
          | (refine wpList_set_var rfl 23 (.tmp 14) (.tmp 46) rfl g14 D rfl rfl 23 Z HM14.out.row HSD.out HZD.out H1D.out ?_; intro wf HW14; have hcf := FN.out _ (HW14.out.below w.heap.size w (HB3.out.trans (HM14.out.below.mono HB3.out.size)) (by rw [HM14.out.new]; exact HB3.out.size)); try simp only [Act.put, List.setIfInBounds_toArray, List.set_cons_zero, List.set_cons_succ])
          | fail)
        have hg14 : w.heap.size ≤ g14 := by rw [HM14.out.new]; exact HB3.out.size
        have HB5 := hidk (HW14.out.below w.heap.size w (HB3.out.trans (HM14.out.below.mono HB3.out.size)) hg14)

        have HR10w := hidk ((HW14.out.other g10 (by have := heap_lt HR10.out; have := HM14.out.new; omega)).trans ((HM14.out.below.block _ (heap_lt HR10.out)).trans HR10.out))
        have HR11w := hidk ((HW14.out.other g11 (by have := heap_lt HR11.out; have := HM14.out.new; omega)).trans ((HM14.out.below.block _ (heap_lt HR11.out)).trans HR11.out))
        have h14 : g11 < g14 := by rw [HM14.out.new]; exact heap_lt HR11.out
        have HR14 := hidk HW14.out.row
        clear HR10 HR11 HM14 HW14 HB3 HK10 HM10 HM11
        refine (IH.out _ HB5.out).mono ?_
        rintro e wg ⟨rfl, hb7⟩
        have HB7 := hidk (HB5.out.trans (hb7.mono HB5.out.size))
        have HR10g := hidk ((hb7.block _ (heap_lt HR10w.out)).trans HR10w.out)
        have HR11g := hidk ((hb7.block _ (heap_lt HR11w.out)).trans HR11w.out)
        have HR14g := hidk ((hb7.block _ (heap_lt HR14.out)).trans HR14.out)
        clear hb7 hcf IH FN HR10w HR11w HR14 HB5
        go_wp2_with (first
          | (show wpList _ _ _ ({ dst := some 17, op := _, type := _, pos := _, after := _, guard := _ } :: _) _ _; refine wpList_new_var rfl 23 rfl Z HA.out ?_; intro ga wh HMa; try simp only [Act.put, List.setIfInBounds_toArray, List.set_cons_zero, List.set_cons_succ])
          | (show wpList _ _ _ ({ dst := some 18, op := _, type := _, pos := _, after := _, guard := _ } :: _) _ _; refine wpList_new_var rfl 23 rfl Z HA.out ?_; intro gb wi HMb; have HKa := hidk ((HMb.out.below.block _ (heap_lt HMa.out.row)).trans HMa.out.row); have hab : ga < gb := by { rw [HMb.out.new]; exact heap_lt HMa.out.row }; try simp only [Act.put, List.setIfInBounds_toArray, List.set_cons_zero, List.set_cons_succ])
          | (refine wpList_set_var rfl 23 (.tmp 17) (.tmp 74) rfl ga A1 rfl rfl 23 Z HKa.out HSA1.out HZA1.out H1A1.out ?_; intro wj HWa; have HKb := hidk ((HWa.out.other gb (by omega)).trans HMb.out.row); try simp only [Act.put, List.setIfInBounds_toArray, List.set_cons_zero, List.set_cons_succ])
          | (refine wpList_set_var rfl 23 (.tmp 18) (.tmp 75) rfl gb A2 rfl rfl 23 Z HKb.out HSA2.out HZA2.out H1A2.out ?_; intro wk HWb; try simp only [Act.put, List.setIfInBounds_toArray, List.set_cons_zero, List.set_cons_succ])
          | fail)
        have hga : wg.heap.size = ga := HMa.out.new.symm
        have hl14 := heap_lt HR14g.out
        have hl10 := heap_lt HR10g.out
        have hl11 := heap_lt HR11g.out
        have HBk := hidk (HWb.out.below wg.heap.size wg (HWa.out.below wg.heap.size wg (HMa.out.below.trans (HMb.out.below.mono HMa.out.below.size)) (by omega)) (by omega))
        have HBX := hidk (HB7.out.trans (HBk.out.mono HB7.out.size))
        have HR10k := hidk ((HBk.out.block _ hl10).trans HR10g.out)
        have HR11k := hidk ((HBk.out.block _ hl11).trans HR11g.out)
        have HR14k := hidk ((HBk.out.block _ hl14).trans HR14g.out)
        have HRa := hidk ((HWb.out.other ga (by omega)).trans HWa.out.row)
        have HRb := hidk HWb.out.row
        have hgb : gb < wk.heap.size := heap_lt HRb.out
        clear HMa HMb HKa HKb HWa HWb HBk HR10g HR11g HR14g HB7
        refine wp_region_held_drew (S := (fun W => W.heap[ga]? = some (.cells A1 23 (0, 0)) ∧ W.heap[gb]? = some (.cells A2 23 (0, 0)) ∧ W.heap[g14]? = some (.cells D 23 (0, 0)))) (by kernel_rfl) ⟨HRa.out, HRb.out, HR14k.out⟩ (fun hHeld => ?_)
        refine wpAnyH_take (i := 0) (oi := { dst := some 76, op := Op.load 23 (Operand.tmp 14), type := 23, pos := "check.go:131", after := #[], guard := none }) (v := .agg D) rfl (by kernel_rfl) (by kernel_rfl) (by kernel_rfl) (fun _ _ _ h => h) (yieldsIf_row (by rfl) 23 (.tmp 14) rfl g14 rfl 23 D (0, 0) _ (fun _ h => h.2.2) Tryd.underlying23 rfl HSD.out) hHeld ?_
        try simp only [Act.put, List.setIfInBounds_toArray, List.set_cons_zero, List.set_cons_succ]
        refine wpAnyH_take (i := 1) (oi := { dst := some 77, op := Op.load 23 (Operand.tmp 17), type := 23, pos := "check.go:131", after := #[], guard := none }) (v := .agg A1) rfl (by kernel_rfl) (by kernel_rfl) (by kernel_rfl) (fun _ _ _ h => h) (yieldsIf_row (by rfl) 23 (.tmp 17) rfl ga rfl 23 A1 (0, 0) _ (fun _ h => h.1) Tryd.underlying23 rfl HSA1.out) hHeld ?_
        try simp only [Act.put, List.setIfInBounds_toArray, List.set_cons_zero, List.set_cons_succ]
        refine wpAnyH_take (i := 2) (oi := { dst := some 78, op := Op.build 57 #[(0, Operand.tmp 76), (1, Operand.tmp 77)], type := 57, pos := "check.go:131", after := #[{ on := 0, ground := Ground.data }, { on := 1, ground := Ground.data }], guard := none }) (v := .agg KK1) rfl (by kernel_rfl) (by kernel_rfl) (by kernel_rfl) (fun _ _ _ h => h) (yieldsIf_build (by rfl) 57 _ rfl #[(0, .agg D), (1, .agg A1)] rfl (.agg KK1) BK1.out) hHeld ?_
        try simp only [Act.put, List.setIfInBounds_toArray, List.set_cons_zero, List.set_cons_succ]
        refine wpAnyH_take (i := 4) (oi := { dst := some 80, op := Op.load 23 (Operand.tmp 14), type := 23, pos := "check.go:131", after := #[], guard := none }) (v := .agg D) rfl (by kernel_rfl) (by kernel_rfl) (by kernel_rfl) (fun _ _ _ h => h) (yieldsIf_row (by rfl) 23 (.tmp 14) rfl g14 rfl 23 D (0, 0) _ (fun _ h => h.2.2) Tryd.underlying23 rfl HSD.out) hHeld ?_
        try simp only [Act.put, List.setIfInBounds_toArray, List.set_cons_zero, List.set_cons_succ]
        refine wpAnyH_take (i := 5) (oi := { dst := some 81, op := Op.load 23 (Operand.tmp 18), type := 23, pos := "check.go:131", after := #[], guard := none }) (v := .agg A2) rfl (by kernel_rfl) (by kernel_rfl) (by kernel_rfl) (fun _ _ _ h => h) (yieldsIf_row (by rfl) 23 (.tmp 18) rfl gb rfl 23 A2 (0, 0) _ (fun _ h => h.2.1) Tryd.underlying23 rfl HSA2.out) hHeld ?_
        try simp only [Act.put, List.setIfInBounds_toArray, List.set_cons_zero, List.set_cons_succ]
        refine wpAnyH_take (i := 6) (oi := { dst := some 82, op := Op.build 57 #[(0, Operand.tmp 80), (1, Operand.tmp 81)], type := 57, pos := "check.go:131", after := #[{ on := 4, ground := Ground.data }, { on := 5, ground := Ground.data }], guard := none }) (v := .agg KK) rfl (by kernel_rfl) (by kernel_rfl) (by kernel_rfl) (fun _ _ _ h => h) (yieldsIf_build (by rfl) 57 _ rfl #[(0, .agg D), (1, .agg A2)] rfl (.agg KK) BK.out) hHeld ?_
        try simp only [Act.put, List.setIfInBounds_toArray, List.set_cons_zero, List.set_cons_succ]
        refine wpAnyH_ready (rs := [3]) (by kernel_rfl) (by simp) ?_
        refine (AllReadyH.cons (o := { dst := some 79, op := Op.call { callee := Callee.value (Operand.func 46), args := #[Operand.tmp 78], argTypes := #[57] }, type := 23, pos := "check.go:131", after := #[{ on := 2, ground := Ground.data }], guard := none }) rfl (fun K hK => ?_) AllReadyH.nil)
        go_simp
        refine (SU1.out _ HBX.out.drew).mono ?_
        rintro e w3 ⟨rfl, hb4⟩
        have HBS1 := hidk (HBX.out.drew.trans (hb4.mono HBX.out.size))
        have HR10t := hidk ((hb4.block _ (heap_lt HR10k.out)).trans HR10k.out)
        have HR11t := hidk ((hb4.block _ (heap_lt HR11k.out)).trans HR11k.out)
        go_wp2_with fail
        refine hK.out _ _ ⟨(hb4.block _ (heap_lt hHeld.1)).trans hHeld.1, (hb4.block _ (heap_lt hHeld.2.1)).trans hHeld.2.1, (hb4.block _ (heap_lt hHeld.2.2)).trans hHeld.2.2⟩ (fun hHeld => ?_)
        clear hK K
        try simp only [Act.put, List.setIfInBounds_toArray, List.set_cons_zero, List.set_cons_succ]
        refine wpAnyH_ready (rs := [7]) (by kernel_rfl) (by simp) ?_
        refine (AllReadyH.cons (o := { dst := some 83, op := Op.call { callee := Callee.value (Operand.func 46), args := #[Operand.tmp 82], argTypes := #[57] }, type := 23, pos := "check.go:131", after := #[{ on := 6, ground := Ground.data }, { on := 3, ground := Ground.chain }], guard := none }) rfl (fun K hK => ?_) AllReadyH.nil)
        go_simp
        refine (SU.out _ HBS1.out).mono ?_
        rintro e w7 ⟨rfl, hb5⟩
        have HBS := hidk (HBS1.out.trans (hb5.mono HBS1.out.size))
        have HR10s := hidk ((hb5.block _ (heap_lt HR10t.out)).trans HR10t.out)
        have HR11s := hidk ((hb5.block _ (heap_lt HR11t.out)).trans HR11t.out)
        go_wp2_with fail
        refine hK.out _ _ ⟨(hb5.block _ (heap_lt hHeld.1)).trans hHeld.1, (hb5.block _ (heap_lt hHeld.2.1)).trans hHeld.2.1, (hb5.block _ (heap_lt hHeld.2.2)).trans hHeld.2.2⟩ (fun hHeld => ?_)
        clear hK K
        try simp only [Act.put, List.setIfInBounds_toArray, List.set_cons_zero, List.set_cons_succ]
        refine wpAnyH_ready (rs := [8]) (by kernel_rfl) (by simp) ?_
        refine (AllReadyH.cons (o := { dst := none, op := Op.store 23 (Operand.tmp 10) (Operand.tmp 79), type := 0, pos := "check.go:131", after := #[{ on := 3, ground := Ground.data }, { on := 7, ground := Ground.chain }, { on := 0, ground := Ground.phase }, { on := 1, ground := Ground.phase }, { on := 2, ground := Ground.phase }, { on := 3, ground := Ground.phase }, { on := 4, ground := Ground.textOnly Departure.lateStores }, { on := 5, ground := Ground.textOnly Departure.lateStores }, { on := 6, ground := Ground.textOnly Departure.lateStores }, { on := 7, ground := Ground.textOnly Departure.lateStoresUnsure }], guard := none }) rfl (fun K hK => ?_) AllReadyH.nil)
        refine step_set_var (by rfl) 23 (.tmp 10) (.tmp 79) rfl g10 M1 rfl rfl 23 Z HR10s.out HSM1.out HZM1.out H1M1.out ?_
        intro wx HW10
        refine hK.out _ _ ⟨(HW10.out.other ga (by omega)).trans hHeld.1, (HW10.out.other gb (by omega)).trans hHeld.2.1, (HW10.out.other g14 (by omega)).trans hHeld.2.2⟩ (fun hHeld => ?_)
        clear hK K
        try simp only [Act.put, List.setIfInBounds_toArray, List.set_cons_zero, List.set_cons_succ]
        refine wpAnyH_ready (rs := [9]) (by kernel_rfl) (by simp) ?_
        refine (AllReadyH.cons (o := { dst := none, op := Op.store 23 (Operand.tmp 11) (Operand.tmp 83), type := 0, pos := "check.go:131", after := #[{ on := 7, ground := Ground.data }, { on := 8, ground := Ground.chain }, { on := 0, ground := Ground.phase }, { on := 1, ground := Ground.phase }, { on := 2, ground := Ground.phase }, { on := 3, ground := Ground.phase }, { on := 4, ground := Ground.phase }, { on := 5, ground := Ground.phase }, { on := 6, ground := Ground.phase }, { on := 7, ground := Ground.phase }, { on := 8, ground := Ground.phase }], guard := none }) rfl (fun K hK => ?_) AllReadyH.nil)
        refine step_set_var (by rfl) 23 (.tmp 11) (.tmp 83) rfl g11 M2 rfl rfl 23 Z ((HW10.out.other g11 (by omega)).trans HR11s.out) HSM2.out HZM2.out H1M2.out ?_
        intro wy HW11
        refine hK.out _ _ ⟨(HW11.out.other ga (by omega)).trans hHeld.1, (HW11.out.other gb (by omega)).trans hHeld.2.1, (HW11.out.other g14 (by omega)).trans hHeld.2.2⟩ (fun hHeld => ?_)
        clear hK K
        try simp only [Act.put, List.setIfInBounds_toArray, List.set_cons_zero, List.set_cons_succ]
        refine wpAnyH_done (by kernel_rfl) ?_ _
        go_wp2
        refine bodyPost_ret (v := .tuple #[.agg M1, .agg M2]) ?_ rfl ⟨rfl, HW11.out.below w.heap.size w (HW10.out.below w.heap.size w HBS.out (by omega)) (by omega)⟩
        exact results_row_row (p1 := 10) (p2 := 11) (ty := 23) rfl _ _ g10 g11 23 23 M1 M2 (0, 0) (0, 0) _ rfl rfl ((HW11.out.other g10 (by omega)).trans HW10.out.row) HW11.out.row Tryd.underlying23 rfl HSM1.out HSM2.out
end Go.Proofs.YtehfoeedlchphaaDoor
