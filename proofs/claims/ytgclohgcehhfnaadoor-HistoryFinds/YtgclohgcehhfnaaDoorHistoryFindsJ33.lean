/- Texts of our own that the row of HistoryFinds leans on, part 33. -/
import Derived.Test.YtgclohgcehhfnaaDoorHistoryFindsJ26
import Derived.OneCell

/- What check.growthMakes answers: what a proof of consistency makes; or it gives up. -/
namespace Go.Proofs.YtgclohgcehhfnaaDoor.P5
open Go.RowKit Sums
set_option maxRecDepth 100000
set_option linter.unusedVariables false
set_option linter.unusedSimpArgs false

attribute [local go_sem] store_func
theorem results_row_row {P : Program} {fn : Func} {p1 p2 : Tmp} {ty : TypeId} (h : fn.results = #[.cell p1 ty, .cell p2 ty]) (tmps : Array Value) (w : World) (g1 g2 : Nat) (t1 t2 : TypeId) (c1 c2 : Array Value) (f1 f2 : Nat × Nat) (d : TypeDesc)
    (hp1 : tmps.getD p1 undef = .pointer (some ⟨g1, 0, none⟩)) (hp2 : tmps.getD p2 undef = .pointer (some ⟨g2, 0, none⟩)) (h1 : w.heap[g1]? = some (.cells c1 t1 f1)) (h2 : w.heap[g2]? = some (.cells c2 t2 f2))
    (hu : P.underlying ty = some d) (hd : (match d with | .struct _ | .array _ _ => true | _ => false) = true) (hi1 : (P.info? ty).map (·.size) = some c1.size) (hi2 : (P.info? ty).map (·.size) = some c2.size) :
    (results fn tmps).run P w = .ok (.tuple #[.agg c1, .agg c2]) w := by
  have hp1' : tmps[p1]?.getD undef = .pointer (some ⟨g1, 0, none⟩) := by simpa using hp1
  have hp2' : tmps[p2]?.getD undef = .pointer (some ⟨g2, 0, none⟩) := by simpa using hp2
  simp [results, h, hp1', hp2', asAddr, run_loadVar_row w g1 t1 ty c1 f1 d h1 hu hd hi1, run_loadVar_row w g2 t2 ty c2 f2 d h2 hu hd hi2]
set_option maxHeartbeats 4000000 in
/-- Down to the old root, where the proof makes nothing: it gives up. -/
theorem growm_no (r : List (List UInt8)) : ∀ (M N : Nat) (x : List UInt8) (k : Bool) (a : Option Addr) (len cap gl gf : Nat) (w : World) (hM1 : 1 ≤ M) (hMN : M ≤ N) (hN : N ≤ 100000) (hR : LReads w a len cap r.reverse)
    (hF : w.heap[gf]? = some (.cells #[.func (.func 79) #[] #[.pointer (some ⟨gl, 0, none⟩), .pointer (some ⟨gf, 0, none⟩)]] 113 (0, 0))) (hm : (bothR r M N x k).2.2 = false),
    Calls Tryd.prog 79 #[.int .i64 M, .int .i64 N, .bool k, .slice a len cap, .pointer (some ⟨gl, 0, none⟩), .pointer (some ⟨gf, 0, none⟩)] w fun e w' => (∃ u p, e = .panicked [{ v := .iface u p, recovered := false }]) ∧ Below w.heap.size w w' := by
  induction r with
  | nil =>
    intro M N x k a len cap gl gf w hM1 hMN hN hR hF hm
    obtain ⟨Z, HZ, HA, HS, H1, H32⟩ := noughts27
    have hl : len = 0 := by have := hR.1; simpa using this.symm
    subst hl
    have hml : 0 ≤ maxLen := Nat.zero_le _
    by_cases hmn : M = N
    · subst hmn
      obtain rfl : k = false := by simpa [bothR] using hm
      have cq : ((M : Int) == (M : Int)) = true := by simp
      have MU : Hid (∀ W, Calls Tryd.prog 75 #[.int .i64 1, .slice a 0 cap] W fun e w' => (∃ u p, e = .panicked [{ v := .iface u p, recovered := false }]) ∧ w' = W) := fun W => must_no 1 a 0 cap W (by omega) hml
      clear hm hF hR
      go_enter Tryd.func79, Tryd.ntmps79
      go_wp2_with (first
        | (show wpList _ _ _ ({ dst := some 10, op := _, type := _, pos := _, after := _, guard := _ } :: _) _ _; refine wpList_new_var rfl 26 rfl Z HA.out ?_; intro g10 wa HM10; try simp only [Act.put, List.setIfInBounds_toArray, List.set_cons_zero, List.set_cons_succ])
        | (show wpList _ _ _ ({ dst := some 11, op := _, type := _, pos := _, after := _, guard := _ } :: _) _ _; refine wpList_new_var rfl 26 rfl Z HA.out ?_; intro g11 wb HM11; try simp only [Act.put, List.setIfInBounds_toArray, List.set_cons_zero, List.set_cons_succ])
        | fail)
      have HBB := hidk (HM10.out.below.trans (HM11.out.below.mono HM10.out.below.size))
      refine (MU.out _).mono ?_
      rintro e wc ⟨⟨u, q, rfl⟩, rfl⟩
      exact ⟨rfl, ⟨_, _, rfl⟩, HBB.out⟩
    · have cq : ((M : Int) == (N : Int)) = false := by rw [beq_eq_false_iff_ne]; omega
      obtain ⟨s, hs⟩ : ∃ s, s = split N := ⟨_, rfl⟩
      have hsl := split_lt N (by omega)
      have hsp := split_pos N (by omega)
      rw [← hs] at hsl hsp
      have SP : Hid (∀ W, Calls Tryd.prog 76 #[.int .i64 (N : Int)] W fun e w' => e = .returned (.int .i64 (s : Nat)) ∧ W = w') := fun W => by
        have := split_any (N : Int) W (by omega)
        rw [Int.toNat_natCast, ← hs] at this
        exact this
      clear hm hF hR hs
      go_enter Tryd.func79, Tryd.ntmps79
      go_wp2_with (first
        | (show wpList _ _ _ ({ dst := some 10, op := _, type := _, pos := _, after := _, guard := _ } :: _) _ _; refine wpList_new_var rfl 26 rfl Z HA.out ?_; intro g10 wa HM10; try simp only [Act.put, List.setIfInBounds_toArray, List.set_cons_zero, List.set_cons_succ])
        | (show wpList _ _ _ ({ dst := some 11, op := _, type := _, pos := _, after := _, guard := _ } :: _) _ _; refine wpList_new_var rfl 26 rfl Z HA.out ?_; intro g11 wb HM11; try simp only [Act.put, List.setIfInBounds_toArray, List.set_cons_zero, List.set_cons_succ])
        | fail)
      have HBB := hidk (HM10.out.below.trans (HM11.out.below.mono HM10.out.below.size))
      refine (SP.out _).mono ?_
      rintro e wc ⟨rfl, rfl⟩
      go_wp2_with fail
      refine (cut_no _ _ _).mono ?_
      rintro e w3 ⟨⟨u, q, rfl⟩, hb3⟩
      exact ⟨rfl, ⟨_, _, rfl⟩, HBB.out.trans (hb3.mono HBB.out.size)⟩
  | cons d r ih =>
    intro M N x k a len cap gl gf w hM1 hMN hN hR hF hm
    obtain ⟨Z, HZ, HA, HS, H1, H32⟩ := noughts27
    have hlen : r.length + 1 = len := by have := hR.1; simpa using this
    obtain ⟨m, hmm⟩ : ∃ m, m = r.length := ⟨_, rfl⟩
    obtain rfl : len = m + 1 := by omega
    have hml := hR.2.2.2.1
    by_cases hmn : M = N
    · subst hmn
      have cq : ((M : Int) == (M : Int)) = true := by simp
      cases k
      · have h0 : m ≠ 0 := by
          rw [bothR_all] at hm
          intro e
          have : r = [] := List.eq_nil_of_length_eq_zero (by omega)
          subst this
          simp at hm
        have MU : Hid (∀ W, Calls Tryd.prog 75 #[.int .i64 1, .slice a (m + 1) cap] W fun e w' => (∃ u p, e = .panicked [{ v := .iface u p, recovered := false }]) ∧ w' = W) := fun W => must_no 1 a (m + 1) cap W (by omega) hml
        clear hm hF hR ih
        go_enter Tryd.func79, Tryd.ntmps79
        go_wp2_with (first
          | (show wpList _ _ _ ({ dst := some 10, op := _, type := _, pos := _, after := _, guard := _ } :: _) _ _; refine wpList_new_var rfl 26 rfl Z HA.out ?_; intro g10 wa HM10; try simp only [Act.put, List.setIfInBounds_toArray, List.set_cons_zero, List.set_cons_succ])
          | (show wpList _ _ _ ({ dst := some 11, op := _, type := _, pos := _, after := _, guard := _ } :: _) _ _; refine wpList_new_var rfl 26 rfl Z HA.out ?_; intro g11 wb HM11; try simp only [Act.put, List.setIfInBounds_toArray, List.set_cons_zero, List.set_cons_succ])
          | fail)
        have HBB := hidk (HM10.out.below.trans (HM11.out.below.mono HM10.out.below.size))
        refine (MU.out _).mono ?_
        rintro e wc ⟨⟨u, q, rfl⟩, rfl⟩
        exact ⟨rfl, ⟨_, _, rfl⟩, HBB.out⟩
      · have MU : Hid (∀ W, Calls Tryd.prog 75 #[.int .i64 0, .slice a (m + 1) cap] W fun e w' => (∃ u p, e = .panicked [{ v := .iface u p, recovered := false }]) ∧ w' = W) := fun W => must_no 0 a (m + 1) cap W (by omega) hml
        clear hm hF hR ih
        go_enter Tryd.func79, Tryd.ntmps79
        go_wp2_with (first
          | (show wpList _ _ _ ({ dst := some 10, op := _, type := _, pos := _, after := _, guard := _ } :: _) _ _; refine wpList_new_var rfl 26 rfl Z HA.out ?_; intro g10 wa HM10; try simp only [Act.put, List.setIfInBounds_toArray, List.set_cons_zero, List.set_cons_succ])
          | (show wpList _ _ _ ({ dst := some 11, op := _, type := _, pos := _, after := _, guard := _ } :: _) _ _; refine wpList_new_var rfl 26 rfl Z HA.out ?_; intro g11 wb HM11; try simp only [Act.put, List.setIfInBounds_toArray, List.set_cons_zero, List.set_cons_succ])
          | fail)
        have HBB := hidk (HM10.out.below.trans (HM11.out.below.mono HM10.out.below.size))
        refine (MU.out _).mono ?_
        rintro e wc ⟨⟨u, q, rfl⟩, rfl⟩
        exact ⟨rfl, ⟨_, _, rfl⟩, HBB.out⟩
    · have cq : ((M : Int) == (N : Int)) = false := by rw [beq_eq_false_iff_ne]; omega
      obtain ⟨s, hs⟩ : ∃ s, s = split N := ⟨_, rfl⟩
      have hsl := split_lt N (by omega)
      have hsp := split_pos N (by omega)
      rw [← hs] at hsl hsp
      have SP : Hid (∀ W, Calls Tryd.prog 76 #[.int .i64 (N : Int)] W fun e w' => e = .returned (.int .i64 (s : Nat)) ∧ W = w') := fun W => by
        have := split_any (N : Int) W (by omega)
        rw [Int.toNat_natCast, ← hs] at this
        exact this
      obtain ⟨g, o, rfl, hgl⟩ := hR.at (by omega)
      have hRr : (d :: r).reverse = r.reverse ++ [d] := by simp
      have hd : d.length = 32 := hR.2.1 d (by simp)
      obtain ⟨D, HD, HSD, H1D, H32D⟩ := dig_row' d hd
      have HZD : Hid (Z.size = D.size) := by show _ = _; rw [H32.out, H32D.out]
      rw [hRr] at hR
      have CU : Hid (∀ W, Below w.heap.size w W → Calls Tryd.prog 77 #[.slice (some ⟨g, o, none⟩) (m + 1) cap] W fun e w' => e = .returned (.tuple #[.slice (some ⟨g, o, none⟩) m cap, .agg D]) ∧ Below W.heap.size W w') := fun W hb =>
        cut_ok g o m cap r.reverse d W (hR.keep hb) D HD
      have RR : ∀ W, Below w.heap.size w W → LReads W (some ⟨g, o, none⟩) m cap r.reverse := fun W hb => by
        have := (hR.keep hb).take m (by omega)
        rwa [List.take_left' (by simp [hmm])] at this
      have FN : Hid (∀ W, Below w.heap.size w W → W.cell? ⟨gf, 0, none⟩ = some (.func (.func 79) #[] #[.pointer (some ⟨gl, 0, none⟩), .pointer (some ⟨gf, 0, none⟩)])) := fun W hb => cell_of_one ((hb.block _ (heap_lt hF)).trans hF)
      have FH : ∀ W, Below w.heap.size w W → W.heap[gf]? = some (.cells #[.func (.func 79) #[] #[.pointer (some ⟨gl, 0, none⟩), .pointer (some ⟨gf, 0, none⟩)]] 113 (0, 0)) := fun W hb => (hb.block _ (heap_lt hF)).trans hF
      by_cases hle : M ≤ s
      · -- the left part
        cases k
        · skip
          have hm1 : (bothR r M s x false).2.2 = false := by rw [bothR_left d r M N x false hmn (by rw [← hs]; exact hle), ← hs] at hm; exact hm
          have IH : Hid (∀ W, Below w.heap.size w W → Calls Tryd.prog 79 #[.int .i64 (M : Int), .int .i64 (s : Int), .bool false, .slice (some ⟨g, o, none⟩) m cap, .pointer (some ⟨gl, 0, none⟩), .pointer (some ⟨gf, 0, none⟩)] W fun e w' => (∃ u p, e = .panicked [{ v := .iface u p, recovered := false }]) ∧ Below W.heap.size W w') := fun W hb => ih M s x false (some ⟨g, o, none⟩) m cap gl gf W hM1 hle (by omega) (RR W hb) (FH W hb) hm1
          have dl : (decide ((M : Int) ≤ (s : Int))) = true := by rw [decide_eq_true_eq]; omega
          have dl' : (decide (M ≤ s)) = true := by rw [decide_eq_true_eq]; omega
          clear hm hm1 hF hR ih FH RR hs hmm hRr
          go_enter Tryd.func79, Tryd.ntmps79
          go_wp2_with (first
            | (show wpList _ _ _ ({ dst := some 10, op := _, type := _, pos := _, after := _, guard := _ } :: _) _ _; refine wpList_new_var rfl 26 rfl Z HA.out ?_; intro g10 wa HM10; try simp only [Act.put, List.setIfInBounds_toArray, List.set_cons_zero, List.set_cons_succ])
            | (show wpList _ _ _ ({ dst := some 11, op := _, type := _, pos := _, after := _, guard := _ } :: _) _ _; refine wpList_new_var rfl 26 rfl Z HA.out ?_; intro g11 wb HM11; try simp only [Act.put, List.setIfInBounds_toArray, List.set_cons_zero, List.set_cons_succ])
            | fail)
          have HBB := hidk (HM10.out.below.trans (HM11.out.below.mono HM10.out.below.size))
          refine (SP.out _).mono ?_
          rintro e wc ⟨rfl, rfl⟩
          go_wp2_with fail
          refine (CU.out _ HBB.out).mono ?_
          rintro e wd ⟨rfl, hb3⟩
          have HB3 := hidk (HBB.out.trans (hb3.mono HBB.out.size))
          clear hb3 SP CU HBB
          go_wp2_with (first
            | (show wpList _ _ _ ({ dst := some 14, op := _, type := _, pos := _, after := _, guard := _ } :: _) _ _; refine wpList_new_var rfl 26 rfl Z HA.out ?_; intro g14 we HM14; try simp only [Act.put, List.setIfInBounds_toArray, List.set_cons_zero, List.set_cons_succ])
            | (refine wpList_set_var rfl 26 (.tmp 14) (.tmp 46) rfl g14 D rfl rfl 26 Z HM14.out.row HSD.out HZD.out H1D.out ?_; intro wf HW14; have hcf := FN.out _ (HW14.out.below w.heap.size w (HB3.out.trans (HM14.out.below.mono HB3.out.size)) (by rw [HM14.out.new]; exact HB3.out.size)); try simp only [Act.put, List.setIfInBounds_toArray, List.set_cons_zero, List.set_cons_succ])
            | fail)
          have hg14 : w.heap.size ≤ g14 := by rw [HM14.out.new]; exact HB3.out.size
          have HB5 := hidk (HW14.out.below w.heap.size w (HB3.out.trans (HM14.out.below.mono HB3.out.size)) hg14)

          refine (IH.out _ HB5.out).mono ?_
          rintro e wg ⟨⟨u, q, rfl⟩, hb7⟩
          exact ⟨rfl, ⟨_, _, rfl⟩, HB5.out.trans (hb7.mono HB5.out.size)⟩
        · skip
          have hm1 : (bothR r M s x true).2.2 = false := by rw [bothR_left d r M N x true hmn (by rw [← hs]; exact hle), ← hs] at hm; exact hm
          have IH : Hid (∀ W, Below w.heap.size w W → Calls Tryd.prog 79 #[.int .i64 (M : Int), .int .i64 (s : Int), .bool true, .slice (some ⟨g, o, none⟩) m cap, .pointer (some ⟨gl, 0, none⟩), .pointer (some ⟨gf, 0, none⟩)] W fun e w' => (∃ u p, e = .panicked [{ v := .iface u p, recovered := false }]) ∧ Below W.heap.size W w') := fun W hb => ih M s x true (some ⟨g, o, none⟩) m cap gl gf W hM1 hle (by omega) (RR W hb) (FH W hb) hm1
          have dl : (decide ((M : Int) ≤ (s : Int))) = true := by rw [decide_eq_true_eq]; omega
          have dl' : (decide (M ≤ s)) = true := by rw [decide_eq_true_eq]; omega
          clear hm hm1 hF hR ih FH RR hs hmm hRr
          go_enter Tryd.func79, Tryd.ntmps79
          go_wp2_with (first
            | (show wpList _ _ _ ({ dst := some 10, op := _, type := _, pos := _, after := _, guard := _ } :: _) _ _; refine wpList_new_var rfl 26 rfl Z HA.out ?_; intro g10 wa HM10; try simp only [Act.put, List.setIfInBounds_toArray, List.set_cons_zero, List.set_cons_succ])
            | (show wpList _ _ _ ({ dst := some 11, op := _, type := _, pos := _, after := _, guard := _ } :: _) _ _; refine wpList_new_var rfl 26 rfl Z HA.out ?_; intro g11 wb HM11; try simp only [Act.put, List.setIfInBounds_toArray, List.set_cons_zero, List.set_cons_succ])
            | fail)
          have HBB := hidk (HM10.out.below.trans (HM11.out.below.mono HM10.out.below.size))
          refine (SP.out _).mono ?_
          rintro e wc ⟨rfl, rfl⟩
          go_wp2_with fail
          refine (CU.out _ HBB.out).mono ?_
          rintro e wd ⟨rfl, hb3⟩
          have HB3 := hidk (HBB.out.trans (hb3.mono HBB.out.size))
          clear hb3 SP CU HBB
          go_wp2_with (first
            | (show wpList _ _ _ ({ dst := some 14, op := _, type := _, pos := _, after := _, guard := _ } :: _) _ _; refine wpList_new_var rfl 26 rfl Z HA.out ?_; intro g14 we HM14; try simp only [Act.put, List.setIfInBounds_toArray, List.set_cons_zero, List.set_cons_succ])
            | (refine wpList_set_var rfl 26 (.tmp 14) (.tmp 46) rfl g14 D rfl rfl 26 Z HM14.out.row HSD.out HZD.out H1D.out ?_; intro wf HW14; have hcf := FN.out _ (HW14.out.below w.heap.size w (HB3.out.trans (HM14.out.below.mono HB3.out.size)) (by rw [HM14.out.new]; exact HB3.out.size)); try simp only [Act.put, List.setIfInBounds_toArray, List.set_cons_zero, List.set_cons_succ])
            | fail)
          have hg14 : w.heap.size ≤ g14 := by rw [HM14.out.new]; exact HB3.out.size
          have HB5 := hidk (HW14.out.below w.heap.size w (HB3.out.trans (HM14.out.below.mono HB3.out.size)) hg14)

          refine (IH.out _ HB5.out).mono ?_
          rintro e wg ⟨⟨u, q, rfl⟩, hb7⟩
          exact ⟨rfl, ⟨_, _, rfl⟩, HB5.out.trans (hb7.mono HB5.out.size)⟩
      · -- the right part
        have hm1 : (bothR r (M - s) (N - s) x false).2.2 = false := by rw [bothR_right d r M N x k hmn (by rw [← hs]; exact hle), ← hs] at hm; exact hm
        have IH : Hid (∀ W, Below w.heap.size w W → Calls Tryd.prog 79 #[.int .i64 ((M : Int) - (s : Int)), .int .i64 ((N : Int) - (s : Int)), .bool false, .slice (some ⟨g, o, none⟩) m cap, .pointer (some ⟨gl, 0, none⟩), .pointer (some ⟨gf, 0, none⟩)] W fun e w' => (∃ u p, e = .panicked [{ v := .iface u p, recovered := false }]) ∧ Below W.heap.size W w') := fun W hb => by
          rw [show ((M : Int) - (s : Int)) = ((M - s : Nat) : Int) by omega, show ((N : Int) - (s : Int)) = ((N - s : Nat) : Int) by omega]
          exact ih (M - s) (N - s) x false (some ⟨g, o, none⟩) m cap gl gf W (by omega) (by omega) (by omega) (RR W hb) (FH W hb) hm1
        have dl : (decide ((M : Int) ≤ (s : Int))) = false := by rw [decide_eq_false_iff_not]; omega
        have dl' : (decide (M ≤ s)) = false := by rw [decide_eq_false_iff_not]; omega
        have wr1 := wrap_int ((M : Int) - (s : Int)) (by omega) (by omega)
        have wr2 := wrap_int ((N : Int) - (s : Int)) (by omega) (by omega)
        clear hm hm1 hF hR ih FH RR hs hmm hRr
        go_enter Tryd.func79, Tryd.ntmps79
        go_wp2_with (first
          | (show wpList _ _ _ ({ dst := some 10, op := _, type := _, pos := _, after := _, guard := _ } :: _) _ _; refine wpList_new_var rfl 26 rfl Z HA.out ?_; intro g10 wa HM10; try simp only [Act.put, List.setIfInBounds_toArray, List.set_cons_zero, List.set_cons_succ])
          | (show wpList _ _ _ ({ dst := some 11, op := _, type := _, pos := _, after := _, guard := _ } :: _) _ _; refine wpList_new_var rfl 26 rfl Z HA.out ?_; intro g11 wb HM11; try simp only [Act.put, List.setIfInBounds_toArray, List.set_cons_zero, List.set_cons_succ])
          | fail)
        have HBB := hidk (HM10.out.below.trans (HM11.out.below.mono HM10.out.below.size))
        refine (SP.out _).mono ?_
        rintro e wc ⟨rfl, rfl⟩
        go_wp2_with fail
        refine (CU.out _ HBB.out).mono ?_
        rintro e wd ⟨rfl, hb3⟩
        have HB3 := hidk (HBB.out.trans (hb3.mono HBB.out.size))
        clear hb3 SP CU HBB
        go_wp2_with (first
          | (show wpList _ _ _ ({ dst := some 14, op := _, type := _, pos := _, after := _, guard := _ } :: _) _ _; refine wpList_new_var rfl 26 rfl Z HA.out ?_; intro g14 we HM14; try simp only [Act.put, List.setIfInBounds_toArray, List.set_cons_zero, List.set_cons_succ])
          | (refine wpList_set_var rfl 26 (.tmp 14) (.tmp 46) rfl g14 D rfl rfl 26 Z HM14.out.row HSD.out HZD.out H1D.out ?_; intro wf HW14; have hcf := FN.out _ (HW14.out.below w.heap.size w (HB3.out.trans (HM14.out.below.mono HB3.out.size)) (by rw [HM14.out.new]; exact HB3.out.size)); try simp only [Act.put, List.setIfInBounds_toArray, List.set_cons_zero, List.set_cons_succ])
          | fail)
        have hg14 : w.heap.size ≤ g14 := by rw [HM14.out.new]; exact HB3.out.size
        have HB5 := hidk (HW14.out.below w.heap.size w (HB3.out.trans (HM14.out.below.mono HB3.out.size)) hg14)

        refine (IH.out _ HB5.out).mono ?_
        rintro e wg ⟨⟨u, q, rfl⟩, hb7⟩
        exact ⟨rfl, ⟨_, _, rfl⟩, HB5.out.trans (hb7.mono HB5.out.size)⟩
set_option maxHeartbeats 8000000 in
/-- Down to the old root, where the proof makes something. -/
theorem growm_ok (r : List (List UInt8)) : ∀ (M N : Nat) (x : List UInt8) (k : Bool) (a : Option Addr) (len cap gl gf : Nat) (w : World) (X : Array Value) (HX : Hid (X = (cellsOf x).toArray)) (hx : x.length = 32) (hM1 : 1 ≤ M) (hMN : M ≤ N) (hN : N ≤ 100000) (hR : LReads w a len cap r.reverse)
    (hF : w.heap[gf]? = some (.cells #[.func (.func 79) #[] #[.pointer (some ⟨gl, 0, none⟩), .pointer (some ⟨gf, 0, none⟩)]] 113 (0, 0))) (hL : w.heap[gl]? = some (.cells X 26 (0, 0))) (hK : Table 1 w) (hm : (bothR r M N x k).2.2 = true) (M1 : Array Value) (HM1 : Hid (M1 = (cellsOf (bothR r M N x k).1).toArray)) (M2 : Array Value) (HM2 : Hid (M2 = (cellsOf (bothR r M N x k).2.1).toArray)),
    Calls Tryd.prog 79 #[.int .i64 M, .int .i64 N, .bool k, .slice a len cap, .pointer (some ⟨gl, 0, none⟩), .pointer (some ⟨gf, 0, none⟩)] w fun e w' => e = .returned (.tuple #[.agg M1, .agg M2]) ∧ Below w.heap.size w w' := by
  induction r with
  | nil =>
    intro M N x k a len cap gl gf w X HX hx hM1 hMN hN hR hF hL hK hm M1 HM1 M2 HM2
    obtain ⟨Z, HZ, HA, HS, H1, H32⟩ := noughts27
    have hl : len = 0 := by have := hR.1; simpa using this.symm
    subst hl
    obtain ⟨hmn, hk⟩ : M = N ∧ k = true := by simpa [bothR] using hm
    subst hmn hk
    have hl1 : x.length = 32 := hx
    obtain rfl : M1 = X := by rw [HM1.out, HX.out]; rfl
    obtain rfl : M1 = M2 := by rw [HM2.out, HX.out]; rfl
    have HM1 := HX
    have HSM1 : Hid ((Tryd.prog.info? 26).map (·.size) = some M1.size) := by show _ = _; rw [size23, HM1.out]; simp [cellsOf_length, hl1]
    have H1M1 : Hid (M1.all (·.oneCell') = true) := by show _ = _; rw [HM1.out]; exact cellsOf_all _
    have HZM1 : Hid (Z.size = M1.size) := by show _ = _; rw [H32.out, HM1.out]; simp [cellsOf_length, hl1]
    have MU : Hid (∀ W, Calls Tryd.prog 75 #[.int .i64 0, .slice a 0 cap] W fun e w' => e = .returned (.tuple #[]) ∧ w' = W) := fun W => must_ok 0 a 0 cap W rfl (by unfold maxLen; omega)
    have cq : ((M : Int) == (M : Int)) = true := by simp
    have HL := hidk hL
    clear hm hF hR hK HX HM1 HM2 hL
    go_enter Tryd.func79, Tryd.ntmps79
    go_wp2_with (first
      | (show wpList _ _ _ ({ dst := some 10, op := _, type := _, pos := _, after := _, guard := _ } :: _) _ _; refine wpList_new_var rfl 26 rfl Z HA.out ?_; intro g10 wa HM10; try simp only [Act.put, List.setIfInBounds_toArray, List.set_cons_zero, List.set_cons_succ])
      | (show wpList _ _ _ ({ dst := some 11, op := _, type := _, pos := _, after := _, guard := _ } :: _) _ _; refine wpList_new_var rfl 26 rfl Z HA.out ?_; intro g11 wb HM11; try simp only [Act.put, List.setIfInBounds_toArray, List.set_cons_zero, List.set_cons_succ])
      | fail)
    have HBB := hidk (HM10.out.below.trans (HM11.out.below.mono HM10.out.below.size))
    have HK10 := hidk ((HM11.out.below.block _ (heap_lt HM10.out.row)).trans HM10.out.row)
    have h10 : w.heap.size ≤ g10 := Nat.le_of_eq HM10.out.new.symm
    have h11 : g10 < g11 := by rw [HM11.out.new]; exact heap_lt HM10.out.row
    refine (MU.out _).mono ?_
    rintro e wc ⟨rfl, rfl⟩
    have HLB := hidk ((HBB.out.block _ (heap_lt HL.out)).trans HL.out)
    have hgl : gl < w.heap.size := heap_lt HL.out
    have HBZ := HBB
    have HR11 := hidk HM11.out.row
    go_wp2
    refine wp_region_held_drew (S := (fun W => W.heap[gl]? = some (.cells M1 26 (0, 0)))) (by kernel_rfl) HLB.out (fun hHeld => ?_)
    refine wpAnyH_take (i := 0) (oi := { dst := some 27, op := Op.load 26 (Operand.tmp 4), type := 26, pos := "check.go:118", after := #[], guard := none }) (v := .agg M1) rfl (by kernel_rfl) (by kernel_rfl) (by kernel_rfl) (fun _ _ _ h => h) (yieldsIf_row (by rfl) 26 (.tmp 4) rfl gl rfl 26 M1 (0, 0) _ (fun _ h => h) Tryd.underlying26 rfl HSM1.out) hHeld ?_
    try simp only [Act.put, List.setIfInBounds_toArray, List.set_cons_zero, List.set_cons_succ]
    refine wpAnyH_take (i := 1) (oi := { dst := some 28, op := Op.load 26 (Operand.tmp 4), type := 26, pos := "check.go:118", after := #[{ on := 2, ground := Ground.gcOnly Departure.lateStores }], guard := none }) (v := .agg M1) rfl (by kernel_rfl) (by kernel_rfl) (by kernel_rfl) (fun _ _ _ h => h) (yieldsIf_row (by rfl) 26 (.tmp 4) rfl gl rfl 26 M1 (0, 0) _ (fun _ h => h) Tryd.underlying26 rfl HSM1.out) hHeld ?_
    try simp only [Act.put, List.setIfInBounds_toArray, List.set_cons_zero, List.set_cons_succ]
    refine wpAnyH_ready (rs := [2]) (by kernel_rfl) (by simp) ?_
    refine (AllReadyH.cons (o := { dst := none, op := Op.store 26 (Operand.tmp 10) (Operand.tmp 27), type := 0, pos := "check.go:118", after := #[{ on := 0, ground := Ground.data }, { on := 0, ground := Ground.phase }, { on := 1, ground := Ground.textOnly Departure.lateStores }], guard := none }) rfl (fun K hK => ?_) AllReadyH.nil)
    refine step_set_var (by rfl) 26 (.tmp 10) (.tmp 27) rfl g10 M1 rfl rfl 26 Z HK10.out HSM1.out HZM1.out H1M1.out ?_
    intro wx HW10
    refine hK.out _ _ ((HW10.out.other gl (by omega)).trans hHeld) (fun hHeld => ?_)
    clear hK K
    try simp only [Act.put, List.setIfInBounds_toArray, List.set_cons_zero, List.set_cons_succ]
    refine wpAnyH_ready (rs := [3]) (by kernel_rfl) (by simp) ?_
    refine (AllReadyH.cons (o := { dst := none, op := Op.store 26 (Operand.tmp 11) (Operand.tmp 28), type := 0, pos := "check.go:118", after := #[{ on := 1, ground := Ground.data }, { on := 2, ground := Ground.chain }, { on := 0, ground := Ground.phase }, { on := 1, ground := Ground.phase }, { on := 2, ground := Ground.phase }], guard := none }) rfl (fun K hK => ?_) AllReadyH.nil)
    refine step_set_var (by rfl) 26 (.tmp 11) (.tmp 28) rfl g11 M1 rfl rfl 26 Z ((HW10.out.other g11 (by omega)).trans HR11.out) HSM1.out HZM1.out H1M1.out ?_
    intro wy HW11
    refine hK.out _ _ ((HW11.out.other gl (by omega)).trans hHeld) (fun hHeld => ?_)
    clear hK K
    try simp only [Act.put, List.setIfInBounds_toArray, List.set_cons_zero, List.set_cons_succ]
    refine wpAnyH_done (by kernel_rfl) ?_ _
    go_wp2
    refine bodyPost_ret (v := .tuple #[.agg M1, .agg M1]) ?_ rfl ⟨rfl, HW11.out.below w.heap.size w (HW10.out.below w.heap.size w HBZ.out.drew (by omega)) (by omega)⟩
    exact results_row_row (p1 := 10) (p2 := 11) (ty := 26) rfl _ _ g10 g11 26 26 M1 M1 (0, 0) (0, 0) _ rfl rfl ((HW11.out.other g10 (by omega)).trans HW10.out.row) HW11.out.row Tryd.underlying26 rfl HSM1.out HSM1.out
  | cons d r ih =>
    intro M N x k a len cap gl gf w X HX hx hM1 hMN hN hR hF hL hK hm M1 HM1 M2 HM2
    obtain ⟨Z, HZ, HA, HS, H1, H32⟩ := noughts27
    have hlen : r.length + 1 = len := by have := hR.1; simpa using this
    obtain ⟨m, hmm⟩ : ∃ m, m = r.length := ⟨_, rfl⟩
    obtain rfl : len = m + 1 := by omega
    have hml := hR.2.2.2.1
    have hdr : Digs32 r := fun z hz => hR.2.1 z (by simp [hz])
    have hdr' : Digs32 (d :: r) := fun z hz => hR.2.1 z (List.mem_reverse.2 hz)
    by_cases hmn : M = N
    · subst hmn
      have cq : ((M : Int) == (M : Int)) = true := by simp
      cases k
      · rw [bothR_all] at hm HM1 HM2
        have hr0 : r = [] := by simpa using hm
        subst hr0
        obtain rfl : m = 0 := by simpa using hmm
        obtain ⟨g, o, rfl, hgl⟩ := hR.at (by omega)
        have hl1 : d.length = 32 := hdr' d (by simp)
        obtain rfl : M1 = M2 := by rw [HM1.out, HM2.out]
        have HSM1 : Hid ((Tryd.prog.info? 26).map (·.size) = some M1.size) := by show _ = _; rw [size23, HM1.out]; simp [cellsOf_length, hl1]
        have H1M1 : Hid (M1.all (·.oneCell') = true) := by show _ = _; rw [HM1.out]; exact cellsOf_all _
        have HZM1 : Hid (Z.size = M1.size) := by show _ = _; rw [H32.out, HM1.out]; simp [cellsOf_length, hl1]
        have HRG : Hid (w.rangeAt g o M1.toList) := by
          have := hR.range 0 (by simp)
          simp only [Nat.mul_zero, Nat.add_zero] at this
          rw [HM1.out]
          show w.rangeAt g o _
          simpa using this
        have hc1 : 1 ≤ cap := hR.2.2.1
        have idx : ∀ W, (Instr.indexAt 37 (.slice (some ⟨g, o, none⟩) 1 cap) (.int .i64 0)).run Tryd.prog W = .ok (.pointer (some ⟨g, o, none⟩)) W := fun W => by
          have := index_list W g o 1 cap 0 .i64 (by omega)
          simpa using this
        have MU : Hid (∀ W, Calls Tryd.prog 75 #[.int .i64 1, .slice (some ⟨g, o, none⟩) 1 cap] W fun e w' => e = .returned (.tuple #[]) ∧ w' = W) := fun W => must_ok 1 (some ⟨g, o, none⟩) 1 cap W rfl hml
        clear hm hF hR hK HX HM1 HM2 hL ih hmm
        go_enter Tryd.func79, Tryd.ntmps79
        go_wp2_with (first
          | (show wpList _ _ _ ({ dst := some 10, op := _, type := _, pos := _, after := _, guard := _ } :: _) _ _; refine wpList_new_var rfl 26 rfl Z HA.out ?_; intro g10 wa HM10; try simp only [Act.put, List.setIfInBounds_toArray, List.set_cons_zero, List.set_cons_succ])
          | (show wpList _ _ _ ({ dst := some 11, op := _, type := _, pos := _, after := _, guard := _ } :: _) _ _; refine wpList_new_var rfl 26 rfl Z HA.out ?_; intro g11 wb HM11; try simp only [Act.put, List.setIfInBounds_toArray, List.set_cons_zero, List.set_cons_succ])
          | fail)
        have HBB := hidk (HM10.out.below.trans (HM11.out.below.mono HM10.out.below.size))
        have HK10 := hidk ((HM11.out.below.block _ (heap_lt HM10.out.row)).trans HM10.out.row)
        have h10 : w.heap.size ≤ g10 := Nat.le_of_eq HM10.out.new.symm
        have h11 : g10 < g11 := by rw [HM11.out.new]; exact heap_lt HM10.out.row
        refine (MU.out _).mono ?_
        rintro e wc ⟨rfl, rfl⟩
        have HBZ := HBB
        have HR11 := hidk HM11.out.row
        go_wp2
        refine wp_region_held_drew (S := (fun W => W.rangeAt g o M1.toList)) (by kernel_rfl) (range_keep HBB.out.drew HRG.out) (fun hHeld => ?_)
        refine wpAnyH_take (i := 0) (oi := { dst := some 34, op := Op.move (Operand.tmp 3), type := 37, pos := "check.go:122", after := #[], guard := none }) (v := .slice (some ⟨g, o, none⟩) 1 cap) rfl (by kernel_rfl) (by kernel_rfl) (by kernel_rfl) (fun _ _ _ h => h) (Or.inl ⟨by rfl, by intro W hSw; go_simp⟩) hHeld ?_
        try simp only [Act.put, List.setIfInBounds_toArray, List.set_cons_zero, List.set_cons_succ]
        refine wpAnyH_take (i := 1) (oi := { dst := some 35, op := Op.indexAddr 37 (Operand.tmp 34) (Operand.const (Value.int IntKind.i64 0)), type := 0, pos := "check.go:122", after := #[{ on := 0, ground := Ground.data }], guard := none }) (v := .pointer (some ⟨g, o, none⟩)) rfl (by kernel_rfl) (by kernel_rfl) (by kernel_rfl) (fun _ _ _ h => h) (Or.inl ⟨by rfl, by intro W hSw; have := idx W; go_simp⟩) hHeld ?_
        try simp only [Act.put, List.setIfInBounds_toArray, List.set_cons_zero, List.set_cons_succ]
        refine wpAnyH_take (i := 2) (oi := { dst := some 36, op := Op.load 26 (Operand.tmp 35), type := 26, pos := "check.go:122", after := #[{ on := 1, ground := Ground.data }], guard := none }) (v := .agg M1) rfl (by kernel_rfl) (by kernel_rfl) (by kernel_rfl) (fun _ _ _ h => h) (yieldsIf_mid (by rfl) 26 (.tmp 35) rfl g o rfl M1 _ (fun _ h => h) Tryd.underlying26 rfl HSM1.out) hHeld ?_
        try simp only [Act.put, List.setIfInBounds_toArray, List.set_cons_zero, List.set_cons_succ]
        refine wpAnyH_take (i := 3) (oi := { dst := some 37, op := Op.move (Operand.tmp 3), type := 37, pos := "check.go:122", after := #[{ on := 6, ground := Ground.gcOnly Departure.lateStores }], guard := none }) (v := .slice (some ⟨g, o, none⟩) 1 cap) rfl (by kernel_rfl) (by kernel_rfl) (by kernel_rfl) (fun _ _ _ h => h) (Or.inl ⟨by rfl, by intro W hSw; go_simp⟩) hHeld ?_
        try simp only [Act.put, List.setIfInBounds_toArray, List.set_cons_zero, List.set_cons_succ]
        refine wpAnyH_take (i := 4) (oi := { dst := some 38, op := Op.indexAddr 37 (Operand.tmp 37) (Operand.const (Value.int IntKind.i64 0)), type := 0, pos := "check.go:122", after := #[{ on := 3, ground := Ground.data }, { on := 6, ground := Ground.gcOnly Departure.lateStores }], guard := none }) (v := .pointer (some ⟨g, o, none⟩)) rfl (by kernel_rfl) (by kernel_rfl) (by kernel_rfl) (fun _ _ _ h => h) (Or.inl ⟨by rfl, by intro W hSw; have := idx W; go_simp⟩) hHeld ?_
        try simp only [Act.put, List.setIfInBounds_toArray, List.set_cons_zero, List.set_cons_succ]
        refine wpAnyH_take (i := 5) (oi := { dst := some 39, op := Op.load 26 (Operand.tmp 38), type := 26, pos := "check.go:122", after := #[{ on := 4, ground := Ground.data }, { on := 6, ground := Ground.gcOnly Departure.lateStores }], guard := none }) (v := .agg M1) rfl (by kernel_rfl) (by kernel_rfl) (by kernel_rfl) (fun _ _ _ h => h) (yieldsIf_mid (by rfl) 26 (.tmp 38) rfl g o rfl M1 _ (fun _ h => h) Tryd.underlying26 rfl HSM1.out) hHeld ?_
        try simp only [Act.put, List.setIfInBounds_toArray, List.set_cons_zero, List.set_cons_succ]
        refine wpAnyH_ready (rs := [6]) (by kernel_rfl) (by simp) ?_
        refine (AllReadyH.cons (o := { dst := none, op := Op.store 26 (Operand.tmp 10) (Operand.tmp 36), type := 0, pos := "check.go:122", after := #[{ on := 2, ground := Ground.data }, { on := 0, ground := Ground.phase }, { on := 1, ground := Ground.phase }, { on := 2, ground := Ground.phase }, { on := 3, ground := Ground.textOnly Departure.lateStores }, { on := 4, ground := Ground.textOnly Departure.lateStores }, { on := 5, ground := Ground.textOnly Departure.lateStores }], guard := none }) rfl (fun K hK => ?_) AllReadyH.nil)
        refine step_set_var (by rfl) 26 (.tmp 10) (.tmp 36) rfl g10 M1 rfl rfl 26 Z HK10.out HSM1.out HZM1.out H1M1.out ?_
        intro wx HW10
        refine hK.out _ _ (fun j v hj => (World.cell?_of_block (a := ⟨g, o + j, none⟩) (HW10.out.other g (by omega))).trans (hHeld j v hj)) (fun hHeld => ?_)
        clear hK K
        try simp only [Act.put, List.setIfInBounds_toArray, List.set_cons_zero, List.set_cons_succ]
        refine wpAnyH_ready (rs := [7]) (by kernel_rfl) (by simp) ?_
        refine (AllReadyH.cons (o := { dst := none, op := Op.store 26 (Operand.tmp 11) (Operand.tmp 39), type := 0, pos := "check.go:122", after := #[{ on := 5, ground := Ground.data }, { on := 6, ground := Ground.chain }, { on := 0, ground := Ground.phase }, { on := 1, ground := Ground.phase }, { on := 2, ground := Ground.phase }, { on := 3, ground := Ground.phase }, { on := 4, ground := Ground.phase }, { on := 5, ground := Ground.phase }, { on := 6, ground := Ground.phase }], guard := none }) rfl (fun K hK => ?_) AllReadyH.nil)
        refine step_set_var (by rfl) 26 (.tmp 11) (.tmp 39) rfl g11 M1 rfl rfl 26 Z ((HW10.out.other g11 (by omega)).trans HR11.out) HSM1.out HZM1.out H1M1.out ?_
        intro wy HW11
        refine hK.out _ _ (fun j v hj => (World.cell?_of_block (a := ⟨g, o + j, none⟩) (HW11.out.other g (by omega))).trans (hHeld j v hj)) (fun hHeld => ?_)
        clear hK K
        try simp only [Act.put, List.setIfInBounds_toArray, List.set_cons_zero, List.set_cons_succ]
        refine wpAnyH_done (by kernel_rfl) ?_ _
        go_wp2
        refine bodyPost_ret (v := .tuple #[.agg M1, .agg M1]) ?_ rfl ⟨rfl, HW11.out.below w.heap.size w (HW10.out.below w.heap.size w HBZ.out.drew (by omega)) (by omega)⟩
        exact results_row_row (p1 := 10) (p2 := 11) (ty := 26) rfl _ _ g10 g11 26 26 M1 M1 (0, 0) (0, 0) _ rfl rfl ((HW11.out.other g10 (by omega)).trans HW10.out.row) HW11.out.row Tryd.underlying26 rfl HSM1.out HSM1.out
      · rw [bothR_known] at hm
        cases hm
    · have cq : ((M : Int) == (N : Int)) = false := by rw [beq_eq_false_iff_ne]; omega
      have hlt0 := bothR_length sumD_length (d :: r) M N x k hx hdr'
      have hl1 := hlt0.1
      have hl2 := hlt0.2
      have HSM1 : Hid ((Tryd.prog.info? 26).map (·.size) = some M1.size) := by show _ = _; rw [size23, HM1.out]; simp [cellsOf_length, hl1]
      have H1M1 : Hid (M1.all (·.oneCell') = true) := by show _ = _; rw [HM1.out]; exact cellsOf_all _
      have HZM1 : Hid (Z.size = M1.size) := by show _ = _; rw [H32.out, HM1.out]; simp [cellsOf_length, hl1]
      have HSM2 : Hid ((Tryd.prog.info? 26).map (·.size) = some M2.size) := by show _ = _; rw [size23, HM2.out]; simp [cellsOf_length, hl2]
      have H1M2 : Hid (M2.all (·.oneCell') = true) := by show _ = _; rw [HM2.out]; exact cellsOf_all _
      have HZM2 : Hid (Z.size = M2.size) := by show _ = _; rw [H32.out, HM2.out]; simp [cellsOf_length, hl2]
      clear hl1 hl2 hlt0
      obtain ⟨s, hs⟩ : ∃ s, s = split N := ⟨_, rfl⟩
      have hsl := split_lt N (by omega)
      have hsp := split_pos N (by omega)
      rw [← hs] at hsl hsp
      have SP : Hid (∀ W, Calls Tryd.prog 76 #[.int .i64 (N : Int)] W fun e w' => e = .returned (.int .i64 (s : Nat)) ∧ W = w') := fun W => by
        have := split_any (N : Int) W (by omega)
        rw [Int.toNat_natCast, ← hs] at this
        exact this
      obtain ⟨g, o, rfl, hgl⟩ := hR.at (by omega)
      have hRr : (d :: r).reverse = r.reverse ++ [d] := by simp
      have hd : d.length = 32 := hR.2.1 d (by simp)
      obtain ⟨D, HD, HSD, H1D, H32D⟩ := dig_row' d hd
      have HZD : Hid (Z.size = D.size) := by show _ = _; rw [H32.out, H32D.out]
      rw [hRr] at hR
      have CU : Hid (∀ W, Below w.heap.size w W → Calls Tryd.prog 77 #[.slice (some ⟨g, o, none⟩) (m + 1) cap] W fun e w' => e = .returned (.tuple #[.slice (some ⟨g, o, none⟩) m cap, .agg D]) ∧ Below W.heap.size W w') := fun W hb =>
        cut_ok g o m cap r.reverse d W (hR.keep hb) D HD
      have RR : ∀ W, Below w.heap.size w W → LReads W (some ⟨g, o, none⟩) m cap r.reverse := fun W hb => by
        have := (hR.keep hb).take m (by omega)
        rwa [List.take_left' (by simp [hmm])] at this
      have FN : Hid (∀ W, Below w.heap.size w W → W.cell? ⟨gf, 0, none⟩ = some (.func (.func 79) #[] #[.pointer (some ⟨gl, 0, none⟩), .pointer (some ⟨gf, 0, none⟩)])) := fun W hb => cell_of_one ((hb.block _ (heap_lt hF)).trans hF)
      have FH : ∀ W, Below w.heap.size w W → W.heap[gf]? = some (.cells #[.func (.func 79) #[] #[.pointer (some ⟨gl, 0, none⟩), .pointer (some ⟨gf, 0, none⟩)]] 113 (0, 0)) := fun W hb => (hb.block _ (heap_lt hF)).trans hF
      by_cases hle : M ≤ s
      · -- the left part
        cases k
        · skip
          have hlt := bothR_length sumD_length r M s x false hx hdr
          obtain ⟨A1, HA1, HSA1, H1A1, H32A1⟩ := dig_row' (bothR r M s x false).1 hlt.1
          obtain ⟨A2, HA2, HSA2, H1A2, H32A2⟩ := dig_row' (bothR r M s x false).2.1 hlt.2
          have HZA1 : Hid (Z.size = A1.size) := by show _ = _; rw [H32.out, H32A1.out]
          have HZA2 : Hid (Z.size = A2.size) := by show _ = _; rw [H32.out, H32A2.out]
          have hE := bothR_left d r M N x false hmn (by rw [← hs]; exact hle)
          rw [← hs] at hE
          rw [hE] at hm HM1 HM2
          have IH : Hid (∀ W, Below w.heap.size w W → Calls Tryd.prog 79 #[.int .i64 (M : Int), .int .i64 (s : Int), .bool false, .slice (some ⟨g, o, none⟩) m cap, .pointer (some ⟨gl, 0, none⟩), .pointer (some ⟨gf, 0, none⟩)] W fun e w' => e = .returned (.tuple #[.agg A1, .agg A2]) ∧ Below W.heap.size W w') := fun W hb => ih M s x false (some ⟨g, o, none⟩) m cap gl gf W X HX hx (by omega) (by omega) (by omega) (RR W hb) (FH W hb) ((hb.block _ (heap_lt hL)).trans hL) (hK.keep hb) hm A1 HA1 A2 HA2
          have dl : (decide ((M : Int) ≤ (s : Int))) = true := by rw [decide_eq_true_eq]; omega
          have dl' : (decide (M ≤ s)) = true := by rw [decide_eq_true_eq]; omega
          obtain rfl : A1 = M1 := by rw [HM1.out, HA1.out]
          obtain ⟨KK, HKK, HSK, H1K, H64K⟩ := knot_row ((bothR r M s x false).2.1 ++ d) (by rw [List.length_append, hlt.2, hd])
          have BK : Hid (∀ W, (Instr.build 112 #[(0, .agg A2), (1, .agg D)]).run Tryd.prog W = .ok (.agg KK) W) := fun W => build_knot W A2 D KK H32A2.out H32D.out (by rw [HKK.out, HA2.out, HD.out]; simp [cellsOf_append])
          have SU : Hid (∀ W, Below w.heap.size w W → Calls Tryd.prog 78 #[.agg KK] W fun e w' => e = .returned (.agg M2) ∧ Below W.heap.size W w') := fun W hb => sum_any (bothR r M s x false).2.1 d hlt.2 hd W (hK.keep hb) KK HKK M2 HM2
          clear hm hE hF hR ih FH RR hs hmm hRr hK hL HM1 HM2 HKK hlt HD
          go_enter Tryd.func79, Tryd.ntmps79
          go_wp2_with (first
            | (show wpList _ _ _ ({ dst := some 10, op := _, type := _, pos := _, after := _, guard := _ } :: _) _ _; refine wpList_new_var rfl 26 rfl Z HA.out ?_; intro g10 wa HM10; try simp only [Act.put, List.setIfInBounds_toArray, List.set_cons_zero, List.set_cons_succ])
            | (show wpList _ _ _ ({ dst := some 11, op := _, type := _, pos := _, after := _, guard := _ } :: _) _ _; refine wpList_new_var rfl 26 rfl Z HA.out ?_; intro g11 wb HM11; try simp only [Act.put, List.setIfInBounds_toArray, List.set_cons_zero, List.set_cons_succ])
            | fail)
          have HBB := hidk (HM10.out.below.trans (HM11.out.below.mono HM10.out.below.size))
          have HK10 := hidk ((HM11.out.below.block _ (heap_lt HM10.out.row)).trans HM10.out.row)
          have h10 : w.heap.size ≤ g10 := Nat.le_of_eq HM10.out.new.symm
          have h11 : g10 < g11 := by rw [HM11.out.new]; exact heap_lt HM10.out.row
          refine (SP.out _).mono ?_
          rintro e wc ⟨rfl, rfl⟩
          go_wp2_with fail
          refine (CU.out _ HBB.out).mono ?_
          rintro e wd ⟨rfl, hb3⟩
          have HB3 := hidk (HBB.out.trans (hb3.mono HBB.out.size))
          have HR10 := hidk ((hb3.block _ (heap_lt (HK10.out))).trans HK10.out)
          have HR11 := hidk ((hb3.block _ (heap_lt HM11.out.row)).trans HM11.out.row)
          clear hb3 SP CU HBB
          go_wp2_with (first
            | (show wpList _ _ _ ({ dst := some 14, op := _, type := _, pos := _, after := _, guard := _ } :: _) _ _; refine wpList_new_var rfl 26 rfl Z HA.out ?_; intro g14 we HM14; try simp only [Act.put, List.setIfInBounds_toArray, List.set_cons_zero, List.set_cons_succ])
            | (refine wpList_set_var rfl 26 (.tmp 14) (.tmp 46) rfl g14 D rfl rfl 26 Z HM14.out.row HSD.out HZD.out H1D.out ?_; intro wf HW14; have hcf := FN.out _ (HW14.out.below w.heap.size w (HB3.out.trans (HM14.out.below.mono HB3.out.size)) (by rw [HM14.out.new]; exact HB3.out.size)); try simp only [Act.put, List.setIfInBounds_toArray, List.set_cons_zero, List.set_cons_succ])
            | fail)
          have hg14 : w.heap.size ≤ g14 := by rw [HM14.out.new]; exact HB3.out.size
          have HB5 := hidk (HW14.out.below w.heap.size w (HB3.out.trans (HM14.out.below.mono HB3.out.size)) hg14)

          have HR10w := hidk ((HW14.out.other g10 (by have := heap_lt HR10.out; have := HM14.out.new; omega)).trans ((HM14.out.below.block _ (heap_lt HR10.out)).trans HR10.out))
          have HR11w := hidk ((HW14.out.other g11 (by have := heap_lt HR11.out; have := HM14.out.new; omega)).trans ((HM14.out.below.block _ (heap_lt HR11.out)).trans HR11.out))
          have h14 : g11 < g14 := by rw [HM14.out.new]; exact heap_lt HR11.out
          have HR14 := hidk HW14.out.row
          clear HR10 HR11 HM14 HW14 HB3 HK10 HM10 HM11
          refine (IH.out _ HB5.out).mono ?_
          rintro e wg ⟨rfl, hb7⟩
          have HB7 := hidk (HB5.out.trans (hb7.mono HB5.out.size))
          have HR10g := hidk ((hb7.block _ (heap_lt HR10w.out)).trans HR10w.out)
          have HR11g := hidk ((hb7.block _ (heap_lt HR11w.out)).trans HR11w.out)
          have HR14g := hidk ((hb7.block _ (heap_lt HR14.out)).trans HR14.out)
          clear hb7 hcf IH FN HR10w HR11w HR14 HB5
          go_wp2_with (first
            | (show wpList _ _ _ ({ dst := some 15, op := _, type := _, pos := _, after := _, guard := _ } :: _) _ _; refine wpList_new_var rfl 26 rfl Z HA.out ?_; intro ga wh HMa; try simp only [Act.put, List.setIfInBounds_toArray, List.set_cons_zero, List.set_cons_succ])
            | (show wpList _ _ _ ({ dst := some 16, op := _, type := _, pos := _, after := _, guard := _ } :: _) _ _; refine wpList_new_var rfl 26 rfl Z HA.out ?_; intro gb wi HMb; have HKa := hidk ((HMb.out.below.block _ (heap_lt HMa.out.row)).trans HMa.out.row); have hab : ga < gb := by { rw [HMb.out.new]; exact heap_lt HMa.out.row }; try simp only [Act.put, List.setIfInBounds_toArray, List.set_cons_zero, List.set_cons_succ])
            | (refine wpList_set_var rfl 26 (.tmp 15) (.tmp 57) rfl ga A1 rfl rfl 26 Z HKa.out HSA1.out HZA1.out H1A1.out ?_; intro wj HWa; have HKb := hidk ((HWa.out.other gb (by omega)).trans HMb.out.row); try simp only [Act.put, List.setIfInBounds_toArray, List.set_cons_zero, List.set_cons_succ])
            | (refine wpList_set_var rfl 26 (.tmp 16) (.tmp 58) rfl gb A2 rfl rfl 26 Z HKb.out HSA2.out HZA2.out H1A2.out ?_; intro wk HWb; try simp only [Act.put, List.setIfInBounds_toArray, List.set_cons_zero, List.set_cons_succ])
            | fail)
          have hga : wg.heap.size = ga := HMa.out.new.symm
          have hl14 := heap_lt HR14g.out
          have hl10 := heap_lt HR10g.out
          have hl11 := heap_lt HR11g.out
          have HBk := hidk (HWb.out.below wg.heap.size wg (HWa.out.below wg.heap.size wg (HMa.out.below.trans (HMb.out.below.mono HMa.out.below.size)) (by omega)) (by omega))
          have HBX := hidk (HB7.out.trans (HBk.out.mono HB7.out.size))
          have HR10k := hidk ((HBk.out.block _ hl10).trans HR10g.out)
          have HR11k := hidk ((HBk.out.block _ hl11).trans HR11g.out)
          have HR14k := hidk ((HBk.out.block _ hl14).trans HR14g.out)
          have HRa := hidk ((HWb.out.other ga (by omega)).trans HWa.out.row)
          have HRb := hidk HWb.out.row
          have hgb : gb < wk.heap.size := heap_lt HRb.out
          clear HMa HMb HKa HKb HWa HWb HBk HR10g HR11g HR14g HB7
          refine wp_region_held_drew (S := (fun W => W.heap[ga]? = some (.cells A1 26 (0, 0)) ∧ W.heap[gb]? = some (.cells A2 26 (0, 0)) ∧ W.heap[g14]? = some (.cells D 26 (0, 0)))) (by kernel_rfl) ⟨HRa.out, HRb.out, HR14k.out⟩ (fun hHeld => ?_)
          refine wpAnyH_take (i := 0) (oi := { dst := some 59, op := Op.load 26 (Operand.tmp 15), type := 26, pos := "check.go:128", after := #[], guard := none }) (v := .agg A1) rfl (by kernel_rfl) (by kernel_rfl) (by kernel_rfl) (fun _ _ _ h => h) (yieldsIf_row (by rfl) 26 (.tmp 15) rfl ga rfl 26 A1 (0, 0) _ (fun _ h => h.1) Tryd.underlying26 rfl HSA1.out) hHeld ?_
          try simp only [Act.put, List.setIfInBounds_toArray, List.set_cons_zero, List.set_cons_succ]
          refine wpAnyH_take (i := 1) (oi := { dst := some 60, op := Op.load 26 (Operand.tmp 16), type := 26, pos := "check.go:128", after := #[], guard := none }) (v := .agg A2) rfl (by kernel_rfl) (by kernel_rfl) (by kernel_rfl) (fun _ _ _ h => h) (yieldsIf_row (by rfl) 26 (.tmp 16) rfl gb rfl 26 A2 (0, 0) _ (fun _ h => h.2.1) Tryd.underlying26 rfl HSA2.out) hHeld ?_
          try simp only [Act.put, List.setIfInBounds_toArray, List.set_cons_zero, List.set_cons_succ]
          refine wpAnyH_take (i := 2) (oi := { dst := some 61, op := Op.load 26 (Operand.tmp 14), type := 26, pos := "check.go:128", after := #[], guard := none }) (v := .agg D) rfl (by kernel_rfl) (by kernel_rfl) (by kernel_rfl) (fun _ _ _ h => h) (yieldsIf_row (by rfl) 26 (.tmp 14) rfl g14 rfl 26 D (0, 0) _ (fun _ h => h.2.2) Tryd.underlying26 rfl HSD.out) hHeld ?_
          try simp only [Act.put, List.setIfInBounds_toArray, List.set_cons_zero, List.set_cons_succ]
          refine wpAnyH_take (i := 3) (oi := { dst := some 62, op := Op.build 112 #[(0, Operand.tmp 60), (1, Operand.tmp 61)], type := 112, pos := "check.go:128", after := #[{ on := 1, ground := Ground.data }, { on := 2, ground := Ground.data }], guard := none }) (v := .agg KK) rfl (by kernel_rfl) (by kernel_rfl) (by kernel_rfl) (fun _ _ _ h => h) (yieldsIf_build (by rfl) 112 _ rfl #[(0, .agg A2), (1, .agg D)] rfl (.agg KK) BK.out) hHeld ?_
          try simp only [Act.put, List.setIfInBounds_toArray, List.set_cons_zero, List.set_cons_succ]
          refine wpAnyH_ready (rs := [4]) (by kernel_rfl) (by simp) ?_
          refine (AllReadyH.cons (o := { dst := some 63, op := Op.call { callee := Callee.value (Operand.func 78), args := #[Operand.tmp 62], argTypes := #[112] }, type := 26, pos := "check.go:128", after := #[{ on := 3, ground := Ground.data }], guard := none }) rfl (fun K hK => ?_) AllReadyH.nil)
          go_simp
          refine (SU.out _ HBX.out.drew).mono ?_
          rintro e w4 ⟨rfl, hb4⟩
          have HBS := hidk (HBX.out.drew.trans (hb4.mono HBX.out.size))
          have HR10s := hidk ((hb4.block _ (heap_lt HR10k.out)).trans HR10k.out)
          have HR11s := hidk ((hb4.block _ (heap_lt HR11k.out)).trans HR11k.out)
          go_wp2_with fail
          refine hK.out _ _ ⟨(hb4.block _ (heap_lt hHeld.1)).trans hHeld.1, (hb4.block _ (heap_lt hHeld.2.1)).trans hHeld.2.1, (hb4.block _ (heap_lt hHeld.2.2)).trans hHeld.2.2⟩ (fun hHeld => ?_)
          clear hK K
          try simp only [Act.put, List.setIfInBounds_toArray, List.set_cons_zero, List.set_cons_succ]
          refine wpAnyH_ready (rs := [5]) (by kernel_rfl) (by simp) ?_
          refine (AllReadyH.cons (o := { dst := none, op := Op.store 26 (Operand.tmp 10) (Operand.tmp 59), type := 0, pos := "check.go:128", after := #[{ on := 0, ground := Ground.data }, { on := 4, ground := Ground.chain }, { on := 0, ground := Ground.phase }, { on := 1, ground := Ground.textOnly Departure.lateStores }, { on := 2, ground := Ground.textOnly Departure.lateStores }, { on := 3, ground := Ground.textOnly Departure.lateStores }, { on := 4, ground := Ground.textOnly Departure.lateStoresUnsure }], guard := none }) rfl (fun K hK => ?_) AllReadyH.nil)
          refine step_set_var (by rfl) 26 (.tmp 10) (.tmp 59) rfl g10 A1 rfl rfl 26 Z HR10s.out HSA1.out HZA1.out H1A1.out ?_
          intro wx HW10
          refine hK.out _ _ ⟨(HW10.out.other ga (by omega)).trans hHeld.1, (HW10.out.other gb (by omega)).trans hHeld.2.1, (HW10.out.other g14 (by omega)).trans hHeld.2.2⟩ (fun hHeld => ?_)
          clear hK K
          try simp only [Act.put, List.setIfInBounds_toArray, List.set_cons_zero, List.set_cons_succ]
          refine wpAnyH_ready (rs := [6]) (by kernel_rfl) (by simp) ?_
          refine (AllReadyH.cons (o := { dst := none, op := Op.store 26 (Operand.tmp 11) (Operand.tmp 63), type := 0, pos := "check.go:128", after := #[{ on := 4, ground := Ground.data }, { on := 5, ground := Ground.chain }, { on := 0, ground := Ground.phase }, { on := 1, ground := Ground.phase }, { on := 2, ground := Ground.phase }, { on := 3, ground := Ground.phase }, { on := 4, ground := Ground.phase }, { on := 5, ground := Ground.phase }], guard := none }) rfl (fun K hK => ?_) AllReadyH.nil)
          refine step_set_var (by rfl) 26 (.tmp 11) (.tmp 63) rfl g11 M2 rfl rfl 26 Z ((HW10.out.other g11 (by omega)).trans HR11s.out) HSM2.out HZM2.out H1M2.out ?_
          intro wy HW11
          refine hK.out _ _ ⟨(HW11.out.other ga (by omega)).trans hHeld.1, (HW11.out.other gb (by omega)).trans hHeld.2.1, (HW11.out.other g14 (by omega)).trans hHeld.2.2⟩ (fun hHeld => ?_)
          clear hK K
          try simp only [Act.put, List.setIfInBounds_toArray, List.set_cons_zero, List.set_cons_succ]
          refine wpAnyH_done (by kernel_rfl) ?_ _
          go_wp2
          refine bodyPost_ret (v := .tuple #[.agg A1, .agg M2]) ?_ rfl ⟨rfl, HW11.out.below w.heap.size w (HW10.out.below w.heap.size w HBS.out (by omega)) (by omega)⟩
          exact results_row_row (p1 := 10) (p2 := 11) (ty := 26) rfl _ _ g10 g11 26 26 A1 M2 (0, 0) (0, 0) _ rfl rfl ((HW11.out.other g10 (by omega)).trans HW10.out.row) HW11.out.row Tryd.underlying26 rfl HSA1.out HSM2.out
        · skip
          have hlt := bothR_length sumD_length r M s x true hx hdr
          obtain ⟨A1, HA1, HSA1, H1A1, H32A1⟩ := dig_row' (bothR r M s x true).1 hlt.1
          obtain ⟨A2, HA2, HSA2, H1A2, H32A2⟩ := dig_row' (bothR r M s x true).2.1 hlt.2
          have HZA1 : Hid (Z.size = A1.size) := by show _ = _; rw [H32.out, H32A1.out]
          have HZA2 : Hid (Z.size = A2.size) := by show _ = _; rw [H32.out, H32A2.out]
          have hE := bothR_left d r M N x true hmn (by rw [← hs]; exact hle)
          rw [← hs] at hE
          rw [hE] at hm HM1 HM2
          have IH : Hid (∀ W, Below w.heap.size w W → Calls Tryd.prog 79 #[.int .i64 (M : Int), .int .i64 (s : Int), .bool true, .slice (some ⟨g, o, none⟩) m cap, .pointer (some ⟨gl, 0, none⟩), .pointer (some ⟨gf, 0, none⟩)] W fun e w' => e = .returned (.tuple #[.agg A1, .agg A2]) ∧ Below W.heap.size W w') := fun W hb => ih M s x true (some ⟨g, o, none⟩) m cap gl gf W X HX hx (by omega) (by omega) (by omega) (RR W hb) (FH W hb) ((hb.block _ (heap_lt hL)).trans hL) (hK.keep hb) hm A1 HA1 A2 HA2
          have dl : (decide ((M : Int) ≤ (s : Int))) = true := by rw [decide_eq_true_eq]; omega
          have dl' : (decide (M ≤ s)) = true := by rw [decide_eq_true_eq]; omega
          obtain rfl : A1 = M1 := by rw [HM1.out, HA1.out]
          obtain ⟨KK, HKK, HSK, H1K, H64K⟩ := knot_row ((bothR r M s x true).2.1 ++ d) (by rw [List.length_append, hlt.2, hd])
          have BK : Hid (∀ W, (Instr.build 112 #[(0, .agg A2), (1, .agg D)]).run Tryd.prog W = .ok (.agg KK) W) := fun W => build_knot W A2 D KK H32A2.out H32D.out (by rw [HKK.out, HA2.out, HD.out]; simp [cellsOf_append])
          have SU : Hid (∀ W, Below w.heap.size w W → Calls Tryd.prog 78 #[.agg KK] W fun e w' => e = .returned (.agg M2) ∧ Below W.heap.size W w') := fun W hb => sum_any (bothR r M s x true).2.1 d hlt.2 hd W (hK.keep hb) KK HKK M2 HM2
          clear hm hE hF hR ih FH RR hs hmm hRr hK hL HM1 HM2 HKK hlt HD
          go_enter Tryd.func79, Tryd.ntmps79
          go_wp2_with (first
            | (show wpList _ _ _ ({ dst := some 10, op := _, type := _, pos := _, after := _, guard := _ } :: _) _ _; refine wpList_new_var rfl 26 rfl Z HA.out ?_; intro g10 wa HM10; try simp only [Act.put, List.setIfInBounds_toArray, List.set_cons_zero, List.set_cons_succ])
            | (show wpList _ _ _ ({ dst := some 11, op := _, type := _, pos := _, after := _, guard := _ } :: _) _ _; refine wpList_new_var rfl 26 rfl Z HA.out ?_; intro g11 wb HM11; try simp only [Act.put, List.setIfInBounds_toArray, List.set_cons_zero, List.set_cons_succ])
            | fail)
          have HBB := hidk (HM10.out.below.trans (HM11.out.below.mono HM10.out.below.size))
          have HK10 := hidk ((HM11.out.below.block _ (heap_lt HM10.out.row)).trans HM10.out.row)
          have h10 : w.heap.size ≤ g10 := Nat.le_of_eq HM10.out.new.symm
          have h11 : g10 < g11 := by rw [HM11.out.new]; exact heap_lt HM10.out.row
          refine (SP.out _).mono ?_
          rintro e wc ⟨rfl, rfl⟩
          go_wp2_with fail
          refine (CU.out _ HBB.out).mono ?_
          rintro e wd ⟨rfl, hb3⟩
          have HB3 := hidk (HBB.out.trans (hb3.mono HBB.out.size))
          have HR10 := hidk ((hb3.block _ (heap_lt (HK10.out))).trans HK10.out)
          have HR11 := hidk ((hb3.block _ (heap_lt HM11.out.row)).trans HM11.out.row)
          clear hb3 SP CU HBB
          go_wp2_with (first
            | (show wpList _ _ _ ({ dst := some 14, op := _, type := _, pos := _, after := _, guard := _ } :: _) _ _; refine wpList_new_var rfl 26 rfl Z HA.out ?_; intro g14 we HM14; try simp only [Act.put, List.setIfInBounds_toArray, List.set_cons_zero, List.set_cons_succ])
            | (refine wpList_set_var rfl 26 (.tmp 14) (.tmp 46) rfl g14 D rfl rfl 26 Z HM14.out.row HSD.out HZD.out H1D.out ?_; intro wf HW14; have hcf := FN.out _ (HW14.out.below w.heap.size w (HB3.out.trans (HM14.out.below.mono HB3.out.size)) (by rw [HM14.out.new]; exact HB3.out.size)); try simp only [Act.put, List.setIfInBounds_toArray, List.set_cons_zero, List.set_cons_succ])
            | fail)
          have hg14 : w.heap.size ≤ g14 := by rw [HM14.out.new]; exact HB3.out.size
          have HB5 := hidk (HW14.out.below w.heap.size w (HB3.out.trans (HM14.out.below.mono HB3.out.size)) hg14)

          have HR10w := hidk ((HW14.out.other g10 (by have := heap_lt HR10.out; have := HM14.out.new; omega)).trans ((HM14.out.below.block _ (heap_lt HR10.out)).trans HR10.out))
          have HR11w := hidk ((HW14.out.other g11 (by have := heap_lt HR11.out; have := HM14.out.new; omega)).trans ((HM14.out.below.block _ (heap_lt HR11.out)).trans HR11.out))
          have h14 : g11 < g14 := by rw [HM14.out.new]; exact heap_lt HR11.out
          have HR14 := hidk HW14.out.row
          clear HR10 HR11 HM14 HW14 HB3 HK10 HM10 HM11
          refine (IH.out _ HB5.out).mono ?_
          rintro e wg ⟨rfl, hb7⟩
          have HB7 := hidk (HB5.out.trans (hb7.mono HB5.out.size))
          have HR10g := hidk ((hb7.block _ (heap_lt HR10w.out)).trans HR10w.out)
          have HR11g := hidk ((hb7.block _ (heap_lt HR11w.out)).trans HR11w.out)
          have HR14g := hidk ((hb7.block _ (heap_lt HR14.out)).trans HR14.out)
          clear hb7 hcf IH FN HR10w HR11w HR14 HB5
          go_wp2_with (first
            | (show wpList _ _ _ ({ dst := some 15, op := _, type := _, pos := _, after := _, guard := _ } :: _) _ _; refine wpList_new_var rfl 26 rfl Z HA.out ?_; intro ga wh HMa; try simp only [Act.put, List.setIfInBounds_toArray, List.set_cons_zero, List.set_cons_succ])
            | (show wpList _ _ _ ({ dst := some 16, op := _, type := _, pos := _, after := _, guard := _ } :: _) _ _; refine wpList_new_var rfl 26 rfl Z HA.out ?_; intro gb wi HMb; have HKa := hidk ((HMb.out.below.block _ (heap_lt HMa.out.row)).trans HMa.out.row); have hab : ga < gb := by { rw [HMb.out.new]; exact heap_lt HMa.out.row }; try simp only [Act.put, List.setIfInBounds_toArray, List.set_cons_zero, List.set_cons_succ])
            | (refine wpList_set_var rfl 26 (.tmp 15) (.tmp 57) rfl ga A1 rfl rfl 26 Z HKa.out HSA1.out HZA1.out H1A1.out ?_; intro wj HWa; have HKb := hidk ((HWa.out.other gb (by omega)).trans HMb.out.row); try simp only [Act.put, List.setIfInBounds_toArray, List.set_cons_zero, List.set_cons_succ])
            | (refine wpList_set_var rfl 26 (.tmp 16) (.tmp 58) rfl gb A2 rfl rfl 26 Z HKb.out HSA2.out HZA2.out H1A2.out ?_; intro wk HWb; try simp only [Act.put, List.setIfInBounds_toArray, List.set_cons_zero, List.set_cons_succ])
            | fail)
          have hga : wg.heap.size = ga := HMa.out.new.symm
          have hl14 := heap_lt HR14g.out
          have hl10 := heap_lt HR10g.out
          have hl11 := heap_lt HR11g.out
          have HBk := hidk (HWb.out.below wg.heap.size wg (HWa.out.below wg.heap.size wg (HMa.out.below.trans (HMb.out.below.mono HMa.out.below.size)) (by omega)) (by omega))
          have HBX := hidk (HB7.out.trans (HBk.out.mono HB7.out.size))
          have HR10k := hidk ((HBk.out.block _ hl10).trans HR10g.out)
          have HR11k := hidk ((HBk.out.block _ hl11).trans HR11g.out)
          have HR14k := hidk ((HBk.out.block _ hl14).trans HR14g.out)
          have HRa := hidk ((HWb.out.other ga (by omega)).trans HWa.out.row)
          have HRb := hidk HWb.out.row
          have hgb : gb < wk.heap.size := heap_lt HRb.out
          clear HMa HMb HKa HKb HWa HWb HBk HR10g HR11g HR14g HB7
          refine wp_region_held_drew (S := (fun W => W.heap[ga]? = some (.cells A1 26 (0, 0)) ∧ W.heap[gb]? = some (.cells A2 26 (0, 0)) ∧ W.heap[g14]? = some (.cells D 26 (0, 0)))) (by kernel_rfl) ⟨HRa.out, HRb.out, HR14k.out⟩ (fun hHeld => ?_)
          refine wpAnyH_take (i := 0) (oi := { dst := some 59, op := Op.load 26 (Operand.tmp 15), type := 26, pos := "check.go:128", after := #[], guard := none }) (v := .agg A1) rfl (by kernel_rfl) (by kernel_rfl) (by kernel_rfl) (fun _ _ _ h => h) (yieldsIf_row (by rfl) 26 (.tmp 15) rfl ga rfl 26 A1 (0, 0) _ (fun _ h => h.1) Tryd.underlying26 rfl HSA1.out) hHeld ?_
          try simp only [Act.put, List.setIfInBounds_toArray, List.set_cons_zero, List.set_cons_succ]
          refine wpAnyH_take (i := 1) (oi := { dst := some 60, op := Op.load 26 (Operand.tmp 16), type := 26, pos := "check.go:128", after := #[], guard := none }) (v := .agg A2) rfl (by kernel_rfl) (by kernel_rfl) (by kernel_rfl) (fun _ _ _ h => h) (yieldsIf_row (by rfl) 26 (.tmp 16) rfl gb rfl 26 A2 (0, 0) _ (fun _ h => h.2.1) Tryd.underlying26 rfl HSA2.out) hHeld ?_
          try simp only [Act.put, List.setIfInBounds_toArray, List.set_cons_zero, List.set_cons_succ]
          refine wpAnyH_take (i := 2) (oi := { dst := some 61, op := Op.load 26 (Operand.tmp 14), type := 26, pos := "check.go:128", after := #[], guard := none }) (v := .agg D) rfl (by kernel_rfl) (by kernel_rfl) (by kernel_rfl) (fun _ _ _ h => h) (yieldsIf_row (by rfl) 26 (.tmp 14) rfl g14 rfl 26 D (0, 0) _ (fun _ h => h.2.2) Tryd.underlying26 rfl HSD.out) hHeld ?_
          try simp only [Act.put, List.setIfInBounds_toArray, List.set_cons_zero, List.set_cons_succ]
          refine wpAnyH_take (i := 3) (oi := { dst := some 62, op := Op.build 112 #[(0, Operand.tmp 60), (1, Operand.tmp 61)], type := 112, pos := "check.go:128", after := #[{ on := 1, ground := Ground.data }, { on := 2, ground := Ground.data }], guard := none }) (v := .agg KK) rfl (by kernel_rfl) (by kernel_rfl) (by kernel_rfl) (fun _ _ _ h => h) (yieldsIf_build (by rfl) 112 _ rfl #[(0, .agg A2), (1, .agg D)] rfl (.agg KK) BK.out) hHeld ?_
          try simp only [Act.put, List.setIfInBounds_toArray, List.set_cons_zero, List.set_cons_succ]
          refine wpAnyH_ready (rs := [4]) (by kernel_rfl) (by simp) ?_
          refine (AllReadyH.cons (o := { dst := some 63, op := Op.call { callee := Callee.value (Operand.func 78), args := #[Operand.tmp 62], argTypes := #[112] }, type := 26, pos := "check.go:128", after := #[{ on := 3, ground := Ground.data }], guard := none }) rfl (fun K hK => ?_) AllReadyH.nil)
          go_simp
          refine (SU.out _ HBX.out.drew).mono ?_
          rintro e w4 ⟨rfl, hb4⟩
          have HBS := hidk (HBX.out.drew.trans (hb4.mono HBX.out.size))
          have HR10s := hidk ((hb4.block _ (heap_lt HR10k.out)).trans HR10k.out)
          have HR11s := hidk ((hb4.block _ (heap_lt HR11k.out)).trans HR11k.out)
          go_wp2_with fail
          refine hK.out _ _ ⟨(hb4.block _ (heap_lt hHeld.1)).trans hHeld.1, (hb4.block _ (heap_lt hHeld.2.1)).trans hHeld.2.1, (hb4.block _ (heap_lt hHeld.2.2)).trans hHeld.2.2⟩ (fun hHeld => ?_)
          clear hK K
          try simp only [Act.put, List.setIfInBounds_toArray, List.set_cons_zero, List.set_cons_succ]
          refine wpAnyH_ready (rs := [5]) (by kernel_rfl) (by simp) ?_
          refine (AllReadyH.cons (o := { dst := none, op := Op.store 26 (Operand.tmp 10) (Operand.tmp 59), type := 0, pos := "check.go:128", after := #[{ on := 0, ground := Ground.data }, { on := 4, ground := Ground.chain }, { on := 0, ground := Ground.phase }, { on := 1, ground := Ground.textOnly Departure.lateStores }, { on := 2, ground := Ground.textOnly Departure.lateStores }, { on := 3, ground := Ground.textOnly Departure.lateStores }, { on := 4, ground := Ground.textOnly Departure.lateStoresUnsure }], guard := none }) rfl (fun K hK => ?_) AllReadyH.nil)
          refine step_set_var (by rfl) 26 (.tmp 10) (.tmp 59) rfl g10 A1 rfl rfl 26 Z HR10s.out HSA1.out HZA1.out H1A1.out ?_
          intro wx HW10
          refine hK.out _ _ ⟨(HW10.out.other ga (by omega)).trans hHeld.1, (HW10.out.other gb (by omega)).trans hHeld.2.1, (HW10.out.other g14 (by omega)).trans hHeld.2.2⟩ (fun hHeld => ?_)
          clear hK K
          try simp only [Act.put, List.setIfInBounds_toArray, List.set_cons_zero, List.set_cons_succ]
          refine wpAnyH_ready (rs := [6]) (by kernel_rfl) (by simp) ?_
          refine (AllReadyH.cons (o := { dst := none, op := Op.store 26 (Operand.tmp 11) (Operand.tmp 63), type := 0, pos := "check.go:128", after := #[{ on := 4, ground := Ground.data }, { on := 5, ground := Ground.chain }, { on := 0, ground := Ground.phase }, { on := 1, ground := Ground.phase }, { on := 2, ground := Ground.phase }, { on := 3, ground := Ground.phase }, { on := 4, ground := Ground.phase }, { on := 5, ground := Ground.phase }], guard := none }) rfl (fun K hK => ?_) AllReadyH.nil)
          refine step_set_var (by rfl) 26 (.tmp 11) (.tmp 63) rfl g11 M2 rfl rfl 26 Z ((HW10.out.other g11 (by omega)).trans HR11s.out) HSM2.out HZM2.out H1M2.out ?_
          intro wy HW11
          refine hK.out _ _ ⟨(HW11.out.other ga (by omega)).trans hHeld.1, (HW11.out.other gb (by omega)).trans hHeld.2.1, (HW11.out.other g14 (by omega)).trans hHeld.2.2⟩ (fun hHeld => ?_)
          clear hK K
          try simp only [Act.put, List.setIfInBounds_toArray, List.set_cons_zero, List.set_cons_succ]
          refine wpAnyH_done (by kernel_rfl) ?_ _
          go_wp2
          refine bodyPost_ret (v := .tuple #[.agg A1, .agg M2]) ?_ rfl ⟨rfl, HW11.out.below w.heap.size w (HW10.out.below w.heap.size w HBS.out (by omega)) (by omega)⟩
          exact results_row_row (p1 := 10) (p2 := 11) (ty := 26) rfl _ _ g10 g11 26 26 A1 M2 (0, 0) (0, 0) _ rfl rfl ((HW11.out.other g10 (by omega)).trans HW10.out.row) HW11.out.row Tryd.underlying26 rfl HSA1.out HSM2.out
      · -- the right part
        have hlt := bothR_length sumD_length r (M - s) (N - s) x false hx hdr
        obtain ⟨A1, HA1, HSA1, H1A1, H32A1⟩ := dig_row' (bothR r (M - s) (N - s) x false).1 hlt.1
        obtain ⟨A2, HA2, HSA2, H1A2, H32A2⟩ := dig_row' (bothR r (M - s) (N - s) x false).2.1 hlt.2
        have HZA1 : Hid (Z.size = A1.size) := by show _ = _; rw [H32.out, H32A1.out]
        have HZA2 : Hid (Z.size = A2.size) := by show _ = _; rw [H32.out, H32A2.out]
        have hE := bothR_right d r M N x k hmn (by rw [← hs]; exact hle)
        rw [← hs] at hE
        rw [hE] at hm HM1 HM2
        have IH : Hid (∀ W, Below w.heap.size w W → Calls Tryd.prog 79 #[.int .i64 ((M : Int) - (s : Int)), .int .i64 ((N : Int) - (s : Int)), .bool false, .slice (some ⟨g, o, none⟩) m cap, .pointer (some ⟨gl, 0, none⟩), .pointer (some ⟨gf, 0, none⟩)] W fun e w' => e = .returned (.tuple #[.agg A1, .agg A2]) ∧ Below W.heap.size W w') := fun W hb => by
          rw [show ((M : Int) - (s : Int)) = ((M - s : Nat) : Int) by omega, show ((N : Int) - (s : Int)) = ((N - s : Nat) : Int) by omega]
          exact ih (M - s) (N - s) x false (some ⟨g, o, none⟩) m cap gl gf W X HX hx (by omega) (by omega) (by omega) (RR W hb) (FH W hb) ((hb.block _ (heap_lt hL)).trans hL) (hK.keep hb) hm A1 HA1 A2 HA2
        have dl : (decide ((M : Int) ≤ (s : Int))) = false := by rw [decide_eq_false_iff_not]; omega
        have dl' : (decide (M ≤ s)) = false := by rw [decide_eq_false_iff_not]; omega
        have wr1 := wrap_int ((M : Int) - (s : Int)) (by omega) (by omega)
        have wr2 := wrap_int ((N : Int) - (s : Int)) (by omega) (by omega)
        obtain ⟨KK1, HKK1, HSK1, H1K1, H64K1⟩ := knot_row (d ++ (bothR r (M - s) (N - s) x false).1) (by rw [List.length_append, hlt.1, hd])
        obtain ⟨KK, HKK, HSK, H1K, H64K⟩ := knot_row (d ++ (bothR r (M - s) (N - s) x false).2.1) (by rw [List.length_append, hlt.2, hd])
        have BK1 : Hid (∀ W, (Instr.build 112 #[(0, .agg D), (1, .agg A1)]).run Tryd.prog W = .ok (.agg KK1) W) := fun W => build_knot W D A1 KK1 H32D.out H32A1.out (by rw [HKK1.out, HA1.out, HD.out]; simp [cellsOf_append])
        have BK : Hid (∀ W, (Instr.build 112 #[(0, .agg D), (1, .agg A2)]).run Tryd.prog W = .ok (.agg KK) W) := fun W => build_knot W D A2 KK H32D.out H32A2.out (by rw [HKK.out, HA2.out, HD.out]; simp [cellsOf_append])
        have SU1 : Hid (∀ W, Below w.heap.size w W → Calls Tryd.prog 78 #[.agg KK1] W fun e w' => e = .returned (.agg M1) ∧ Below W.heap.size W w') := fun W hb => sum_any d (bothR r (M - s) (N - s) x false).1 hd hlt.1 W (hK.keep hb) KK1 HKK1 M1 HM1
        have SU : Hid (∀ W, Below w.heap.size w W → Calls Tryd.prog 78 #[.agg KK] W fun e w' => e = .returned (.agg M2) ∧ Below W.heap.size W w') := fun W hb => sum_any d (bothR r (M - s) (N - s) x false).2.1 hd hlt.2 W (hK.keep hb) KK HKK M2 HM2
        clear hm hE hF hR ih FH RR hs hmm hRr hK hL HM1 HM2 HKK hlt HD HKK1
        go_enter Tryd.func79, Tryd.ntmps79
        go_wp2_with (first
          | (show wpList _ _ _ ({ dst := some 10, op := _, type := _, pos := _, after := _, guard := _ } :: _) _ _; refine wpList_new_var rfl 26 rfl Z HA.out ?_; intro g10 wa HM10; try simp only [Act.put, List.setIfInBounds_toArray, List.set_cons_zero, List.set_cons_succ])
          | (show wpList _ _ _ ({ dst := some 11, op := _, type := _, pos := _, after := _, guard := _ } :: _) _ _; refine wpList_new_var rfl 26 rfl Z HA.out ?_; intro g11 wb HM11; try simp only [Act.put, List.setIfInBounds_toArray, List.set_cons_zero, List.set_cons_succ])
          | fail)
        have HBB := hidk (HM10.out.below.trans (HM11.out.below.mono HM10.out.below.size))
        have HK10 := hidk ((HM11.out.below.block _ (heap_lt HM10.out.row)).trans HM10.out.row)
        have h10 : w.heap.size ≤ g10 := Nat.le_of_eq HM10.out.new.symm
        have h11 : g10 < g11 := by rw [HM11.out.new]; exact heap_lt HM10.out.row
        refine (SP.out _).mono ?_
        rintro e wc ⟨rfl, rfl⟩
        go_wp2_with fail
        refine (CU.out _ HBB.out).mono ?_
        rintro e wd ⟨rfl, hb3⟩
        have HB3 := hidk (HBB.out.trans (hb3.mono HBB.out.size))
        have HR10 := hidk ((hb3.block _ (heap_lt (HK10.out))).trans HK10.out)
        have HR11 := hidk ((hb3.block _ (heap_lt HM11.out.row)).trans HM11.out.row)
        clear hb3 SP CU HBB
        go_wp2_with (first
          | (show wpList _ _ _ ({ dst := some 14, op := _, type := _, pos := _, after := _, guard := _ } :: _) _ _; refine wpList_new_var rfl 26 rfl Z HA.out ?_; intro g14 we HM14; try simp only [Act.put, List.setIfInBounds_toArray, List.set_cons_zero, List.set_cons_succ])
          | (refine wpList_set_var rfl 26 (.tmp 14) (.tmp 46) rfl g14 D rfl rfl 26 Z HM14.out.row HSD.out HZD.out H1D.out ?_; intro wf HW14; have hcf := FN.out _ (HW14.out.below w.heap.size w (HB3.out.trans (HM14.out.below.mono HB3.out.size)) (by rw [HM14.out.new]; exact HB3.out.size)); try simp only [Act.put, List.setIfInBounds_toArray, List.set_cons_zero, List.set_cons_succ])
          | fail)
        have hg14 : w.heap.size ≤ g14 := by rw [HM14.out.new]; exact HB3.out.size
        have HB5 := hidk (HW14.out.below w.heap.size w (HB3.out.trans (HM14.out.below.mono HB3.out.size)) hg14)

        have HR10w := hidk ((HW14.out.other g10 (by have := heap_lt HR10.out; have := HM14.out.new; omega)).trans ((HM14.out.below.block _ (heap_lt HR10.out)).trans HR10.out))
        have HR11w := hidk ((HW14.out.other g11 (by have := heap_lt HR11.out; have := HM14.out.new; omega)).trans ((HM14.out.below.block _ (heap_lt HR11.out)).trans HR11.out))
        have h14 : g11 < g14 := by rw [HM14.out.new]; exact heap_lt HR11.out
        have HR14 := hidk HW14.out.row
        clear HR10 HR11 HM14 HW14 HB3 HK10 HM10 HM11
        refine (IH.out _ HB5.out).mono ?_
        rintro e wg ⟨rfl, hb7⟩
        have HB7 := hidk (HB5.out.trans (hb7.mono HB5.out.size))
        have HR10g := hidk ((hb7.block _ (heap_lt HR10w.out)).trans HR10w.out)
        have HR11g := hidk ((hb7.block _ (heap_lt HR11w.out)).trans HR11w.out)
        have HR14g := hidk ((hb7.block _ (heap_lt HR14.out)).trans HR14.out)
        clear hb7 hcf IH FN HR10w HR11w HR14 HB5
        go_wp2_with (first
          | (show wpList _ _ _ ({ dst := some 17, op := _, type := _, pos := _, after := _, guard := _ } :: _) _ _; refine wpList_new_var rfl 26 rfl Z HA.out ?_; intro ga wh HMa; try simp only [Act.put, List.setIfInBounds_toArray, List.set_cons_zero, List.set_cons_succ])
          | (show wpList _ _ _ ({ dst := some 18, op := _, type := _, pos := _, after := _, guard := _ } :: _) _ _; refine wpList_new_var rfl 26 rfl Z HA.out ?_; intro gb wi HMb; have HKa := hidk ((HMb.out.below.block _ (heap_lt HMa.out.row)).trans HMa.out.row); have hab : ga < gb := by { rw [HMb.out.new]; exact heap_lt HMa.out.row }; try simp only [Act.put, List.setIfInBounds_toArray, List.set_cons_zero, List.set_cons_succ])
          | (refine wpList_set_var rfl 26 (.tmp 17) (.tmp 74) rfl ga A1 rfl rfl 26 Z HKa.out HSA1.out HZA1.out H1A1.out ?_; intro wj HWa; have HKb := hidk ((HWa.out.other gb (by omega)).trans HMb.out.row); try simp only [Act.put, List.setIfInBounds_toArray, List.set_cons_zero, List.set_cons_succ])
          | (refine wpList_set_var rfl 26 (.tmp 18) (.tmp 75) rfl gb A2 rfl rfl 26 Z HKb.out HSA2.out HZA2.out H1A2.out ?_; intro wk HWb; try simp only [Act.put, List.setIfInBounds_toArray, List.set_cons_zero, List.set_cons_succ])
          | fail)
        have hga : wg.heap.size = ga := HMa.out.new.symm
        have hl14 := heap_lt HR14g.out
        have hl10 := heap_lt HR10g.out
        have hl11 := heap_lt HR11g.out
        have HBk := hidk (HWb.out.below wg.heap.size wg (HWa.out.below wg.heap.size wg (HMa.out.below.trans (HMb.out.below.mono HMa.out.below.size)) (by omega)) (by omega))
        have HBX := hidk (HB7.out.trans (HBk.out.mono HB7.out.size))
        have HR10k := hidk ((HBk.out.block _ hl10).trans HR10g.out)
        have HR11k := hidk ((HBk.out.block _ hl11).trans HR11g.out)
        have HR14k := hidk ((HBk.out.block _ hl14).trans HR14g.out)
        have HRa := hidk ((HWb.out.other ga (by omega)).trans HWa.out.row)
        have HRb := hidk HWb.out.row
        have hgb : gb < wk.heap.size := heap_lt HRb.out
        clear HMa HMb HKa HKb HWa HWb HBk HR10g HR11g HR14g HB7
        refine wp_region_held_drew (S := (fun W => W.heap[ga]? = some (.cells A1 26 (0, 0)) ∧ W.heap[gb]? = some (.cells A2 26 (0, 0)) ∧ W.heap[g14]? = some (.cells D 26 (0, 0)))) (by kernel_rfl) ⟨HRa.out, HRb.out, HR14k.out⟩ (fun hHeld => ?_)
        refine wpAnyH_take (i := 0) (oi := { dst := some 76, op := Op.load 26 (Operand.tmp 14), type := 26, pos := "check.go:131", after := #[], guard := none }) (v := .agg D) rfl (by kernel_rfl) (by kernel_rfl) (by kernel_rfl) (fun _ _ _ h => h) (yieldsIf_row (by rfl) 26 (.tmp 14) rfl g14 rfl 26 D (0, 0) _ (fun _ h => h.2.2) Tryd.underlying26 rfl HSD.out) hHeld ?_
        try simp only [Act.put, List.setIfInBounds_toArray, List.set_cons_zero, List.set_cons_succ]
        refine wpAnyH_take (i := 1) (oi := { dst := some 77, op := Op.load 26 (Operand.tmp 17), type := 26, pos := "check.go:131", after := #[], guard := none }) (v := .agg A1) rfl (by kernel_rfl) (by kernel_rfl) (by kernel_rfl) (fun _ _ _ h => h) (yieldsIf_row (by rfl) 26 (.tmp 17) rfl ga rfl 26 A1 (0, 0) _ (fun _ h => h.1) Tryd.underlying26 rfl HSA1.out) hHeld ?_
        try simp only [Act.put, List.setIfInBounds_toArray, List.set_cons_zero, List.set_cons_succ]
        refine wpAnyH_take (i := 2) (oi := { dst := some 78, op := Op.build 112 #[(0, Operand.tmp 76), (1, Operand.tmp 77)], type := 112, pos := "check.go:131", after := #[{ on := 0, ground := Ground.data }, { on := 1, ground := Ground.data }], guard := none }) (v := .agg KK1) rfl (by kernel_rfl) (by kernel_rfl) (by kernel_rfl) (fun _ _ _ h => h) (yieldsIf_build (by rfl) 112 _ rfl #[(0, .agg D), (1, .agg A1)] rfl (.agg KK1) BK1.out) hHeld ?_
        try simp only [Act.put, List.setIfInBounds_toArray, List.set_cons_zero, List.set_cons_succ]
        refine wpAnyH_take (i := 4) (oi := { dst := some 80, op := Op.load 26 (Operand.tmp 14), type := 26, pos := "check.go:131", after := #[], guard := none }) (v := .agg D) rfl (by kernel_rfl) (by kernel_rfl) (by kernel_rfl) (fun _ _ _ h => h) (yieldsIf_row (by rfl) 26 (.tmp 14) rfl g14 rfl 26 D (0, 0) _ (fun _ h => h.2.2) Tryd.underlying26 rfl HSD.out) hHeld ?_
        try simp only [Act.put, List.setIfInBounds_toArray, List.set_cons_zero, List.set_cons_succ]
        refine wpAnyH_take (i := 5) (oi := { dst := some 81, op := Op.load 26 (Operand.tmp 18), type := 26, pos := "check.go:131", after := #[], guard := none }) (v := .agg A2) rfl (by kernel_rfl) (by kernel_rfl) (by kernel_rfl) (fun _ _ _ h => h) (yieldsIf_row (by rfl) 26 (.tmp 18) rfl gb rfl 26 A2 (0, 0) _ (fun _ h => h.2.1) Tryd.underlying26 rfl HSA2.out) hHeld ?_
        try simp only [Act.put, List.setIfInBounds_toArray, List.set_cons_zero, List.set_cons_succ]
        refine wpAnyH_take (i := 6) (oi := { dst := some 82, op := Op.build 112 #[(0, Operand.tmp 80), (1, Operand.tmp 81)], type := 112, pos := "check.go:131", after := #[{ on := 4, ground := Ground.data }, { on := 5, ground := Ground.data }], guard := none }) (v := .agg KK) rfl (by kernel_rfl) (by kernel_rfl) (by kernel_rfl) (fun _ _ _ h => h) (yieldsIf_build (by rfl) 112 _ rfl #[(0, .agg D), (1, .agg A2)] rfl (.agg KK) BK.out) hHeld ?_
        try simp only [Act.put, List.setIfInBounds_toArray, List.set_cons_zero, List.set_cons_succ]
        refine wpAnyH_ready (rs := [3]) (by kernel_rfl) (by simp) ?_
        refine (AllReadyH.cons (o := { dst := some 79, op := Op.call { callee := Callee.value (Operand.func 78), args := #[Operand.tmp 78], argTypes := #[112] }, type := 26, pos := "check.go:131", after := #[{ on := 2, ground := Ground.data }], guard := none }) rfl (fun K hK => ?_) AllReadyH.nil)
        go_simp
        refine (SU1.out _ HBX.out.drew).mono ?_
        rintro e w3 ⟨rfl, hb4⟩
        have HBS1 := hidk (HBX.out.drew.trans (hb4.mono HBX.out.size))
        have HR10t := hidk ((hb4.block _ (heap_lt HR10k.out)).trans HR10k.out)
        have HR11t := hidk ((hb4.block _ (heap_lt HR11k.out)).trans HR11k.out)
        go_wp2_with fail
        refine hK.out _ _ ⟨(hb4.block _ (heap_lt hHeld.1)).trans hHeld.1, (hb4.block _ (heap_lt hHeld.2.1)).trans hHeld.2.1, (hb4.block _ (heap_lt hHeld.2.2)).trans hHeld.2.2⟩ (fun hHeld => ?_)
        clear hK K
        try simp only [Act.put, List.setIfInBounds_toArray, List.set_cons_zero, List.set_cons_succ]
        refine wpAnyH_ready (rs := [7]) (by kernel_rfl) (by simp) ?_
        refine (AllReadyH.cons (o := { dst := some 83, op := Op.call { callee := Callee.value (Operand.func 78), args := #[Operand.tmp 82], argTypes := #[112] }, type := 26, pos := "check.go:131", after := #[{ on := 6, ground := Ground.data }, { on := 3, ground := Ground.chain }], guard := none }) rfl (fun K hK => ?_) AllReadyH.nil)
        go_simp
        refine (SU.out _ HBS1.out).mono ?_
        rintro e w7 ⟨rfl, hb5⟩
        have HBS := hidk (HBS1.out.trans (hb5.mono HBS1.out.size))
        have HR10s := hidk ((hb5.block _ (heap_lt HR10t.out)).trans HR10t.out)
        have HR11s := hidk ((hb5.block _ (heap_lt HR11t.out)).trans HR11t.out)
        go_wp2_with fail
        refine hK.out _ _ ⟨(hb5.block _ (heap_lt hHeld.1)).trans hHeld.1, (hb5.block _ (heap_lt hHeld.2.1)).trans hHeld.2.1, (hb5.block _ (heap_lt hHeld.2.2)).trans hHeld.2.2⟩ (fun hHeld => ?_)
        clear hK K
        try simp only [Act.put, List.setIfInBounds_toArray, List.set_cons_zero, List.set_cons_succ]
        refine wpAnyH_ready (rs := [8]) (by kernel_rfl) (by simp) ?_
        refine (AllReadyH.cons (o := { dst := none, op := Op.store 26 (Operand.tmp 10) (Operand.tmp 79), type := 0, pos := "check.go:131", after := #[{ on := 3, ground := Ground.data }, { on := 7, ground := Ground.chain }, { on := 0, ground := Ground.phase }, { on := 1, ground := Ground.phase }, { on := 2, ground := Ground.phase }, { on := 3, ground := Ground.phase }, { on := 4, ground := Ground.textOnly Departure.lateStores }, { on := 5, ground := Ground.textOnly Departure.lateStores }, { on := 6, ground := Ground.textOnly Departure.lateStores }, { on := 7, ground := Ground.textOnly Departure.lateStoresUnsure }], guard := none }) rfl (fun K hK => ?_) AllReadyH.nil)
        refine step_set_var (by rfl) 26 (.tmp 10) (.tmp 79) rfl g10 M1 rfl rfl 26 Z HR10s.out HSM1.out HZM1.out H1M1.out ?_
        intro wx HW10
        refine hK.out _ _ ⟨(HW10.out.other ga (by omega)).trans hHeld.1, (HW10.out.other gb (by omega)).trans hHeld.2.1, (HW10.out.other g14 (by omega)).trans hHeld.2.2⟩ (fun hHeld => ?_)
        clear hK K
        try simp only [Act.put, List.setIfInBounds_toArray, List.set_cons_zero, List.set_cons_succ]
        refine wpAnyH_ready (rs := [9]) (by kernel_rfl) (by simp) ?_
        refine (AllReadyH.cons (o := { dst := none, op := Op.store 26 (Operand.tmp 11) (Operand.tmp 83), type := 0, pos := "check.go:131", after := #[{ on := 7, ground := Ground.data }, { on := 8, ground := Ground.chain }, { on := 0, ground := Ground.phase }, { on := 1, ground := Ground.phase }, { on := 2, ground := Ground.phase }, { on := 3, ground := Ground.phase }, { on := 4, ground := Ground.phase }, { on := 5, ground := Ground.phase }, { on := 6, ground := Ground.phase }, { on := 7, ground := Ground.phase }, { on := 8, ground := Ground.phase }], guard := none }) rfl (fun K hK => ?_) AllReadyH.nil)
        refine step_set_var (by rfl) 26 (.tmp 11) (.tmp 83) rfl g11 M2 rfl rfl 26 Z ((HW10.out.other g11 (by omega)).trans HR11s.out) HSM2.out HZM2.out H1M2.out ?_
        intro wy HW11
        refine hK.out _ _ ⟨(HW11.out.other ga (by omega)).trans hHeld.1, (HW11.out.other gb (by omega)).trans hHeld.2.1, (HW11.out.other g14 (by omega)).trans hHeld.2.2⟩ (fun hHeld => ?_)
        clear hK K
        try simp only [Act.put, List.setIfInBounds_toArray, List.set_cons_zero, List.set_cons_succ]
        refine wpAnyH_done (by kernel_rfl) ?_ _
        go_wp2
        refine bodyPost_ret (v := .tuple #[.agg M1, .agg M2]) ?_ rfl ⟨rfl, HW11.out.below w.heap.size w (HW10.out.below w.heap.size w HBS.out (by omega)) (by omega)⟩
        exact results_row_row (p1 := 10) (p2 := 11) (ty := 26) rfl _ _ g10 g11 26 26 M1 M2 (0, 0) (0, 0) _ rfl rfl ((HW11.out.other g10 (by omega)).trans HW10.out.row) HW11.out.row Tryd.underlying26 rfl HSM1.out HSM2.out
end Go.Proofs.YtgclohgcehhfnaaDoor.P5

/- What check.Consistent answers. -/
namespace Go.Proofs.YtgclohgcehhfnaaDoor.P5
open Go.RowKit Sums
set_option maxRecDepth 100000
set_option linter.unusedVariables false
set_option linter.unusedSimpArgs false

attribute [local go_sem] store_func
set_option maxHeartbeats 1000000 in
theorem growthMakes_no (M N : Nat) (x : List UInt8) (p : List (List UInt8)) (a : Option Addr) (len cap : Nat) (w : World) (X : Array Value) (hM1 : 1 ≤ M) (hMN : M ≤ N) (hN : N ≤ 100000) (hR : LReads w a len cap p) (hm : (bothR p.reverse M N x true).2.2 = false) :
    Calls Tryd.prog 50 #[.int .i64 M, .int .i64 N, .agg X, .slice a len cap] w fun e w' => (∃ u p, e = .panicked [{ v := .iface u p, recovered := false }]) ∧ Below w.heap.size w w' := by
  have hmf : ∀ (fn : Fn) (first cap : Array Value) (w : World), (Instr.makeFunc fn first cap).run Tryd.prog w = .ok (.func fn first cap) w := fun _ _ _ _ => rfl
  obtain ⟨Z, HZ, HA, HS, H1, H32⟩ := noughts27
  have DN : Hid (∀ W gf, Below w.heap.size w W → W.heap[gf]? = some (.cells #[.func (.func 79) #[] #[.pointer (some ⟨w.heap.size, 0, none⟩), .pointer (some ⟨gf, 0, none⟩)]] 113 (0, 0)) → Calls Tryd.prog 79 #[.int .i64 M, .int .i64 N, .bool true, .slice a len cap, .pointer (some ⟨w.heap.size, 0, none⟩), .pointer (some ⟨gf, 0, none⟩)] W fun e w' => (∃ u p, e = .panicked [{ v := .iface u p, recovered := false }]) ∧ Below W.heap.size W w') := fun W gf hb hf =>
    growm_no p.reverse M N x true a len cap w.heap.size gf W hM1 hMN hN (by rw [List.reverse_reverse]; exact hR.keep hb) hf hm
  clear hm hR
  go_enter Tryd.func50, Tryd.ntmps50
  go_wp2_with (first
    | (show wpList _ _ _ ({ dst := some 8, op := _, type := _, pos := _, after := _, guard := _ } :: _) _ _; refine wpList_new_var rfl 26 rfl Z HA.out ?_; intro g8 w1 HM8; try simp only [Act.put, List.setIfInBounds_toArray, List.set_cons_zero, List.set_cons_succ])
    | (show wpList _ _ _ ({ dst := some 9, op := _, type := _, pos := _, after := _, guard := _ } :: _) _ _; refine wpList_new_var rfl 26 rfl Z HA.out ?_; intro g9 w2 HM9; try simp only [Act.put, List.setIfInBounds_toArray, List.set_cons_zero, List.set_cons_succ])
    | fail)
  have h8a : w.heap.size < g8 := by have e := HM8.out.new; simp at e; omega
  have h9a : g8 < g9 := by rw [HM9.out.new]; exact heap_lt HM8.out.row
  have h9b : g9 < w2.heap.size := heap_lt HM9.out.row
  have HL1 := hidk ((HM8.out.below.block _ (by simp)).trans (heap_alloc_new w (.cells X 26)))
  have HL2 := hidk ((HM9.out.below.block _ (heap_lt HL1.out)).trans HL1.out)
  have HB1 : Hid (Below w.heap.size w w1) := ((Below.refl _ _).alloc (Nat.le_refl _) _).trans (HM8.out.below.mono (by simp))
  have HB2 : Hid (Below w.heap.size w w2) := HB1.out.trans (HM9.out.below.mono HB1.out.size)
  have HB3 : Hid (Below w.heap.size w (w2.alloc (.cells #[.func (.func 79) #[] #[.pointer (some ⟨w.heap.size, 0, none⟩), .pointer (some ⟨w2.heap.size, 0, none⟩)]] 113))) := HB2.out.alloc (by omega) _
  have HF3 : Hid ((w2.alloc (.cells #[.func (.func 79) #[] #[.pointer (some ⟨w.heap.size, 0, none⟩), .pointer (some ⟨w2.heap.size, 0, none⟩)]] 113)).heap[w2.heap.size]? = some (.cells #[.func (.func 79) #[] #[.pointer (some ⟨w.heap.size, 0, none⟩), .pointer (some ⟨w2.heap.size, 0, none⟩)]] 113 (0, 0))) := heap_alloc_new w2 _
  have HL3 : Hid ((w2.alloc (.cells #[.func (.func 79) #[] #[.pointer (some ⟨w.heap.size, 0, none⟩), .pointer (some ⟨w2.heap.size, 0, none⟩)]] 113)).heap[w.heap.size]? = some (.cells X 26 (0, 0))) := heap_keep HL2.out
  refine (DN.out _ _ HB3.out HF3.out).mono ?_
  rintro e w3 ⟨⟨u, q, rfl⟩, hb3⟩
  exact ⟨rfl, ⟨_, _, rfl⟩, HB3.out.trans (hb3.mono HB3.out.size)⟩
set_option maxHeartbeats 1000000 in
theorem growthMakes_ok (M N : Nat) (x : List UInt8) (p : List (List UInt8)) (a : Option Addr) (len cap : Nat) (w : World) (X : Array Value) (HX : Hid (X = (cellsOf x).toArray)) (hx : x.length = 32) (hM1 : 1 ≤ M) (hMN : M ≤ N) (hN : N ≤ 100000) (hR : LReads w a len cap p) (hK : Table 1 w) (hm : (bothR p.reverse M N x true).2.2 = true)
    (M1 : Array Value) (HM1 : Hid (M1 = (cellsOf (bothR p.reverse M N x true).1).toArray)) (M2 : Array Value) (HM2 : Hid (M2 = (cellsOf (bothR p.reverse M N x true).2.1).toArray)) :
    Calls Tryd.prog 50 #[.int .i64 M, .int .i64 N, .agg X, .slice a len cap] w fun e w' => e = .returned (.tuple #[.agg M1, .agg M2]) ∧ Below w.heap.size w w' := by
  have hmf : ∀ (fn : Fn) (first cap : Array Value) (w : World), (Instr.makeFunc fn first cap).run Tryd.prog w = .ok (.func fn first cap) w := fun _ _ _ _ => rfl
  obtain ⟨Z, HZ, HA, HS, H1, H32⟩ := noughts27
  have hlt := bothR_length sumD_length p.reverse M N x true hx (fun z hz => hR.2.1 z (List.mem_reverse.1 hz))
  have HSM1 : Hid ((Tryd.prog.info? 26).map (·.size) = some M1.size) := by show _ = _; rw [size23, HM1.out]; simp [cellsOf_length, hlt.1]
  have H1M1 : Hid (M1.all (·.oneCell') = true) := by show _ = _; rw [HM1.out]; exact cellsOf_all _
  have HZM1 : Hid (Z.size = M1.size) := by show _ = _; rw [H32.out, HM1.out]; simp [cellsOf_length, hlt.1]
  have HSM2 : Hid ((Tryd.prog.info? 26).map (·.size) = some M2.size) := by show _ = _; rw [size23, HM2.out]; simp [cellsOf_length, hlt.2]
  have H1M2 : Hid (M2.all (·.oneCell') = true) := by show _ = _; rw [HM2.out]; exact cellsOf_all _
  have HZM2 : Hid (Z.size = M2.size) := by show _ = _; rw [H32.out, HM2.out]; simp [cellsOf_length, hlt.2]
  have DN : Hid (∀ W gf, Below w.heap.size w W → W.heap[gf]? = some (.cells #[.func (.func 79) #[] #[.pointer (some ⟨w.heap.size, 0, none⟩), .pointer (some ⟨gf, 0, none⟩)]] 113 (0, 0)) → W.heap[w.heap.size]? = some (.cells X 26 (0, 0)) → Calls Tryd.prog 79 #[.int .i64 M, .int .i64 N, .bool true, .slice a len cap, .pointer (some ⟨w.heap.size, 0, none⟩), .pointer (some ⟨gf, 0, none⟩)] W fun e w' => e = .returned (.tuple #[.agg M1, .agg M2]) ∧ Below W.heap.size W w') := fun W gf hb hf hl =>
    growm_ok p.reverse M N x true a len cap w.heap.size gf W X HX hx hM1 hMN hN (by rw [List.reverse_reverse]; exact hR.keep hb) hf hl (hK.keep hb) hm M1 HM1 M2 HM2
  clear hm hR hK HM1 HM2 hlt
  go_enter Tryd.func50, Tryd.ntmps50
  go_wp2_with (first
    | (show wpList _ _ _ ({ dst := some 8, op := _, type := _, pos := _, after := _, guard := _ } :: _) _ _; refine wpList_new_var rfl 26 rfl Z HA.out ?_; intro g8 w1 HM8; try simp only [Act.put, List.setIfInBounds_toArray, List.set_cons_zero, List.set_cons_succ])
    | (show wpList _ _ _ ({ dst := some 9, op := _, type := _, pos := _, after := _, guard := _ } :: _) _ _; refine wpList_new_var rfl 26 rfl Z HA.out ?_; intro g9 w2 HM9; try simp only [Act.put, List.setIfInBounds_toArray, List.set_cons_zero, List.set_cons_succ])
    | fail)
  have h8a : w.heap.size < g8 := by have e := HM8.out.new; simp at e; omega
  have h9a : g8 < g9 := by rw [HM9.out.new]; exact heap_lt HM8.out.row
  have h9b : g9 < w2.heap.size := heap_lt HM9.out.row
  have HL1 := hidk ((HM8.out.below.block _ (by simp)).trans (heap_alloc_new w (.cells X 26)))
  have HL2 := hidk ((HM9.out.below.block _ (heap_lt HL1.out)).trans HL1.out)
  have HB1 : Hid (Below w.heap.size w w1) := ((Below.refl _ _).alloc (Nat.le_refl _) _).trans (HM8.out.below.mono (by simp))
  have HB2 : Hid (Below w.heap.size w w2) := HB1.out.trans (HM9.out.below.mono HB1.out.size)
  have HB3 : Hid (Below w.heap.size w (w2.alloc (.cells #[.func (.func 79) #[] #[.pointer (some ⟨w.heap.size, 0, none⟩), .pointer (some ⟨w2.heap.size, 0, none⟩)]] 113))) := HB2.out.alloc (by omega) _
  have HF3 : Hid ((w2.alloc (.cells #[.func (.func 79) #[] #[.pointer (some ⟨w.heap.size, 0, none⟩), .pointer (some ⟨w2.heap.size, 0, none⟩)]] 113)).heap[w2.heap.size]? = some (.cells #[.func (.func 79) #[] #[.pointer (some ⟨w.heap.size, 0, none⟩), .pointer (some ⟨w2.heap.size, 0, none⟩)]] 113 (0, 0))) := heap_alloc_new w2 _
  have HL3 : Hid ((w2.alloc (.cells #[.func (.func 79) #[] #[.pointer (some ⟨w.heap.size, 0, none⟩), .pointer (some ⟨w2.heap.size, 0, none⟩)]] 113)).heap[w.heap.size]? = some (.cells X 26 (0, 0))) := heap_keep HL2.out
  have HR8 : Hid ((w2.alloc (.cells #[.func (.func 79) #[] #[.pointer (some ⟨w.heap.size, 0, none⟩), .pointer (some ⟨w2.heap.size, 0, none⟩)]] 113)).heap[g8]? = some (.cells Z 26 (0, 0))) := heap_keep ((HM9.out.below.block _ (heap_lt HM8.out.row)).trans HM8.out.row)
  have HR9 : Hid ((w2.alloc (.cells #[.func (.func 79) #[] #[.pointer (some ⟨w.heap.size, 0, none⟩), .pointer (some ⟨w2.heap.size, 0, none⟩)]] 113)).heap[g9]? = some (.cells Z 26 (0, 0))) := heap_keep HM9.out.row
  refine (DN.out _ _ HB3.out HF3.out HL3.out).mono ?_
  rintro e w3 ⟨rfl, hb3⟩
  have HR83 := hidk ((hb3.block _ (heap_lt HR8.out)).trans HR8.out)
  have HR93 := hidk ((hb3.block _ (heap_lt HR9.out)).trans HR9.out)
  have HB4 := hidk (HB3.out.trans (hb3.mono HB3.out.size))
  clear hb3 HR8 HR9 DN HB3 HF3 HL3
  go_wp2_with (first
    | (refine wpList_set_var rfl 26 (.tmp 8) (.tmp 17) rfl g8 M1 rfl rfl 26 Z HR83.out HSM1.out HZM1.out H1M1.out ?_; intro w4 HW8; have HR94 := hidk ((HW8.out.other g9 (by omega)).trans HR93.out); try simp only [Act.put, List.setIfInBounds_toArray, List.set_cons_zero, List.set_cons_succ])
    | (refine wpList_set_var rfl 26 (.tmp 9) (.tmp 18) rfl g9 M2 rfl rfl 26 Z HR94.out HSM2.out HZM2.out H1M2.out ?_; intro w5 HW9; try simp only [Act.put, List.setIfInBounds_toArray, List.set_cons_zero, List.set_cons_succ])
    | fail)
  refine bodyPost_ret (v := .tuple #[.agg M1, .agg M2]) ?_ rfl ⟨rfl, HW9.out.below w.heap.size w (HW8.out.below w.heap.size w HB4.out (by omega)) (by omega)⟩
  exact results_row_row (p1 := 8) (p2 := 9) (ty := 26) rfl _ _ g8 g9 26 26 M1 M2 (0, 0) (0, 0) _ rfl rfl ((HW9.out.other g8 (by omega)).trans HW8.out.row) HW9.out.row Tryd.underlying26 rfl HSM1.out HSM2.out
/-- What the closure's variables hold. -/
structure FiveC (gm go gn gr gp : Nat) (m : Int) (O : Array Value) (n : Int) (R : Array Value) (a : Option Addr) (len cap : Nat) (W : World) : Prop where
  first : W.heap[gm]? = some (.cells #[.int .i64 m] 3 (0, 0))
  old : W.heap[go]? = some (.cells O 26 (0, 0))
  all : W.heap[gn]? = some (.cells #[.int .i64 n] 3 (0, 0))
  root : W.heap[gr]? = some (.cells R 26 (0, 0))
  proof : W.heap[gp]? = some (.cells #[.slice a len cap] 37 (0, 0))
theorem FiveC.keep {gm go gn gr gp : Nat} {m n : Int} {O R : Array Value} {a : Option Addr} {len cap : Nat} {W W' : World} (h : FiveC gm go gn gr gp m O n R a len cap W) (hb : Below W.heap.size W W') : FiveC gm go gn gr gp m O n R a len cap W' :=
  ⟨(hb.block _ (heap_lt h.first)).trans h.first, (hb.block _ (heap_lt h.old)).trans h.old, (hb.block _ (heap_lt h.all)).trans h.all, (hb.block _ (heap_lt h.root)).trans h.root, (hb.block _ (heap_lt h.proof)).trans h.proof⟩
set_option maxHeartbeats 1000000 in
theorem cons1_no (M N : Nat) (x : List UInt8) (p : List (List UInt8)) (a : Option Addr) (len cap gm go gn gr gp : Nat) (w : World) (R X : Array Value) (HX : Hid (X = (cellsOf x).toArray)) (hx : x.length = 32) (hM1 : 1 ≤ M) (hMN : M ≤ N) (hN : N ≤ 100000) (hF : FiveC gm go gn gr gp M X N R a len cap w) (hR : LReads w a len cap p) (hm : (bothR p.reverse M N x true).2.2 = false) :
    Calls Tryd.prog 49 #[.pointer (some ⟨gm, 0, none⟩), .pointer (some ⟨gn, 0, none⟩), .pointer (some ⟨go, 0, none⟩), .pointer (some ⟨gp, 0, none⟩), .pointer (some ⟨gr, 0, none⟩)] w fun e w' => (∃ u p, e = .panicked [{ v := .iface u p, recovered := false }]) ∧ Below w.heap.size w w' := by
  have HSX : Hid ((Tryd.prog.info? 26).map (·.size) = some X.size) := by show _ = _; rw [size23, HX.out]; simp [cellsOf_length, hx]
  have LM : Hid (Calls Tryd.prog 50 #[.int .i64 M, .int .i64 N, .agg X, .slice a len cap] w fun e w' => (∃ u p, e = .panicked [{ v := .iface u p, recovered := false }]) ∧ Below w.heap.size w w') := growthMakes_no M N x p a len cap w X hM1 hMN hN hR hm
  have hc0 := cell_of_one hF.first
  have hc1 := cell_of_one hF.all
  have hc3 := cell_of_one hF.proof
  have HL := hidk hF.old
  clear hm hR hF
  go_enter Tryd.func49, Tryd.ntmps49
  go_wp2_with (first
    | (show wpList _ _ _ ({ dst := some 11, op := _, type := _, pos := _, after := _, guard := _ } :: _) _ _; refine wpList_load_row rfl 26 (.tmp 2) rfl go rfl 26 X (0, 0) _ HL.out Tryd.underlying26 rfl HSX.out ?_; try simp only [Act.put, List.setIfInBounds_toArray, List.set_cons_zero, List.set_cons_succ])
    | fail)
  refine LM.out.mono ?_
  rintro e w2 ⟨⟨u, q, rfl⟩, hb2⟩
  exact ⟨rfl, ⟨_, _, rfl⟩, hb2⟩
set_option maxHeartbeats 1000000 in
theorem cons1_ok (root : List UInt8) (M N : Nat) (x : List UInt8) (p : List (List UInt8)) (a : Option Addr) (len cap gm go gn gr gp : Nat) (w : World) (R X : Array Value) (HR : Hid (R = (cellsOf root).toArray)) (hr : root.length = 32) (HX : Hid (X = (cellsOf x).toArray)) (hx : x.length = 32) (hM1 : 1 ≤ M) (hMN : M ≤ N) (hN : N ≤ 100000) (hF : FiveC gm go gn gr gp M X N R a len cap w) (hR : LReads w a len cap p) (hK : Table 1 w) (hm : (bothR p.reverse M N x true).2.2 = true) :
    Calls Tryd.prog 49 #[.pointer (some ⟨gm, 0, none⟩), .pointer (some ⟨gn, 0, none⟩), .pointer (some ⟨go, 0, none⟩), .pointer (some ⟨gp, 0, none⟩), .pointer (some ⟨gr, 0, none⟩)] w fun e w' => e = .returned (.bool (decide ((bothR p.reverse M N x true).1 = x ∧ (bothR p.reverse M N x true).2.1 = root))) ∧ Below w.heap.size w w' := by
  obtain ⟨Z, HZ, HA, HS, H1, H32⟩ := noughts27
  have HSX : Hid ((Tryd.prog.info? 26).map (·.size) = some X.size) := by show _ = _; rw [size23, HX.out]; simp [cellsOf_length, hx]
  have HSR : Hid ((Tryd.prog.info? 26).map (·.size) = some R.size) := by show _ = _; rw [size23, HR.out]; simp [cellsOf_length, hr]
  have hlt := bothR_length sumD_length p.reverse M N x true hx (fun z hz => hR.2.1 z (List.mem_reverse.1 hz))
  obtain ⟨M1, HM1, HSM1, H1M1, H32M1⟩ := dig_row' (bothR p.reverse M N x true).1 hlt.1
  obtain ⟨M2, HM2, HSM2, H1M2, H32M2⟩ := dig_row' (bothR p.reverse M N x true).2.1 hlt.2
  have HZM1 : Hid (Z.size = M1.size) := by show _ = _; rw [H32.out, H32M1.out]
  have HZM2 : Hid (Z.size = M2.size) := by show _ = _; rw [H32.out, H32M2.out]
  obtain ⟨b1, hb1⟩ : ∃ b, decide ((bothR p.reverse M N x true).1 = x) = b := ⟨_, rfl⟩
  obtain ⟨b2, hb2⟩ : ∃ b, decide ((bothR p.reverse M N x true).2.1 = root) = b := ⟨_, rfl⟩
  have hq1 : ∀ W, (binOp .eql 26 (.agg M1) (.agg X)).run Tryd.prog W = .ok (.bool b1) W := fun W => eqDigV _ _ hlt.1 hx M1 X HM1 HX b1 hb1 W
  have hq2 : ∀ W, (binOp .eql 26 (.agg M2) (.agg R)).run Tryd.prog W = .ok (.bool b2) W := fun W => eqDigV _ _ hlt.2 hr M2 R HM2 HR b2 hb2 W
  have LM : Hid (Calls Tryd.prog 50 #[.int .i64 M, .int .i64 N, .agg X, .slice a len cap] w fun e w' => e = .returned (.tuple #[.agg M1, .agg M2]) ∧ Below w.heap.size w w') := growthMakes_ok M N x p a len cap w X HX hx hM1 hMN hN hR hK hm M1 HM1 M2 HM2
  have hc0 := cell_of_one hF.first
  have hc1 := cell_of_one hF.all
  have hc3 := cell_of_one hF.proof
  have HL := hidk hF.old
  have HRT := hidk hF.root
  have hbb : decide ((bothR p.reverse M N x true).1 = x ∧ (bothR p.reverse M N x true).2.1 = root) = (b1 && b2) := by rw [← hb1, ← hb2]; simp
  rw [hbb]
  clear hm hR hF hK hb1 hb2 hbb HM1 HM2 hlt
  cases b1
  · skip
    go_enter Tryd.func49, Tryd.ntmps49
    go_wp2_with (first
      | (show wpList _ _ _ ({ dst := some 11, op := _, type := _, pos := _, after := _, guard := _ } :: _) _ _; refine wpList_load_row rfl 26 (.tmp 2) rfl go rfl 26 X (0, 0) _ HL.out Tryd.underlying26 rfl HSX.out ?_; try simp only [Act.put, List.setIfInBounds_toArray, List.set_cons_zero, List.set_cons_succ])
      | fail)
    refine LM.out.mono ?_
    rintro e w2 ⟨rfl, hb2⟩
    have HR2 := hidk ((hb2.block _ (heap_lt HRT.out)).trans HRT.out)
    have HL2 := hidk ((hb2.block _ (heap_lt HL.out)).trans HL.out)
    have hlr := heap_lt HR2.out
    have hll := heap_lt HL2.out
    clear HL HRT LM hc0 hc1 hc3
    go_wp2_with (first
      | (show wpList _ _ _ ({ dst := some 6, op := _, type := _, pos := _, after := _, guard := _ } :: _) _ _; refine wpList_new_var rfl 26 rfl Z HA.out ?_; intro g6 w3 HM6; try simp only [Act.put, List.setIfInBounds_toArray, List.set_cons_zero, List.set_cons_succ])
      | (show wpList _ _ _ ({ dst := some 7, op := _, type := _, pos := _, after := _, guard := _ } :: _) _ _; refine wpList_new_var rfl 26 rfl Z HA.out ?_; intro g7 w4 HM7; have HK6 := hidk ((HM7.out.below.block _ (heap_lt HM6.out.row)).trans HM6.out.row); have h67 : g6 < g7 := by { rw [HM7.out.new]; exact heap_lt HM6.out.row }; have h26 : w2.heap.size ≤ g6 := Nat.le_of_eq HM6.out.new.symm; try simp only [Act.put, List.setIfInBounds_toArray, List.set_cons_zero, List.set_cons_succ])
      | (refine wpList_set_var rfl 26 (.tmp 6) (.tmp 14) rfl g6 M1 rfl rfl 26 Z HK6.out HSM1.out HZM1.out H1M1.out ?_; intro w5 HW6; have HK7 := hidk ((HW6.out.other g7 (by omega)).trans HM7.out.row); try simp only [Act.put, List.setIfInBounds_toArray, List.set_cons_zero, List.set_cons_succ])
      | (refine wpList_set_var rfl 26 (.tmp 7) (.tmp 15) rfl g7 M2 rfl rfl 26 Z HK7.out HSM2.out HZM2.out H1M2.out ?_; intro w6 HW7; have HB6 := hidk (HW7.out.below w2.heap.size w2 (HW6.out.below w2.heap.size w2 (HM6.out.below.trans (HM7.out.below.mono HM6.out.below.size)) (by omega)) (by omega)); have HR6 := hidk ((HB6.out.block _ hlr).trans HR2.out); have HL6 := hidk ((HB6.out.block _ hll).trans HL2.out); have HR66 := hidk ((HW7.out.other g6 (by omega)).trans HW6.out.row); try simp only [Act.put, List.setIfInBounds_toArray, List.set_cons_zero, List.set_cons_succ])
      | (show wpList _ _ _ ({ dst := some 16, op := _, type := _, pos := _, after := _, guard := _ } :: _) _ _; refine wpList_load_row rfl 26 (.tmp 6) rfl g6 rfl 26 M1 (0, 0) _ HR66.out Tryd.underlying26 rfl HSM1.out ?_; try simp only [Act.put, List.setIfInBounds_toArray, List.set_cons_zero, List.set_cons_succ])
      | (show wpList _ _ _ ({ dst := some 17, op := _, type := _, pos := _, after := _, guard := _ } :: _) _ _; refine wpList_load_row rfl 26 (.tmp 2) rfl go rfl 26 X (0, 0) _ HL6.out Tryd.underlying26 rfl HSX.out ?_; try simp only [Act.put, List.setIfInBounds_toArray, List.set_cons_zero, List.set_cons_succ])
      | (show wpList _ _ _ ({ dst := some 20, op := _, type := _, pos := _, after := _, guard := _ } :: _) _ _; refine wpList_load_row_w (by rfl) 26 (.tmp 7) rfl g7 rfl 26 M2 (0, 0) _ HW7.out.row Tryd.underlying26 rfl HSM2.out ?_; try simp only [Act.put, List.setIfInBounds_toArray, List.set_cons_zero, List.set_cons_succ])
      | (show wpList _ _ _ ({ dst := some 21, op := _, type := _, pos := _, after := _, guard := _ } :: _) _ _; refine wpList_load_row_w (by rfl) 26 (.tmp 4) rfl gr rfl 26 R (0, 0) _ HR6.out Tryd.underlying26 rfl HSR.out ?_; try simp only [Act.put, List.setIfInBounds_toArray, List.set_cons_zero, List.set_cons_succ])
      | fail)
    go_ret
    exact ⟨rfl, hb2.trans (HB6.out.mono hb2.size)⟩
  · skip
    go_enter Tryd.func49, Tryd.ntmps49
    go_wp2_with (first
      | (show wpList _ _ _ ({ dst := some 11, op := _, type := _, pos := _, after := _, guard := _ } :: _) _ _; refine wpList_load_row rfl 26 (.tmp 2) rfl go rfl 26 X (0, 0) _ HL.out Tryd.underlying26 rfl HSX.out ?_; try simp only [Act.put, List.setIfInBounds_toArray, List.set_cons_zero, List.set_cons_succ])
      | fail)
    refine LM.out.mono ?_
    rintro e w2 ⟨rfl, hb2⟩
    have HR2 := hidk ((hb2.block _ (heap_lt HRT.out)).trans HRT.out)
    have HL2 := hidk ((hb2.block _ (heap_lt HL.out)).trans HL.out)
    have hlr := heap_lt HR2.out
    have hll := heap_lt HL2.out
    clear HL HRT LM hc0 hc1 hc3
    go_wp2_with (first
      | (show wpList _ _ _ ({ dst := some 6, op := _, type := _, pos := _, after := _, guard := _ } :: _) _ _; refine wpList_new_var rfl 26 rfl Z HA.out ?_; intro g6 w3 HM6; try simp only [Act.put, List.setIfInBounds_toArray, List.set_cons_zero, List.set_cons_succ])
      | (show wpList _ _ _ ({ dst := some 7, op := _, type := _, pos := _, after := _, guard := _ } :: _) _ _; refine wpList_new_var rfl 26 rfl Z HA.out ?_; intro g7 w4 HM7; have HK6 := hidk ((HM7.out.below.block _ (heap_lt HM6.out.row)).trans HM6.out.row); have h67 : g6 < g7 := by { rw [HM7.out.new]; exact heap_lt HM6.out.row }; have h26 : w2.heap.size ≤ g6 := Nat.le_of_eq HM6.out.new.symm; try simp only [Act.put, List.setIfInBounds_toArray, List.set_cons_zero, List.set_cons_succ])
      | (refine wpList_set_var rfl 26 (.tmp 6) (.tmp 14) rfl g6 M1 rfl rfl 26 Z HK6.out HSM1.out HZM1.out H1M1.out ?_; intro w5 HW6; have HK7 := hidk ((HW6.out.other g7 (by omega)).trans HM7.out.row); try simp only [Act.put, List.setIfInBounds_toArray, List.set_cons_zero, List.set_cons_succ])
      | (refine wpList_set_var rfl 26 (.tmp 7) (.tmp 15) rfl g7 M2 rfl rfl 26 Z HK7.out HSM2.out HZM2.out H1M2.out ?_; intro w6 HW7; have HB6 := hidk (HW7.out.below w2.heap.size w2 (HW6.out.below w2.heap.size w2 (HM6.out.below.trans (HM7.out.below.mono HM6.out.below.size)) (by omega)) (by omega)); have HR6 := hidk ((HB6.out.block _ hlr).trans HR2.out); have HL6 := hidk ((HB6.out.block _ hll).trans HL2.out); have HR66 := hidk ((HW7.out.other g6 (by omega)).trans HW6.out.row); try simp only [Act.put, List.setIfInBounds_toArray, List.set_cons_zero, List.set_cons_succ])
      | (show wpList _ _ _ ({ dst := some 16, op := _, type := _, pos := _, after := _, guard := _ } :: _) _ _; refine wpList_load_row rfl 26 (.tmp 6) rfl g6 rfl 26 M1 (0, 0) _ HR66.out Tryd.underlying26 rfl HSM1.out ?_; try simp only [Act.put, List.setIfInBounds_toArray, List.set_cons_zero, List.set_cons_succ])
      | (show wpList _ _ _ ({ dst := some 17, op := _, type := _, pos := _, after := _, guard := _ } :: _) _ _; refine wpList_load_row rfl 26 (.tmp 2) rfl go rfl 26 X (0, 0) _ HL6.out Tryd.underlying26 rfl HSX.out ?_; try simp only [Act.put, List.setIfInBounds_toArray, List.set_cons_zero, List.set_cons_succ])
      | (show wpList _ _ _ ({ dst := some 20, op := _, type := _, pos := _, after := _, guard := _ } :: _) _ _; refine wpList_load_row_w (by rfl) 26 (.tmp 7) rfl g7 rfl 26 M2 (0, 0) _ HW7.out.row Tryd.underlying26 rfl HSM2.out ?_; try simp only [Act.put, List.setIfInBounds_toArray, List.set_cons_zero, List.set_cons_succ])
      | (show wpList _ _ _ ({ dst := some 21, op := _, type := _, pos := _, after := _, guard := _ } :: _) _ _; refine wpList_load_row_w (by rfl) 26 (.tmp 4) rfl gr rfl 26 R (0, 0) _ HR6.out Tryd.underlying26 rfl HSR.out ?_; try simp only [Act.put, List.setIfInBounds_toArray, List.set_cons_zero, List.set_cons_succ])
      | fail)
    go_ret
    exact ⟨rfl, hb2.trans (HB6.out.mono hb2.size)⟩
set_option maxHeartbeats 2000000 in
theorem empty_from (old : List UInt8) (n : Int) (root : List UInt8) (p : List (List UInt8)) (a : Option Addr) (len cap : Nat) (w : World) (O R : Array Value) (HO : Hid (O = (cellsOf old).toArray)) (HR : Hid (R = (cellsOf root).toArray)) (ho : old.length = 32) (hr : root.length = 32) (hn : 0 ≤ n ∧ n ≤ 100000) (hR : LReads w a len cap p) (hK : Table 1 w) :
    Calls Tryd.prog 48 #[.agg O, .int .i64 n, .agg R, .slice a len cap] w fun e w' => e = .returned (.int .i64 (conE 0 old n root p)) ∧ Below w.heap.size w w' := by
  rw [conE_none old n root p hn]
  have HSO : Hid ((Tryd.prog.info? 26).map (·.size) = some O.size) := by show _ = _; rw [size23, HO.out]; simp [cellsOf_length, ho]
  have HSR : Hid ((Tryd.prog.info? 26).map (·.size) = some R.size) := by show _ = _; rw [size23, HR.out]; simp [cellsOf_length, hr]
  have hml : len ≤ 9223372036854775807 := by have := hR.2.2.2.1; unfold maxLen at this; omega
  have HW : Hid (((w.alloc (.cells O 26)).alloc (.cells R 26)).heap[w.heap.size]? = some (.cells O 26 (0, 0)) ∧ ((w.alloc (.cells O 26)).alloc (.cells R 26)).heap[w.heap.size + 1]? = some (.cells R 26 (0, 0)) ∧ Below w.heap.size w ((w.alloc (.cells O 26)).alloc (.cells R 26))) := ⟨heap_alloc2_old w _ _, heap_alloc2_new w _ _, ((Below.refl _ _).alloc (Nat.le_refl _) _).alloc (by simp) _⟩
  by_cases h0 : len = 0
  · subst h0
    obtain rfl : p = [] := List.eq_nil_of_length_eq_zero hR.1
    rw [if_pos rfl]
    obtain ⟨E, HE, HSE, H1E, H32E⟩ := dig_row' (sumD []) (sumD_length _)
    have EM : Hid (∀ W, Below w.heap.size w W → Calls Tryd.prog 53 #[] W fun e w' => e = .returned (.agg E) ∧ Below W.heap.size W w') := fun W hb => empty_any W (hK.keep hb) E HE
    by_cases hoe : old = sumD []
    · have nq : ∀ W, (binOp .neq 26 (.agg O) (.agg E)).run Tryd.prog W = .ok (.bool false) W := fun W => neqDigV _ _ ho (sumD_length _) O E HO HE false (by simp [hoe]) W
      by_cases hn0 : n = 0
      · subst hn0
        obtain ⟨bb, hbb⟩ : ∃ b, (!decide (root = old)) = b := ⟨_, rfl⟩
        have nq2 : ∀ W, (binOp .neq 26 (.agg R) (.agg O)).run Tryd.prog W = .ok (.bool bb) W := fun W => neqDigV _ _ hr ho R O HR HO bb hbb W
        obtain ⟨V, hV⟩ : ∃ V : Int, (if old = sumD [] ∧ (0 = (0 : Int) → root = old) then (0 : Int) else 41) = V := ⟨_, rfl⟩
        have HBF : Hid (bb = false → V = 0) := fun e => by rw [← hV, if_pos]; rw [e] at hbb; exact ⟨hoe, fun _ => by simpa using hbb⟩
        have HBT : Hid (bb = true → V = 41) := fun e => by rw [← hV, if_neg]; rw [e] at hbb; rintro ⟨_, h⟩; simp [h rfl] at hbb
        rw [hV]
        clear hR hK hbb hoe hn HO HR HE hV
        go_enter Tryd.func48, Tryd.ntmps48
        go_wp2
        refine wp_region_held_drew (S := (fun W => W.heap[w.heap.size]? = some (.cells O 26 (0, 0)) ∧ W.heap[w.heap.size + 1]? = some (.cells R 26 (0, 0)))) (by kernel_rfl) ⟨HW.out.1, HW.out.2.1⟩ (fun hHeld => ?_)
        refine wpAnyH_take (i := 0) (oi := { dst := some 12, op := Op.load 26 (Operand.tmp 4), type := 26, pos := "check.go:43", after := #[], guard := none }) (v := .agg O) rfl (by kernel_rfl) (by kernel_rfl) (by kernel_rfl) (fun _ _ _ h => h) (yieldsIf_row (by rfl) 26 (.tmp 4) rfl w.heap.size rfl 26 O (0, 0) _ (fun _ h => h.1) Tryd.underlying26 rfl HSO.out) hHeld ?_
        try simp only [Act.put, List.setIfInBounds_toArray, List.set_cons_zero, List.set_cons_succ]
        refine wpAnyH_ready (rs := [1]) (by kernel_rfl) (by simp) ?_
        refine (AllReadyH.cons (o := { dst := some 13, op := Op.call { callee := Callee.value (Operand.func 53), args := #[], argTypes := #[] }, type := 26, pos := "check.go:43", after := #[], guard := none }) rfl (fun K hK => ?_) AllReadyH.nil)
        go_simp
        refine (EM.out _ HW.out.2.2.drew).mono ?_
        rintro e w1 ⟨rfl, hb1⟩
        have HB1 := hidk (HW.out.2.2.drew.trans (hb1.mono HW.out.2.2.size))
        go_wp2_with fail
        refine hK.out _ _ ⟨(hb1.block _ (heap_lt hHeld.1)).trans hHeld.1, (hb1.block _ (heap_lt hHeld.2)).trans hHeld.2⟩ (fun hHeld => ?_)
        clear hK K
        try simp only [Act.put, List.setIfInBounds_toArray, List.set_cons_zero, List.set_cons_succ]
        refine wpAnyH_take (i := 2) (oi := { dst := some 14, op := Op.binOp BinOp.neq 26 (Operand.tmp 12) (Operand.tmp 13) 26, type := 4, pos := "check.go:43", after := #[{ on := 0, ground := Ground.data }, { on := 1, ground := Ground.data }], guard := none }) (v := .bool false) rfl (by kernel_rfl) (by kernel_rfl) (by kernel_rfl) (fun _ _ _ h => h) (Or.inl ⟨by rfl, by intro W hSw; have := nq W; go_simp⟩) hHeld ?_
        try simp only [Act.put, List.setIfInBounds_toArray, List.set_cons_zero, List.set_cons_succ]
        refine wpAnyH_take (i := 3) (oi := { dst := some 15, op := Op.move (Operand.tmp 14), type := 4, pos := "check.go:43", after := #[{ on := 2, ground := Ground.data }, { on := 1, ground := Ground.chain }], guard := none }) (v := .bool false) rfl (by kernel_rfl) (by kernel_rfl) (by kernel_rfl) (fun _ _ _ h => h) (Or.inl ⟨by rfl, by intro W hSw; go_simp⟩) hHeld ?_
        try simp only [Act.put, List.setIfInBounds_toArray, List.set_cons_zero, List.set_cons_succ]
        refine wpAnyH_take (i := 4) (oi := { dst := some 16, op := Op.move (Operand.tmp 1), type := 3, pos := "check.go:43", after := #[{ on := 3, ground := Ground.guard }], guard := some (3, false) }) (v := .int .i64 0) rfl (by kernel_rfl) (by kernel_rfl) (by kernel_rfl) (fun _ _ _ h => h) (Or.inl ⟨by rfl, by intro W hSw; go_simp⟩) hHeld ?_
        try simp only [Act.put, List.setIfInBounds_toArray, List.set_cons_zero, List.set_cons_succ]
        refine wpAnyH_take (i := 5) (oi := { dst := some 17, op := Op.binOp BinOp.eql 3 (Operand.tmp 16) (Operand.const (Value.int IntKind.i64 0)) 3, type := 4, pos := "check.go:43", after := #[{ on := 4, ground := Ground.data }, { on := 3, ground := Ground.guard }], guard := some (3, false) }) (v := .bool true) rfl (by kernel_rfl) (by kernel_rfl) (by kernel_rfl) (fun _ _ _ h => h) (Or.inl ⟨by rfl, by intro W hSw; go_simp⟩) hHeld ?_
        try simp only [Act.put, List.setIfInBounds_toArray, List.set_cons_zero, List.set_cons_succ]
        refine wpAnyH_take (i := 6) (oi := { dst := some 18, op := Op.move (Operand.tmp 17), type := 4, pos := "check.go:43", after := #[{ on := 5, ground := Ground.data }, { on := 3, ground := Ground.chain }, { on := 3, ground := Ground.guard }], guard := some (3, false) }) (v := .bool true) rfl (by kernel_rfl) (by kernel_rfl) (by kernel_rfl) (fun _ _ _ h => h) (Or.inl ⟨by rfl, by intro W hSw; go_simp⟩) hHeld ?_
        try simp only [Act.put, List.setIfInBounds_toArray, List.set_cons_zero, List.set_cons_succ]
        refine wpAnyH_take (i := 7) (oi := { dst := some 19, op := Op.load 26 (Operand.tmp 6), type := 26, pos := "check.go:43", after := #[{ on := 6, ground := Ground.guard }], guard := some (6, true) }) (v := .agg R) rfl (by kernel_rfl) (by kernel_rfl) (by kernel_rfl) (fun _ _ _ h => h) (yieldsIf_row (by rfl) 26 (.tmp 6) rfl (w.heap.size + 1) rfl 26 R (0, 0) _ (fun _ h => h.2) Tryd.underlying26 rfl HSR.out) hHeld ?_
        try simp only [Act.put, List.setIfInBounds_toArray, List.set_cons_zero, List.set_cons_succ]
        refine wpAnyH_take (i := 8) (oi := { dst := some 20, op := Op.load 26 (Operand.tmp 4), type := 26, pos := "check.go:43", after := #[{ on := 6, ground := Ground.guard }], guard := some (6, true) }) (v := .agg O) rfl (by kernel_rfl) (by kernel_rfl) (by kernel_rfl) (fun _ _ _ h => h) (yieldsIf_row (by rfl) 26 (.tmp 4) rfl w.heap.size rfl 26 O (0, 0) _ (fun _ h => h.1) Tryd.underlying26 rfl HSO.out) hHeld ?_
        try simp only [Act.put, List.setIfInBounds_toArray, List.set_cons_zero, List.set_cons_succ]
        refine wpAnyH_take (i := 9) (oi := { dst := some 21, op := Op.binOp BinOp.neq 26 (Operand.tmp 19) (Operand.tmp 20) 26, type := 4, pos := "check.go:43", after := #[{ on := 7, ground := Ground.data }, { on := 8, ground := Ground.data }, { on := 6, ground := Ground.guard }], guard := some (6, true) }) (v := .bool bb) rfl (by kernel_rfl) (by kernel_rfl) (by kernel_rfl) (fun _ _ _ h => h) (Or.inl ⟨by rfl, by intro W hSw; have := nq2 W; go_simp⟩) hHeld ?_
        try simp only [Act.put, List.setIfInBounds_toArray, List.set_cons_zero, List.set_cons_succ]
        refine wpAnyH_take (i := 10) (oi := { dst := some 22, op := Op.pick (Operand.tmp 18) (Operand.tmp 21) (Operand.const (Value.bool false)), type := 4, pos := "check.go:43", after := #[{ on := 6, ground := Ground.data }, { on := 9, ground := Ground.data }, { on := 3, ground := Ground.guard }], guard := some (3, false) }) (v := .bool bb) rfl (by kernel_rfl) (by kernel_rfl) (by kernel_rfl) (fun _ _ _ h => h) (Or.inl ⟨by rfl, by intro W hSw; go_simp⟩) hHeld ?_
        try simp only [Act.put, List.setIfInBounds_toArray, List.set_cons_zero, List.set_cons_succ]
        refine wpAnyH_take (i := 11) (oi := { dst := some 23, op := Op.pick (Operand.tmp 15) (Operand.const (Value.bool true)) (Operand.tmp 22), type := 4, pos := "check.go:43", after := #[{ on := 3, ground := Ground.data }, { on := 10, ground := Ground.data }], guard := none }) (v := .bool bb) rfl (by kernel_rfl) (by kernel_rfl) (by kernel_rfl) (fun _ _ _ h => h) (Or.inl ⟨by rfl, by intro W hSw; go_simp⟩) hHeld ?_
        try simp only [Act.put, List.setIfInBounds_toArray, List.set_cons_zero, List.set_cons_succ]
        refine wpAnyH_done (by kernel_rfl) ?_ _
        cases bb
        · go_wp2
          go_ret
          exact ⟨by rw [HBF.out (by trivial)]; rfl, HB1.out⟩
        · go_wp2
          go_ret
          exact ⟨by rw [HBT.out (by trivial)]; rfl, HB1.out⟩
      · have c5 : (n == 0) = false := by rw [beq_eq_false_iff_ne]; exact hn0
        rw [if_pos ⟨hoe, fun e => absurd e hn0⟩]
        clear hR hK hoe hn HO HR HE hn0
        go_enter Tryd.func48, Tryd.ntmps48
        go_wp2
        refine wp_region_held_drew (S := (fun W => W.heap[w.heap.size]? = some (.cells O 26 (0, 0)) ∧ W.heap[w.heap.size + 1]? = some (.cells R 26 (0, 0)))) (by kernel_rfl) ⟨HW.out.1, HW.out.2.1⟩ (fun hHeld => ?_)
        refine wpAnyH_take (i := 0) (oi := { dst := some 12, op := Op.load 26 (Operand.tmp 4), type := 26, pos := "check.go:43", after := #[], guard := none }) (v := .agg O) rfl (by kernel_rfl) (by kernel_rfl) (by kernel_rfl) (fun _ _ _ h => h) (yieldsIf_row (by rfl) 26 (.tmp 4) rfl w.heap.size rfl 26 O (0, 0) _ (fun _ h => h.1) Tryd.underlying26 rfl HSO.out) hHeld ?_
        try simp only [Act.put, List.setIfInBounds_toArray, List.set_cons_zero, List.set_cons_succ]
        refine wpAnyH_ready (rs := [1]) (by kernel_rfl) (by simp) ?_
        refine (AllReadyH.cons (o := { dst := some 13, op := Op.call { callee := Callee.value (Operand.func 53), args := #[], argTypes := #[] }, type := 26, pos := "check.go:43", after := #[], guard := none }) rfl (fun K hK => ?_) AllReadyH.nil)
        go_simp
        refine (EM.out _ HW.out.2.2.drew).mono ?_
        rintro e w1 ⟨rfl, hb1⟩
        have HB1 := hidk (HW.out.2.2.drew.trans (hb1.mono HW.out.2.2.size))
        go_wp2_with fail
        refine hK.out _ _ ⟨(hb1.block _ (heap_lt hHeld.1)).trans hHeld.1, (hb1.block _ (heap_lt hHeld.2)).trans hHeld.2⟩ (fun hHeld => ?_)
        clear hK K
        try simp only [Act.put, List.setIfInBounds_toArray, List.set_cons_zero, List.set_cons_succ]
        refine wpAnyH_take (i := 2) (oi := { dst := some 14, op := Op.binOp BinOp.neq 26 (Operand.tmp 12) (Operand.tmp 13) 26, type := 4, pos := "check.go:43", after := #[{ on := 0, ground := Ground.data }, { on := 1, ground := Ground.data }], guard := none }) (v := .bool false) rfl (by kernel_rfl) (by kernel_rfl) (by kernel_rfl) (fun _ _ _ h => h) (Or.inl ⟨by rfl, by intro W hSw; have := nq W; go_simp⟩) hHeld ?_
        try simp only [Act.put, List.setIfInBounds_toArray, List.set_cons_zero, List.set_cons_succ]
        refine wpAnyH_take (i := 3) (oi := { dst := some 15, op := Op.move (Operand.tmp 14), type := 4, pos := "check.go:43", after := #[{ on := 2, ground := Ground.data }, { on := 1, ground := Ground.chain }], guard := none }) (v := .bool false) rfl (by kernel_rfl) (by kernel_rfl) (by kernel_rfl) (fun _ _ _ h => h) (Or.inl ⟨by rfl, by intro W hSw; go_simp⟩) hHeld ?_
        try simp only [Act.put, List.setIfInBounds_toArray, List.set_cons_zero, List.set_cons_succ]
        refine wpAnyH_take (i := 4) (oi := { dst := some 16, op := Op.move (Operand.tmp 1), type := 3, pos := "check.go:43", after := #[{ on := 3, ground := Ground.guard }], guard := some (3, false) }) (v := .int .i64 n) rfl (by kernel_rfl) (by kernel_rfl) (by kernel_rfl) (fun _ _ _ h => h) (Or.inl ⟨by rfl, by intro W hSw; go_simp⟩) hHeld ?_
        try simp only [Act.put, List.setIfInBounds_toArray, List.set_cons_zero, List.set_cons_succ]
        refine wpAnyH_take (i := 5) (oi := { dst := some 17, op := Op.binOp BinOp.eql 3 (Operand.tmp 16) (Operand.const (Value.int IntKind.i64 0)) 3, type := 4, pos := "check.go:43", after := #[{ on := 4, ground := Ground.data }, { on := 3, ground := Ground.guard }], guard := some (3, false) }) (v := .bool false) rfl (by kernel_rfl) (by kernel_rfl) (by kernel_rfl) (fun _ _ _ h => h) (Or.inl ⟨by rfl, by intro W hSw; go_simp⟩) hHeld ?_
        try simp only [Act.put, List.setIfInBounds_toArray, List.set_cons_zero, List.set_cons_succ]
        refine wpAnyH_take (i := 6) (oi := { dst := some 18, op := Op.move (Operand.tmp 17), type := 4, pos := "check.go:43", after := #[{ on := 5, ground := Ground.data }, { on := 3, ground := Ground.chain }, { on := 3, ground := Ground.guard }], guard := some (3, false) }) (v := .bool false) rfl (by kernel_rfl) (by kernel_rfl) (by kernel_rfl) (fun _ _ _ h => h) (Or.inl ⟨by rfl, by intro W hSw; go_simp⟩) hHeld ?_
        try simp only [Act.put, List.setIfInBounds_toArray, List.set_cons_zero, List.set_cons_succ]
        refine wpAnyH_take (i := 7) (oi := { dst := some 19, op := Op.load 26 (Operand.tmp 6), type := 26, pos := "check.go:43", after := #[{ on := 6, ground := Ground.guard }], guard := some (6, true) }) (v := undef) rfl (by kernel_rfl) (by kernel_rfl) (by kernel_rfl) (fun _ _ _ h => h) (Or.inr ⟨by rfl, rfl⟩) hHeld ?_
        try simp only [Act.put, List.setIfInBounds_toArray, List.set_cons_zero, List.set_cons_succ]
        refine wpAnyH_take (i := 8) (oi := { dst := some 20, op := Op.load 26 (Operand.tmp 4), type := 26, pos := "check.go:43", after := #[{ on := 6, ground := Ground.guard }], guard := some (6, true) }) (v := undef) rfl (by kernel_rfl) (by kernel_rfl) (by kernel_rfl) (fun _ _ _ h => h) (Or.inr ⟨by rfl, rfl⟩) hHeld ?_
        try simp only [Act.put, List.setIfInBounds_toArray, List.set_cons_zero, List.set_cons_succ]
        refine wpAnyH_take (i := 9) (oi := { dst := some 21, op := Op.binOp BinOp.neq 26 (Operand.tmp 19) (Operand.tmp 20) 26, type := 4, pos := "check.go:43", after := #[{ on := 7, ground := Ground.data }, { on := 8, ground := Ground.data }, { on := 6, ground := Ground.guard }], guard := some (6, true) }) (v := undef) rfl (by kernel_rfl) (by kernel_rfl) (by kernel_rfl) (fun _ _ _ h => h) (Or.inr ⟨by rfl, rfl⟩) hHeld ?_
        try simp only [Act.put, List.setIfInBounds_toArray, List.set_cons_zero, List.set_cons_succ]
        refine wpAnyH_take (i := 10) (oi := { dst := some 22, op := Op.pick (Operand.tmp 18) (Operand.tmp 21) (Operand.const (Value.bool false)), type := 4, pos := "check.go:43", after := #[{ on := 6, ground := Ground.data }, { on := 9, ground := Ground.data }, { on := 3, ground := Ground.guard }], guard := some (3, false) }) (v := .bool false) rfl (by kernel_rfl) (by kernel_rfl) (by kernel_rfl) (fun _ _ _ h => h) (Or.inl ⟨by rfl, by intro W hSw; go_simp⟩) hHeld ?_
        try simp only [Act.put, List.setIfInBounds_toArray, List.set_cons_zero, List.set_cons_succ]
        refine wpAnyH_take (i := 11) (oi := { dst := some 23, op := Op.pick (Operand.tmp 15) (Operand.const (Value.bool true)) (Operand.tmp 22), type := 4, pos := "check.go:43", after := #[{ on := 3, ground := Ground.data }, { on := 10, ground := Ground.data }], guard := none }) (v := .bool false) rfl (by kernel_rfl) (by kernel_rfl) (by kernel_rfl) (fun _ _ _ h => h) (Or.inl ⟨by rfl, by intro W hSw; go_simp⟩) hHeld ?_
        try simp only [Act.put, List.setIfInBounds_toArray, List.set_cons_zero, List.set_cons_succ]
        refine wpAnyH_done (by kernel_rfl) ?_ _
        go_wp2
        go_ret
        exact ⟨rfl, HB1.out⟩
    · have nq : ∀ W, (binOp .neq 26 (.agg O) (.agg E)).run Tryd.prog W = .ok (.bool true) W := fun W => neqDigV _ _ ho (sumD_length _) O E HO HE true (by simp [hoe]) W
      rw [if_neg (fun h => hoe h.1)]
      clear hR hK hoe hn HO HR HE
      go_enter Tryd.func48, Tryd.ntmps48
      go_wp2
      refine wp_region_held_drew (S := (fun W => W.heap[w.heap.size]? = some (.cells O 26 (0, 0)) ∧ W.heap[w.heap.size + 1]? = some (.cells R 26 (0, 0)))) (by kernel_rfl) ⟨HW.out.1, HW.out.2.1⟩ (fun hHeld => ?_)
      refine wpAnyH_take (i := 0) (oi := { dst := some 12, op := Op.load 26 (Operand.tmp 4), type := 26, pos := "check.go:43", after := #[], guard := none }) (v := .agg O) rfl (by kernel_rfl) (by kernel_rfl) (by kernel_rfl) (fun _ _ _ h => h) (yieldsIf_row (by rfl) 26 (.tmp 4) rfl w.heap.size rfl 26 O (0, 0) _ (fun _ h => h.1) Tryd.underlying26 rfl HSO.out) hHeld ?_
      try simp only [Act.put, List.setIfInBounds_toArray, List.set_cons_zero, List.set_cons_succ]
      refine wpAnyH_ready (rs := [1]) (by kernel_rfl) (by simp) ?_
      refine (AllReadyH.cons (o := { dst := some 13, op := Op.call { callee := Callee.value (Operand.func 53), args := #[], argTypes := #[] }, type := 26, pos := "check.go:43", after := #[], guard := none }) rfl (fun K hK => ?_) AllReadyH.nil)
      go_simp
      refine (EM.out _ HW.out.2.2.drew).mono ?_
      rintro e w1 ⟨rfl, hb1⟩
      have HB1 := hidk (HW.out.2.2.drew.trans (hb1.mono HW.out.2.2.size))
      go_wp2_with fail
      refine hK.out _ _ ⟨(hb1.block _ (heap_lt hHeld.1)).trans hHeld.1, (hb1.block _ (heap_lt hHeld.2)).trans hHeld.2⟩ (fun hHeld => ?_)
      clear hK K
      try simp only [Act.put, List.setIfInBounds_toArray, List.set_cons_zero, List.set_cons_succ]
      refine wpAnyH_take (i := 2) (oi := { dst := some 14, op := Op.binOp BinOp.neq 26 (Operand.tmp 12) (Operand.tmp 13) 26, type := 4, pos := "check.go:43", after := #[{ on := 0, ground := Ground.data }, { on := 1, ground := Ground.data }], guard := none }) (v := .bool true) rfl (by kernel_rfl) (by kernel_rfl) (by kernel_rfl) (fun _ _ _ h => h) (Or.inl ⟨by rfl, by intro W hSw; have := nq W; go_simp⟩) hHeld ?_
      try simp only [Act.put, List.setIfInBounds_toArray, List.set_cons_zero, List.set_cons_succ]
      refine wpAnyH_take (i := 3) (oi := { dst := some 15, op := Op.move (Operand.tmp 14), type := 4, pos := "check.go:43", after := #[{ on := 2, ground := Ground.data }, { on := 1, ground := Ground.chain }], guard := none }) (v := .bool true) rfl (by kernel_rfl) (by kernel_rfl) (by kernel_rfl) (fun _ _ _ h => h) (Or.inl ⟨by rfl, by intro W hSw; go_simp⟩) hHeld ?_
      try simp only [Act.put, List.setIfInBounds_toArray, List.set_cons_zero, List.set_cons_succ]
      refine wpAnyH_take (i := 4) (oi := { dst := some 16, op := Op.move (Operand.tmp 1), type := 3, pos := "check.go:43", after := #[{ on := 3, ground := Ground.guard }], guard := some (3, false) }) (v := undef) rfl (by kernel_rfl) (by kernel_rfl) (by kernel_rfl) (fun _ _ _ h => h) (Or.inr ⟨by rfl, rfl⟩) hHeld ?_
      try simp only [Act.put, List.setIfInBounds_toArray, List.set_cons_zero, List.set_cons_succ]
      refine wpAnyH_take (i := 5) (oi := { dst := some 17, op := Op.binOp BinOp.eql 3 (Operand.tmp 16) (Operand.const (Value.int IntKind.i64 0)) 3, type := 4, pos := "check.go:43", after := #[{ on := 4, ground := Ground.data }, { on := 3, ground := Ground.guard }], guard := some (3, false) }) (v := undef) rfl (by kernel_rfl) (by kernel_rfl) (by kernel_rfl) (fun _ _ _ h => h) (Or.inr ⟨by rfl, rfl⟩) hHeld ?_
      try simp only [Act.put, List.setIfInBounds_toArray, List.set_cons_zero, List.set_cons_succ]
      refine wpAnyH_take (i := 6) (oi := { dst := some 18, op := Op.move (Operand.tmp 17), type := 4, pos := "check.go:43", after := #[{ on := 5, ground := Ground.data }, { on := 3, ground := Ground.chain }, { on := 3, ground := Ground.guard }], guard := some (3, false) }) (v := undef) rfl (by kernel_rfl) (by kernel_rfl) (by kernel_rfl) (fun _ _ _ h => h) (Or.inr ⟨by rfl, rfl⟩) hHeld ?_
      try simp only [Act.put, List.setIfInBounds_toArray, List.set_cons_zero, List.set_cons_succ]
      refine wpAnyH_take (i := 7) (oi := { dst := some 19, op := Op.load 26 (Operand.tmp 6), type := 26, pos := "check.go:43", after := #[{ on := 6, ground := Ground.guard }], guard := some (6, true) }) (v := undef) rfl (by kernel_rfl) (by kernel_rfl) (by kernel_rfl) (fun _ _ _ h => h) (Or.inr ⟨by rfl, rfl⟩) hHeld ?_
      try simp only [Act.put, List.setIfInBounds_toArray, List.set_cons_zero, List.set_cons_succ]
      refine wpAnyH_take (i := 8) (oi := { dst := some 20, op := Op.load 26 (Operand.tmp 4), type := 26, pos := "check.go:43", after := #[{ on := 6, ground := Ground.guard }], guard := some (6, true) }) (v := undef) rfl (by kernel_rfl) (by kernel_rfl) (by kernel_rfl) (fun _ _ _ h => h) (Or.inr ⟨by rfl, rfl⟩) hHeld ?_
      try simp only [Act.put, List.setIfInBounds_toArray, List.set_cons_zero, List.set_cons_succ]
      refine wpAnyH_take (i := 9) (oi := { dst := some 21, op := Op.binOp BinOp.neq 26 (Operand.tmp 19) (Operand.tmp 20) 26, type := 4, pos := "check.go:43", after := #[{ on := 7, ground := Ground.data }, { on := 8, ground := Ground.data }, { on := 6, ground := Ground.guard }], guard := some (6, true) }) (v := undef) rfl (by kernel_rfl) (by kernel_rfl) (by kernel_rfl) (fun _ _ _ h => h) (Or.inr ⟨by rfl, rfl⟩) hHeld ?_
      try simp only [Act.put, List.setIfInBounds_toArray, List.set_cons_zero, List.set_cons_succ]
      refine wpAnyH_take (i := 10) (oi := { dst := some 22, op := Op.pick (Operand.tmp 18) (Operand.tmp 21) (Operand.const (Value.bool false)), type := 4, pos := "check.go:43", after := #[{ on := 6, ground := Ground.data }, { on := 9, ground := Ground.data }, { on := 3, ground := Ground.guard }], guard := some (3, false) }) (v := undef) rfl (by kernel_rfl) (by kernel_rfl) (by kernel_rfl) (fun _ _ _ h => h) (Or.inr ⟨by rfl, rfl⟩) hHeld ?_
      try simp only [Act.put, List.setIfInBounds_toArray, List.set_cons_zero, List.set_cons_succ]
      refine wpAnyH_take (i := 11) (oi := { dst := some 23, op := Op.pick (Operand.tmp 15) (Operand.const (Value.bool true)) (Operand.tmp 22), type := 4, pos := "check.go:43", after := #[{ on := 3, ground := Ground.data }, { on := 10, ground := Ground.data }], guard := none }) (v := .bool true) rfl (by kernel_rfl) (by kernel_rfl) (by kernel_rfl) (fun _ _ _ h => h) (Or.inl ⟨by rfl, by intro W hSw; go_simp⟩) hHeld ?_
      try simp only [Act.put, List.setIfInBounds_toArray, List.set_cons_zero, List.set_cons_succ]
      refine wpAnyH_done (by kernel_rfl) ?_ _
      go_wp2
      go_ret
      exact ⟨rfl, HB1.out⟩
  · have hp : p ≠ [] := fun e => by rw [e] at hR; exact h0 (by have := hR.1; simpa using this.symm)
    rw [if_neg hp]
    have d0 : decide (0 < (len : Int)) = true := by rw [decide_eq_true_eq]; omega
    have d0' : decide (0 < len) = true := by rw [decide_eq_true_eq]; omega
    have hpos : 0 < len := by omega
    clear hR hK HO HR hp h0
    go_enter Tryd.func48, Tryd.ntmps48
    go_wp2
    go_ret
    exact ⟨rfl, HW.out.2.2⟩
theorem fiveC_new (w : World) (O R : Array Value) (m n : Int) (a : Option Addr) (len cap : Nat) : FiveC w.heap.size (w.heap.size + 1) (w.heap.size + 2) (w.heap.size + 3) (w.heap.size + 4) m O n R a len cap (((((w.alloc (.cells #[.int .i64 m] 3)).alloc (.cells O 26)).alloc (.cells #[.int .i64 n] 3)).alloc (.cells R 26)).alloc (.cells #[.slice a len cap] 37)) ∧ Below w.heap.size w (((((w.alloc (.cells #[.int .i64 m] 3)).alloc (.cells O 26)).alloc (.cells #[.int .i64 n] 3)).alloc (.cells R 26)).alloc (.cells #[.slice a len cap] 37)) := by
  refine ⟨⟨heap_keep (heap_keep (heap_keep (heap_keep (heap_alloc_new w _)))), heap_keep (heap_keep (heap_keep ?_)), heap_keep (heap_keep ?_), heap_keep ?_, ?_⟩, ?_⟩
  · have := heap_alloc_new (w.alloc (.cells #[.int .i64 m] 3)) (.cells O 26)
    simpa using this
  · have := heap_alloc_new ((w.alloc (.cells #[.int .i64 m] 3)).alloc (.cells O 26)) (.cells #[.int .i64 n] 3)
    simpa using this
  · have := heap_alloc_new (((w.alloc (.cells #[.int .i64 m] 3)).alloc (.cells O 26)).alloc (.cells #[.int .i64 n] 3)) (.cells R 26)
    simpa using this
  · have := heap_alloc_new ((((w.alloc (.cells #[.int .i64 m] 3)).alloc (.cells O 26)).alloc (.cells #[.int .i64 n] 3)).alloc (.cells R 26)) (.cells #[.slice a len cap] 37)
    simpa using this
  · exact ((((((Below.refl _ _).alloc (Nat.le_refl _) _).alloc (by simp) _).alloc (by simp; omega) _).alloc (by simp; omega) _).alloc (by simp; omega) _)
set_option maxHeartbeats 1000000 in
theorem consistent_out (m n : Int) (a : Option Addr) (len cap : Nat) (w : World) (O R : Array Value) (h : ¬ (0 ≤ n ∧ n ≤ 100000 ∧ 0 ≤ m ∧ m ≤ n)) :
    Calls Tryd.prog 27 #[.int .i64 m, .agg O, .int .i64 n, .agg R, .slice a len cap] w fun e w' => e = .returned (.int .i64 40) ∧ Below w.heap.size w w' := by
  have HB := hidk (fiveC_new w O R m n a len cap).2
  have hF := (fiveC_new w O R m n a len cap).1
  have hc1 := cell_of_one hF.first
  have hc2 := cell_of_one hF.all
  clear hF
  by_cases h1 : n < 0
  · have d1 : decide (n < 0) = true := by rw [decide_eq_true_eq]; exact h1
    clear h h1
    go_enter Tryd.func27, Tryd.ntmps27
    go_wp2
    go_ret
    exact ⟨rfl, HB.out⟩
  · have d1 : decide (n < 0) = false := by rw [decide_eq_false_iff_not]; exact h1
    by_cases h2 : 100000 < n
    · have d2 : decide (100000 < n) = true := by rw [decide_eq_true_eq]; exact h2
      clear h h1 h2
      go_enter Tryd.func27, Tryd.ntmps27
      go_wp2
      go_ret
      exact ⟨rfl, HB.out⟩
    · have d2 : decide (100000 < n) = false := by rw [decide_eq_false_iff_not]; exact h2
      by_cases h3 : m < 0
      · have d3 : decide (m < 0) = true := by rw [decide_eq_true_eq]; exact h3
        clear h h1 h2 h3
        go_enter Tryd.func27, Tryd.ntmps27
        go_wp2
        go_ret
        exact ⟨rfl, HB.out⟩
      · have d3 : decide (m < 0) = false := by rw [decide_eq_false_iff_not]; exact h3
        have d4 : decide (n < m) = true := by rw [decide_eq_true_eq]; omega
        clear h h1 h2 h3
        go_enter Tryd.func27, Tryd.ntmps27
        go_wp2
        go_ret
        exact ⟨rfl, HB.out⟩
set_option maxHeartbeats 1000000 in
theorem consistent_none (old : List UInt8) (n : Int) (root : List UInt8) (p : List (List UInt8)) (a : Option Addr) (len cap : Nat) (w : World) (O R : Array Value) (HO : Hid (O = (cellsOf old).toArray)) (HR : Hid (R = (cellsOf root).toArray)) (ho : old.length = 32) (hr : root.length = 32) (hn : 0 ≤ n ∧ n ≤ 100000) (hR : LReads w a len cap p) (hK : Table 1 w) :
    Calls Tryd.prog 27 #[.int .i64 0, .agg O, .int .i64 n, .agg R, .slice a len cap] w fun e w' => e = .returned (.int .i64 (conE 0 old n root p)) ∧ Below w.heap.size w w' := by
  have HSO : Hid ((Tryd.prog.info? 26).map (·.size) = some O.size) := by show _ = _; rw [size23, HO.out]; simp [cellsOf_length, ho]
  have HSR : Hid ((Tryd.prog.info? 26).map (·.size) = some R.size) := by show _ = _; rw [size23, HR.out]; simp [cellsOf_length, hr]
  have HF := hidk (fiveC_new w O R 0 n a len cap)
  have hc1 := cell_of_one HF.out.1.first
  have hc2 := cell_of_one HF.out.1.all
  have hc3 := cell_of_one HF.out.1.proof
  have EM : Hid (∀ W, Below w.heap.size w W → Calls Tryd.prog 48 #[.agg O, .int .i64 n, .agg R, .slice a len cap] W fun e w' => e = .returned (.int .i64 (conE 0 old n root p)) ∧ Below W.heap.size W w') := fun W hb => empty_from old n root p a len cap W O R HO HR ho hr hn (hR.keep hb) (hK.keep hb)
  have d1 : decide (n < 0) = false := by rw [decide_eq_false_iff_not]; omega
  have d2 : decide (100000 < n) = false := by rw [decide_eq_false_iff_not]; omega
  obtain ⟨E, hE⟩ : ∃ E, E = conE 0 old n root p := ⟨_, rfl⟩
  rw [← hE] at EM ⊢
  clear hK hR hE hn HO HR
  go_enter Tryd.func27, Tryd.ntmps27
  go_wp2_with (first
    | (show wpList _ _ _ ({ dst := some 28, op := _, type := _, pos := _, after := _, guard := _ } :: _) _ _; refine wpList_load_row rfl 26 (.tmp 6) rfl (w.heap.size + 1) rfl 26 O (0, 0) _ HF.out.1.old Tryd.underlying26 rfl HSO.out ?_; try simp only [Act.put, List.setIfInBounds_toArray, List.set_cons_zero, List.set_cons_succ])
    | (show wpList _ _ _ ({ dst := some 30, op := _, type := _, pos := _, after := _, guard := _ } :: _) _ _; refine wpList_load_row rfl 26 (.tmp 8) rfl (w.heap.size + 3) rfl 26 R (0, 0) _ HF.out.1.root Tryd.underlying26 rfl HSR.out ?_; try simp only [Act.put, List.setIfInBounds_toArray, List.set_cons_zero, List.set_cons_succ])
    | fail)
  refine (EM.out _ HF.out.2).mono ?_
  rintro e w2 ⟨rfl, hb2⟩
  have HB2 := hidk (HF.out.2.trans (hb2.mono HF.out.2.size))
  clear hb2 EM HF hc1 hc2 hc3
  go_wp2
  go_ret
  exact ⟨rfl, HB2.out⟩
set_option maxHeartbeats 1000000 in
theorem consistent_some (M : Nat) (old : List UInt8) (N : Nat) (root : List UInt8) (p : List (List UInt8)) (a : Option Addr) (len cap : Nat) (w : World) (O R : Array Value) (HO : Hid (O = (cellsOf old).toArray)) (HR : Hid (R = (cellsOf root).toArray)) (ho : old.length = 32) (hr : root.length = 32) (hM1 : 1 ≤ M) (hMN : M ≤ N) (hN : N ≤ 100000) (hR : LReads w a len cap p) (hK : Table 1 w) :
    Calls Tryd.prog 27 #[.int .i64 M, .agg O, .int .i64 N, .agg R, .slice a len cap] w fun e w' => e = .returned (.int .i64 (conE M old N root p)) ∧ Below w.heap.size w w' := by
  have hmf : ∀ (fn : Fn) (first cap : Array Value) (w : World), (Instr.makeFunc fn first cap).run Tryd.prog w = .ok (.func fn first cap) w := fun _ _ _ _ => rfl
  have HF := hidk (fiveC_new w O R M N a len cap)
  have hc1 := cell_of_one HF.out.1.first
  have hc2 := cell_of_one HF.out.1.all
  have HD : Hid (∀ W, (((((w.alloc (.cells #[.int .i64 (M : Int)] 3)).alloc (.cells O 26)).alloc (.cells #[.int .i64 (N : Int)] 3)).alloc (.cells R 26)).alloc (.cells #[.slice a len cap] 37)) = W → Calls Tryd.prog 45 #[.func (.func 49) #[] #[.pointer (some ⟨w.heap.size, 0, none⟩), .pointer (some ⟨(w.heap.size + 2), 0, none⟩), .pointer (some ⟨(w.heap.size + 1), 0, none⟩), .pointer (some ⟨(w.heap.size + 4), 0, none⟩), .pointer (some ⟨(w.heap.size + 3), 0, none⟩)]] W fun e w' => e = .returned (.int .i64 (conE M old N root p)) ∧ Below W.heap.size W w') := fun W hW => by
    subst hW
    rw [conE_in M old N root p hM1 hMN hN]
    by_cases hm : (bothR p.reverse M N old true).2.2 = true
    · rw [if_pos hm]
      have := held_ok 49 _ _ (decide ((bothR p.reverse M N old true).1 = old ∧ (bothR p.reverse M N old true).2.1 = root)) (fun _ => by simp [go_sem]) (fun W' hb => cons1_ok root M N old p a len cap _ _ _ _ _ W' R O HR hr HO ho hM1 hMN hN (HF.out.1.keep hb) ((hR.keep HF.out.2).keep hb) ((hK.keep HF.out.2).keep hb) hm)
      simpa using this
    · rw [if_neg hm]
      exact held_no 49 _ _ (fun _ => by simp [go_sem]) (fun W' hb => cons1_no M N old p a len cap _ _ _ _ _ W' R O HO ho hM1 hMN hN (HF.out.1.keep hb) ((hR.keep HF.out.2).keep hb) (by simpa using hm))
  have d1 : decide ((N : Int) < 0) = false := by rw [decide_eq_false_iff_not]; omega
  have d2 : decide (100000 < (N : Int)) = false := by rw [decide_eq_false_iff_not]; omega
  have d2' : decide (100000 < N) = false := by rw [decide_eq_false_iff_not]; omega
  have d3 : decide ((M : Int) < 0) = false := by rw [decide_eq_false_iff_not]; omega
  have d4 : decide ((N : Int) < (M : Int)) = false := by rw [decide_eq_false_iff_not]; omega
  have d4' : decide (N < M) = false := by rw [decide_eq_false_iff_not]; omega
  have d5 : ((M : Int) == 0) = false := by rw [beq_eq_false_iff_ne]; omega
  obtain ⟨E, hE⟩ : ∃ E, E = conE M old N root p := ⟨_, rfl⟩
  rw [← hE] at HD ⊢
  have HB := hidk HF.out.2
  clear hK hR HF hE
  go_enter Tryd.func27, Tryd.ntmps27
  go_wp2_with fail
  refine (HD.out _ rfl).mono ?_
  rintro e w2 ⟨rfl, hb2⟩
  have HB2 := hidk (HB.out.trans (hb2.mono HB.out.size))
  clear hb2 HD
  go_wp2
  go_ret
  exact ⟨rfl, HB2.out⟩
end Go.Proofs.YtgclohgcehhfnaaDoor.P5

/- What the calls of package check answer, where Clash is not reached. -/
namespace Go.Proofs.YtgclohgcehhfnaaDoor.P5
open Go.RowKit Sums
set_option maxRecDepth 100000
set_option linter.unusedVariables false
theorem included_any (root : List UInt8) (size index : Int) (x : List UInt8) (p : List (List UInt8)) (a : Option Addr) (len cap : Nat) (w : World) (R X : Array Value) (HR : Hid (R = (cellsOf root).toArray)) (HX : Hid (X = (cellsOf x).toArray)) (hr : root.length = 32) (hx : x.length = 32) (hR : LReads w a len cap p) (hK : Table 1 w) :
    Calls Tryd.prog 26 #[.agg R, .int .i64 size, .int .i64 index, .agg X, .slice a len cap] w fun e w' => e = .returned (.int .i64 (incE root size index x p)) ∧ Below w.heap.size w w' := by
  by_cases h : 1 ≤ size ∧ size ≤ 100000 ∧ 0 ≤ index ∧ index < size
  · obtain ⟨S, rfl⟩ : ∃ S : Nat, size = S := ⟨size.toNat, by omega⟩
    obtain ⟨I, rfl⟩ : ∃ I : Nat, index = I := ⟨index.toNat, by omega⟩
    exact included_in root S I x p a len cap w R X HR hr HX hx (by omega) (by omega) (by omega) hR hK
  · rw [incE_out root size index x p h]
    exact included_out root size index a len cap w R X h
theorem checkC : CheckC where
  included := fun root size index leaf proof a len cap w R X HR HX hr hx hs hi hR hK => included_any root size index leaf proof a len cap w R X HR HX hr hx hR hK.sha
  consistent := fun m old n root proof a len cap w O R HO HR ho hr hm hn hR hK => by
    by_cases h : 0 ≤ n ∧ n ≤ 100000 ∧ 0 ≤ m ∧ m ≤ n
    · by_cases h0 : m = 0
      · subst h0
        exact consistent_none old n root proof a len cap w O R HO HR ho hr (by omega) hR hK.sha
      · obtain ⟨M, rfl⟩ : ∃ M : Nat, m = M := ⟨m.toNat, by omega⟩
        obtain ⟨N, rfl⟩ : ∃ N : Nat, n = N := ⟨n.toNat, by omega⟩
        exact consistent_some M old N root proof a len cap w O R HO HR ho hr (by omega) (by omega) (by omega) hR hK.sha
    · rw [conE_out m old n root proof h]
      exact consistent_out m n a len cap w O R h
end Go.Proofs.YtgclohgcehhfnaaDoor.P5
