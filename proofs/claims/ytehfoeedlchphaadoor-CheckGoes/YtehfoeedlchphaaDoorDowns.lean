/- What check.leafMakes answers: what a leaf and a proof make, and the knots on the way; or it gives up. -/
import Derived.Test.YtehfoeedlchphaaDoorHeaps
namespace Go.Proofs.YtehfoeedlchphaaDoor
open Go.RowKit Sums
set_option linter.unusedVariables false
set_option linter.unusedSimpArgs false

attribute [local go_sem] store_func

set_option maxHeartbeats 4000000 in
/-- Down to the leaf, where the proof makes nothing: it gives up. -/
theorem down_no (r : List (List UInt8)) : ∀ (S I : Nat) (x : List UInt8) (a : Option Addr) (len cap gl gf gk : Nat) (w : World) (hS1 : 1 ≤ S) (hS : S ≤ 100000) (hI : I < S) (hR : LReads w a len cap r.reverse)
    (hF : w.heap[gf]? = some (.cells #[.func (.func 42) #[] #[.pointer (some ⟨gl, 0, none⟩), .pointer (some ⟨gf, 0, none⟩), .pointer (some ⟨gk, 0, none⟩)]] 72 (0, 0))) (hm : (mkR r S I x).2 = false),
    Calls Tryd.prog 42 #[.int .i64 S, .int .i64 I, .slice a len cap, .pointer (some ⟨gl, 0, none⟩), .pointer (some ⟨gf, 0, none⟩), .pointer (some ⟨gk, 0, none⟩)] w fun e w' => (∃ u p, e = .panicked [{ v := .iface u p, recovered := false }]) ∧ Below w.heap.size w w' := by
  induction r with
  | nil =>
    intro S I x a len cap gl gf gk w hS1 hS hI hR hF hm
    have hl : len = 0 := by have := hR.1; simpa using this.symm
    subst hl
    have h1 : S ≠ 1 := fun e => by subst e; simp [mkR] at hm
    obtain ⟨Z, HZ, HA, HS, H1, H32⟩ := noughts27
    have c1 : ((S : Int) == 1) = false := by rw [beq_eq_false_iff_ne]; omega
    have SP : Hid (∀ W, Calls Tryd.prog 44 #[.int .i64 (S : Int)] W fun e w' => e = .returned (.int .i64 (split S : Nat)) ∧ W = w') := fun W => by
      have := split_any (S : Int) W (by omega)
      rwa [Int.toNat_natCast] at this
    clear hm hF hR
    go_enter Tryd.func42, Tryd.ntmps42
    go_wp2_with (first
      | (show wpList _ _ _ ({ dst := some 9, op := _, type := _, pos := _, after := _, guard := _ } :: _) _ _; refine wpList_new_var rfl 23 rfl Z HA.out ?_; intro g9 w1 HM9; try simp only [Act.put, List.setIfInBounds_toArray, List.set_cons_zero, List.set_cons_succ])
      | fail)
    refine (SP.out _).mono ?_
    rintro e w2 ⟨rfl, rfl⟩
    go_wp2_with fail
    refine (cut_no _ _ _).mono ?_
    rintro e w3 ⟨⟨u, p, rfl⟩, hb3⟩
    exact ⟨rfl, ⟨_, _, rfl⟩, HM9.out.below.trans (hb3.mono HM9.out.below.size)⟩
  | cons d r ih =>
    intro S I x a len cap gl gf gk w hS1 hS hI hR hF hm
    obtain ⟨Z, HZ, HA, HS, H1, H32⟩ := noughts27
    obtain ⟨ZK, HZK, HAK, H32K⟩ := noughtsK
    have hlen : r.length + 1 = len := by have := hR.1; simpa using this
    obtain ⟨m, hmm⟩ : ∃ m, m = r.length := ⟨_, rfl⟩
    obtain rfl : len = m + 1 := by omega
    have hml := hR.2.2.2.1
    by_cases h1 : S = 1
    · subst h1
      have MU : Hid (∀ W, Calls Tryd.prog 43 #[.int .i64 0, .slice a (m + 1) cap] W fun e w' => (∃ u p, e = .panicked [{ v := .iface u p, recovered := false }]) ∧ w' = W) := fun W => must_no 0 a (m + 1) cap W (by omega) hml
      clear hm hF hR ih
      go_enter Tryd.func42, Tryd.ntmps42
      go_wp2_with (first
        | (show wpList _ _ _ ({ dst := some 9, op := _, type := _, pos := _, after := _, guard := _ } :: _) _ _; refine wpList_new_var rfl 23 rfl Z HA.out ?_; intro g9 w1 HM9; try simp only [Act.put, List.setIfInBounds_toArray, List.set_cons_zero, List.set_cons_succ])
        | fail)
      refine (MU.out _).mono ?_
      rintro e w2 ⟨⟨u, p, rfl⟩, rfl⟩
      exact ⟨rfl, ⟨_, _, rfl⟩, HM9.out.below⟩
    · have c1 : ((S : Int) == 1) = false := by rw [beq_eq_false_iff_ne]; omega
      obtain ⟨k, hk⟩ : ∃ k, k = split S := ⟨_, rfl⟩
      have hkl := split_lt S (by omega)
      have hkp := split_pos S (by omega)
      rw [← hk] at hkl hkp
      have SP : Hid (∀ W, Calls Tryd.prog 44 #[.int .i64 (S : Int)] W fun e w' => e = .returned (.int .i64 (k : Nat)) ∧ W = w') := fun W => by
        have := split_any (S : Int) W (by omega)
        rw [Int.toNat_natCast, ← hk] at this
        exact this
      obtain ⟨g, o, rfl, hgl⟩ := hR.at (by omega)
      have hRr : (d :: r).reverse = r.reverse ++ [d] := by simp
      have hd : d.length = 32 := hR.2.1 d (by simp)
      obtain ⟨D, HD, HSD, H1D, H32D⟩ := dig_row' d hd
      have HZD : Hid (Z.size = D.size) := by show _ = _; rw [H32.out, H32D.out]
      rw [hRr] at hR
      have CU : Hid (∀ W, Below w.heap.size w W → Calls Tryd.prog 45 #[.slice (some ⟨g, o, none⟩) (m + 1) cap] W fun e w' => e = .returned (.tuple #[.slice (some ⟨g, o, none⟩) m cap, .agg D]) ∧ Below W.heap.size W w') := fun W hb =>
        cut_ok g o m cap r.reverse d W (hR.keep hb) D HD
      have RR : ∀ W, Below w.heap.size w W → LReads W (some ⟨g, o, none⟩) m cap r.reverse := fun W hb => by
        have := (hR.keep hb).take m (by omega)
        rwa [List.take_left' (by simp [hmm])] at this
      have FN : Hid (∀ W, Below w.heap.size w W → W.cell? ⟨gf, 0, none⟩ = some (.func (.func 42) #[] #[.pointer (some ⟨gl, 0, none⟩), .pointer (some ⟨gf, 0, none⟩), .pointer (some ⟨gk, 0, none⟩)])) := fun W hb => cell_of_one ((hb.block _ (heap_lt hF)).trans hF)
      have FH : ∀ W, Below w.heap.size w W → W.heap[gf]? = some (.cells #[.func (.func 42) #[] #[.pointer (some ⟨gl, 0, none⟩), .pointer (some ⟨gf, 0, none⟩), .pointer (some ⟨gk, 0, none⟩)]] 72 (0, 0)) := fun W hb => (hb.block _ (heap_lt hF)).trans hF
      by_cases hik : I < k
      · -- the left part
        have hm1 : (mkR r k I x).2 = false := by rw [mkR_left d r S I x h1 (by rw [← hk]; exact hik), ← hk] at hm; exact hm
        have IH : Hid (∀ W, Below w.heap.size w W → Calls Tryd.prog 42 #[.int .i64 (k : Int), .int .i64 (I : Int), .slice (some ⟨g, o, none⟩) m cap, .pointer (some ⟨gl, 0, none⟩), .pointer (some ⟨gf, 0, none⟩), .pointer (some ⟨gk, 0, none⟩)] W fun e w' => (∃ u p, e = .panicked [{ v := .iface u p, recovered := false }]) ∧ Below W.heap.size W w') := fun W hb => ih k I x (some ⟨g, o, none⟩) m cap gl gf gk W hkp (by omega) hik (RR W hb) (FH W hb) hm1
        have hdl : (decide ((I : Int) < (k : Int))) = true := by rw [decide_eq_true_eq]; omega
        clear hm hm1 hF hR ih FH RR hk hmm hRr
        go_enter Tryd.func42, Tryd.ntmps42
        go_wp2_with (first
          | (show wpList _ _ _ ({ dst := some 9, op := _, type := _, pos := _, after := _, guard := _ } :: _) _ _; refine wpList_new_var rfl 23 rfl Z HA.out ?_; intro g9 w1 HM9; try simp only [Act.put, List.setIfInBounds_toArray, List.set_cons_zero, List.set_cons_succ])
          | fail)
        refine (SP.out _).mono ?_
        rintro e w2 ⟨rfl, rfl⟩
        go_wp2_with fail
        refine (CU.out _ HM9.out.below).mono ?_
        rintro e w3 ⟨rfl, hb3⟩
        have HB3 := hidk (HM9.out.below.trans (hb3.mono HM9.out.below.size))
        clear hb3 HM9 SP CU
        go_wp2_with (first
          | (show wpList _ _ _ ({ dst := some 12, op := _, type := _, pos := _, after := _, guard := _ } :: _) _ _; refine wpList_new_var rfl 23 rfl Z HA.out ?_; intro g12 w4 HM12; try simp only [Act.put, List.setIfInBounds_toArray, List.set_cons_zero, List.set_cons_succ])
          | (refine wpList_set_var rfl 23 (.tmp 12) (.tmp 25) rfl g12 D rfl rfl 23 Z HM12.out.row HSD.out HZD.out H1D.out ?_; intro w5 HW12; try simp only [Act.put, List.setIfInBounds_toArray, List.set_cons_zero, List.set_cons_succ])
          | (show wpList _ _ _ ({ dst := some 13, op := _, type := _, pos := _, after := _, guard := _ } :: _) _ _; refine wpList_new_var rfl 57 rfl ZK HAK.out ?_; intro g13 w6 HM13; try simp only [Act.put, List.setIfInBounds_toArray, List.set_cons_zero, List.set_cons_succ])
          | fail)
        have hg12 : w.heap.size ≤ g12 := by rw [HM12.out.new]; exact HB3.out.size
        have HB5 := hidk (HW12.out.below w.heap.size w (HB3.out.trans (HM12.out.below.mono HB3.out.size)) hg12)
        have HB6 := hidk (HB5.out.trans (HM13.out.below.mono HB5.out.size))
        have HR6 := hidk ((HM13.out.below.block _ (heap_lt HW12.out.row)).trans HW12.out.row)
        clear HM12 HW12 HM13 HB3 HB5
        refine wp_region_held_drew (S := (fun W => W.cell? ⟨gf, 0, none⟩ = some (.func (.func 42) #[] #[.pointer (some ⟨gl, 0, none⟩), .pointer (some ⟨gf, 0, none⟩), .pointer (some ⟨gk, 0, none⟩)]) ∧ W.heap[g12]? = some (.cells D 23 (0, 0)))) (by kernel_rfl) ⟨FN.out _ HB6.out.drew, HR6.out⟩ (fun hHeld => ?_)
        refine wpAnyH_take (i := 0) (oi := { dst := some 29, op := Op.load 72 (Operand.tmp 4), type := 72, pos := "check.go:101", after := #[], guard := none }) (v := .func (.func 42) #[] #[.pointer (some ⟨gl, 0, none⟩), .pointer (some ⟨gf, 0, none⟩), .pointer (some ⟨gk, 0, none⟩)]) rfl (by kernel_rfl) (by kernel_rfl) (by kernel_rfl) (fun _ _ _ h => h) (Or.inl ⟨by rfl, by intro W hSw; have h := hSw.1; go_simp⟩) hHeld ?_
        try simp only [Act.put, List.setIfInBounds_toArray, List.set_cons_zero, List.set_cons_succ]
        refine wpAnyH_take (i := 1) (oi := { dst := some 30, op := Op.move (Operand.tmp 10), type := 3, pos := "check.go:101", after := #[], guard := none }) (v := .int .i64 (k : Int)) rfl (by kernel_rfl) (by kernel_rfl) (by kernel_rfl) (fun _ _ _ h => h) (Or.inl ⟨by rfl, by intro W hSw; go_simp⟩) hHeld ?_
        try simp only [Act.put, List.setIfInBounds_toArray, List.set_cons_zero, List.set_cons_succ]
        refine wpAnyH_take (i := 2) (oi := { dst := some 31, op := Op.move (Operand.tmp 1), type := 3, pos := "check.go:101", after := #[], guard := none }) (v := .int .i64 (I : Int)) rfl (by kernel_rfl) (by kernel_rfl) (by kernel_rfl) (fun _ _ _ h => h) (Or.inl ⟨by rfl, by intro W hSw; go_simp⟩) hHeld ?_
        try simp only [Act.put, List.setIfInBounds_toArray, List.set_cons_zero, List.set_cons_succ]
        refine wpAnyH_take (i := 3) (oi := { dst := some 32, op := Op.move (Operand.tmp 11), type := 24, pos := "check.go:101", after := #[], guard := none }) (v := .slice (some ⟨g, o, none⟩) m cap) rfl (by kernel_rfl) (by kernel_rfl) (by kernel_rfl) (fun _ _ _ h => h) (Or.inl ⟨by rfl, by intro W hSw; go_simp⟩) hHeld ?_
        try simp only [Act.put, List.setIfInBounds_toArray, List.set_cons_zero, List.set_cons_succ]
        refine wpAnyH_take (i := 5) (oi := { dst := some 34, op := Op.load 23 (Operand.tmp 12), type := 23, pos := "check.go:101", after := #[], guard := none }) (v := .agg D) rfl (by kernel_rfl) (by kernel_rfl) (by kernel_rfl) (fun _ _ _ h => h) (yieldsIf_row (by rfl) 23 (.tmp 12) rfl g12 rfl 23 D (0, 0) _ (fun _ h => h.2) Tryd.underlying23 rfl HSD.out) hHeld ?_
        try simp only [Act.put, List.setIfInBounds_toArray, List.set_cons_zero, List.set_cons_succ]
        refine wpAnyH_ready (rs := [4]) (by kernel_rfl) (by simp) ?_
        refine (AllReadyH.cons (o := { dst := some 33, op := Op.call { callee := Callee.value (Operand.tmp 29), args := #[Operand.tmp 30, Operand.tmp 31, Operand.tmp 32], argTypes := #[3, 3, 24] }, type := 23, pos := "check.go:101", after := #[{ on := 0, ground := Ground.data }, { on := 1, ground := Ground.data }, { on := 2, ground := Ground.data }, { on := 3, ground := Ground.data }], guard := none }) rfl (fun K hK => ?_) AllReadyH.nil)
        go_simp
        refine (IH.out _ HB6.out.drew).mono ?_
        rintro e w7 ⟨⟨u, p, rfl⟩, hb7⟩
        exact ⟨rfl, ⟨_, _, rfl⟩, HB6.out.drew.trans (hb7.mono HB6.out.drew.size)⟩
      · -- the right part
        have hm1 : (mkR r (S - k) (I - k) x).2 = false := by rw [mkR_right d r S I x h1 (by rw [← hk]; exact hik), ← hk] at hm; exact hm
        have IH : Hid (∀ W, Below w.heap.size w W → Calls Tryd.prog 42 #[.int .i64 ((S : Int) - (k : Int)), .int .i64 ((I : Int) - (k : Int)), .slice (some ⟨g, o, none⟩) m cap, .pointer (some ⟨gl, 0, none⟩), .pointer (some ⟨gf, 0, none⟩), .pointer (some ⟨gk, 0, none⟩)] W fun e w' => (∃ u p, e = .panicked [{ v := .iface u p, recovered := false }]) ∧ Below W.heap.size W w') := fun W hb => by
          rw [show ((S : Int) - (k : Int)) = ((S - k : Nat) : Int) by omega, show ((I : Int) - (k : Int)) = ((I - k : Nat) : Int) by omega]
          exact ih (S - k) (I - k) x (some ⟨g, o, none⟩) m cap gl gf gk W (by omega) (by omega) (by omega) (RR W hb) (FH W hb) hm1
        have hdl : (decide ((I : Int) < (k : Int))) = false := by rw [decide_eq_false_iff_not]; omega
        have wr1 := wrap_int ((S : Int) - (k : Int)) (by omega) (by omega)
        have wr2 := wrap_int ((I : Int) - (k : Int)) (by omega) (by omega)
        clear hm hm1 hF hR ih FH RR hk hmm hRr
        go_enter Tryd.func42, Tryd.ntmps42
        go_wp2_with (first
          | (show wpList _ _ _ ({ dst := some 9, op := _, type := _, pos := _, after := _, guard := _ } :: _) _ _; refine wpList_new_var rfl 23 rfl Z HA.out ?_; intro g9 w1 HM9; try simp only [Act.put, List.setIfInBounds_toArray, List.set_cons_zero, List.set_cons_succ])
          | fail)
        refine (SP.out _).mono ?_
        rintro e w2 ⟨rfl, rfl⟩
        go_wp2_with fail
        refine (CU.out _ HM9.out.below).mono ?_
        rintro e w3 ⟨rfl, hb3⟩
        have HB3 := hidk (HM9.out.below.trans (hb3.mono HM9.out.below.size))
        clear hb3 HM9 SP CU
        go_wp2_with (first
          | (show wpList _ _ _ ({ dst := some 12, op := _, type := _, pos := _, after := _, guard := _ } :: _) _ _; refine wpList_new_var rfl 23 rfl Z HA.out ?_; intro g12 w4 HM12; try simp only [Act.put, List.setIfInBounds_toArray, List.set_cons_zero, List.set_cons_succ])
          | (refine wpList_set_var rfl 23 (.tmp 12) (.tmp 25) rfl g12 D rfl rfl 23 Z HM12.out.row HSD.out HZD.out H1D.out ?_; intro w5 HW12; try simp only [Act.put, List.setIfInBounds_toArray, List.set_cons_zero, List.set_cons_succ])
          | (show wpList _ _ _ ({ dst := some 13, op := _, type := _, pos := _, after := _, guard := _ } :: _) _ _; refine wpList_new_var rfl 57 rfl ZK HAK.out ?_; intro g13 w6 HM13; try simp only [Act.put, List.setIfInBounds_toArray, List.set_cons_zero, List.set_cons_succ])
          | fail)
        have hg12 : w.heap.size ≤ g12 := by rw [HM12.out.new]; exact HB3.out.size
        have HB5 := hidk (HW12.out.below w.heap.size w (HB3.out.trans (HM12.out.below.mono HB3.out.size)) hg12)
        have HB6 := hidk (HB5.out.trans (HM13.out.below.mono HB5.out.size))
        have HR6 := hidk ((HM13.out.below.block _ (heap_lt HW12.out.row)).trans HW12.out.row)
        clear HM12 HW12 HM13 HB3 HB5
        refine wp_region_held_drew (S := (fun W => W.cell? ⟨gf, 0, none⟩ = some (.func (.func 42) #[] #[.pointer (some ⟨gl, 0, none⟩), .pointer (some ⟨gf, 0, none⟩), .pointer (some ⟨gk, 0, none⟩)]) ∧ W.heap[g12]? = some (.cells D 23 (0, 0)))) (by kernel_rfl) ⟨FN.out _ HB6.out.drew, HR6.out⟩ (fun hHeld => ?_)
        refine wpAnyH_take (i := 0) (oi := { dst := some 36, op := Op.load 23 (Operand.tmp 12), type := 23, pos := "check.go:103", after := #[], guard := none }) (v := .agg D) rfl (by kernel_rfl) (by kernel_rfl) (by kernel_rfl) (fun _ _ _ h => h) (yieldsIf_row (by rfl) 23 (.tmp 12) rfl g12 rfl 23 D (0, 0) _ (fun _ h => h.2) Tryd.underlying23 rfl HSD.out) hHeld ?_
        try simp only [Act.put, List.setIfInBounds_toArray, List.set_cons_zero, List.set_cons_succ]
        refine wpAnyH_take (i := 1) (oi := { dst := some 37, op := Op.load 72 (Operand.tmp 4), type := 72, pos := "check.go:103", after := #[], guard := none }) (v := .func (.func 42) #[] #[.pointer (some ⟨gl, 0, none⟩), .pointer (some ⟨gf, 0, none⟩), .pointer (some ⟨gk, 0, none⟩)]) rfl (by kernel_rfl) (by kernel_rfl) (by kernel_rfl) (fun _ _ _ h => h) (Or.inl ⟨by rfl, by intro W hSw; have h := hSw.1; go_simp⟩) hHeld ?_
        try simp only [Act.put, List.setIfInBounds_toArray, List.set_cons_zero, List.set_cons_succ]
        refine wpAnyH_take (i := 2) (oi := { dst := some 38, op := Op.move (Operand.tmp 0), type := 3, pos := "check.go:103", after := #[], guard := none }) (v := .int .i64 (S : Int)) rfl (by kernel_rfl) (by kernel_rfl) (by kernel_rfl) (fun _ _ _ h => h) (Or.inl ⟨by rfl, by intro W hSw; go_simp⟩) hHeld ?_
        try simp only [Act.put, List.setIfInBounds_toArray, List.set_cons_zero, List.set_cons_succ]
        refine wpAnyH_take (i := 3) (oi := { dst := some 39, op := Op.move (Operand.tmp 10), type := 3, pos := "check.go:103", after := #[], guard := none }) (v := .int .i64 (k : Int)) rfl (by kernel_rfl) (by kernel_rfl) (by kernel_rfl) (fun _ _ _ h => h) (Or.inl ⟨by rfl, by intro W hSw; go_simp⟩) hHeld ?_
        try simp only [Act.put, List.setIfInBounds_toArray, List.set_cons_zero, List.set_cons_succ]
        refine wpAnyH_take (i := 4) (oi := { dst := some 40, op := Op.binOp BinOp.sub 3 (Operand.tmp 38) (Operand.tmp 39) 3, type := 3, pos := "check.go:103", after := #[{ on := 2, ground := Ground.data }, { on := 3, ground := Ground.data }], guard := none }) (v := .int .i64 ((S : Int) - (k : Int))) rfl (by kernel_rfl) (by kernel_rfl) (by kernel_rfl) (fun _ _ _ h => h) (Or.inl ⟨by rfl, by intro W hSw; go_simp⟩) hHeld ?_
        try simp only [Act.put, List.setIfInBounds_toArray, List.set_cons_zero, List.set_cons_succ]
        refine wpAnyH_take (i := 5) (oi := { dst := some 41, op := Op.move (Operand.tmp 1), type := 3, pos := "check.go:103", after := #[], guard := none }) (v := .int .i64 (I : Int)) rfl (by kernel_rfl) (by kernel_rfl) (by kernel_rfl) (fun _ _ _ h => h) (Or.inl ⟨by rfl, by intro W hSw; go_simp⟩) hHeld ?_
        try simp only [Act.put, List.setIfInBounds_toArray, List.set_cons_zero, List.set_cons_succ]
        refine wpAnyH_take (i := 6) (oi := { dst := some 42, op := Op.move (Operand.tmp 10), type := 3, pos := "check.go:103", after := #[], guard := none }) (v := .int .i64 (k : Int)) rfl (by kernel_rfl) (by kernel_rfl) (by kernel_rfl) (fun _ _ _ h => h) (Or.inl ⟨by rfl, by intro W hSw; go_simp⟩) hHeld ?_
        try simp only [Act.put, List.setIfInBounds_toArray, List.set_cons_zero, List.set_cons_succ]
        refine wpAnyH_take (i := 7) (oi := { dst := some 43, op := Op.binOp BinOp.sub 3 (Operand.tmp 41) (Operand.tmp 42) 3, type := 3, pos := "check.go:103", after := #[{ on := 5, ground := Ground.data }, { on := 6, ground := Ground.data }], guard := none }) (v := .int .i64 ((I : Int) - (k : Int))) rfl (by kernel_rfl) (by kernel_rfl) (by kernel_rfl) (fun _ _ _ h => h) (Or.inl ⟨by rfl, by intro W hSw; go_simp⟩) hHeld ?_
        try simp only [Act.put, List.setIfInBounds_toArray, List.set_cons_zero, List.set_cons_succ]
        refine wpAnyH_take (i := 8) (oi := { dst := some 44, op := Op.move (Operand.tmp 11), type := 24, pos := "check.go:103", after := #[], guard := none }) (v := .slice (some ⟨g, o, none⟩) m cap) rfl (by kernel_rfl) (by kernel_rfl) (by kernel_rfl) (fun _ _ _ h => h) (Or.inl ⟨by rfl, by intro W hSw; go_simp⟩) hHeld ?_
        try simp only [Act.put, List.setIfInBounds_toArray, List.set_cons_zero, List.set_cons_succ]
        refine wpAnyH_ready (rs := [9]) (by kernel_rfl) (by simp) ?_
        refine (AllReadyH.cons (o := { dst := some 45, op := Op.call { callee := Callee.value (Operand.tmp 37), args := #[Operand.tmp 40, Operand.tmp 43, Operand.tmp 44], argTypes := #[3, 3, 24] }, type := 23, pos := "check.go:103", after := #[{ on := 1, ground := Ground.data }, { on := 4, ground := Ground.data }, { on := 7, ground := Ground.data }, { on := 8, ground := Ground.data }], guard := none }) rfl (fun K hK => ?_) AllReadyH.nil)
        go_simp
        refine (IH.out _ HB6.out.drew).mono ?_
        rintro e w7 ⟨⟨u, p, rfl⟩, hb7⟩
        exact ⟨rfl, ⟨_, _, rfl⟩, HB6.out.drew.trans (hb7.mono HB6.out.drew.size)⟩

set_option maxHeartbeats 4000000 in
/-- Down to the leaf, where the proof makes something. -/
theorem down_ok (r : List (List UInt8)) : ∀ (S I : Nat) (x : List UInt8) (acc : List (List UInt8)) (a : Option Addr) (len cap B gl gf gk : Nat) (v : Value) (w : World) (X : Array Value) (HX : Hid (X = (cellsOf x).toArray)) (hx : x.length = 32) (hS1 : 1 ≤ S) (hS : S ≤ 100000) (hI : I < S) (hR : LReads w a len cap r.reverse)
    (hH : KH B gl gf gk X (.func (.func 42) #[] #[.pointer (some ⟨gl, 0, none⟩), .pointer (some ⟨gf, 0, none⟩), .pointer (some ⟨gk, 0, none⟩)]) v acc w) (hlk : gl ≠ gk) (hfk : gf ≠ gk) (hBk : B ≤ gk) (hBw : B ≤ w.heap.size) (hac : acc.length + r.length ≤ 1000) (hK : Table 0 w) (hKB : 0 < B) (hm : (mkR r S I x).2 = true)
    (M : Array Value) (HM : Hid (M = (cellsOf (mkR r S I x).1).toArray)),
    Calls Tryd.prog 42 #[.int .i64 S, .int .i64 I, .slice a len cap, .pointer (some ⟨gl, 0, none⟩), .pointer (some ⟨gf, 0, none⟩), .pointer (some ⟨gk, 0, none⟩)] w fun e w' => e = .returned (.agg M) ∧ ∃ v', KH B gl gf gk X (.func (.func 42) #[] #[.pointer (some ⟨gl, 0, none⟩), .pointer (some ⟨gf, 0, none⟩), .pointer (some ⟨gk, 0, none⟩)]) v' (acc ++ kn r S I x) w' ∧ Grew gk v v' w w' := by
  induction r with
  | nil =>
    intro S I x acc a len cap B gl gf gk v w X HX hx hS1 hS hI hR hH hlk hfk hBk hBw hac hK hKB hm M HM
    have hl : len = 0 := by have := hR.1; simpa using this.symm
    subst hl
    obtain rfl : S = 1 := by simpa [mkR] using hm
    obtain rfl : M = X := by rw [HM.out, HX.out]; rfl
    obtain ⟨Z, HZ, HA, HS, H1, H32⟩ := noughts27
    have HSX : Hid ((Tryd.prog.info? 23).map (·.size) = some M.size) := by show _ = _; rw [size23, HX.out]; simp [cellsOf_length, hx]
    have H1X : Hid (M.all (·.oneCell') = true) := by show _ = _; rw [HX.out]; exact cellsOf_all _
    have HZX : Hid (Z.size = M.size) := by show _ = _; rw [H32.out, HX.out]; simp [cellsOf_length, hx]
    have MU : Hid (∀ W, Calls Tryd.prog 43 #[.int .i64 0, .slice a 0 cap] W fun e w' => e = .returned (.tuple #[]) ∧ w' = W) := fun W => must_ok 0 a 0 cap W rfl (by unfold maxLen; omega)
    have HH := hidk hH
    have Hsz : Hid (gl < w.heap.size ∧ gf < w.heap.size ∧ gk < w.heap.size ∧ ∀ q, v.ownBlock = some q → q < w.heap.size) := ⟨heap_lt hH.leaf, heap_lt hH.fn, heap_lt hH.var, fun q e => (hH.own.lt q e).2⟩
    have HE : Hid (acc ++ kn [] 1 I x = acc) := by show _ = _; simp [kn]
    rw [HE.out]
    clear hm hH hR hK HM HE
    go_enter Tryd.func42, Tryd.ntmps42
    go_wp2_with (first
      | (show wpList _ _ _ ({ dst := some 9, op := _, type := _, pos := _, after := _, guard := _ } :: _) _ _; refine wpList_new_var rfl 23 rfl Z HA.out ?_; intro g9 w1 HM9; try simp only [Act.put, List.setIfInBounds_toArray, List.set_cons_zero, List.set_cons_succ])
      | fail)
    refine (MU.out _).mono ?_
    rintro e w2 ⟨rfl, rfl⟩
    have HL1 := hidk ((HM9.out.below.block _ Hsz.out.1).trans HH.out.leaf)
    go_wp2_with (first
      | (show wpList _ _ _ ({ dst := some 18, op := _, type := _, pos := _, after := _, guard := _ } :: _) _ _; refine wpList_load_row rfl 23 (.tmp 3) rfl gl rfl 23 M (0, 0) _ HL1.out Tryd.underlying23 rfl HSX.out ?_; try simp only [Act.put, List.setIfInBounds_toArray, List.set_cons_zero, List.set_cons_succ])
      | (refine wpList_set_var rfl 23 (.tmp 9) (.tmp 18) rfl g9 M rfl rfl 23 Z HM9.out.row HSX.out HZX.out H1X.out ?_; intro w3 HW9; try simp only [Act.put, List.setIfInBounds_toArray, List.set_cons_zero, List.set_cons_succ])
      | fail)
    have hn := HM9.out.new
    refine bodyPost_ret (v := .agg M) ?_ rfl ⟨rfl, v, (HH.out.keep HM9.out.below).wrote HW9.out (by have := Hsz.out.1; omega) (by have := Hsz.out.2.1; omega) (by have := Hsz.out.2.2.1; omega) (fun e => by have := Hsz.out.2.2.2 _ e.symm; omega), (Grew.of HM9.out.below).wrote HW9.out (by omega)⟩
    exact results_cell_row (p := 9) (ty := 23) rfl _ _ g9 23 M (0, 0) _ rfl HW9.out.row Tryd.underlying23 rfl HSX.out
  | cons d r ih =>
    intro S I x acc a len cap B gl gf gk v w X HX hx hS1 hS hI hR hH hlk hfk hBk hBw hac hK hKB hm M HM
    obtain ⟨Z, HZ, HA, HS, H1, H32⟩ := noughts27
    obtain ⟨ZK, HZK, HAK, H32K⟩ := noughtsK
    have hlen : r.length + 1 = len := by have := hR.1; simpa using this
    obtain ⟨m, hmm⟩ : ∃ m, m = r.length := ⟨_, rfl⟩
    obtain rfl : len = m + 1 := by omega
    have hml := hR.2.2.2.1
    have h1 : S ≠ 1 := fun e => by subst e; rw [mkR_one] at hm; cases hm
    have c1 : ((S : Int) == 1) = false := by rw [beq_eq_false_iff_ne]; omega
    obtain ⟨k, hk⟩ : ∃ k, k = split S := ⟨_, rfl⟩
    have hkl := split_lt S (by omega)
    have hkp := split_pos S (by omega)
    rw [← hk] at hkl hkp
    have SP : Hid (∀ W, Calls Tryd.prog 44 #[.int .i64 (S : Int)] W fun e w' => e = .returned (.int .i64 (k : Nat)) ∧ W = w') := fun W => by
      have := split_any (S : Int) W (by omega)
      rw [Int.toNat_natCast, ← hk] at this
      exact this
    obtain ⟨g, o, rfl, hgl⟩ := hR.at (by omega)
    have hRr : (d :: r).reverse = r.reverse ++ [d] := by simp
    have hd : d.length = 32 := hR.2.1 d (by simp)
    obtain ⟨D, HD, HSD, H1D, H32D⟩ := dig_row' d hd
    have HZD : Hid (Z.size = D.size) := by show _ = _; rw [H32.out, H32D.out]
    rw [hRr] at hR
    have CU : Hid (∀ W, Below w.heap.size w W → Calls Tryd.prog 45 #[.slice (some ⟨g, o, none⟩) (m + 1) cap] W fun e w' => e = .returned (.tuple #[.slice (some ⟨g, o, none⟩) m cap, .agg D]) ∧ Below W.heap.size W w') := fun W hb =>
      cut_ok g o m cap r.reverse d W (hR.keep hb) D HD
    have RR : ∀ W, Below w.heap.size w W → LReads W (some ⟨g, o, none⟩) m cap r.reverse := fun W hb => by
      have := (hR.keep hb).take m (by omega)
      rwa [List.take_left' (by simp [hmm])] at this
    have hac' : acc.length + r.length ≤ 1000 := by simp only [List.length_cons] at hac; omega
    have HH := hidk hH
    have Hsz : Hid (gl < w.heap.size ∧ gf < w.heap.size ∧ gk < w.heap.size ∧ ∀ q, v.ownBlock = some q → B ≤ q ∧ q < w.heap.size) := ⟨heap_lt hH.leaf, heap_lt hH.fn, heap_lt hH.var, fun q e => hH.own.lt q e⟩
    have HSF : Hid ((Tryd.prog.info? 23).map (·.size) = some M.size) := by show _ = _; rw [size23, HM.out]; simp [cellsOf_length, mkR_length sumD_length _ _ _ _ hx]
    have H1F : Hid (M.all (·.oneCell') = true) := by show _ = _; rw [HM.out]; exact cellsOf_all _
    have HZF : Hid (Z.size = M.size) := by show _ = _; rw [H32.out, HM.out]; simp [cellsOf_length, mkR_length sumD_length _ _ _ _ hx]
    by_cases hik : I < k
    · -- the left part
      have hE : mkR (d :: r) S I x = (knotD (mkR r k I x).1 d, (mkR r k I x).2) := by rw [mkR_left d r S I x h1 (by rw [← hk]; exact hik), ← hk]
      have hKE : kn (d :: r) S I x = kn r k I x ++ [(mkR r k I x).1 ++ d] := by rw [kn_left d r S I x (by rw [← hk]; exact hik), ← hk]
      rw [hE] at hm HM
      have hml1 : (mkR r k I x).1.length = 32 := mkR_length sumD_length _ _ _ _ hx
      obtain ⟨M1, HM1, HSM1, H1M1, H32M1⟩ := dig_row' (mkR r k I x).1 hml1
      have hk64 : ((mkR r k I x).1 ++ d).length = 64 := by rw [List.length_append, hml1, hd]
      obtain ⟨KK, HKK, HSK, H1K, H64K⟩ := knot_row ((mkR r k I x).1 ++ d) hk64
      have HZKK : Hid (ZK.size = KK.size) := by show _ = _; rw [H32K.out, H64K.out]
      have BK : Hid (∀ W, (Instr.build 57 #[(0, .agg M1), (1, .agg D)]).run Tryd.prog W = .ok (.agg KK) W) := fun W => build_knot W M1 D KK H32M1.out H32D.out (by rw [HKK.out, HM1.out, HD.out]; simp [cellsOf_append])
      have SU : Hid (∀ W, Below B w W → Calls Tryd.prog 46 #[.agg KK] W fun e w' => e = .returned (.agg M) ∧ Below W.heap.size W w') := fun W hb => sum_any (mkR r k I x).1 d hml1 hd W (table_low hK hb hKB) KK HKK M HM
      have IH : Hid (∀ W, Below w.heap.size w W → Calls Tryd.prog 42 #[.int .i64 (k : Int), .int .i64 (I : Int), .slice (some ⟨g, o, none⟩) m cap, .pointer (some ⟨gl, 0, none⟩), .pointer (some ⟨gf, 0, none⟩), .pointer (some ⟨gk, 0, none⟩)] W fun e w' => e = .returned (.agg M1) ∧ ∃ v', KH B gl gf gk X (.func (.func 42) #[] #[.pointer (some ⟨gl, 0, none⟩), .pointer (some ⟨gf, 0, none⟩), .pointer (some ⟨gk, 0, none⟩)]) v' (acc ++ kn r k I x) w' ∧ Grew gk v v' W w') := fun W hb => ih k I x acc (some ⟨g, o, none⟩) m cap B gl gf gk v W X HX hx (by omega) (by omega) (by omega) (RR W hb) (hH.keep hb) hlk hfk hBk (Nat.le_trans hBw hb.size) hac' (hK.keep hb) hKB hm M1 HM1
      have hdl : (decide ((I : Int) < (k : Int))) = true := by rw [decide_eq_true_eq]; omega
      have HE : Hid (acc ++ kn (d :: r) S I x = (acc ++ kn r k I x) ++ [(mkR r k I x).1 ++ d]) := by show _ = _; rw [hKE, List.append_assoc]
      have hsh : (acc ++ kn r k I x).length + 1 ≤ 1000000 := by rw [List.length_append, kn_length]; omega
      rw [HE.out]
      obtain ⟨acc2, HA2⟩ : ∃ y, Hid (y = acc ++ kn r k I x) := ⟨_, (rfl : acc ++ kn r k I x = _)⟩
      rw [← HA2.out] at hsh IH ⊢
      obtain ⟨kt, HKT⟩ : ∃ y, Hid (y = (mkR r k I x).1 ++ d) := ⟨_, (rfl : (mkR r k I x).1 ++ d = _)⟩
      rw [← HKT.out] at HKK hk64 ⊢
      have FN : Hid (∀ W, Below w.heap.size w W → W.cell? ⟨gf, 0, none⟩ = some (.func (.func 42) #[] #[.pointer (some ⟨gl, 0, none⟩), .pointer (some ⟨gf, 0, none⟩), .pointer (some ⟨gk, 0, none⟩)])) := fun W hb => cell_of_one ((hb.block _ (heap_lt hH.fn)).trans hH.fn)
      clear hm HM hE hKE hH hR hK ih RR hk hmm hRr HE HA2 HKT HM1 HD hml1 hac hac'
      go_enter Tryd.func42, Tryd.ntmps42
      go_wp2_with (first
        | (show wpList _ _ _ ({ dst := some 9, op := _, type := _, pos := _, after := _, guard := _ } :: _) _ _; refine wpList_new_var rfl 23 rfl Z HA.out ?_; intro g9 wa HM9; try simp only [Act.put, List.setIfInBounds_toArray, List.set_cons_zero, List.set_cons_succ])
        | fail)
      refine (SP.out _).mono ?_
      rintro e wb ⟨rfl, rfl⟩
      go_wp2_with fail
      refine (CU.out _ HM9.out.below).mono ?_
      rintro e wc ⟨rfl, hb3⟩
      have HB3 := hidk (HM9.out.below.trans (hb3.mono HM9.out.below.size))
      have HR9 := hidk ((hb3.block _ (heap_lt HM9.out.row)).trans HM9.out.row)
      have hg9 : w.heap.size = g9 := HM9.out.new.symm
      clear hb3 SP CU
      go_wp2_with (first
        | (show wpList _ _ _ ({ dst := some 12, op := _, type := _, pos := _, after := _, guard := _ } :: _) _ _; refine wpList_new_var rfl 23 rfl Z HA.out ?_; intro g12 wd HM12; try simp only [Act.put, List.setIfInBounds_toArray, List.set_cons_zero, List.set_cons_succ])
        | (refine wpList_set_var rfl 23 (.tmp 12) (.tmp 25) rfl g12 D rfl rfl 23 Z HM12.out.row HSD.out HZD.out H1D.out ?_; intro we HW12; try simp only [Act.put, List.setIfInBounds_toArray, List.set_cons_zero, List.set_cons_succ])
        | (show wpList _ _ _ ({ dst := some 13, op := _, type := _, pos := _, after := _, guard := _ } :: _) _ _; refine wpList_new_var rfl 57 rfl ZK HAK.out ?_; intro g13 wf HM13; try simp only [Act.put, List.setIfInBounds_toArray, List.set_cons_zero, List.set_cons_succ])
        | fail)
      have hg12 : g9 < g12 := by rw [HM12.out.new]; exact heap_lt HR9.out
      have hg13 : g12 < g13 := by rw [HM13.out.new]; exact heap_lt HW12.out.row
      have HB5 := hidk (HW12.out.below w.heap.size w (HB3.out.trans (HM12.out.below.mono HB3.out.size)) (by omega))
      have HB6 := hidk (HB5.out.trans (HM13.out.below.mono HB5.out.size))
      have HR6 := hidk ((HM13.out.below.block _ (heap_lt HW12.out.row)).trans HW12.out.row)
      have HR5 := hidk ((HW12.out.other g9 (by omega)).trans ((HM12.out.below.block _ (heap_lt HR9.out)).trans HR9.out))
      have HR69 := hidk ((HM13.out.below.block _ (heap_lt HR5.out)).trans HR5.out)
      have HR13 := hidk HM13.out.row
      have h13 : g13 < wf.heap.size := heap_lt HR13.out
      clear HM12 HW12 HM13 HB3 HB5 HR9 HR5 HM9
      refine wp_region_held_drew (S := (fun W => W.cell? ⟨gf, 0, none⟩ = some (.func (.func 42) #[] #[.pointer (some ⟨gl, 0, none⟩), .pointer (some ⟨gf, 0, none⟩), .pointer (some ⟨gk, 0, none⟩)]) ∧ W.heap[g12]? = some (.cells D 23 (0, 0)))) (by kernel_rfl) ⟨FN.out _ HB6.out.drew, HR6.out⟩ (fun hHeld => ?_)
      refine wpAnyH_take (i := 0) (oi := { dst := some 29, op := Op.load 72 (Operand.tmp 4), type := 72, pos := "check.go:101", after := #[], guard := none }) (v := .func (.func 42) #[] #[.pointer (some ⟨gl, 0, none⟩), .pointer (some ⟨gf, 0, none⟩), .pointer (some ⟨gk, 0, none⟩)]) rfl (by kernel_rfl) (by kernel_rfl) (by kernel_rfl) (fun _ _ _ h => h) (Or.inl ⟨by rfl, by intro W hSw; have h := hSw.1; go_simp⟩) hHeld ?_
      try simp only [Act.put, List.setIfInBounds_toArray, List.set_cons_zero, List.set_cons_succ]
      refine wpAnyH_take (i := 1) (oi := { dst := some 30, op := Op.move (Operand.tmp 10), type := 3, pos := "check.go:101", after := #[], guard := none }) (v := .int .i64 (k : Int)) rfl (by kernel_rfl) (by kernel_rfl) (by kernel_rfl) (fun _ _ _ h => h) (Or.inl ⟨by rfl, by intro W hSw; go_simp⟩) hHeld ?_
      try simp only [Act.put, List.setIfInBounds_toArray, List.set_cons_zero, List.set_cons_succ]
      refine wpAnyH_take (i := 2) (oi := { dst := some 31, op := Op.move (Operand.tmp 1), type := 3, pos := "check.go:101", after := #[], guard := none }) (v := .int .i64 (I : Int)) rfl (by kernel_rfl) (by kernel_rfl) (by kernel_rfl) (fun _ _ _ h => h) (Or.inl ⟨by rfl, by intro W hSw; go_simp⟩) hHeld ?_
      try simp only [Act.put, List.setIfInBounds_toArray, List.set_cons_zero, List.set_cons_succ]
      refine wpAnyH_take (i := 3) (oi := { dst := some 32, op := Op.move (Operand.tmp 11), type := 24, pos := "check.go:101", after := #[], guard := none }) (v := .slice (some ⟨g, o, none⟩) m cap) rfl (by kernel_rfl) (by kernel_rfl) (by kernel_rfl) (fun _ _ _ h => h) (Or.inl ⟨by rfl, by intro W hSw; go_simp⟩) hHeld ?_
      try simp only [Act.put, List.setIfInBounds_toArray, List.set_cons_zero, List.set_cons_succ]
      refine wpAnyH_take (i := 5) (oi := { dst := some 34, op := Op.load 23 (Operand.tmp 12), type := 23, pos := "check.go:101", after := #[], guard := none }) (v := .agg D) rfl (by kernel_rfl) (by kernel_rfl) (by kernel_rfl) (fun _ _ _ h => h) (yieldsIf_row (by rfl) 23 (.tmp 12) rfl g12 rfl 23 D (0, 0) _ (fun _ h => h.2) Tryd.underlying23 rfl HSD.out) hHeld ?_
      try simp only [Act.put, List.setIfInBounds_toArray, List.set_cons_zero, List.set_cons_succ]
      refine wpAnyH_ready (rs := [4]) (by kernel_rfl) (by simp) ?_
      refine (AllReadyH.cons (o := { dst := some 33, op := Op.call { callee := Callee.value (Operand.tmp 29), args := #[Operand.tmp 30, Operand.tmp 31, Operand.tmp 32], argTypes := #[3, 3, 24] }, type := 23, pos := "check.go:101", after := #[{ on := 0, ground := Ground.data }, { on := 1, ground := Ground.data }, { on := 2, ground := Ground.data }, { on := 3, ground := Ground.data }], guard := none }) rfl (fun K hK => ?_) AllReadyH.nil)
      go_simp
      refine (IH.out _ HB6.out.drew).mono ?_
      rintro e w4 ⟨rfl, v7, hH7, hG7⟩
      have hKP : ∀ y, w.heap.size ≤ y → y < wf.heap.size → w4.heap[y]? = wf.heap[y]? := fun y h1 h2 => hG7.block y h2 (by have := Hsz.out.2.2.1; omega) (fun e => by have := (Hsz.out.2.2.2 y e.symm).2; omega)
      have HNV : Hid (∀ y, w.heap.size ≤ y → y < wf.heap.size → some y ≠ v7.ownBlock) := fun y h1 h2 => hG7.new h2 (fun e => by have := (Hsz.out.2.2.2 y e.symm).2; omega)
      have HGX := hidk (Grew.trans (Grew.of HB6.out.drew) hG7)
      have HH7 := hidk hH7
      have HR97 := hidk ((hKP g9 (by omega) (by omega)).trans HR69.out)
      have HR127 := hidk ((hKP g12 (by omega) (by omega)).trans HR6.out)
      have HR137 := hidk ((hKP g13 (by omega) (by omega)).trans HR13.out)
      clear hG7 hH7 hKP
      go_wp2_with fail
      refine hK.out _ _ ⟨cell_of_one HH7.out.fn, HR127.out⟩ (fun hHeld => ?_)
      clear hK K
      try simp only [Act.put, List.setIfInBounds_toArray, List.set_cons_zero, List.set_cons_succ]
      refine wpAnyH_take (i := 6) (oi := { dst := some 35, op := Op.build 57 #[(0, Operand.tmp 33), (1, Operand.tmp 34)], type := 57, pos := "check.go:101", after := #[{ on := 4, ground := Ground.data }, { on := 5, ground := Ground.data }], guard := none }) (v := .agg KK) rfl (by kernel_rfl) (by kernel_rfl) (by kernel_rfl) (fun _ _ _ h => h) (yieldsIf_build (by rfl) 57 _ rfl #[(0, .agg M1), (1, .agg D)] rfl (.agg KK) BK.out) hHeld ?_
      try simp only [Act.put, List.setIfInBounds_toArray, List.set_cons_zero, List.set_cons_succ]
      refine wpAnyH_ready (rs := [7]) (by kernel_rfl) (by simp) ?_
      refine (AllReadyH.cons (o := { dst := none, op := Op.store 57 (Operand.tmp 13) (Operand.tmp 35), type := 0, pos := "check.go:101", after := #[{ on := 6, ground := Ground.data }, { on := 4, ground := Ground.chain }, { on := 0, ground := Ground.phase }, { on := 1, ground := Ground.phase }, { on := 2, ground := Ground.phase }, { on := 3, ground := Ground.phase }, { on := 4, ground := Ground.phase }, { on := 5, ground := Ground.phase }, { on := 6, ground := Ground.phase }], guard := none }) rfl (fun K hK => ?_) AllReadyH.nil)
      refine step_set_var (by rfl) 57 (.tmp 13) (.tmp 35) rfl g13 KK rfl rfl 57 ZK HR137.out HSK.out HZKK.out H1K.out ?_
      intro w8 HW13
      have HH8 := hidk (HH7.out.wrote HW13.out (by have := Hsz.out.1; omega) (by have := Hsz.out.2.1; omega) (by have := Hsz.out.2.2.1; omega) (HNV.out g13 (by omega) h13))
      refine hK.out _ _ ⟨cell_of_one HH8.out.fn, (HW13.out.other g12 (by omega)).trans hHeld.2⟩ (fun hHeld => ?_)
      clear hK K
      try simp only [Act.put, List.setIfInBounds_toArray, List.set_cons_zero, List.set_cons_succ]
      refine wpAnyH_done (by kernel_rfl) ?_ _
      have HG8 := hidk ((HGX.out.wrote HW13.out (by omega)))
      have hB8 : B ≤ w8.heap.size := Nat.le_trans hBw HG8.out.size
      obtain ⟨v9, w9, hrun, q1, hH9, hG9⟩ := HH8.out.append hlk hfk hB8 hsh kt hk64 KK HKK
      obtain ⟨gn, cn, hv9⟩ := own_form hH9.own (by simp)
      simp only [List.length_append, List.length_cons, List.length_nil, Nat.zero_add] at hv9
      subst hv9
      have HH9 := hidk hH9
      have HG9 := hidk (HG8.out.trans hG9)
      have HL13 := hidk HW13.out.row
      have h8 : g13 < w8.heap.size := heap_lt HL13.out
      have H13b := hidk ((hG9.block g13 h8 (by have := Hsz.out.2.2.1; omega) (HNV.out g13 (by omega) h13)).trans HW13.out.row)
      have H9b := hidk ((hG9.block g9 (by omega) (by have := Hsz.out.2.2.1; omega) (HNV.out g9 (by omega) (by omega))).trans ((HW13.out.other g9 (by omega)).trans HR97.out))
      have hc8 := cell_of_one HH8.out.var
      have hc9 := cell_of_one q1
      have hf9 := free_of_one q1
      have HBB := hidk (HG9.out.below hBw hBk (fun q e => (Hsz.out.2.2.2 q e).1))
      clear hHeld hH9 hG9 HW13 HH8 HG8 q1 HGX HR97 IH BK FN
      go_wp2_with (first
        | (show wpList _ _ _ ({ dst := some 48, op := _, type := _, pos := _, after := _, guard := _ } :: _) _ _; refine wpList_load_row rfl 57 (.tmp 13) rfl g13 rfl 57 KK (0, 0) _ HL13.out Tryd.underlying57 rfl HSK.out ?_; try simp only [Act.put, List.setIfInBounds_toArray, List.set_cons_zero, List.set_cons_succ])
        | (show wpList _ _ _ ({ dst := some 49, op := _, type := _, pos := _, after := _, guard := _ } :: _) _ _; refine wpList_build_run rfl 43 1 _ rfl #[(0, .agg KK)] rfl _ _ (build_oneK _ kt hk64 KK HKK) ?_; try simp only [Act.put, List.setIfInBounds_toArray, List.set_cons_zero, List.set_cons_succ])
        | (show wpList _ _ _ ({ dst := some 50, op := _, type := _, pos := _, after := _, guard := _ } :: _) _ _; refine wpList_append_run rfl (.tmp 47) (.tmp 49) 43 43 rfl v7 _ _ w9 rfl rfl hrun ?_; try simp only [Act.put, List.setIfInBounds_toArray, List.set_cons_zero, List.set_cons_succ])
        | (show wpList _ _ _ ({ dst := some 51, op := _, type := _, pos := _, after := _, guard := _ } :: _) _ _; refine wpList_load_row rfl 57 (.tmp 13) rfl g13 rfl 57 KK (0, 0) _ H13b.out Tryd.underlying57 rfl HSK.out ?_; try simp only [Act.put, List.setIfInBounds_toArray, List.set_cons_zero, List.set_cons_succ])
        | fail)
      refine (SU.out _ HBB.out).mono ?_
      rintro e wx ⟨rfl, hbx⟩
      have H9x := hidk ((hbx.block _ (heap_lt H9b.out)).trans H9b.out)
      clear hc8 hc9 hf9 hrun
      go_wp2_with (first
        | (refine wpList_set_var rfl 23 (.tmp 9) (.tmp 52) rfl g9 M rfl rfl 23 Z H9x.out HSF.out HZF.out H1F.out ?_; intro wy HW9; try simp only [Act.put, List.setIfInBounds_toArray, List.set_cons_zero, List.set_cons_succ])
        | fail)
      refine bodyPost_ret (v := .agg M) ?_ rfl ⟨rfl, .slice (some ⟨gn, 0, none⟩) (acc2.length + 1) cn, (HH9.out.keep hbx).wrote HW9.out (by have := Hsz.out.1; omega) (by have := Hsz.out.2.1; omega) (by have := Hsz.out.2.2.1; omega) ?_, (HG9.out.trans (Grew.of hbx)).wrote HW9.out (by omega)⟩
      · exact results_cell_row (p := 9) (ty := 23) rfl _ _ g9 23 M (0, 0) _ rfl HW9.out.row Tryd.underlying23 rfl HSF.out
      · exact own_apart (HH9.out.keep hbx).own H9x.out (by decide)
    · -- the right part
      have hE : mkR (d :: r) S I x = (knotD d (mkR r (S - k) (I - k) x).1, (mkR r (S - k) (I - k) x).2) := by rw [mkR_right d r S I x h1 (by rw [← hk]; exact hik), ← hk]
      have hKE : kn (d :: r) S I x = kn r (S - k) (I - k) x ++ [d ++ (mkR r (S - k) (I - k) x).1] := by rw [kn_right d r S I x (by rw [← hk]; exact hik), ← hk]
      rw [hE] at hm HM
      have hml1 : (mkR r (S - k) (I - k) x).1.length = 32 := mkR_length sumD_length _ _ _ _ hx
      obtain ⟨M1, HM1, HSM1, H1M1, H32M1⟩ := dig_row' (mkR r (S - k) (I - k) x).1 hml1
      have hk64 : (d ++ (mkR r (S - k) (I - k) x).1).length = 64 := by rw [List.length_append, hml1, hd]
      obtain ⟨KK, HKK, HSK, H1K, H64K⟩ := knot_row (d ++ (mkR r (S - k) (I - k) x).1) hk64
      have HZKK : Hid (ZK.size = KK.size) := by show _ = _; rw [H32K.out, H64K.out]
      have BK : Hid (∀ W, (Instr.build 57 #[(0, .agg D), (1, .agg M1)]).run Tryd.prog W = .ok (.agg KK) W) := fun W => build_knot W D M1 KK H32D.out H32M1.out (by rw [HKK.out, HM1.out, HD.out]; simp [cellsOf_append])
      have SU : Hid (∀ W, Below B w W → Calls Tryd.prog 46 #[.agg KK] W fun e w' => e = .returned (.agg M) ∧ Below W.heap.size W w') := fun W hb => sum_any d (mkR r (S - k) (I - k) x).1 hd hml1 W (table_low hK hb hKB) KK HKK M HM
      have IH : Hid (∀ W, Below w.heap.size w W → Calls Tryd.prog 42 #[.int .i64 ((S : Int) - (k : Int)), .int .i64 ((I : Int) - (k : Int)), .slice (some ⟨g, o, none⟩) m cap, .pointer (some ⟨gl, 0, none⟩), .pointer (some ⟨gf, 0, none⟩), .pointer (some ⟨gk, 0, none⟩)] W fun e w' => e = .returned (.agg M1) ∧ ∃ v', KH B gl gf gk X (.func (.func 42) #[] #[.pointer (some ⟨gl, 0, none⟩), .pointer (some ⟨gf, 0, none⟩), .pointer (some ⟨gk, 0, none⟩)]) v' (acc ++ kn r (S - k) (I - k) x) w' ∧ Grew gk v v' W w') := fun W hb => by
        rw [show ((S : Int) - (k : Int)) = ((S - k : Nat) : Int) by omega, show ((I : Int) - (k : Int)) = ((I - k : Nat) : Int) by omega]
        exact ih (S - k) (I - k) x acc (some ⟨g, o, none⟩) m cap B gl gf gk v W X HX hx (by omega) (by omega) (by omega) (RR W hb) (hH.keep hb) hlk hfk hBk (Nat.le_trans hBw hb.size) hac' (hK.keep hb) hKB hm M1 HM1
      have hdl : (decide ((I : Int) < (k : Int))) = false := by rw [decide_eq_false_iff_not]; omega
      have wr1 := wrap_int ((S : Int) - (k : Int)) (by omega) (by omega)
      have wr2 := wrap_int ((I : Int) - (k : Int)) (by omega) (by omega)
      have HE : Hid (acc ++ kn (d :: r) S I x = (acc ++ kn r (S - k) (I - k) x) ++ [d ++ (mkR r (S - k) (I - k) x).1]) := by show _ = _; rw [hKE, List.append_assoc]
      have hsh : (acc ++ kn r (S - k) (I - k) x).length + 1 ≤ 1000000 := by rw [List.length_append, kn_length]; omega
      rw [HE.out]
      obtain ⟨acc2, HA2⟩ : ∃ y, Hid (y = acc ++ kn r (S - k) (I - k) x) := ⟨_, (rfl : acc ++ kn r (S - k) (I - k) x = _)⟩
      rw [← HA2.out] at hsh IH ⊢
      obtain ⟨kt, HKT⟩ : ∃ y, Hid (y = d ++ (mkR r (S - k) (I - k) x).1) := ⟨_, (rfl : d ++ (mkR r (S - k) (I - k) x).1 = _)⟩
      rw [← HKT.out] at HKK hk64 ⊢
      have FN : Hid (∀ W, Below w.heap.size w W → W.cell? ⟨gf, 0, none⟩ = some (.func (.func 42) #[] #[.pointer (some ⟨gl, 0, none⟩), .pointer (some ⟨gf, 0, none⟩), .pointer (some ⟨gk, 0, none⟩)])) := fun W hb => cell_of_one ((hb.block _ (heap_lt hH.fn)).trans hH.fn)
      clear hm HM hE hKE hH hR hK ih RR hk hmm hRr HE HA2 HKT HM1 HD hml1 hac hac'
      go_enter Tryd.func42, Tryd.ntmps42
      go_wp2_with (first
        | (show wpList _ _ _ ({ dst := some 9, op := _, type := _, pos := _, after := _, guard := _ } :: _) _ _; refine wpList_new_var rfl 23 rfl Z HA.out ?_; intro g9 wa HM9; try simp only [Act.put, List.setIfInBounds_toArray, List.set_cons_zero, List.set_cons_succ])
        | fail)
      refine (SP.out _).mono ?_
      rintro e wb ⟨rfl, rfl⟩
      go_wp2_with fail
      refine (CU.out _ HM9.out.below).mono ?_
      rintro e wc ⟨rfl, hb3⟩
      have HB3 := hidk (HM9.out.below.trans (hb3.mono HM9.out.below.size))
      have HR9 := hidk ((hb3.block _ (heap_lt HM9.out.row)).trans HM9.out.row)
      have hg9 : w.heap.size = g9 := HM9.out.new.symm
      clear hb3 SP CU
      go_wp2_with (first
        | (show wpList _ _ _ ({ dst := some 12, op := _, type := _, pos := _, after := _, guard := _ } :: _) _ _; refine wpList_new_var rfl 23 rfl Z HA.out ?_; intro g12 wd HM12; try simp only [Act.put, List.setIfInBounds_toArray, List.set_cons_zero, List.set_cons_succ])
        | (refine wpList_set_var rfl 23 (.tmp 12) (.tmp 25) rfl g12 D rfl rfl 23 Z HM12.out.row HSD.out HZD.out H1D.out ?_; intro we HW12; try simp only [Act.put, List.setIfInBounds_toArray, List.set_cons_zero, List.set_cons_succ])
        | (show wpList _ _ _ ({ dst := some 13, op := _, type := _, pos := _, after := _, guard := _ } :: _) _ _; refine wpList_new_var rfl 57 rfl ZK HAK.out ?_; intro g13 wf HM13; try simp only [Act.put, List.setIfInBounds_toArray, List.set_cons_zero, List.set_cons_succ])
        | fail)
      have hg12 : g9 < g12 := by rw [HM12.out.new]; exact heap_lt HR9.out
      have hg13 : g12 < g13 := by rw [HM13.out.new]; exact heap_lt HW12.out.row
      have HB5 := hidk (HW12.out.below w.heap.size w (HB3.out.trans (HM12.out.below.mono HB3.out.size)) (by omega))
      have HB6 := hidk (HB5.out.trans (HM13.out.below.mono HB5.out.size))
      have HR6 := hidk ((HM13.out.below.block _ (heap_lt HW12.out.row)).trans HW12.out.row)
      have HR5 := hidk ((HW12.out.other g9 (by omega)).trans ((HM12.out.below.block _ (heap_lt HR9.out)).trans HR9.out))
      have HR69 := hidk ((HM13.out.below.block _ (heap_lt HR5.out)).trans HR5.out)
      have HR13 := hidk HM13.out.row
      have h13 : g13 < wf.heap.size := heap_lt HR13.out
      clear HM12 HW12 HM13 HB3 HB5 HR9 HR5 HM9
      refine wp_region_held_drew (S := (fun W => W.cell? ⟨gf, 0, none⟩ = some (.func (.func 42) #[] #[.pointer (some ⟨gl, 0, none⟩), .pointer (some ⟨gf, 0, none⟩), .pointer (some ⟨gk, 0, none⟩)]) ∧ W.heap[g12]? = some (.cells D 23 (0, 0)))) (by kernel_rfl) ⟨FN.out _ HB6.out.drew, HR6.out⟩ (fun hHeld => ?_)
      refine wpAnyH_take (i := 0) (oi := { dst := some 36, op := Op.load 23 (Operand.tmp 12), type := 23, pos := "check.go:103", after := #[], guard := none }) (v := .agg D) rfl (by kernel_rfl) (by kernel_rfl) (by kernel_rfl) (fun _ _ _ h => h) (yieldsIf_row (by rfl) 23 (.tmp 12) rfl g12 rfl 23 D (0, 0) _ (fun _ h => h.2) Tryd.underlying23 rfl HSD.out) hHeld ?_
      try simp only [Act.put, List.setIfInBounds_toArray, List.set_cons_zero, List.set_cons_succ]
      refine wpAnyH_take (i := 1) (oi := { dst := some 37, op := Op.load 72 (Operand.tmp 4), type := 72, pos := "check.go:103", after := #[], guard := none }) (v := .func (.func 42) #[] #[.pointer (some ⟨gl, 0, none⟩), .pointer (some ⟨gf, 0, none⟩), .pointer (some ⟨gk, 0, none⟩)]) rfl (by kernel_rfl) (by kernel_rfl) (by kernel_rfl) (fun _ _ _ h => h) (Or.inl ⟨by rfl, by intro W hSw; have h := hSw.1; go_simp⟩) hHeld ?_
      try simp only [Act.put, List.setIfInBounds_toArray, List.set_cons_zero, List.set_cons_succ]
      refine wpAnyH_take (i := 2) (oi := { dst := some 38, op := Op.move (Operand.tmp 0), type := 3, pos := "check.go:103", after := #[], guard := none }) (v := .int .i64 (S : Int)) rfl (by kernel_rfl) (by kernel_rfl) (by kernel_rfl) (fun _ _ _ h => h) (Or.inl ⟨by rfl, by intro W hSw; go_simp⟩) hHeld ?_
      try simp only [Act.put, List.setIfInBounds_toArray, List.set_cons_zero, List.set_cons_succ]
      refine wpAnyH_take (i := 3) (oi := { dst := some 39, op := Op.move (Operand.tmp 10), type := 3, pos := "check.go:103", after := #[], guard := none }) (v := .int .i64 (k : Int)) rfl (by kernel_rfl) (by kernel_rfl) (by kernel_rfl) (fun _ _ _ h => h) (Or.inl ⟨by rfl, by intro W hSw; go_simp⟩) hHeld ?_
      try simp only [Act.put, List.setIfInBounds_toArray, List.set_cons_zero, List.set_cons_succ]
      refine wpAnyH_take (i := 4) (oi := { dst := some 40, op := Op.binOp BinOp.sub 3 (Operand.tmp 38) (Operand.tmp 39) 3, type := 3, pos := "check.go:103", after := #[{ on := 2, ground := Ground.data }, { on := 3, ground := Ground.data }], guard := none }) (v := .int .i64 ((S : Int) - (k : Int))) rfl (by kernel_rfl) (by kernel_rfl) (by kernel_rfl) (fun _ _ _ h => h) (Or.inl ⟨by rfl, by intro W hSw; go_simp⟩) hHeld ?_
      try simp only [Act.put, List.setIfInBounds_toArray, List.set_cons_zero, List.set_cons_succ]
      refine wpAnyH_take (i := 5) (oi := { dst := some 41, op := Op.move (Operand.tmp 1), type := 3, pos := "check.go:103", after := #[], guard := none }) (v := .int .i64 (I : Int)) rfl (by kernel_rfl) (by kernel_rfl) (by kernel_rfl) (fun _ _ _ h => h) (Or.inl ⟨by rfl, by intro W hSw; go_simp⟩) hHeld ?_
      try simp only [Act.put, List.setIfInBounds_toArray, List.set_cons_zero, List.set_cons_succ]
      refine wpAnyH_take (i := 6) (oi := { dst := some 42, op := Op.move (Operand.tmp 10), type := 3, pos := "check.go:103", after := #[], guard := none }) (v := .int .i64 (k : Int)) rfl (by kernel_rfl) (by kernel_rfl) (by kernel_rfl) (fun _ _ _ h => h) (Or.inl ⟨by rfl, by intro W hSw; go_simp⟩) hHeld ?_
      try simp only [Act.put, List.setIfInBounds_toArray, List.set_cons_zero, List.set_cons_succ]
      refine wpAnyH_take (i := 7) (oi := { dst := some 43, op := Op.binOp BinOp.sub 3 (Operand.tmp 41) (Operand.tmp 42) 3, type := 3, pos := "check.go:103", after := #[{ on := 5, ground := Ground.data }, { on := 6, ground := Ground.data }], guard := none }) (v := .int .i64 ((I : Int) - (k : Int))) rfl (by kernel_rfl) (by kernel_rfl) (by kernel_rfl) (fun _ _ _ h => h) (Or.inl ⟨by rfl, by intro W hSw; go_simp⟩) hHeld ?_
      try simp only [Act.put, List.setIfInBounds_toArray, List.set_cons_zero, List.set_cons_succ]
      refine wpAnyH_take (i := 8) (oi := { dst := some 44, op := Op.move (Operand.tmp 11), type := 24, pos := "check.go:103", after := #[], guard := none }) (v := .slice (some ⟨g, o, none⟩) m cap) rfl (by kernel_rfl) (by kernel_rfl) (by kernel_rfl) (fun _ _ _ h => h) (Or.inl ⟨by rfl, by intro W hSw; go_simp⟩) hHeld ?_
      try simp only [Act.put, List.setIfInBounds_toArray, List.set_cons_zero, List.set_cons_succ]
      refine wpAnyH_ready (rs := [9]) (by kernel_rfl) (by simp) ?_
      refine (AllReadyH.cons (o := { dst := some 45, op := Op.call { callee := Callee.value (Operand.tmp 37), args := #[Operand.tmp 40, Operand.tmp 43, Operand.tmp 44], argTypes := #[3, 3, 24] }, type := 23, pos := "check.go:103", after := #[{ on := 1, ground := Ground.data }, { on := 4, ground := Ground.data }, { on := 7, ground := Ground.data }, { on := 8, ground := Ground.data }], guard := none }) rfl (fun K hK => ?_) AllReadyH.nil)
      go_simp
      refine (IH.out _ HB6.out.drew).mono ?_
      rintro e w9 ⟨rfl, v7, hH7, hG7⟩
      have hKP : ∀ y, w.heap.size ≤ y → y < wf.heap.size → w9.heap[y]? = wf.heap[y]? := fun y h1 h2 => hG7.block y h2 (by have := Hsz.out.2.2.1; omega) (fun e => by have := (Hsz.out.2.2.2 y e.symm).2; omega)
      have HNV : Hid (∀ y, w.heap.size ≤ y → y < wf.heap.size → some y ≠ v7.ownBlock) := fun y h1 h2 => hG7.new h2 (fun e => by have := (Hsz.out.2.2.2 y e.symm).2; omega)
      have HGX := hidk (Grew.trans (Grew.of HB6.out.drew) hG7)
      have HH7 := hidk hH7
      have HR97 := hidk ((hKP g9 (by omega) (by omega)).trans HR69.out)
      have HR127 := hidk ((hKP g12 (by omega) (by omega)).trans HR6.out)
      have HR137 := hidk ((hKP g13 (by omega) (by omega)).trans HR13.out)
      clear hG7 hH7 hKP
      go_wp2_with fail
      refine hK.out _ _ ⟨cell_of_one HH7.out.fn, HR127.out⟩ (fun hHeld => ?_)
      clear hK K
      try simp only [Act.put, List.setIfInBounds_toArray, List.set_cons_zero, List.set_cons_succ]
      refine wpAnyH_take (i := 10) (oi := { dst := some 46, op := Op.build 57 #[(0, Operand.tmp 36), (1, Operand.tmp 45)], type := 57, pos := "check.go:103", after := #[{ on := 0, ground := Ground.data }, { on := 9, ground := Ground.data }], guard := none }) (v := .agg KK) rfl (by kernel_rfl) (by kernel_rfl) (by kernel_rfl) (fun _ _ _ h => h) (yieldsIf_build (by rfl) 57 _ rfl #[(0, .agg D), (1, .agg M1)] rfl (.agg KK) BK.out) hHeld ?_
      try simp only [Act.put, List.setIfInBounds_toArray, List.set_cons_zero, List.set_cons_succ]
      refine wpAnyH_ready (rs := [11]) (by kernel_rfl) (by simp) ?_
      refine (AllReadyH.cons (o := { dst := none, op := Op.store 57 (Operand.tmp 13) (Operand.tmp 46), type := 0, pos := "check.go:103", after := #[{ on := 10, ground := Ground.data }, { on := 9, ground := Ground.chain }, { on := 0, ground := Ground.phase }, { on := 1, ground := Ground.phase }, { on := 2, ground := Ground.phase }, { on := 3, ground := Ground.phase }, { on := 4, ground := Ground.phase }, { on := 5, ground := Ground.phase }, { on := 6, ground := Ground.phase }, { on := 7, ground := Ground.phase }, { on := 8, ground := Ground.phase }, { on := 9, ground := Ground.phase }, { on := 10, ground := Ground.phase }], guard := none }) rfl (fun K hK => ?_) AllReadyH.nil)
      refine step_set_var (by rfl) 57 (.tmp 13) (.tmp 46) rfl g13 KK rfl rfl 57 ZK HR137.out HSK.out HZKK.out H1K.out ?_
      intro w8 HW13
      have HH8 := hidk (HH7.out.wrote HW13.out (by have := Hsz.out.1; omega) (by have := Hsz.out.2.1; omega) (by have := Hsz.out.2.2.1; omega) (HNV.out g13 (by omega) h13))
      refine hK.out _ _ ⟨cell_of_one HH8.out.fn, (HW13.out.other g12 (by omega)).trans hHeld.2⟩ (fun hHeld => ?_)
      clear hK K
      try simp only [Act.put, List.setIfInBounds_toArray, List.set_cons_zero, List.set_cons_succ]
      refine wpAnyH_done (by kernel_rfl) ?_ _
      have HG8 := hidk ((HGX.out.wrote HW13.out (by omega)))
      have hB8 : B ≤ w8.heap.size := Nat.le_trans hBw HG8.out.size
      obtain ⟨v9, w9, hrun, q1, hH9, hG9⟩ := HH8.out.append hlk hfk hB8 hsh kt hk64 KK HKK
      obtain ⟨gn, cn, hv9⟩ := own_form hH9.own (by simp)
      simp only [List.length_append, List.length_cons, List.length_nil, Nat.zero_add] at hv9
      subst hv9
      have HH9 := hidk hH9
      have HG9 := hidk (HG8.out.trans hG9)
      have HL13 := hidk HW13.out.row
      have h8 : g13 < w8.heap.size := heap_lt HL13.out
      have H13b := hidk ((hG9.block g13 h8 (by have := Hsz.out.2.2.1; omega) (HNV.out g13 (by omega) h13)).trans HW13.out.row)
      have H9b := hidk ((hG9.block g9 (by omega) (by have := Hsz.out.2.2.1; omega) (HNV.out g9 (by omega) (by omega))).trans ((HW13.out.other g9 (by omega)).trans HR97.out))
      have hc8 := cell_of_one HH8.out.var
      have hc9 := cell_of_one q1
      have hf9 := free_of_one q1
      have HBB := hidk (HG9.out.below hBw hBk (fun q e => (Hsz.out.2.2.2 q e).1))
      clear hHeld hH9 hG9 HW13 HH8 HG8 q1 HGX HR97 IH BK FN
      go_wp2_with (first
        | (show wpList _ _ _ ({ dst := some 48, op := _, type := _, pos := _, after := _, guard := _ } :: _) _ _; refine wpList_load_row rfl 57 (.tmp 13) rfl g13 rfl 57 KK (0, 0) _ HL13.out Tryd.underlying57 rfl HSK.out ?_; try simp only [Act.put, List.setIfInBounds_toArray, List.set_cons_zero, List.set_cons_succ])
        | (show wpList _ _ _ ({ dst := some 49, op := _, type := _, pos := _, after := _, guard := _ } :: _) _ _; refine wpList_build_run rfl 43 1 _ rfl #[(0, .agg KK)] rfl _ _ (build_oneK _ kt hk64 KK HKK) ?_; try simp only [Act.put, List.setIfInBounds_toArray, List.set_cons_zero, List.set_cons_succ])
        | (show wpList _ _ _ ({ dst := some 50, op := _, type := _, pos := _, after := _, guard := _ } :: _) _ _; refine wpList_append_run rfl (.tmp 47) (.tmp 49) 43 43 rfl v7 _ _ w9 rfl rfl hrun ?_; try simp only [Act.put, List.setIfInBounds_toArray, List.set_cons_zero, List.set_cons_succ])
        | (show wpList _ _ _ ({ dst := some 51, op := _, type := _, pos := _, after := _, guard := _ } :: _) _ _; refine wpList_load_row rfl 57 (.tmp 13) rfl g13 rfl 57 KK (0, 0) _ H13b.out Tryd.underlying57 rfl HSK.out ?_; try simp only [Act.put, List.setIfInBounds_toArray, List.set_cons_zero, List.set_cons_succ])
        | fail)
      refine (SU.out _ HBB.out).mono ?_
      rintro e wx ⟨rfl, hbx⟩
      have H9x := hidk ((hbx.block _ (heap_lt H9b.out)).trans H9b.out)
      clear hc8 hc9 hf9 hrun
      go_wp2_with (first
        | (refine wpList_set_var rfl 23 (.tmp 9) (.tmp 52) rfl g9 M rfl rfl 23 Z H9x.out HSF.out HZF.out H1F.out ?_; intro wy HW9; try simp only [Act.put, List.setIfInBounds_toArray, List.set_cons_zero, List.set_cons_succ])
        | fail)
      refine bodyPost_ret (v := .agg M) ?_ rfl ⟨rfl, .slice (some ⟨gn, 0, none⟩) (acc2.length + 1) cn, (HH9.out.keep hbx).wrote HW9.out (by have := Hsz.out.1; omega) (by have := Hsz.out.2.1; omega) (by have := Hsz.out.2.2.1; omega) ?_, (HG9.out.trans (Grew.of hbx)).wrote HW9.out (by omega)⟩
      · exact results_cell_row (p := 9) (ty := 23) rfl _ _ g9 23 M (0, 0) _ rfl HW9.out.row Tryd.underlying23 rfl HSF.out
      · exact own_apart (HH9.out.keep hbx).own H9x.out (by decide)
end Go.Proofs.YtehfoeedlchphaaDoor
