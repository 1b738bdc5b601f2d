/- Texts of our own that the row of KeepRight leans on, part 37. -/
import Derived.Test.YtjpmmbmhkpgjcaaKeepRightJ0
import Derived.Test.YtjpmmbmhkpgjcaaKeepRightJ27
import Derived.Test.YtjpmmbmhkpgjcaaKeepRightJ31
import Derived.Test.YtjpmmbmhkpgjcaaKeepRightJ33
import Derived.Test.YtjpmmbmhkpgjcaaKeepRightJ35
import Derived.Test.YtjpmmbmhkpgjcaaKeepRightJ36
/- What the statements of keep lean on. -/
namespace Go.Proofs.Ytjpmmbmhkpgjcaa
open Go.RowKit Nums Sums
set_option linter.unusedVariables false
set_option linter.unusedSimpArgs false
set_option maxRecDepth 100000
theorem KIn.okk {w : World} {v : KeV} (h : KIn w v) : OkKe v.t := ⟨h.i.its, h.cs, by have := h.i.rd.ln; have := h.il; show v.l.length ≤ 250; omega, by have := h.c.ln; have := h.cl; show v.k.length ≤ 250; omega, h.e, h.g⟩
theorem rowz_slice {W0 : World} {B : Nat} {a : Option Addr} {n c : Nat} {xs : List Value} (h : RowZ W0 B 40 110 a n c xs) {s : Nat} (hs : s ≤ n) (W : World) : (Instr.sliceAt 22 (.slice a n c) none (some (.int .i64 s)) none).run Try.prog W = .ok (.slice a s c) W := by
  rcases h with ⟨rfl, rfl⟩ | h
  · obtain rfl : s = 0 := by omega
    cases a with
    | none => exact slice_items_none W
    | some ad =>
      simp [Instr.sliceAt, Instr.slice, Instr.sliceBounds, Instr.sliceBound, asIntOf, run_underlying Try.underlying22, sizeOfI]
  · rcases h.2 with ⟨e, h0⟩ | ⟨g, cap, cur, e, hb, hg, hc, hm, hs2, ht⟩
    · cases e
      obtain rfl : s = 0 := by omega
      exact slice_items_none W
    · cases e
      exact slice_items W g 0 n c s (by omega)
set_option maxHeartbeats 32000000 in
theorem keepRight_in (C : KeepC) (v : KeV) (r : ReV) (w : World) (h : CmK w v) (hrc : CmR w r) : Calls Try.prog 5 #[.agg (keA v), .agg (reA r)] w fun e w' => e = .returned (.bool true) ∧ Below w.heap.size w w' := by
  have FX : Hid (Fit Try.prog 25 (keA v)) := keA_fit v
  have FK := hidk keA_fit
  have ok := hrc.ok
  have FR : Hid (Fit Try.prog 42 (reA r)) := reA_fit r ok
  have BK : Hid (Try.prog.built 25 [] = some (keA zeroKv)) := builtK_0
  have r113 := hidk (reA_113 r ok)
  obtain ⟨bb, hbb⟩ : ∃ b, bigK v r = b := ⟨_, rfl⟩
  have WB : Hid (∀ W, Below w.heap.size w W → Calls Try.prog 9 #[.agg (keA v), .agg (reA r)] W fun e w' => e = .returned (.bool bb) ∧ Below W.heap.size W w') := fun W hb => by rw [← hbb]; exact refBigK_any v _ W (h.keep hb) (hrc.keep hb)
  have WF : Hid (∀ W, Calls Try.prog 12 #[] W fun e w' => e = .returned (.bool true) ∧ Below W.heap.size W w') := fun W => folds_true C W
  have H := hidk (Sep.start Try.prog w)
  cases bb
  case true =>
    clear h hbb C hrc
    go_enter Try.func5, Try.ntmps5
    go_wp2_with (first
      | ((with_reducible show wpList _ _ _ (⟨_, .box _ _, _, _, _, _⟩ :: _) _ _); refine boxS (by rfl) (by rfl) H (by assumption) ?_; clear H; intro gq W hq H; clear hq; try simp only [Act.put, pS1, pS2, pS3])
      | ((with_reducible show wpList _ _ _ (⟨_, .load _ _, _, _, _, _⟩ :: _) _ _); refine rdS (by rfl) (by rfl) (by decide +kernel) H (by repeat constructor) ?_; try simp only [Act.put, pS1, pS2, pS3])
      | ((with_reducible refine (WB.out _ H.out.b).mono ?_); rintro _ W ⟨rfl, hb⟩; replace H := hidk (H.out.call hb); clear hb; try simp only [Act.put, pS1, pS2, pS3])
      | fail)
    go_ret
    exact ⟨rfl, H.out.b⟩
  obtain ⟨hk, hr, hvn0, hvm0, hrn⟩ := bigK_no h hrc hbb
  have okk := hk.okk
  obtain ⟨E1, hE1⟩ : ∃ x, kpE v.t r.t = x := ⟨_, rfl⟩
  obtain ⟨T1, hT1⟩ : ∃ x, kpO v.t r.t = x := ⟨_, rfl⟩
  have W1 : Hid (∀ W, Below w.heap.size w W → Calls Try.prog 20 #[.agg (keA v), .agg (reA r)] W fun x w' => ∃ v', x = .returned (.tuple #[.agg (keA v'), .int .i64 E1]) ∧ v'.t = T1 ∧ KOut w' W.heap.size v' ∧ Below W.heap.size W w') := fun W hb => by
    refine (C.fold v r W (hk.keep hb) (hr.keep hb) (by omega)).mono ?_
    rintro x w' ⟨v', rfl, q, ho, hb2⟩
    exact ⟨v', by rw [← hE1], by rw [← hT1]; exact q, ho, hb2⟩
  by_cases q1 : E1 = 0
  · subst q1
    obtain ⟨hkR, hTR, hle, hlg, hs0, hs1, hs2, htk, hlm⟩ := kp_right hE1
    rw [hT1] at hTR hle hlg hs2 htk hlm
    have hvn : v.n ≤ 60 := by assumption
    have hvm : v.m ≤ 60 := by assumption
    have hln : v.l.length = v.n := hk.i.rd.ln
    have hkn : v.k.length = v.m := hk.c.ln
    have WC : Hid (∀ W, Below w.heap.size w W → Calls Try.prog 11 #[.agg (keA v)] W fun e w' => e = .returned (.int .i64 0) ∧ Below W.heap.size W w') := fun W hb => by have := C.check v W (hk.keep hb); unfold kchkE at this; rw [if_pos hkR] at this; exact this
    have WX : Hid (∀ W (u : KeV), u.t = T1 → KOut W w.heap.size u → Calls Try.prog 11 #[.agg (keA u)] W fun e w' => e = .returned (.int .i64 0) ∧ Below W.heap.size W w') := fun W u q ho => by
      have := C.check u W (kpO_in ho (q.trans hT1.symm) hk hr (by omega) (by omega))
      unfold kchkE at this
      rw [q, if_pos hTR] at this
      exact this
    have SV : Hid (∀ u : KeV, u.t = T1 → decide (v.e ≤ u.e) = true ∧ decide (v.g ≤ u.g) = true) := fun u q => by
      have h1 : u.e = T1.e := congrArg KeT.e q
      have h2 : u.g = T1.g := congrArg KeT.g q
      exact ⟨by rw [decide_eq_true_eq, h1]; exact hle, by rw [decide_eq_true_eq, h2]; exact hlg⟩
    have HGM : Hid (∀ u : KeV, u.t = T1 → u.m = u.k.length → decide ((v.m : Int) ≤ (u.m : Int)) = true ∧ decide (v.m ≤ u.m) = true) := fun u q hm => by
      have h1 : u.k = T1.k := congrArg KeT.k q
      have h2 : v.t.k.length = v.m := hkn
      constructor <;> (rw [decide_eq_true_eq, hm, h1]; omega)
    have hv2 : v.t.l.length = v.n := hln
    by_cases q3 : r.k = 3
    · have b3 : (r.k == (3 : Int)) = true := by rw [beq_iff_eq]; exact q3
      have hst : stayN v.t r.t = r.f := if_pos q3
      obtain ⟨s, hs⟩ : ∃ s : Nat, r.f = s := ⟨r.f.toNat, by omega⟩
      have r2 := hidk (reA_2 r)
      rw [hst, hs] at hs0 hs1 hs2 htk
      rw [hs] at r2
      rw [Int.toNat_natCast] at htk
      clear hst hs q3
      have d1 : decide ((s : Int) < 0) = false := by rw [decide_eq_false_iff_not]; omega
      have d2 : decide ((v.n : Int) < (s : Int)) = false := by rw [decide_eq_false_iff_not]; omega
      have d3 : decide (v.n < s) = false := by rw [decide_eq_false_iff_not]; omega
      obtain ⟨a0, HSL⟩ := first_items hk.i s (p := True) (fun _ => by omega)
      have hsk := HSL.1.out trivial
      have hik := hidk (HSL.2 trivial)
      have HGN : Hid (∀ u : KeV, u.t = T1 → u.n = u.l.length → decide ((s : Int) ≤ (u.n : Int)) = true ∧ decide (s ≤ u.n) = true) := fun u q hn => by
        have h1 : u.l = T1.l := congrArg KeT.l q
        constructor <;> (rw [decide_eq_true_eq, hn, h1]; omega)
      have SX : Hid (∀ u : KeV, u.t = T1 → ∀ B V, KOut V B u → ∀ W, (Instr.sliceAt 22 (.slice u.a u.n u.c) none (some (.int .i64 (s : Nat))) none).run Try.prog W = .ok (.slice u.a s u.c) W) := fun u q B V ho => rowz_slice ho.i (by
        have h1 : u.l = T1.l := congrArg KeT.l q
        rw [ho.n, h1]; omega)
      have WS : Hid (∀ W (u : KeV), u.t = T1 → KOut W w.heap.size u → Below w.heap.size w W → Calls Try.prog 23 #[.slice u.a s u.c, .slice a0 s v.c] W fun e w' => e = .returned (.bool true) ∧ Below W.heap.size W w') := fun W u q ho hb => by
        have h1 : u.l = T1.l := congrArg KeT.l q
        have hku := kpO_in ho (q.trans hT1.symm) hk hr (by omega) (by omega)
        have e1 := hku.i.rd.take s (by rw [ho.n, h1]; omega)
        have e2 := (hik.out.rd).keep hb
        rw [h1, htk] at e1
        exact refSame_any _ _ _ _ _ _ W e1 e2
      clear h hbb C hrc hk hr hrn hvn hvm okk hE1 hT1 hln hkn hkR hTR hle hlg hs0 hs1 hs2 htk hlm HSL
      go_enter Try.func5, Try.ntmps5
      go_wp2_with (first
        | ((with_reducible show wpList _ _ _ (⟨_, .box _ _, _, _, _, _⟩ :: _) _ _); refine boxS (by rfl) (by rfl) H (by assumption) ?_; clear H; intro gq W hq H; clear hq; try simp only [Act.put, pS1, pS2, pS3])
        | ((with_reducible show wpList _ _ _ (⟨_, .alloc _, _, _, _, _⟩ :: _) _ _); refine newS (by rfl) (by kernel_rfl) H ?_; clear H; intro gq W hq H; clear hq; try simp only [Act.put, pS1, pS2, pS3])
        | ((with_reducible show wpList _ _ _ (⟨_, .load _ _, _, _, _, _⟩ :: _) _ _); refine rdS (by rfl) (by rfl) (by decide +kernel) H (by repeat constructor) ?_; try simp only [Act.put, pS1, pS2, pS3])
        | ((with_reducible show wpList _ _ _ (⟨_, .store _ _ _, _, _, _, _⟩ :: _) _ _); refine setS (by rfl) (by rfl) (by rfl) H (by exact FK.out _) (by repeat first | apply uH | apply uT) ?_; clear H; intro W H; try simp only [Act.put, pS1, pS2, pS3])
        | ((with_reducible show wpList _ _ _ (⟨_, .load _ _, _, _, _, _⟩ :: _) _ _); refine fldS (by rfl) (by rfl) (by decide +kernel) H (by repeat constructor) (by first | exact reA_0 _ | exact r2.out | exact reA_1 _ | exact reA_2 _ | exact r113.out) ?_; try simp only [Act.put, pS1, pS2, pS3])
        | ((with_reducible show wpList _ _ _ (⟨_, .load _ _, _, _, _, _⟩ :: _) _ _); refine fldS (by rfl) (by rfl) (by decide +kernel) H (by repeat constructor) (by first | exact keA_0 _ | exact keA_1 _ | exact keA_2 _ | exact keA_3 _) ?_; try simp only [Act.put, pS1, pS2, pS3])
        | ((with_reducible refine (WB.out _ H.out.b).mono ?_); rintro _ W ⟨rfl, hb⟩; replace H := hidk (H.out.call hb); clear hb; try simp only [Act.put, pS1, pS2, pS3])
        | ((with_reducible refine (W1.out _ H.out.b).mono ?_); rintro _ W ⟨v1, rfl, et1, ho, hb⟩; obtain ⟨N1, HQ, K1⟩ := H.out.kout hb ho; replace et1 := hidk et1; have w1 := hidk (SV.out v1 et1.out); have hge := w1.out.1; have hgg := w1.out.2; have hgn := (HGN.out v1 et1.out ho.n).1; have hgn2 := (HGN.out v1 et1.out ho.n).2; have hgm := (HGM.out v1 et1.out ho.m).1; have hgm2 := (HGM.out v1 et1.out ho.m).2; have hsx := SX.out v1 et1.out _ _ ho; clear H ho hb; have H := HQ; clear HQ; try simp only [Act.put, pS1, pS2, pS3])
        | fail)
      refine region_mix _ [] [0, 3, 8, 41] [] [0, 1, 2, 3, 4, 5, 6, 7, 8, 9, 10, 11, 12, 13, 14, 15, 16, 17, 18, 19, 20, 21, 22, 23, 24, 25, 26, 27, 28, 29, 30, 31, 32, 33, 34, 35, 36, 37, 38, 39, 40, 41, 42, 43, 44, 45, 46, 47, 48, 49, 50, 51, 52] (by kernel_rfl) (by kernel_rfl) (by kernel_rfl) (by rfl) H (List.Sublist.refl _) (List.nil_sublist _) ?_
      clear H
      intro W hne H
      repeat (first
        | (refine mix_skip (by rfl) (by rfl) ?_; try simp only [Act.put, pS1, pS2, pS3])
        | (refine mix_q (by rfl) (by rfl) (by rfl) (by rfl) ?_; intro K hK; first | (refine qR (by rfl) (by decide +kernel) (by repeat constructor) (keA_fit _).s ?_; try simp only [Act.put, pS1, pS2, pS3]; go_big_quiet_on) | (refine qF (by rfl) (by decide +kernel) (by repeat constructor) (by first | exact keA_0 _ | exact keA_1 _ | exact keA_2 _ | exact keA_3 _) ?_; try simp only [Act.put, pS1, pS2, pS3]; go_big_quiet_on) | (go_big_quiet_op; go_big_quiet_on))
        | (refine mix_e (by rfl) (by rfl) (by rfl) ?_; go_wp2_with (first | ((with_reducible refine (WF.out _).mono ?_); rintro _ W ⟨rfl, hb⟩; replace H := hidk (H.out.call hb); clear hb; try simp only [Act.put, pS1, pS2, pS3]) | ((with_reducible refine (WC.out _ H.out.b).mono ?_); rintro _ W ⟨rfl, hb⟩; replace H := hidk (H.out.call hb); clear hb; try simp only [Act.put, pS1, pS2, pS3]) | ((with_reducible refine (WX.out _ _ et1.out (K1.out _ (by first | exact H.out.has.l | exact H.out.has.r.l | exact H.out.has.r.r.l | exact H.out.has.r.r.r.l | exact H.out.has.r.r.r.r.l | exact H.out.has.r.r.r.r.r.l))).mono ?_); rintro _ W ⟨rfl, hb⟩; replace H := hidk (H.out.call hb); clear hb; try simp only [Act.put, pS1, pS2, pS3]) | ((with_reducible refine (WS.out _ _ et1.out (K1.out _ (by first | exact H.out.has.l | exact H.out.has.r.l | exact H.out.has.r.r.l | exact H.out.has.r.r.r.l | exact H.out.has.r.r.r.r.l | exact H.out.has.r.r.r.r.r.l)) H.out.b).mono ?_); rintro _ W ⟨rfl, hb⟩; replace H := hidk (H.out.call hb); clear hb; try simp only [Act.put, pS1, pS2, pS3]) | fail); first | refine mix_fin (by rfl) ?_ | refine mix_fin2 ?_ | refine mix_on (by exact H.out.sub (List.Sublist.refl _) (List.nil_sublist _)) ?_ | refine mix_on2 (by exact H.out.sub (List.Sublist.refl _) (List.nil_sublist _)) ?_))
      refine mix_end ?_
      clear hne
      go_wp2
      go_ret
      exact ⟨rfl, H.out.b⟩
    · have b3 : (r.k == (3 : Int)) = false := by rw [beq_eq_false_iff_ne]; exact q3
      have hst : stayN v.t r.t = (v.n : Int) := (if_neg q3).trans (by rw [hv2])
      rw [hst] at hs0 hs1 hs2 htk
      rw [Int.toNat_natCast] at htk
      clear hst q3
      have d1 : decide ((v.n : Int) < 0) = false := by rw [decide_eq_false_iff_not]; omega
      have d2 : decide ((v.n : Int) < (v.n : Int)) = false := by rw [decide_eq_false_iff_not]; omega
      have d3 : decide (v.n < v.n) = false := by rw [decide_eq_false_iff_not]; omega
      obtain ⟨a0, HSL⟩ := first_items hk.i v.n (p := True) (fun _ => by omega)
      have hsk := HSL.1.out trivial
      have hik := hidk (HSL.2 trivial)
      have HGN : Hid (∀ u : KeV, u.t = T1 → u.n = u.l.length → decide ((v.n : Int) ≤ (u.n : Int)) = true ∧ decide (v.n ≤ u.n) = true) := fun u q hn => by
        have h1 : u.l = T1.l := congrArg KeT.l q
        constructor <;> (rw [decide_eq_true_eq, hn, h1]; omega)
      have SX : Hid (∀ u : KeV, u.t = T1 → ∀ B V, KOut V B u → ∀ W, (Instr.sliceAt 22 (.slice u.a u.n u.c) none (some (.int .i64 (v.n : Nat))) none).run Try.prog W = .ok (.slice u.a v.n u.c) W) := fun u q B V ho => rowz_slice ho.i (by
        have h1 : u.l = T1.l := congrArg KeT.l q
        rw [ho.n, h1]; omega)
      have WS : Hid (∀ W (u : KeV), u.t = T1 → KOut W w.heap.size u → Below w.heap.size w W → Calls Try.prog 23 #[.slice u.a v.n u.c, .slice a0 v.n v.c] W fun e w' => e = .returned (.bool true) ∧ Below W.heap.size W w') := fun W u q ho hb => by
        have h1 : u.l = T1.l := congrArg KeT.l q
        have hku := kpO_in ho (q.trans hT1.symm) hk hr (by omega) (by omega)
        have e1 := hku.i.rd.take v.n (by rw [ho.n, h1]; omega)
        have e2 := (hik.out.rd).keep hb
        rw [h1, htk] at e1
        exact refSame_any _ _ _ _ _ _ W e1 e2
      clear h hbb C hrc hk hr hrn hvn hvm okk hE1 hT1 hln hkn hkR hTR hle hlg hs0 hs1 hs2 htk hlm HSL
      go_enter Try.func5, Try.ntmps5
      go_wp2_with (first
        | ((with_reducible show wpList _ _ _ (⟨_, .box _ _, _, _, _, _⟩ :: _) _ _); refine boxS (by rfl) (by rfl) H (by assumption) ?_; clear H; intro gq W hq H; clear hq; try simp only [Act.put, pS1, pS2, pS3])
        | ((with_reducible show wpList _ _ _ (⟨_, .alloc _, _, _, _, _⟩ :: _) _ _); refine newS (by rfl) (by kernel_rfl) H ?_; clear H; intro gq W hq H; clear hq; try simp only [Act.put, pS1, pS2, pS3])
        | ((with_reducible show wpList _ _ _ (⟨_, .load _ _, _, _, _, _⟩ :: _) _ _); refine rdS (by rfl) (by rfl) (by decide +kernel) H (by repeat constructor) ?_; try simp only [Act.put, pS1, pS2, pS3])
        | ((with_reducible show wpList _ _ _ (⟨_, .store _ _ _, _, _, _, _⟩ :: _) _ _); refine setS (by rfl) (by rfl) (by rfl) H (by exact FK.out _) (by repeat first | apply uH | apply uT) ?_; clear H; intro W H; try simp only [Act.put, pS1, pS2, pS3])
        | ((with_reducible show wpList _ _ _ (⟨_, .load _ _, _, _, _, _⟩ :: _) _ _); refine fldS (by rfl) (by rfl) (by decide +kernel) H (by repeat constructor) (by first | exact reA_0 _ | exact r2.out | exact reA_1 _ | exact reA_2 _ | exact r113.out) ?_; try simp only [Act.put, pS1, pS2, pS3])
        | ((with_reducible show wpList _ _ _ (⟨_, .load _ _, _, _, _, _⟩ :: _) _ _); refine fldS (by rfl) (by rfl) (by decide +kernel) H (by repeat constructor) (by first | exact keA_0 _ | exact keA_1 _ | exact keA_2 _ | exact keA_3 _) ?_; try simp only [Act.put, pS1, pS2, pS3])
        | ((with_reducible refine (WB.out _ H.out.b).mono ?_); rintro _ W ⟨rfl, hb⟩; replace H := hidk (H.out.call hb); clear hb; try simp only [Act.put, pS1, pS2, pS3])
        | ((with_reducible refine (W1.out _ H.out.b).mono ?_); rintro _ W ⟨v1, rfl, et1, ho, hb⟩; obtain ⟨N1, HQ, K1⟩ := H.out.kout hb ho; replace et1 := hidk et1; have w1 := hidk (SV.out v1 et1.out); have hge := w1.out.1; have hgg := w1.out.2; have hgn := (HGN.out v1 et1.out ho.n).1; have hgn2 := (HGN.out v1 et1.out ho.n).2; have hgm := (HGM.out v1 et1.out ho.m).1; have hgm2 := (HGM.out v1 et1.out ho.m).2; have hsx := SX.out v1 et1.out _ _ ho; clear H ho hb; have H := HQ; clear HQ; try simp only [Act.put, pS1, pS2, pS3])
        | fail)
      refine region_mix _ [] [0, 3, 8, 41] [] [0, 1, 2, 3, 4, 5, 6, 7, 8, 9, 10, 11, 12, 13, 14, 15, 16, 17, 18, 19, 20, 21, 22, 23, 24, 25, 26, 27, 28, 29, 30, 31, 32, 33, 34, 35, 36, 37, 38, 39, 40, 41, 42, 43, 44, 45, 46, 47, 48, 49, 50, 51, 52] (by kernel_rfl) (by kernel_rfl) (by kernel_rfl) (by rfl) H (List.Sublist.refl _) (List.nil_sublist _) ?_
      clear H
      intro W hne H
      repeat (first
        | (refine mix_skip (by rfl) (by rfl) ?_; try simp only [Act.put, pS1, pS2, pS3])
        | (refine mix_q (by rfl) (by rfl) (by rfl) (by rfl) ?_; intro K hK; first | (refine qR (by rfl) (by decide +kernel) (by repeat constructor) (keA_fit _).s ?_; try simp only [Act.put, pS1, pS2, pS3]; go_big_quiet_on) | (refine qF (by rfl) (by decide +kernel) (by repeat constructor) (by first | exact keA_0 _ | exact keA_1 _ | exact keA_2 _ | exact keA_3 _) ?_; try simp only [Act.put, pS1, pS2, pS3]; go_big_quiet_on) | (go_big_quiet_op; go_big_quiet_on))
        | (refine mix_e (by rfl) (by rfl) (by rfl) ?_; go_wp2_with (first | ((with_reducible refine (WF.out _).mono ?_); rintro _ W ⟨rfl, hb⟩; replace H := hidk (H.out.call hb); clear hb; try simp only [Act.put, pS1, pS2, pS3]) | ((with_reducible refine (WC.out _ H.out.b).mono ?_); rintro _ W ⟨rfl, hb⟩; replace H := hidk (H.out.call hb); clear hb; try simp only [Act.put, pS1, pS2, pS3]) | ((with_reducible refine (WX.out _ _ et1.out (K1.out _ (by first | exact H.out.has.l | exact H.out.has.r.l | exact H.out.has.r.r.l | exact H.out.has.r.r.r.l | exact H.out.has.r.r.r.r.l | exact H.out.has.r.r.r.r.r.l))).mono ?_); rintro _ W ⟨rfl, hb⟩; replace H := hidk (H.out.call hb); clear hb; try simp only [Act.put, pS1, pS2, pS3]) | ((with_reducible refine (WS.out _ _ et1.out (K1.out _ (by first | exact H.out.has.l | exact H.out.has.r.l | exact H.out.has.r.r.l | exact H.out.has.r.r.r.l | exact H.out.has.r.r.r.r.l | exact H.out.has.r.r.r.r.r.l)) H.out.b).mono ?_); rintro _ W ⟨rfl, hb⟩; replace H := hidk (H.out.call hb); clear hb; try simp only [Act.put, pS1, pS2, pS3]) | fail); first | refine mix_fin (by rfl) ?_ | refine mix_fin2 ?_ | refine mix_on (by exact H.out.sub (List.Sublist.refl _) (List.nil_sublist _)) ?_ | refine mix_on2 (by exact H.out.sub (List.Sublist.refl _) (List.nil_sublist _)) ?_))
      refine mix_end ?_
      clear hne
      go_wp2
      go_ret
      exact ⟨rfl, H.out.b⟩
  · have hT : T1 = zeroKe := by rw [← hT1]; exact kp_no (by rw [hE1]; exact q1)
    have hd : (E1 != (0 : Int)) = true := by rw [bne_iff_ne]; exact q1
    have okZ : OkKe zeroKe := ⟨(fun x hx => by cases hx), (fun x hx => by cases hx), Nat.zero_le _, Nat.zero_le _, in64_s (by decide) (by decide), in64_s (by decide) (by decide)⟩
    have WS : Hid (∀ W (u : KeV), u.t = T1 → KOut W w.heap.size u → Calls Try.prog 16 #[.agg (keA u), .agg (keA zeroKv)] W fun e w' => e = .returned (.bool true) ∧ Below W.heap.size W w') := fun W u q ho => refSameKe_any u zeroKv W (ho.kin_of (q.trans hT) okZ) (zeroKv_in W) (q.trans hT)
    clear h hbb C hrc hk hr hrn okk hE1 hT1 q1 hT okZ
    go_enter Try.func5, Try.ntmps5
    go_wp2_with (first
      | ((with_reducible show wpList _ _ _ (⟨_, .box _ _, _, _, _, _⟩ :: _) _ _); refine boxS (by rfl) (by rfl) H (by assumption) ?_; clear H; intro gq W hq H; clear hq; try simp only [Act.put, pS1, pS2, pS3])
      | ((with_reducible show wpList _ _ _ (⟨_, .alloc _, _, _, _, _⟩ :: _) _ _); refine newS (by rfl) (by kernel_rfl) H ?_; clear H; intro gq W hq H; clear hq; try simp only [Act.put, pS1, pS2, pS3])
      | ((with_reducible show wpList _ _ _ (⟨_, .load _ _, _, _, _, _⟩ :: _) _ _); refine rdS (by rfl) (by rfl) (by decide +kernel) H (by repeat constructor) ?_; try simp only [Act.put, pS1, pS2, pS3])
      | ((with_reducible show wpList _ _ _ (⟨_, .build _ _, _, _, _, _⟩ :: _) _ _); refine bldS (by rfl) (by with_reducible exact BK.out) (by rfl) ?_; try simp only [Act.put, pS1, pS2, pS3])
      | ((with_reducible show wpList _ _ _ (⟨_, .store _ _ _, _, _, _, _⟩ :: _) _ _); refine setS (by rfl) (by rfl) (by rfl) H (by exact FK.out _) (by repeat first | apply uH | apply uT) ?_; clear H; intro W H; try simp only [Act.put, pS1, pS2, pS3])
      | ((with_reducible refine (WB.out _ H.out.b).mono ?_); rintro _ W ⟨rfl, hb⟩; replace H := hidk (H.out.call hb); clear hb; try simp only [Act.put, pS1, pS2, pS3])
      | ((with_reducible refine (WF.out _).mono ?_); rintro _ W ⟨rfl, hb⟩; replace H := hidk (H.out.call hb); clear hb; try simp only [Act.put, pS1, pS2, pS3])
      | ((with_reducible refine (W1.out _ H.out.b).mono ?_); rintro _ W ⟨v1, rfl, et1, ho, hb⟩; obtain ⟨N1, HQ, K1⟩ := H.out.kout hb ho; replace et1 := hidk et1; clear H ho hb; have H := HQ; clear HQ; try simp only [Act.put, pS1, pS2, pS3])
      | ((with_reducible refine (WS.out _ _ et1.out (K1.out _ (by first | exact H.out.has.l | exact H.out.has.r.l | exact H.out.has.r.r.l | exact H.out.has.r.r.r.l | exact H.out.has.r.r.r.r.l | exact H.out.has.r.r.r.r.r.l))).mono ?_); rintro _ W ⟨rfl, hb⟩; replace H := hidk (H.out.call hb); clear hb; try simp only [Act.put, pS1, pS2, pS3])
      | fail)
    go_ret
    exact ⟨rfl, H.out.b⟩
end Go.Proofs.Ytjpmmbmhkpgjcaa
