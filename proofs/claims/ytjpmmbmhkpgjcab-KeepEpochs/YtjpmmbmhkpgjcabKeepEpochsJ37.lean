/- Texts of our own that the row of KeepEpochs leans on, part 37. -/
import Derived.Test.YtjpmmbmhkpgjcabKeepEpochsJ27
import Derived.Test.YtjpmmbmhkpgjcabKeepEpochsJ31
import Derived.Test.YtjpmmbmhkpgjcabKeepEpochsJ33
import Derived.Test.YtjpmmbmhkpgjcabKeepEpochsJ35
import Derived.Test.YtjpmmbmhkpgjcabKeepEpochsJ36

/- What the statements of keep lean on. -/
namespace Go.Proofs.Ytjpmmbmhkpgjcab
open Go.RowKit Nums Sums
set_option linter.unusedVariables false
set_option linter.unusedSimpArgs false
set_option maxRecDepth 100000
theorem cmr_zero (w : World) : CmR w zeroRv := ⟨ireads_none w, fun _ => rfl, (fun x h => by cases h), ⟨by show In64 0; unfold In64; decide, ⟨zeroE_in.k, zeroE_in.c, zeroE_in.s, by show 0 ≤ maxLen; exact Nat.zero_le _, zeroE_in.h, zeroE_in.m⟩⟩, zeroC_in, by show In64 0; unfold In64; decide, by show In64 0; unfold In64; decide, by show In64 0; unfold In64; decide⟩
theorem KIn.okk {w : World} {v : KeV} (h : KIn w v) : OkKe v.t := ⟨h.i.its, h.cs, by have := h.i.rd.ln; have := h.il; show v.l.length ≤ 250; omega, by have := h.c.ln; have := h.cl; show v.k.length ≤ 250; omega, h.e, h.g⟩
end Go.Proofs.Ytjpmmbmhkpgjcab

/- KeepEpochs. -/
namespace Go.Proofs.Ytjpmmbmhkpgjcab
open Go.RowKit Nums Sums
set_option linter.unusedVariables false
set_option linter.unusedSimpArgs false
set_option maxRecDepth 100000
theorem epoch_no {t : KeT} {e : Int} (h : rightKe t = true) (hE : kpE t ⟨1, e, 0, zeroI, [], zeroC⟩ ≠ 0) : e < t.e ∨ 900000000 < e := by
  by_cases q1 : e < t.e
  · exact .inl q1
  by_cases q2 : 900000000 < e
  · exact .inr q2
  have h0 := (rightKe_iff t).1 h
  have hm : mayR ⟨1, e, 0, zeroI, [], zeroC⟩ = true := by
    unfold mayR
    have ei : eqIB zeroI zeroI = true := (eqIB_iff _ _).2 rfl
    have em : eqCB zeroC zeroC = true := (eqCB_iff _ _).2 rfl
    rw [if_pos rfl]
    simp only [ei, em, Bool.and_true, Bool.and_eq_true, decide_eq_true_eq]
    refine ⟨⟨⟨?_, ?_⟩, ?_⟩, ?_⟩ <;> first | omega | trivial | simp
  have hw : kpW t ⟨1, e, 0, zeroI, [], zeroC⟩ = 0 := by unfold kpW; rw [if_pos rfl]; exact if_neg q1
  have hr : rightKe (kpX t ⟨1, e, 0, zeroI, [], zeroC⟩) = true := by
    unfold kpX
    rw [if_pos rfl, rightKe_iff]
    exact ⟨by show 1 ≤ e; omega, by show e ≤ 900000000; omega, h0.2.2.1, by show t.g ≤ e; omega, h0.2.2.2.2.1, h0.2.2.2.2.2.1, h0.2.2.2.2.2.2.1, h0.2.2.2.2.2.2.2⟩
  refine absurd ?_ hE
  unfold kpE
  rw [if_neg (by rw [h]; decide), if_neg (by rw [hm]; decide), if_neg (by rw [hw]; decide), if_neg (by rw [hr]; decide)]
theorem item_no {t : KeT} {x : ItT} (h : rightKe t = true) (hx : x.p ≠ t.g) : kpE t ⟨2, 0, 0, x, [], zeroC⟩ = 140 := by
  unfold kpE
  rw [if_neg (by rw [h]; decide)]
  split
  · rfl
  · have hw : kpW t ⟨2, 0, 0, x, [], zeroC⟩ = 140 := by unfold kpW; rw [if_neg (show ¬ (2 : Int) = 1 by decide), if_pos rfl]; exact if_pos (.inl hx)
    rw [if_pos (by rw [hw]; decide), hw]
set_option maxHeartbeats 32000000 in
theorem keepEpochs_in (C : KeepC) (v : KeV) (e : Int) (x : ItT) (w : World) (h : CmK w v) (he : In64 e) (hx : CmI x) : Calls Try.prog 4 #[.agg (keA v), .int .i64 e, .agg (itA x)] w fun e w' => e = .returned (.bool true) ∧ Below w.heap.size w w' := by
  have FX : Hid (Fit Try.prog 25 (keA v)) := keA_fit v
  have FK := hidk keA_fit
  have FI : Hid (Fit Try.prog 40 (itA x)) := itA_fit x hx.ok
  have BX : Hid (Try.prog.built 42 [(3, .agg (itA x))] = some (reA { zeroRv with x := x })) := builtR_x x hx.ok
  have BE : Hid (Try.prog.built 42 [(0, .int .i64 1), (1, .int .i64 e)] = some (reA { zeroRv with k := 1, e := e })) := builtR_ke 1 e
  have BI : Hid (Try.prog.built 42 [(0, .int .i64 2), (3, .agg (itA x))] = some (reA { zeroRv with k := 2, x := x })) := builtR_kx 2 x hx.ok
  obtain ⟨bb, hbb⟩ : ∃ b, bigK v { zeroRv with x := x } = b := ⟨_, rfl⟩
  have cr : CmR w { zeroRv with x := x } := ⟨(cmr_zero w).i, (cmr_zero w).ni, (cmr_zero w).mi, hx, (cmr_zero w).m, (cmr_zero w).k, (cmr_zero w).e, (cmr_zero w).f⟩
  have WB : Hid (∀ W, Below w.heap.size w W → Calls Try.prog 5 #[.agg (keA v), .agg (reA { zeroRv with x := x })] W fun e w' => e = .returned (.bool bb) ∧ Below W.heap.size W w') := fun W hb => by rw [← hbb]; exact refBigK_any v _ W (h.keep hb) (cr.keep hb)
  have WF : Hid (∀ W, Calls Try.prog 7 #[] W fun e w' => e = .returned (.bool true) ∧ Below W.heap.size W w') := fun W => folds_true C W
  have H := hidk (Sep.start Try.prog w)
  cases bb
  case true =>
    clear h hbb C cr hx
    go_enter Try.func4, Try.ntmps4
    go_wp2_with (first
      | ((with_reducible show wpList _ _ _ (⟨_, .box _ _, _, _, _, _⟩ :: _) _ _); refine boxS (by rfl) (by rfl) H (by assumption) ?_; clear H; intro gq W hq H; clear hq; try simp only [Act.put, List.setIfInBounds_toArray, List.set_cons_zero, List.set_cons_succ])
      | ((with_reducible show wpList _ _ _ (⟨_, .load _ _, _, _, _, _⟩ :: _) _ _); refine rdS (by rfl) (by rfl) (by decide +kernel) H (by repeat constructor) ?_; try simp only [Act.put, List.setIfInBounds_toArray, List.set_cons_zero, List.set_cons_succ])
      | ((with_reducible show wpList _ _ _ (⟨_, .build _ _, _, _, _, _⟩ :: _) _ _); refine bldS (by rfl) (by with_reducible exact BX.out) (by rfl) ?_; try simp only [Act.put, List.setIfInBounds_toArray, List.set_cons_zero, List.set_cons_succ])
      | ((with_reducible refine (WB.out _ H.out.b).mono ?_); rintro _ W ⟨rfl, hb⟩; replace H := hidk (H.out.call hb); clear hb; try simp only [Act.put, List.setIfInBounds_toArray, List.set_cons_zero, List.set_cons_succ])
      | ((with_reducible refine (WF.out _).mono ?_); rintro _ W ⟨rfl, hb⟩; replace H := hidk (H.out.call hb); clear hb; try simp only [Act.put, List.setIfInBounds_toArray, List.set_cons_zero, List.set_cons_succ])
      | fail)

    go_ret
    exact ⟨rfl, H.out.b⟩
  obtain ⟨hk, hr, _, _, _⟩ := bigK_no h cr hbb
  have hxI : InI x := hr.x
  have okk := hk.okk
  obtain ⟨bR, hR⟩ : ∃ b, rightKe v.t = b := ⟨_, rfl⟩
  obtain ⟨E, hE⟩ : ∃ x, kchkE v.t = x := ⟨_, rfl⟩
  have HEE : E = if bR = true then 0 else 1 := by rw [← hE, ← hR]; rfl
  have WC : Hid (∀ W, Below w.heap.size w W → Calls Try.prog 10 #[.agg (keA v)] W fun e w' => e = .returned (.int .i64 E) ∧ Below W.heap.size W w') := fun W hb => by rw [← hE]; exact C.check v W (hk.keep hb)
  cases bR
  case false =>
    obtain rfl : E = 1 := HEE
    clear h hbb C cr hx hk hr hxI okk hR hE
    go_enter Try.func4, Try.ntmps4
    go_wp2_with (first
      | ((with_reducible show wpList _ _ _ (⟨_, .box _ _, _, _, _, _⟩ :: _) _ _); refine boxS (by rfl) (by rfl) H (by assumption) ?_; clear H; intro gq W hq H; clear hq; try simp only [Act.put, List.setIfInBounds_toArray, List.set_cons_zero, List.set_cons_succ])
      | ((with_reducible show wpList _ _ _ (⟨_, .load _ _, _, _, _, _⟩ :: _) _ _); refine rdS (by rfl) (by rfl) (by decide +kernel) H (by repeat constructor) ?_; try simp only [Act.put, List.setIfInBounds_toArray, List.set_cons_zero, List.set_cons_succ])
      | ((with_reducible show wpList _ _ _ (⟨_, .build _ _, _, _, _, _⟩ :: _) _ _); refine bldS (by rfl) (by with_reducible exact BX.out) (by rfl) ?_; try simp only [Act.put, List.setIfInBounds_toArray, List.set_cons_zero, List.set_cons_succ])
      | ((with_reducible refine (WB.out _ H.out.b).mono ?_); rintro _ W ⟨rfl, hb⟩; replace H := hidk (H.out.call hb); clear hb; try simp only [Act.put, List.setIfInBounds_toArray, List.set_cons_zero, List.set_cons_succ])
      | ((with_reducible refine (WC.out _ H.out.b).mono ?_); rintro _ W ⟨rfl, hb⟩; replace H := hidk (H.out.call hb); clear hb; try simp only [Act.put, List.setIfInBounds_toArray, List.set_cons_zero, List.set_cons_succ])
      | ((with_reducible refine (WF.out _).mono ?_); rintro _ W ⟨rfl, hb⟩; replace H := hidk (H.out.call hb); clear hb; try simp only [Act.put, List.setIfInBounds_toArray, List.set_cons_zero, List.set_cons_succ])
      | fail)

    go_ret
    exact ⟨rfl, H.out.b⟩
  obtain rfl : E = 0 := HEE
  obtain ⟨E1, hE1⟩ : ∃ x, kpE v.t ⟨1, e, 0, zeroI, [], zeroC⟩ = x := ⟨_, rfl⟩
  obtain ⟨T1, hT1⟩ : ∃ x, kpO v.t ⟨1, e, 0, zeroI, [], zeroC⟩ = x := ⟨_, rfl⟩
  have W1 : Hid (∀ W, Below w.heap.size w W → Calls Try.prog 6 #[.agg (keA v), .agg (reA { zeroRv with k := 1, e := e })] W fun x w' => ∃ v', x = .returned (.tuple #[.agg (keA v'), .int .i64 E1]) ∧ v'.t = T1 ∧ KOut w' W.heap.size v' ∧ Below W.heap.size W w') := fun W hb => by
    refine (C.fold v { zeroRv with k := 1, e := e } W (hk.keep hb) (rin_ke W 1 e (in64_s (by decide) (by decide)) he) (Nat.zero_le _)).mono ?_
    rintro x w' ⟨v', rfl, q, ho, hb2⟩
    exact ⟨v', by rw [← hE1]; rfl, by rw [← hT1]; exact q, ho, hb2⟩
  by_cases q1 : E1 = 0
  · subst q1
    obtain ⟨_, _, _, hr1, hx1⟩ := kpE_ok hE1
    have et : T1 = ⟨e, v.g, v.l, v.k⟩ := by rw [← hT1, hx1]; rfl
    rw [← hx1, hT1] at hr1
    subst et
    have okT : OkKe ⟨e, v.g, v.l, v.k⟩ := ⟨okk.i, okk.c, okk.n, okk.m, he, okk.g⟩
    obtain ⟨E2, hE2⟩ : ∃ z, kpE ⟨e, v.g, v.l, v.k⟩ ⟨2, 0, 0, x, [], zeroC⟩ = z := ⟨_, rfl⟩
    obtain ⟨T2, hT2⟩ : ∃ y, kpO ⟨e, v.g, v.l, v.k⟩ ⟨2, 0, 0, x, [], zeroC⟩ = y := ⟨_, rfl⟩
    have W2 : Hid (∀ W u, u.t = ⟨e, v.g, v.l, v.k⟩ → KOut W w.heap.size u → Calls Try.prog 6 #[.agg (keA u), .agg (reA { zeroRv with k := 2, x := x })] W fun x w' => ∃ v', x = .returned (.tuple #[.agg (keA v'), .int .i64 E2]) ∧ v'.t = T2 ∧ KOut w' W.heap.size v' ∧ Below W.heap.size W w') := fun W u q ho => by
      refine (C.fold u { zeroRv with k := 2, x := x } W (ho.kin_of q okT) (rin_kx W 2 x (in64_s (by decide) (by decide)) hxI) (Nat.zero_le _)).mono ?_
      rintro y w' ⟨v', rfl, q2, ho2, hb2⟩
      rw [q] at q2 ⊢
      exact ⟨v', by rw [← hE2]; rfl, by rw [← hT2]; exact q2, ho2, hb2⟩
    have WS : Hid (∀ W (u : KeV), u.t = ⟨e, v.g, v.l, v.k⟩ → KOut W w.heap.size u → Below w.heap.size w W → Calls Try.prog 8 #[.agg (keA { u with e := v.e }), .agg (keA v)] W fun e w' => e = .returned (.bool true) ∧ Below W.heap.size W w') := fun W u q ho hb =>
      refSameKe_any { u with e := v.e } v W ((KOut.mk ho.i ho.c ho.n ho.m : KOut W w.heap.size { u with e := v.e }).kin_of (by show KeT.mk v.e u.g u.l u.k = v.t; rw [show u.g = v.g from congrArg KeT.g q, show u.l = v.l from congrArg KeT.l q, show u.k = v.k from congrArg KeT.k q]; rfl) okk) (hk.keep hb) (by show KeT.mk v.e u.g u.l u.k = v.t; rw [show u.g = v.g from congrArg KeT.g q, show u.l = v.l from congrArg KeT.l q, show u.k = v.k from congrArg KeT.k q]; rfl)
    obtain ⟨bx, hbx⟩ : ∃ b, (x.p == v.g) = b := ⟨_, rfl⟩
    have hX2 : bx = true ∨ bx = false ∧ E2 = 140 := by
      by_cases q : x.p = v.g
      · exact .inl (by rw [← hbx, q]; simp)
      · exact .inr ⟨by rw [← hbx, beq_eq_false_iff_ne]; exact q, by rw [← hE2]; exact item_no hr1 q⟩
    clear h hbb C cr hx hk hr hxI okk hR hE hE1 hT1 hr1 hx1 okT hE2 hT2
    rcases hX2 with rfl | ⟨rfl, rfl⟩
    all_goals
      go_enter Try.func4, Try.ntmps4
      go_wp2_with (first
        | ((with_reducible show wpList _ _ _ (⟨_, .box _ _, _, _, _, _⟩ :: _) _ _); refine boxS (by rfl) (by rfl) H (by assumption) ?_; clear H; intro gq W hq H; clear hq; try simp only [Act.put, List.setIfInBounds_toArray, List.set_cons_zero, List.set_cons_succ])
        | ((with_reducible show wpList _ _ _ (⟨_, .alloc _, _, _, _, _⟩ :: _) _ _); refine newS (by rfl) (by kernel_rfl) H ?_; clear H; intro gq W hq H; clear hq; try simp only [Act.put, List.setIfInBounds_toArray, List.set_cons_zero, List.set_cons_succ])
        | ((with_reducible show wpList _ _ _ (⟨_, .load _ _, _, _, _, _⟩ :: _) _ _); refine rdS (by rfl) (by rfl) (by decide +kernel) H (by repeat constructor) ?_; try simp only [Act.put, List.setIfInBounds_toArray, List.set_cons_zero, List.set_cons_succ])
        | ((with_reducible show wpList _ _ _ (⟨_, .build _ _, _, _, _, _⟩ :: _) _ _); refine bldS (by rfl) (by with_reducible exact BX.out) (by rfl) ?_; try simp only [Act.put, List.setIfInBounds_toArray, List.set_cons_zero, List.set_cons_succ])
        | ((with_reducible show wpList _ _ _ (⟨_, .build _ _, _, _, _, _⟩ :: _) _ _); refine bldS (by rfl) (by with_reducible exact BE.out) (by rfl) ?_; try simp only [Act.put, List.setIfInBounds_toArray, List.set_cons_zero, List.set_cons_succ])
        | ((with_reducible show wpList _ _ _ (⟨_, .build _ _, _, _, _, _⟩ :: _) _ _); refine bldS (by rfl) (by with_reducible exact BI.out) (by rfl) ?_; try simp only [Act.put, List.setIfInBounds_toArray, List.set_cons_zero, List.set_cons_succ])
        | ((with_reducible show wpList _ _ _ (⟨_, .store _ _ _, _, _, _, _⟩ :: _) _ _); refine setS (by rfl) (by rfl) (by rfl) H (by exact FK.out _) (by repeat first | apply uH | apply uT) ?_; clear H; intro W H; try simp only [Act.put, List.setIfInBounds_toArray, List.set_cons_zero, List.set_cons_succ])
        | ((with_reducible show wpList _ _ _ (⟨_, .load _ _, _, _, _, _⟩ :: _) _ _); refine fldS (by rfl) (by rfl) (by decide +kernel) H (by repeat constructor) (by first | exact keA_0 _ | exact keA_1 _ | exact keA_2 _ | exact keA_3 _ | exact itA_p _) ?_; try simp only [Act.put, List.setIfInBounds_toArray, List.set_cons_zero, List.set_cons_succ])
        | ((with_reducible show wpList _ _ _ (⟨_, .store _ _ _, _, _, _, _⟩ :: _) _ _); refine putS (by rfl) (by rfl) (by rfl) (by exact ⟨rfl, rfl⟩) (by kernel_rfl) H (by repeat first | apply uH | apply uT) (by rw [keA_size]; omega) (by first | exact keA_s0 _ _) ?_; clear H; intro W H; try simp only [Act.put, List.setIfInBounds_toArray, List.set_cons_zero, List.set_cons_succ])
        | ((with_reducible refine (WB.out _ H.out.b).mono ?_); rintro _ W ⟨rfl, hb⟩; replace H := hidk (H.out.call hb); clear hb; try simp only [Act.put, List.setIfInBounds_toArray, List.set_cons_zero, List.set_cons_succ])
        | ((with_reducible refine (WC.out _ H.out.b).mono ?_); rintro _ W ⟨rfl, hb⟩; replace H := hidk (H.out.call hb); clear hb; try simp only [Act.put, List.setIfInBounds_toArray, List.set_cons_zero, List.set_cons_succ])
        | ((with_reducible refine (WF.out _).mono ?_); rintro _ W ⟨rfl, hb⟩; replace H := hidk (H.out.call hb); clear hb; try simp only [Act.put, List.setIfInBounds_toArray, List.set_cons_zero, List.set_cons_succ])
        | ((with_reducible refine (W1.out _ H.out.b).mono ?_); rintro _ W ⟨v1, rfl, et1, ho, hb⟩; obtain ⟨N1, HQ, K1⟩ := H.out.kout hb ho; replace et1 := hidk et1; clear H ho hb; have H := HQ; clear HQ; try simp only [Act.put, List.setIfInBounds_toArray, List.set_cons_zero, List.set_cons_succ])
        | ((with_reducible refine (W2.out _ _ et1.out (K1.out _ (by first | exact H.out.has.l | exact H.out.has.r.l | exact H.out.has.r.r.l | exact H.out.has.r.r.r.l | exact H.out.has.r.r.r.r.l | exact H.out.has.r.r.r.r.r.l))).mono ?_); rintro _ W ⟨v2, rfl, et2, ho, hb⟩; obtain ⟨N2, HQ, K2⟩ := H.out.kout hb ho; replace et2 := hidk et2; clear H ho hb; have H := HQ; clear HQ; try simp only [Act.put, List.setIfInBounds_toArray, List.set_cons_zero, List.set_cons_succ])
        | ((with_reducible refine (WS.out _ _ et1.out (K1.out _ (by first | exact H.out.has.l | exact H.out.has.r.l | exact H.out.has.r.r.l | exact H.out.has.r.r.r.l | exact H.out.has.r.r.r.r.l | exact H.out.has.r.r.r.r.r.l)) H.out.b).mono ?_); rintro _ W ⟨rfl, hb⟩; replace H := hidk (H.out.call hb); clear hb; try simp only [Act.put, List.setIfInBounds_toArray, List.set_cons_zero, List.set_cons_succ])
        | fail)

    all_goals (go_ret; exact ⟨rfl, H.out.b⟩)
  · have hd : (E1 != (0 : Int)) = true := by rw [bne_iff_ne]; exact q1
    obtain ⟨b1, h1⟩ : ∃ b, decide (e < v.e) = b := ⟨_, rfl⟩
    obtain ⟨b2, h2⟩ : ∃ b, decide ((900000000 : Int) < e) = b := ⟨_, rfl⟩
    have hb : b1 = true ∨ b1 = false ∧ b2 = true := by
      rcases epoch_no hR (by rw [hE1]; exact q1) with q | q
      · exact .inl (by rw [← h1]; exact decide_eq_true q)
      · cases hb1 : b1
        · exact .inr ⟨rfl, by rw [← h2]; exact decide_eq_true q⟩
        · exact .inl rfl
    clear h hbb C cr hx hk hr hxI okk hR hE hE1 hT1 q1
    rcases hb with rfl | ⟨rfl, rfl⟩
    all_goals
      go_enter Try.func4, Try.ntmps4
      go_wp2_with (first
        | ((with_reducible show wpList _ _ _ (⟨_, .box _ _, _, _, _, _⟩ :: _) _ _); refine boxS (by rfl) (by rfl) H (by assumption) ?_; clear H; intro gq W hq H; clear hq; try simp only [Act.put, List.setIfInBounds_toArray, List.set_cons_zero, List.set_cons_succ])
        | ((with_reducible show wpList _ _ _ (⟨_, .alloc _, _, _, _, _⟩ :: _) _ _); refine newS (by rfl) (by kernel_rfl) H ?_; clear H; intro gq W hq H; clear hq; try simp only [Act.put, List.setIfInBounds_toArray, List.set_cons_zero, List.set_cons_succ])
        | ((with_reducible show wpList _ _ _ (⟨_, .load _ _, _, _, _, _⟩ :: _) _ _); refine rdS (by rfl) (by rfl) (by decide +kernel) H (by repeat constructor) ?_; try simp only [Act.put, List.setIfInBounds_toArray, List.set_cons_zero, List.set_cons_succ])
        | ((with_reducible show wpList _ _ _ (⟨_, .build _ _, _, _, _, _⟩ :: _) _ _); refine bldS (by rfl) (by with_reducible exact BX.out) (by rfl) ?_; try simp only [Act.put, List.setIfInBounds_toArray, List.set_cons_zero, List.set_cons_succ])
        | ((with_reducible show wpList _ _ _ (⟨_, .build _ _, _, _, _, _⟩ :: _) _ _); refine bldS (by rfl) (by with_reducible exact BE.out) (by rfl) ?_; try simp only [Act.put, List.setIfInBounds_toArray, List.set_cons_zero, List.set_cons_succ])
        | ((with_reducible show wpList _ _ _ (⟨_, .store _ _ _, _, _, _, _⟩ :: _) _ _); refine setS (by rfl) (by rfl) (by rfl) H (by exact FK.out _) (by repeat first | apply uH | apply uT) ?_; clear H; intro W H; try simp only [Act.put, List.setIfInBounds_toArray, List.set_cons_zero, List.set_cons_succ])
        | ((with_reducible show wpList _ _ _ (⟨_, .load _ _, _, _, _, _⟩ :: _) _ _); refine fldS (by rfl) (by rfl) (by decide +kernel) H (by repeat constructor) (by first | exact keA_0 _ | exact keA_1 _ | exact keA_2 _ | exact keA_3 _ | exact itA_p _) ?_; try simp only [Act.put, List.setIfInBounds_toArray, List.set_cons_zero, List.set_cons_succ])
        | ((with_reducible refine (WB.out _ H.out.b).mono ?_); rintro _ W ⟨rfl, hb⟩; replace H := hidk (H.out.call hb); clear hb; try simp only [Act.put, List.setIfInBounds_toArray, List.set_cons_zero, List.set_cons_succ])
        | ((with_reducible refine (WC.out _ H.out.b).mono ?_); rintro _ W ⟨rfl, hb⟩; replace H := hidk (H.out.call hb); clear hb; try simp only [Act.put, List.setIfInBounds_toArray, List.set_cons_zero, List.set_cons_succ])
        | ((with_reducible refine (WF.out _).mono ?_); rintro _ W ⟨rfl, hb⟩; replace H := hidk (H.out.call hb); clear hb; try simp only [Act.put, List.setIfInBounds_toArray, List.set_cons_zero, List.set_cons_succ])
        | ((with_reducible refine (W1.out _ H.out.b).mono ?_); rintro _ W ⟨v1, rfl, et1, ho, hb⟩; obtain ⟨N1, HQ, K1⟩ := H.out.kout hb ho; replace et1 := hidk et1; clear H ho hb; have H := HQ; clear HQ; try simp only [Act.put, List.setIfInBounds_toArray, List.set_cons_zero, List.set_cons_succ])
        | fail)

    all_goals (go_ret; exact ⟨rfl, H.out.b⟩)
end Go.Proofs.Ytjpmmbmhkpgjcab
