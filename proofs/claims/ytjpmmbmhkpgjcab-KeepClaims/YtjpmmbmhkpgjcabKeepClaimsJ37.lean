/- Texts of our own that the row of KeepClaims leans on, part 37. -/
import Derived.Test.YtjpmmbmhkpgjcabKeepClaimsJ20
import Derived.Test.YtjpmmbmhkpgjcabKeepClaimsJ27
import Derived.Test.YtjpmmbmhkpgjcabKeepClaimsJ31
import Derived.Test.YtjpmmbmhkpgjcabKeepClaimsJ33
import Derived.Test.YtjpmmbmhkpgjcabKeepClaimsJ35
import Derived.Test.YtjpmmbmhkpgjcabKeepClaimsJ36

/- What the statements of keep lean on. -/
namespace Go.Proofs.Ytjpmmbmhkpgjcab
open Go.RowKit Nums Sums
set_option linter.unusedVariables false
set_option linter.unusedSimpArgs false
set_option maxRecDepth 100000
theorem cmr_zero (w : World) : CmR w zeroRv := ⟨ireads_none w, fun _ => rfl, (fun x h => by cases h), ⟨by show In64 0; unfold In64; decide, ⟨zeroE_in.k, zeroE_in.c, zeroE_in.s, by show 0 ≤ maxLen; exact Nat.zero_le _, zeroE_in.h, zeroE_in.m⟩⟩, zeroC_in, by show In64 0; unfold In64; decide, by show In64 0; unfold In64; decide, by show In64 0; unfold In64; decide⟩
theorem KIn.okk {w : World} {v : KeV} (h : KIn w v) : OkKe v.t := ⟨h.i.its, h.cs, by have := h.i.rd.ln; have := h.il; show v.l.length ≤ 250; omega, by have := h.c.ln; have := h.cl; show v.k.length ≤ 250; omega, h.e, h.g⟩
end Go.Proofs.Ytjpmmbmhkpgjcab

/- KeepClaims. -/
namespace Go.Proofs.Ytjpmmbmhkpgjcab
open Go.RowKit Nums Sums
set_option linter.unusedVariables false
set_option linter.unusedSimpArgs false
set_option maxRecDepth 100000
theorem clA_r (c : ClT) : (clA c)[0]? = some (.int .i64 c.r) := rfl
theorem clA_e (c : ClT) : (clA c)[1]? = some (.int .i64 c.e) := rfl
theorem may4 (c : ClT) : mayR ⟨4, 0, 0, zeroI, [], c⟩ = rightC c := by
  unfold mayR
  have ei : eqIB zeroI zeroI = true := (eqIB_iff _ _).2 rfl
  rw [if_neg (show ¬ (4 : Int) = 1 by decide), if_neg (show ¬ (4 : Int) = 2 by decide), if_neg (show ¬ (4 : Int) = 3 by decide), if_pos rfl]
  simp [ei]
theorem kpW4 (t : KeT) (c : ClT) : kpW t ⟨4, 0, 0, zeroI, [], c⟩ = if recE t.k c ≠ 0 then 140 else 0 := by
  unfold kpW
  rw [if_neg (show ¬ (4 : Int) = 1 by decide), if_neg (show ¬ (4 : Int) = 2 by decide), if_neg (show ¬ (4 : Int) = 3 by decide)]
theorem kpX4 (t : KeT) (c : ClT) : kpX t ⟨4, 0, 0, zeroI, [], c⟩ = { t with k := recL t.k c } := by
  unfold kpX
  rw [if_neg (show ¬ (4 : Int) = 1 by decide), if_neg (show ¬ (4 : Int) = 2 by decide), if_neg (show ¬ (4 : Int) = 3 by decide)]
theorem cl_ok {t : KeT} {c : ClT} (h : kpE t ⟨4, 0, 0, zeroI, [], c⟩ = 0) : rightKe t = true ∧ rightC c = true ∧ recE t.k c = 0 ∧ kpO t ⟨4, 0, 0, zeroI, [], c⟩ = { t with k := recL t.k c } ∧ rightKe { t with k := recL t.k c } = true := by
  obtain ⟨h1, h2, h3, h4, h5⟩ := kpE_ok h
  rw [may4] at h2
  rw [kpW4] at h3
  rw [kpX4] at h4 h5
  exact ⟨h1, h2, Classical.not_not.1 (fun q => by rw [if_pos q] at h3; cases h3), h5, h4⟩
theorem cl_in {t : KeT} {c : ClT} (h : rightKe t = true) (hc : rightC c = true) (hf : findC t.k c.r c.e = some c) : kpE t ⟨4, 0, 0, zeroI, [], c⟩ = 0 ∧ kpO t ⟨4, 0, 0, zeroI, [], c⟩ = t := by
  have hk := (rightKe_iff t).1 h
  have hE : recE t.k c = 0 := by
    unfold recE
    rw [if_neg (by rw [hk.2.2.2.2.2.1, hc]; simp), hf]
    exact if_pos ((eqCB_iff c c).2 rfl)
  have hL : recL t.k c = t.k := by unfold recL; rw [if_pos hE, if_pos (by rw [hf]; rfl)]
  have h0 : kpE t ⟨4, 0, 0, zeroI, [], c⟩ = 0 := kpE_5k h (by rw [may4]; exact hc) (by rw [kpW4, if_neg (by rw [hE]; simp)]) (show (4 : Int) ≠ 3 by decide)
  exact ⟨h0, by rw [(cl_ok h0).2.2.2.1, hL]⟩
theorem cl_other {t : KeT} {c d : ClT} (hf : findC t.k d.r d.e = some c) (hn : c ≠ d) : kpE t ⟨4, 0, 0, zeroI, [], d⟩ ≠ 0 := fun h => by
  obtain ⟨h1, h2, h3, _, _⟩ := cl_ok h
  rcases (recE_ok h3).2.2 with q | q
  · rw [hf] at q; cases q
  · rw [hf] at q; exact hn (by simpa using q)
set_option maxHeartbeats 32000000 in
theorem keepClaims_in (C : KeepC) (v : KeV) (c d : ClT) (w : World) (h : CmK w v) (hc : InC c) (hdc : InC d) : Calls Try.prog 3 #[.agg (keA v), .agg (clA c), .agg (clA d)] w fun e w' => e = .returned (.bool true) ∧ Below w.heap.size w w' := by
  have FX : Hid (Fit Try.prog 25 (keA v)) := keA_fit v
  have FK := hidk keA_fit
  have FC : Hid (Fit Try.prog 29 (clA c)) := clA_fit c hc.d
  have FD : Hid (Fit Try.prog 29 (clA d)) := clA_fit d hdc.d
  have BZ := hidk builtR_0
  have BC : Hid (Try.prog.built 42 [(0, .int .i64 4), (5, .agg (clA c))] = some (reA { zeroRv with k := 4, m := c })) := builtR_kc 4 c hc.d
  have BD : Hid (Try.prog.built 42 [(0, .int .i64 4), (5, .agg (clA d))] = some (reA { zeroRv with k := 4, m := d })) := builtR_kc 4 d hdc.d
  obtain ⟨bb, hbb⟩ : ∃ b, bigK v zeroRv = b := ⟨_, rfl⟩
  have WB : Hid (∀ W, Below w.heap.size w W → Calls Try.prog 5 #[.agg (keA v), .agg (reA zeroRv)] W fun e w' => e = .returned (.bool bb) ∧ Below W.heap.size W w') := fun W hb => by rw [← hbb]; exact refBigK_any v zeroRv W (h.keep hb) (cmr_zero W)
  have WF : Hid (∀ W, Calls Try.prog 7 #[] W fun e w' => e = .returned (.bool true) ∧ Below W.heap.size W w') := fun W => folds_true C W
  have H := hidk (Sep.start Try.prog w)
  cases bb
  case true =>
    clear h hbb C hc hdc
    go_enter Try.func3, Try.ntmps3
    go_wp2_with (first
      | ((with_reducible show wpList _ _ _ (⟨_, .box _ _, _, _, _, _⟩ :: _) _ _); refine boxS (by rfl) (by rfl) H (by assumption) ?_; clear H; intro gq W hq H; clear hq; try simp only [Act.put, List.setIfInBounds_toArray, List.set_cons_zero, List.set_cons_succ])
      | ((with_reducible show wpList _ _ _ (⟨_, .load _ _, _, _, _, _⟩ :: _) _ _); refine rdS (by rfl) (by rfl) (by decide +kernel) H (by repeat constructor) ?_; try simp only [Act.put, List.setIfInBounds_toArray, List.set_cons_zero, List.set_cons_succ])
      | ((with_reducible show wpList _ _ _ (⟨_, .build _ _, _, _, _, _⟩ :: _) _ _); refine bldS (by rfl) (by with_reducible exact BZ.out) (by rfl) ?_; try simp only [Act.put, List.setIfInBounds_toArray, List.set_cons_zero, List.set_cons_succ])
      | ((with_reducible refine (WB.out _ H.out.b).mono ?_); rintro _ W ⟨rfl, hb⟩; replace H := hidk (H.out.call hb); clear hb; try simp only [Act.put, List.setIfInBounds_toArray, List.set_cons_zero, List.set_cons_succ])
      | fail)

    go_ret
    exact ⟨rfl, H.out.b⟩
  obtain ⟨hk, _, hvn, hvm, _⟩ := bigK_no h (cmr_zero w) hbb
  have okk := hk.okk
  obtain ⟨E1, hE1⟩ : ∃ z, kpE v.t ⟨4, 0, 0, zeroI, [], c⟩ = z := ⟨_, rfl⟩
  obtain ⟨T1, hT1⟩ : ∃ z, kpO v.t ⟨4, 0, 0, zeroI, [], c⟩ = z := ⟨_, rfl⟩
  have W1 : Hid (∀ W, Below w.heap.size w W → Calls Try.prog 6 #[.agg (keA v), .agg (reA { zeroRv with k := 4, m := c })] W fun x w' => ∃ v', x = .returned (.tuple #[.agg (keA v'), .int .i64 E1]) ∧ v'.t = T1 ∧ KOut w' W.heap.size v' ∧ Below W.heap.size W w') := fun W hb => by
    refine (C.fold v { zeroRv with k := 4, m := c } W (hk.keep hb) (rin_kc W 4 _ (in64_s (by decide) (by decide)) (by assumption)) (Nat.zero_le _)).mono ?_
    rintro x w' ⟨v', rfl, q, ho, hb2⟩
    exact ⟨v', by rw [← hE1]; rfl, by rw [← hT1]; exact q, ho, hb2⟩
  by_cases q1 : E1 = 0
  · subst q1
    obtain ⟨hR, hrc, hre, hO, hRT⟩ := cl_ok hE1
    rw [hT1] at hO
    subst hO
    obtain ⟨hA1, hA2⟩ := cl_in (t := { v.t with k := recL v.t.k c }) hRT hrc (recL_finds hre).1
    have okT : OkKe { v.t with k := recL v.t.k c } := ⟨okk.i, fun y hy => by
      rcases (recL_mem hre y).1 hy with q | q
      · rw [q]; exact hc
      · exact okk.c y q, okk.n, by
      have h1 := (recL_length hre).2
      have h2 : v.t.k.length = v.m := hk.c.ln
      show (recL v.t.k c).length ≤ 250
      omega, okk.e, okk.g⟩
    obtain ⟨T1, hTT⟩ : ∃ z, KeT.mk v.t.e v.t.g v.t.l (recL v.t.k c) = z := ⟨_, rfl⟩
    have hTe : T1.e = v.e := by rw [← hTT]; rfl
    have hTg : T1.g = v.g := by rw [← hTT]; rfl
    have hTl : T1.l = v.l := by rw [← hTT]; rfl
    have hfd : d.r = c.r → d.e = c.e → findC T1.k d.r d.e = some c := fun a b => by rw [← hTT, a, b]; exact (recL_finds hre).1
    rw [show ({ v.t with k := recL v.t.k c } : KeT) = T1 from hTT] at hT1 hA1 hA2 okT hRT W1
    clear hTT
    have hE2 : kpE T1 ⟨4, 0, 0, zeroI, [], c⟩ = 0 := hA1
    have hT2 : kpO T1 ⟨4, 0, 0, zeroI, [], c⟩ = T1 := hA2
    obtain ⟨E3, hE3⟩ : ∃ z, kpE T1 ⟨4, 0, 0, zeroI, [], d⟩ = z := ⟨_, rfl⟩
    obtain ⟨T3, hT3⟩ : ∃ z, kpO T1 ⟨4, 0, 0, zeroI, [], d⟩ = z := ⟨_, rfl⟩
    have W2 : Hid (∀ W u, u.t = T1 → KOut W w.heap.size u → Calls Try.prog 6 #[.agg (keA u), .agg (reA { zeroRv with k := 4, m := c })] W fun x w' => ∃ v', x = .returned (.tuple #[.agg (keA v'), .int .i64 0]) ∧ v'.t = T1 ∧ KOut w' W.heap.size v' ∧ Below W.heap.size W w') := fun W u q ho => by
      refine (C.fold u { zeroRv with k := 4, m := c } W (ho.kin_of q okT) (rin_kc W 4 _ (in64_s (by decide) (by decide)) (by assumption)) (Nat.zero_le _)).mono ?_
      rintro y w' ⟨v', rfl, q2, ho2, hb2⟩
      rw [q] at q2 ⊢
      exact ⟨v', by rw [← hE2]; rfl, by rw [← hT2]; exact q2, ho2, hb2⟩
    have W3 : Hid (∀ W u, u.t = T1 → KOut W w.heap.size u → Calls Try.prog 6 #[.agg (keA u), .agg (reA { zeroRv with k := 4, m := d })] W fun x w' => ∃ v', x = .returned (.tuple #[.agg (keA v'), .int .i64 E3]) ∧ v'.t = T3 ∧ KOut w' W.heap.size v' ∧ Below W.heap.size W w') := fun W u q ho => by
      refine (C.fold u { zeroRv with k := 4, m := d } W (ho.kin_of q okT) (rin_kc W 4 _ (in64_s (by decide) (by decide)) (by assumption)) (Nat.zero_le _)).mono ?_
      rintro y w' ⟨v', rfl, q2, ho2, hb2⟩
      rw [q] at q2 ⊢
      exact ⟨v', by rw [← hE3]; rfl, by rw [← hT3]; exact q2, ho2, hb2⟩
    have WS : Hid (∀ W (u u2 : KeV), u.t = T1 → KOut W w.heap.size u → u2.t = T1 → KOut W w.heap.size u2 → Calls Try.prog 8 #[.agg (keA u), .agg (keA u2)] W fun e w' => e = .returned (.bool true) ∧ Below W.heap.size W w') := fun W u u2 q ho q2 ho2 => refSameKe_any u u2 W (ho.kin_of q okT) (ho2.kin_of q2 okT) (q.trans q2.symm)
    have WI : Hid (∀ W (u : KeV), u.t = T1 → KOut W w.heap.size u → Below w.heap.size w W → Calls Try.prog 9 #[.slice u.a u.n u.c, .slice v.a v.n v.c] W fun e w' => e = .returned (.bool true) ∧ Below W.heap.size W w') := fun W u q ho hb => by
      have h1 : u.l = v.l := (congrArg KeT.l q).trans hTl
      have e1 := (ho.kin_of q okT).i.rd
      have e2 := hk.i.rd.keep hb
      have e5 : u.n = v.n := by rw [ho.n, h1]; exact hk.i.rd.ln
      rw [← h1, ← e5] at e2
      rw [← e5]
      exact refSame_any _ _ _ _ _ _ W e1 e2
    have HV : Hid (∀ u : KeV, u.t = T1 → (u.e != v.e) = false ∧ (u.g != v.g) = false) := fun u q => by
      have h1 : u.e = v.e := (congrArg KeT.e q).trans hTe
      have h2 : u.g = v.g := (congrArg KeT.g q).trans hTg
      rw [h1, h2]; simp
    obtain ⟨s1, hs1⟩ : ∃ b, (d.r == c.r) = b := ⟨_, rfl⟩
    obtain ⟨s2, hs2⟩ : ∃ b, (d.e == c.e) = b := ⟨_, rfl⟩
    obtain ⟨cd, hcd⟩ : ∃ b, eqCB c d = b := ⟨_, rfl⟩
    have EM : Hid (∀ W, (binOp .eql 29 (.agg (clA c)) (.agg (clA d))).run Try.prog W = .ok (.bool cd) W) := fun W => eqClaim _ _ hc.d hdc.d (clA c) (clA d) (hidk rfl) (hidk rfl) cd (by rw [← hcd, eqCB_iff]) W
    have hsame : s1 = true → s2 = true → (E3 == (0 : Int)) = cd := fun a b => by
      have a' : d.r = c.r := by simpa [← hs1] using a
      have b' : d.e = c.e := by simpa [← hs2] using b
      by_cases q : c = d
      · have e0 : E3 = 0 := by rw [← hE3, ← q]; exact hE2
        rw [← hcd, e0, (eqCB_iff c d).2 q]; rfl
      · have e0 : E3 ≠ 0 := by rw [← hE3]; exact cl_other (hfd a' b') q
        have e1 : cd = false := by
          cases hq : cd
          · rfl
          · rw [hq] at hcd; exact absurd ((eqCB_iff c d).1 hcd) q
        rw [e1, beq_eq_false_iff_ne]; exact e0
    have HM0 : E3 = 0 → T1.k.length ≤ T3.k.length := fun q => by rw [← hT3]; exact (kp_right (hE3.trans q)).2.2.2.2.2.2.2.2
    clear h hbb C hk okk hE1 hT1 hvn hvm hR hrc hre hA1 hA2 okT hRT hTe hTg hTl hfd hE2 hT2 hE3 hT3 hc hdc hcd
    by_cases q3 : E3 = 0
    · subst q3
      have HM : Hid (∀ u u3 : KeV, u.t = T1 → u3.t = T3 → u.m = u.k.length → u3.m = u3.k.length → decide ((u.m : Int) ≤ (u3.m : Int)) = true ∧ decide (u.m ≤ u3.m) = true) := fun u u3 q q3 hm hm3 => by
        have h1 : u.k = T1.k := congrArg KeT.k q
        have h3 : u3.k = T3.k := congrArg KeT.k q3
        have := HM0 rfl
        constructor <;> (rw [decide_eq_true_eq, hm, hm3, h1, h3]; omega)
      have hs : s1 = false ∨ s1 = true ∧ s2 = false ∨ s1 = true ∧ s2 = true ∧ cd = true := by
        cases s1
        · exact .inl rfl
        · cases s2
          · exact .inr (.inl ⟨rfl, rfl⟩)
          · exact .inr (.inr ⟨rfl, rfl, (hsame rfl rfl).symm⟩)
      clear hsame HM0
      rcases hs with rfl | ⟨rfl, rfl⟩ | ⟨rfl, rfl, rfl⟩
      all_goals
        go_enter Try.func3, Try.ntmps3
        go_wp2_with (first
          | ((with_reducible show wpList _ _ _ (⟨_, .box _ _, _, _, _, _⟩ :: _) _ _); refine boxS (by rfl) (by rfl) H (by assumption) ?_; clear H; intro gq W hq H; clear hq; try simp only [Act.put, List.setIfInBounds_toArray, List.set_cons_zero, List.set_cons_succ])
          | ((with_reducible show wpList _ _ _ (⟨_, .alloc _, _, _, _, _⟩ :: _) _ _); refine newS (by rfl) (by kernel_rfl) H ?_; clear H; intro gq W hq H; clear hq; try simp only [Act.put, List.setIfInBounds_toArray, List.set_cons_zero, List.set_cons_succ])
          | ((with_reducible show wpList _ _ _ (⟨_, .binOp .eql 29 _ _ _, _, _, _, _⟩ :: _) _ _); refine binS (by rfl) (by rfl) (by rfl) (by kernel_rfl) (EM.out _) ?_; try simp only [Act.put, List.setIfInBounds_toArray, List.set_cons_zero, List.set_cons_succ])
          | ((with_reducible show wpList _ _ _ (⟨_, .load _ _, _, _, _, _⟩ :: _) _ _); refine rdS (by rfl) (by rfl) (by decide +kernel) H (by repeat constructor) ?_; try simp only [Act.put, List.setIfInBounds_toArray, List.set_cons_zero, List.set_cons_succ])
          | ((with_reducible show wpList _ _ _ (⟨_, .build _ _, _, _, _, _⟩ :: _) _ _); refine bldS (by rfl) (by with_reducible exact BZ.out) (by rfl) ?_; try simp only [Act.put, List.setIfInBounds_toArray, List.set_cons_zero, List.set_cons_succ])
          | ((with_reducible show wpList _ _ _ (⟨_, .build _ _, _, _, _, _⟩ :: _) _ _); refine bldS (by rfl) (by with_reducible exact BC.out) (by rfl) ?_; try simp only [Act.put, List.setIfInBounds_toArray, List.set_cons_zero, List.set_cons_succ])
          | ((with_reducible show wpList _ _ _ (⟨_, .build _ _, _, _, _, _⟩ :: _) _ _); refine bldS (by rfl) (by with_reducible exact BD.out) (by rfl) ?_; try simp only [Act.put, List.setIfInBounds_toArray, List.set_cons_zero, List.set_cons_succ])
          | ((with_reducible show wpList _ _ _ (⟨_, .store _ _ _, _, _, _, _⟩ :: _) _ _); refine setS (by rfl) (by rfl) (by rfl) H (by exact FK.out _) (by repeat first | apply uH | apply uT) ?_; clear H; intro W H; try simp only [Act.put, List.setIfInBounds_toArray, List.set_cons_zero, List.set_cons_succ])
          | ((with_reducible show wpList _ _ _ (⟨_, .load _ _, _, _, _, _⟩ :: _) _ _); refine fldS (by rfl) (by rfl) (by decide +kernel) H (by repeat constructor) (by first | exact keA_0 _ | exact keA_1 _ | exact keA_2 _ | exact keA_3 _) ?_; try simp only [Act.put, List.setIfInBounds_toArray, List.set_cons_zero, List.set_cons_succ])
          | ((with_reducible show wpList _ _ _ (⟨_, .load _ _, _, _, _, _⟩ :: _) _ _); refine fldS (by rfl) (by rfl) (by decide +kernel) H (by repeat constructor) (by first | exact clA_r _ | exact clA_e _) ?_; try simp only [Act.put, List.setIfInBounds_toArray, List.set_cons_zero, List.set_cons_succ])
          | ((with_reducible refine (WB.out _ H.out.b).mono ?_); rintro _ W ⟨rfl, hb⟩; replace H := hidk (H.out.call hb); clear hb; try simp only [Act.put, List.setIfInBounds_toArray, List.set_cons_zero, List.set_cons_succ])
          | ((with_reducible refine (WF.out _).mono ?_); rintro _ W ⟨rfl, hb⟩; replace H := hidk (H.out.call hb); clear hb; try simp only [Act.put, List.setIfInBounds_toArray, List.set_cons_zero, List.set_cons_succ])
          | ((with_reducible refine (W1.out _ H.out.b).mono ?_); rintro _ W ⟨v1, rfl, et1, ho, hb⟩; obtain ⟨N1, HQ, K1⟩ := H.out.kout hb ho; replace et1 := hidk et1; have x1 := (HV.out v1 et1.out).1; have x2 := (HV.out v1 et1.out).2; have m1 := hidk ho.m; clear H ho hb; have H := HQ; clear HQ; try simp only [Act.put, List.setIfInBounds_toArray, List.set_cons_zero, List.set_cons_succ])
          | ((with_reducible refine (W2.out _ _ et1.out (K1.out _ (by first | exact H.out.has.l | exact H.out.has.r.l | exact H.out.has.r.r.l | exact H.out.has.r.r.r.l | exact H.out.has.r.r.r.r.l | exact H.out.has.r.r.r.r.r.l))).mono ?_); rintro _ W ⟨v2, rfl, et2, ho, hb⟩; obtain ⟨N2, HQ, K2⟩ := H.out.kout hb ho; replace et2 := hidk et2; clear H ho hb; have H := HQ; clear HQ; try simp only [Act.put, List.setIfInBounds_toArray, List.set_cons_zero, List.set_cons_succ])
          | ((with_reducible refine (W3.out _ _ et1.out (K1.out _ (by first | exact H.out.has.l | exact H.out.has.r.l | exact H.out.has.r.r.l | exact H.out.has.r.r.r.l | exact H.out.has.r.r.r.r.l | exact H.out.has.r.r.r.r.r.l))).mono ?_); rintro _ W ⟨v3, rfl, et3, ho, hb⟩; obtain ⟨N3, HQ, K3⟩ := H.out.kout hb ho; replace et3 := hidk et3; have hge := (HM.out v1 v3 et1.out et3.out m1.out ho.m).1; have hge2 := (HM.out v1 v3 et1.out et3.out m1.out ho.m).2; clear H ho hb; have H := HQ; clear HQ; try simp only [Act.put, List.setIfInBounds_toArray, List.set_cons_zero, List.set_cons_succ])
          | ((with_reducible refine (WS.out _ _ _ et1.out (K1.out _ (by first | exact H.out.has.l | exact H.out.has.r.l | exact H.out.has.r.r.l | exact H.out.has.r.r.r.l | exact H.out.has.r.r.r.r.l | exact H.out.has.r.r.r.r.r.l)) et2.out (K2.out _ (by first | exact H.out.has.l | exact H.out.has.r.l | exact H.out.has.r.r.l | exact H.out.has.r.r.r.l | exact H.out.has.r.r.r.r.l | exact H.out.has.r.r.r.r.r.l))).mono ?_); rintro _ W ⟨rfl, hb⟩; replace H := hidk (H.out.call hb); clear hb; try simp only [Act.put, List.setIfInBounds_toArray, List.set_cons_zero, List.set_cons_succ])
          | ((with_reducible refine (WI.out _ _ et1.out (K1.out _ (by first | exact H.out.has.l | exact H.out.has.r.l | exact H.out.has.r.r.l | exact H.out.has.r.r.r.l | exact H.out.has.r.r.r.r.l | exact H.out.has.r.r.r.r.r.l)) H.out.b).mono ?_); rintro _ W ⟨rfl, hb⟩; replace H := hidk (H.out.call hb); clear hb; try simp only [Act.put, List.setIfInBounds_toArray, List.set_cons_zero, List.set_cons_succ])
          | fail)
      all_goals (go_ret; exact ⟨rfl, H.out.b⟩)
    · have b3 : (E3 == (0 : Int)) = false := by rw [beq_eq_false_iff_ne]; exact q3
      have n3 : (E3 != (0 : Int)) = true := by rw [bne_iff_ne]; exact q3
      have hs : s1 = false ∨ s1 = true ∧ s2 = false ∨ s1 = true ∧ s2 = true ∧ cd = false := by
        cases s1
        · exact .inl rfl
        · cases s2
          · exact .inr (.inl ⟨rfl, rfl⟩)
          · exact .inr (.inr ⟨rfl, rfl, by rw [← hsame rfl rfl]; exact b3⟩)
      clear hsame HM0 q3
      rcases hs with rfl | ⟨rfl, rfl⟩ | ⟨rfl, rfl, rfl⟩
      all_goals
        go_enter Try.func3, Try.ntmps3
        go_wp2_with (first
          | ((with_reducible show wpList _ _ _ (⟨_, .box _ _, _, _, _, _⟩ :: _) _ _); refine boxS (by rfl) (by rfl) H (by assumption) ?_; clear H; intro gq W hq H; clear hq; try simp only [Act.put, List.setIfInBounds_toArray, List.set_cons_zero, List.set_cons_succ])
          | ((with_reducible show wpList _ _ _ (⟨_, .alloc _, _, _, _, _⟩ :: _) _ _); refine newS (by rfl) (by kernel_rfl) H ?_; clear H; intro gq W hq H; clear hq; try simp only [Act.put, List.setIfInBounds_toArray, List.set_cons_zero, List.set_cons_succ])
          | ((with_reducible show wpList _ _ _ (⟨_, .binOp .eql 29 _ _ _, _, _, _, _⟩ :: _) _ _); refine binS (by rfl) (by rfl) (by rfl) (by kernel_rfl) (EM.out _) ?_; try simp only [Act.put, List.setIfInBounds_toArray, List.set_cons_zero, List.set_cons_succ])
          | ((with_reducible show wpList _ _ _ (⟨_, .load _ _, _, _, _, _⟩ :: _) _ _); refine rdS (by rfl) (by rfl) (by decide +kernel) H (by repeat constructor) ?_; try simp only [Act.put, List.setIfInBounds_toArray, List.set_cons_zero, List.set_cons_succ])
          | ((with_reducible show wpList _ _ _ (⟨_, .build _ _, _, _, _, _⟩ :: _) _ _); refine bldS (by rfl) (by with_reducible exact BZ.out) (by rfl) ?_; try simp only [Act.put, List.setIfInBounds_toArray, List.set_cons_zero, List.set_cons_succ])
          | ((with_reducible show wpList _ _ _ (⟨_, .build _ _, _, _, _, _⟩ :: _) _ _); refine bldS (by rfl) (by with_reducible exact BC.out) (by rfl) ?_; try simp only [Act.put, List.setIfInBounds_toArray, List.set_cons_zero, List.set_cons_succ])
          | ((with_reducible show wpList _ _ _ (⟨_, .build _ _, _, _, _, _⟩ :: _) _ _); refine bldS (by rfl) (by with_reducible exact BD.out) (by rfl) ?_; try simp only [Act.put, List.setIfInBounds_toArray, List.set_cons_zero, List.set_cons_succ])
          | ((with_reducible show wpList _ _ _ (⟨_, .store _ _ _, _, _, _, _⟩ :: _) _ _); refine setS (by rfl) (by rfl) (by rfl) H (by exact FK.out _) (by repeat first | apply uH | apply uT) ?_; clear H; intro W H; try simp only [Act.put, List.setIfInBounds_toArray, List.set_cons_zero, List.set_cons_succ])
          | ((with_reducible show wpList _ _ _ (⟨_, .load _ _, _, _, _, _⟩ :: _) _ _); refine fldS (by rfl) (by rfl) (by decide +kernel) H (by repeat constructor) (by first | exact keA_0 _ | exact keA_1 _ | exact keA_2 _ | exact keA_3 _) ?_; try simp only [Act.put, List.setIfInBounds_toArray, List.set_cons_zero, List.set_cons_succ])
          | ((with_reducible show wpList _ _ _ (⟨_, .load _ _, _, _, _, _⟩ :: _) _ _); refine fldS (by rfl) (by rfl) (by decide +kernel) H (by repeat constructor) (by first | exact clA_r _ | exact clA_e _) ?_; try simp only [Act.put, List.setIfInBounds_toArray, List.set_cons_zero, List.set_cons_succ])
          | ((with_reducible refine (WB.out _ H.out.b).mono ?_); rintro _ W ⟨rfl, hb⟩; replace H := hidk (H.out.call hb); clear hb; try simp only [Act.put, List.setIfInBounds_toArray, List.set_cons_zero, List.set_cons_succ])
          | ((with_reducible refine (WF.out _).mono ?_); rintro _ W ⟨rfl, hb⟩; replace H := hidk (H.out.call hb); clear hb; try simp only [Act.put, List.setIfInBounds_toArray, List.set_cons_zero, List.set_cons_succ])
          | ((with_reducible refine (W1.out _ H.out.b).mono ?_); rintro _ W ⟨v1, rfl, et1, ho, hb⟩; obtain ⟨N1, HQ, K1⟩ := H.out.kout hb ho; replace et1 := hidk et1; have x1 := (HV.out v1 et1.out).1; have x2 := (HV.out v1 et1.out).2; have m1 := hidk ho.m; clear H ho hb; have H := HQ; clear HQ; try simp only [Act.put, List.setIfInBounds_toArray, List.set_cons_zero, List.set_cons_succ])
          | ((with_reducible refine (W2.out _ _ et1.out (K1.out _ (by first | exact H.out.has.l | exact H.out.has.r.l | exact H.out.has.r.r.l | exact H.out.has.r.r.r.l | exact H.out.has.r.r.r.r.l | exact H.out.has.r.r.r.r.r.l))).mono ?_); rintro _ W ⟨v2, rfl, et2, ho, hb⟩; obtain ⟨N2, HQ, K2⟩ := H.out.kout hb ho; replace et2 := hidk et2; clear H ho hb; have H := HQ; clear HQ; try simp only [Act.put, List.setIfInBounds_toArray, List.set_cons_zero, List.set_cons_succ])
          | ((with_reducible refine (W3.out _ _ et1.out (K1.out _ (by first | exact H.out.has.l | exact H.out.has.r.l | exact H.out.has.r.r.l | exact H.out.has.r.r.r.l | exact H.out.has.r.r.r.r.l | exact H.out.has.r.r.r.r.r.l))).mono ?_); rintro _ W ⟨v3, rfl, et3, ho, hb⟩; obtain ⟨N3, HQ, K3⟩ := H.out.kout hb ho; replace et3 := hidk et3; clear H ho hb; have H := HQ; clear HQ; try simp only [Act.put, List.setIfInBounds_toArray, List.set_cons_zero, List.set_cons_succ])
          | ((with_reducible refine (WS.out _ _ _ et1.out (K1.out _ (by first | exact H.out.has.l | exact H.out.has.r.l | exact H.out.has.r.r.l | exact H.out.has.r.r.r.l | exact H.out.has.r.r.r.r.l | exact H.out.has.r.r.r.r.r.l)) et2.out (K2.out _ (by first | exact H.out.has.l | exact H.out.has.r.l | exact H.out.has.r.r.l | exact H.out.has.r.r.r.l | exact H.out.has.r.r.r.r.l | exact H.out.has.r.r.r.r.r.l))).mono ?_); rintro _ W ⟨rfl, hb⟩; replace H := hidk (H.out.call hb); clear hb; try simp only [Act.put, List.setIfInBounds_toArray, List.set_cons_zero, List.set_cons_succ])
          | ((with_reducible refine (WI.out _ _ et1.out (K1.out _ (by first | exact H.out.has.l | exact H.out.has.r.l | exact H.out.has.r.r.l | exact H.out.has.r.r.r.l | exact H.out.has.r.r.r.r.l | exact H.out.has.r.r.r.r.r.l)) H.out.b).mono ?_); rintro _ W ⟨rfl, hb⟩; replace H := hidk (H.out.call hb); clear hb; try simp only [Act.put, List.setIfInBounds_toArray, List.set_cons_zero, List.set_cons_succ])
          | fail)
      all_goals (go_ret; exact ⟨rfl, H.out.b⟩)
  · have hd : (E1 != (0 : Int)) = true := by rw [bne_iff_ne]; exact q1
    clear h hbb C hk okk hE1 hT1 hvn hvm q1 hc hdc
    go_enter Try.func3, Try.ntmps3
    go_wp2_with (first
      | ((with_reducible show wpList _ _ _ (⟨_, .box _ _, _, _, _, _⟩ :: _) _ _); refine boxS (by rfl) (by rfl) H (by assumption) ?_; clear H; intro gq W hq H; clear hq; try simp only [Act.put, List.setIfInBounds_toArray, List.set_cons_zero, List.set_cons_succ])
      | ((with_reducible show wpList _ _ _ (⟨_, .alloc _, _, _, _, _⟩ :: _) _ _); refine newS (by rfl) (by kernel_rfl) H ?_; clear H; intro gq W hq H; clear hq; try simp only [Act.put, List.setIfInBounds_toArray, List.set_cons_zero, List.set_cons_succ])
      | ((with_reducible show wpList _ _ _ (⟨_, .load _ _, _, _, _, _⟩ :: _) _ _); refine rdS (by rfl) (by rfl) (by decide +kernel) H (by repeat constructor) ?_; try simp only [Act.put, List.setIfInBounds_toArray, List.set_cons_zero, List.set_cons_succ])
      | ((with_reducible show wpList _ _ _ (⟨_, .build _ _, _, _, _, _⟩ :: _) _ _); refine bldS (by rfl) (by with_reducible exact BZ.out) (by rfl) ?_; try simp only [Act.put, List.setIfInBounds_toArray, List.set_cons_zero, List.set_cons_succ])
      | ((with_reducible show wpList _ _ _ (⟨_, .build _ _, _, _, _, _⟩ :: _) _ _); refine bldS (by rfl) (by with_reducible exact BC.out) (by rfl) ?_; try simp only [Act.put, List.setIfInBounds_toArray, List.set_cons_zero, List.set_cons_succ])
      | ((with_reducible show wpList _ _ _ (⟨_, .store _ _ _, _, _, _, _⟩ :: _) _ _); refine setS (by rfl) (by rfl) (by rfl) H (by exact FK.out _) (by repeat first | apply uH | apply uT) ?_; clear H; intro W H; try simp only [Act.put, List.setIfInBounds_toArray, List.set_cons_zero, List.set_cons_succ])
      | ((with_reducible refine (WB.out _ H.out.b).mono ?_); rintro _ W ⟨rfl, hb⟩; replace H := hidk (H.out.call hb); clear hb; try simp only [Act.put, List.setIfInBounds_toArray, List.set_cons_zero, List.set_cons_succ])
      | ((with_reducible refine (WF.out _).mono ?_); rintro _ W ⟨rfl, hb⟩; replace H := hidk (H.out.call hb); clear hb; try simp only [Act.put, List.setIfInBounds_toArray, List.set_cons_zero, List.set_cons_succ])
      | ((with_reducible refine (W1.out _ H.out.b).mono ?_); rintro _ W ⟨v1, rfl, et1, ho, hb⟩; obtain ⟨N1, HQ, K1⟩ := H.out.kout hb ho; replace et1 := hidk et1; clear H ho hb; have H := HQ; clear HQ; try simp only [Act.put, List.setIfInBounds_toArray, List.set_cons_zero, List.set_cons_succ])
      | fail)

    go_ret
    exact ⟨rfl, H.out.b⟩
end Go.Proofs.Ytjpmmbmhkpgjcab
