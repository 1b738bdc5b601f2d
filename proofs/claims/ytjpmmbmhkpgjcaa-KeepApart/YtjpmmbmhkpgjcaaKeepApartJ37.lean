/- Texts of our own that the row of KeepApart leans on, part 37. -/
import Derived.Test.YtjpmmbmhkpgjcaaKeepApartJ27
import Derived.Test.YtjpmmbmhkpgjcaaKeepApartJ29
import Derived.Test.YtjpmmbmhkpgjcaaKeepApartJ33
import Derived.Test.YtjpmmbmhkpgjcaaKeepApartJ35
import Derived.Test.YtjpmmbmhkpgjcaaKeepApartJ36

/- What the statements' lays and back answer. -/
namespace Go.Proofs.Ytjpmmbmhkpgjcaa
open Go.RowKit Nums Sums
set_option linter.unusedVariables false
set_option linter.unusedSimpArgs false
set_option maxRecDepth 100000

section
variable {P : Program} {a : Act} {d : Option Tmp} {tp : TypeId} {ps : String} {af : Array Edge} {gd : Option (Nat × Bool)} {C : World → Prop}
/-- Two values of rows held against one another, which reads nothing. -/
theorem qB {K : Act → Prop} {o : BinOp} {t t2 : TypeId} {x y : Operand} {X Y : Array Value} {u : Value} (hx : a.eval x = .agg X) (hy : a.eval y = .agg Y) (hm : P.eqGuardType P.depth t = false) (hr : ∀ W, (binOp o t (.agg X) (.agg Y)).run P W = .ok u W)
    (h : K (a.put d u)) : Oper.quiet P ⟨d, .binOp o t x y t2, tp, ps, af, gd⟩ a C K := by
  refine q_of (v := u) (fun W _ => ?_) h
  unfold execOp
  simp only [hx, hy, Sem.run_bind, run_eqGuard_agg W o t x y X Y hm, Result.andThen_ok, hr, Sem.run_pure]
end
theorem laid_may : mayR (laidR 1 1).t = true := by decide +kernel
theorem zero_may : mayR zeroR = false := by decide +kernel
theorem laid_ok : OkT (laidR 1 1).t := ⟨(fun x h => by cases h), uI_ok 1 1, rfl⟩
set_option maxHeartbeats 32000000 in
theorem laysK_true {en : ReT → List UInt8} {de : List UInt8 → ReT} (T : KeepTT en de) (w : World) : Calls Try.prog 26 #[] w fun e w' => e = .returned (.bool true) ∧ Below w.heap.size w w' := by
  have hlen := T.len _ laid_may laid_ok
  obtain ⟨S, hS⟩ : ∃ S : ByteArray, (⟨(en (laidR 1 1).t).toArray⟩ : ByteArray) = S := ⟨_, rfl⟩
  have hSd : S.data.toList = en (laidR 1 1).t := by rw [← hS]
  have hSz : S.size ≤ 100000 := by
    have e : S.size = (en (laidR 1 1).t).length := by rw [← hS]; rfl
    have : (laidR 1 1).t.l.length = 0 := rfl
    rw [this] at hlen
    split at hlen <;> omega
  have LA : Hid (∀ W, Calls Try.prog 33 #[.int .i64 1, .int .i64 1] W fun e w' => e = .returned (.agg (reA (laidR 1 1))) ∧ Below W.heap.size W w') := fun W => laidK_any 1 1 W
  have UA : Hid (∀ W, Calls Try.prog 51 #[.int .i64 1, .int .i64 1] W fun e w' => e = .returned (.agg (itA (uI 1 1))) ∧ Below W.heap.size W w') := fun W => userK_any 1 1 W
  have P1 : Hid (∀ W, Calls Try.prog 24 #[.agg (reA (laidR 1 1))] W fun e w' => e = .returned (.tuple #[.string S, .int .i64 0]) ∧ Below W.heap.size W w') := fun W => by
    have := T.put (laidR 1 1) W (laidR_in W 1 1 (in64_s (by decide) (by decide)) (in64_s (by decide) (by decide)))
    unfold putRE at this
    rw [if_pos laid_may, if_pos laid_may, hS] at this
    exact this
  have G1 : Hid (∀ W, Calls Try.prog 27 #[.string S] W fun e w' => ∃ r', e = .returned (.tuple #[.agg (reA r'), .int .i64 0]) ∧ Hid (r'.t = (laidR 1 1).t) ∧ ROut w' W.heap.size r' ∧ Below W.heap.size W w') := fun W => by
    have := T.get S W hSz
    rw [hSd, getRO_en T.toKeepT laid_may laid_ok] at this
    exact this
  have P2 : Hid (∀ W, Calls Try.prog 24 #[.agg (reA zeroRv)] W fun e w' => e = .returned (.tuple #[.string ⟨#[]⟩, .int .i64 140]) ∧ Below W.heap.size W w') := fun W => by
    have := T.put zeroRv W (rin_0 W)
    unfold putRE at this
    rw [show zeroRv.t = zeroR from rfl, if_neg (by rw [zero_may]; decide), if_neg (by rw [zero_may]; decide)] at this
    exact this
  have G2 : Hid (∀ W, Calls Try.prog 27 #[.string ⟨#[]⟩] W fun e w' => ∃ r', e = .returned (.tuple #[.agg (reA r'), .int .i64 140]) ∧ Hid (r'.t = zeroR) ∧ ROut w' W.heap.size r' ∧ Below W.heap.size W w') := fun W => by
    have := T.get ⟨#[]⟩ W (by decide)
    rw [show (⟨#[]⟩ : ByteArray).data.toList = [] from rfl, getRO_nil T] at this
    exact this
  have TIN := hidk (mayT_in laid_may laid_ok)
  have ZIN := hidk zeroT_in
  have EI : Hid (∀ W, (binOp .eql 40 (.agg (itA (uI 1 1))) (.agg (itA (uI 1 1)))).run Try.prog W = .ok (.bool true) W) := fun W => eqItem _ _ (uI_ok 1 1) (uI_ok 1 1) (itA (uI 1 1)) (itA (uI 1 1)) (hidk rfl) (hidk rfl) true (by simp) W
  have FXI := hidk (itA_fit (uI 1 1) (uI_ok 1 1)).s
  have H := hidk (Sep.start Try.prog w)
  clear T hlen hS hSd hSz
  go_enter Try.func26, Try.ntmps26
  go_wp2_with (first
    | ((with_reducible show wpList _ _ _ (⟨_, .alloc _, _, _, _, _⟩ :: _) _ _); refine newS (by rfl) (by kernel_rfl) H ?_; clear H; intro gq W hq H; clear hq; try simp only [Act.put, List.setIfInBounds_toArray, List.set_cons_zero, List.set_cons_succ])
    | ((with_reducible show wpList _ _ _ (⟨_, .store _ _ _, _, _, _, _⟩ :: _) _ _); refine setS (by rfl) (by rfl) (by rfl) H (by assumption) (by repeat first | apply uH | apply uT) ?_; clear H; intro W H; try simp only [Act.put, List.setIfInBounds_toArray, List.set_cons_zero, List.set_cons_succ])
    | ((with_reducible refine (LA.out _).mono ?_); rintro _ W ⟨rfl, hb⟩; replace H := hidk (H.out.call hb); clear hb; try simp only [Act.put, List.setIfInBounds_toArray, List.set_cons_zero, List.set_cons_succ])
    | ((with_reducible refine (P1.out _).mono ?_); rintro _ W ⟨rfl, hb⟩; replace H := hidk (H.out.call hb); clear hb; try simp only [Act.put, List.setIfInBounds_toArray, List.set_cons_zero, List.set_cons_succ])
    | ((with_reducible refine (P2.out _).mono ?_); rintro _ W ⟨rfl, hb⟩; replace H := hidk (H.out.call hb); clear hb; try simp only [Act.put, List.setIfInBounds_toArray, List.set_cons_zero, List.set_cons_succ])
    | ((with_reducible refine (G1.out _).mono ?_); rintro _ W ⟨r1, rfl, et, ho, hb⟩; obtain ⟨N1, HQ, RI⟩ := H.out.rout hb ho (by rw [et.out]; exact TIN.out.1) (by rw [ho.n]; have q := TIN.out.2; rw [← et.out] at q; exact Nat.le_trans q (by decide)); have FR := hidk (reA_fit r1 (RI.out _ HQ.out.has.l).1.ok); clear H ho hb; have H := HQ; clear HQ; try simp only [Act.put, List.setIfInBounds_toArray, List.set_cons_zero, List.set_cons_succ])
    | ((with_reducible refine (G2.out _).mono ?_); rintro _ W ⟨r2, rfl, et2, ho, hb⟩; obtain ⟨N2, HQ, RI2⟩ := H.out.rout hb ho (by rw [et2.out]; exact ZIN.out) (by rw [ho.n, show r2.l = [] from congrArg ReT.l et2.out]; decide); have FR2 := hidk (reA_fit r2 (RI2.out _ HQ.out.has.l).1.ok); clear H ho hb; have H := HQ; clear HQ; try simp only [Act.put, List.setIfInBounds_toArray, List.set_cons_zero, List.set_cons_succ])
    | ((with_reducible show wpList _ _ _ (⟨_, .build _ _, _, _, _, _⟩ :: _) _ _); refine bldS (by rfl) (by with_reducible exact builtR_0) (by rfl) ?_; try simp only [Act.put, List.setIfInBounds_toArray, List.set_cons_zero, List.set_cons_succ])
    | fail)
  have K0 : Hid ((reA r1)[0]? = some (.int .i64 2)) := by show _ = _; rw [reA_0, show r1.k = 2 from congrArg ReT.k et.out]
  have KX : Hid (SubA (reA r1) 3 (itA (uI 1 1))) := by have := reA_x r1; rw [show r1.x = uI 1 1 from congrArg ReT.x et.out] at this; exact this
  simp only [List.append_nil] at H
  refine region_mix _ _ [14] [] [0, 1, 2, 3, 4, 5, 6, 7, 8, 9, 10, 11, 12, 13, 14, 15, 16, 17, 18, 19, 20, 21, 22, 23, 24, 25] (by kernel_rfl) (by kernel_rfl) (by kernel_rfl) (by rfl) H (List.Sublist.refl _) (List.Sublist.refl _) ?_
  clear H
  intro W hne H
  repeat (first
    | (refine mix_skip (by rfl) (by rfl) ?_; try simp only [Act.put, List.setIfInBounds_toArray, List.set_cons_zero, List.set_cons_succ])
    | (refine mix_q (by rfl) (by rfl) (by rfl) (by rfl) ?_; intro K hK; first | (refine qF (by rfl) (by decide +kernel) (by repeat constructor) (by exact K0.out) ?_; try simp only [Act.put, List.setIfInBounds_toArray, List.set_cons_zero, List.set_cons_succ]; go_big_quiet_on) | (refine qU (by rfl) (by decide +kernel) (by repeat constructor) KX FXI.out ?_; try simp only [Act.put, List.setIfInBounds_toArray, List.set_cons_zero, List.set_cons_succ]; go_big_quiet_on) | (refine qB (by rfl) (by rfl) (by kernel_rfl) (EI.out) ?_; try simp only [Act.put, List.setIfInBounds_toArray, List.set_cons_zero, List.set_cons_succ]; go_big_quiet_on) | (go_big_quiet_op; go_big_quiet_on))
    | (refine mix_e (by rfl) (by rfl) (by rfl) ?_; go_wp2_with (first | ((with_reducible refine (UA.out _).mono ?_); rintro _ W ⟨rfl, hb⟩; replace H := hidk (H.out.call hb); clear hb; try simp only [Act.put, List.setIfInBounds_toArray, List.set_cons_zero, List.set_cons_succ]) | fail); first | refine mix_fin (by rfl) ?_ | refine mix_fin2 ?_ | refine mix_on (by first | exact H.out | exact H.out.tl | exact H.out.tn | exact H.out.tl.tn | exact H.out.tn.tl) ?_ | refine mix_on2 (by first | exact H.out | exact H.out.tl | exact H.out.tn | exact H.out.tl.tn | exact H.out.tn.tl) ?_))
  refine mix_end ?_
  clear hne
  go_wp2
  go_ret
  exact ⟨rfl, H.out.b⟩
end Go.Proofs.Ytjpmmbmhkpgjcaa

/- What the statements of keep lean on. -/
namespace Go.Proofs.Ytjpmmbmhkpgjcaa
open Go.RowKit Nums Sums
set_option linter.unusedVariables false
set_option linter.unusedSimpArgs false
set_option maxRecDepth 100000

end Go.Proofs.Ytjpmmbmhkpgjcaa

/- KeepApart. -/
namespace Go.Proofs.Ytjpmmbmhkpgjcaa

open Go.RowKit Nums Sums
set_option linter.unusedVariables false
set_option linter.unusedSimpArgs false
set_option maxRecDepth 100000
theorem cmk_zero (w : World) : CmK w zeroKv := ⟨ireads_none w, fun _ => rfl, (fun x h => by cases h), clreads_none w, fun _ => rfl, (fun x h => by cases h), in64_0, in64_0⟩
theorem RIn.okt {w : World} {r : ReV} (h : RIn w r) : OkT r.t := ⟨fun x hx => (h.i.its x hx).e.ok, h.xo, h.m.d⟩
theorem en_inj {en : ReT → List UInt8} {de : List UInt8 → ReT} (T : KeepTT en de) {r q : ReT} (hr : mayR r = true) (hq : mayR q = true) (or_ : OkT r) (oq : OkT q) : en r = en q ↔ r = q := ⟨fun h => by rw [← T.back r hr or_, h, T.back q hq oq], fun h => by rw [h]⟩
set_option maxHeartbeats 32000000 in
theorem keepApart_in {en : ReT → List UInt8} {de : List UInt8 → ReT} (T : KeepTT en de) (u v : ReV) (w : World) (hu : CmR w u) (hv : CmR w v) : Calls Try.prog 8 #[.agg (reA u), .agg (reA v)] w fun e w' => e = .returned (.bool true) ∧ Below w.heap.size w w' := by
  have FX : Hid (Fit Try.prog 42 (reA u)) := reA_fit u hu.ok
  have FY : Hid (Fit Try.prog 42 (reA v)) := reA_fit v hv.ok
  obtain ⟨b1, hb1⟩ : ∃ b, bigK zeroKv u = b := ⟨_, rfl⟩
  have Wb1 : Hid (∀ W, Below w.heap.size w W → Calls Try.prog 9 #[.agg (keA zeroKv), .agg (reA u)] W fun e w' => e = .returned (.bool b1) ∧ Below W.heap.size W w') := fun W hb => by rw [← hb1]; exact refBigK_any zeroKv u W (cmk_zero W) (hu.keep hb)
  obtain ⟨b2, hb2⟩ : ∃ b, bigK zeroKv v = b := ⟨_, rfl⟩
  have Wb2 : Hid (∀ W, Below w.heap.size w W → Calls Try.prog 9 #[.agg (keA zeroKv), .agg (reA v)] W fun e w' => e = .returned (.bool b2) ∧ Below W.heap.size W w') := fun W hb => by rw [← hb2]; exact refBigK_any zeroKv v W (cmk_zero W) (hv.keep hb)
  have H := hidk (Sep.start Try.prog w)
  cases b1
  case true =>
    clear hu hv hb1 hb2 Wb2 T
    go_enter Try.func8, Try.ntmps8
    go_wp2_with (first
      | ((with_reducible show wpList _ _ _ (⟨_, .box _ _, _, _, _, _⟩ :: _) _ _); refine boxS (by rfl) (by rfl) H (by assumption) ?_; clear H; intro gq W hq H; clear hq; try simp only [Act.put, List.setIfInBounds_toArray, List.set_cons_zero, List.set_cons_succ])
      | ((with_reducible show wpList _ _ _ (⟨_, .load _ _, _, _, _, _⟩ :: _) _ _); refine rdS (by rfl) (by rfl) (by decide +kernel) H (by repeat constructor) ?_; try simp only [Act.put, List.setIfInBounds_toArray, List.set_cons_zero, List.set_cons_succ])
      | ((with_reducible show wpList _ _ _ (⟨_, .build _ _, _, _, _, _⟩ :: _) _ _); refine bldS (by rfl) (by with_reducible exact builtK_0) (by rfl) ?_; try simp only [Act.put, List.setIfInBounds_toArray, List.set_cons_zero, List.set_cons_succ])
      | ((with_reducible refine (Wb1.out _ H.out.b).mono ?_); rintro _ W ⟨rfl, hb⟩; replace H := hidk (H.out.call hb); clear hb; try simp only [Act.put, List.setIfInBounds_toArray, List.set_cons_zero, List.set_cons_succ])
      | fail)
    go_ret
    exact ⟨rfl, H.out.b⟩
  cases b2
  case true =>
    clear hu hv hb1 hb2 T
    go_enter Try.func8, Try.ntmps8
    go_wp2_with (first
      | ((with_reducible show wpList _ _ _ (⟨_, .box _ _, _, _, _, _⟩ :: _) _ _); refine boxS (by rfl) (by rfl) H (by assumption) ?_; clear H; intro gq W hq H; clear hq; try simp only [Act.put, List.setIfInBounds_toArray, List.set_cons_zero, List.set_cons_succ])
      | ((with_reducible show wpList _ _ _ (⟨_, .load _ _, _, _, _, _⟩ :: _) _ _); refine rdS (by rfl) (by rfl) (by decide +kernel) H (by repeat constructor) ?_; try simp only [Act.put, List.setIfInBounds_toArray, List.set_cons_zero, List.set_cons_succ])
      | ((with_reducible show wpList _ _ _ (⟨_, .build _ _, _, _, _, _⟩ :: _) _ _); refine bldS (by rfl) (by with_reducible exact builtK_0) (by rfl) ?_; try simp only [Act.put, List.setIfInBounds_toArray, List.set_cons_zero, List.set_cons_succ])
      | ((with_reducible refine (Wb1.out _ H.out.b).mono ?_); rintro _ W ⟨rfl, hb⟩; replace H := hidk (H.out.call hb); clear hb; try simp only [Act.put, List.setIfInBounds_toArray, List.set_cons_zero, List.set_cons_succ])
      | ((with_reducible refine (Wb2.out _ H.out.b).mono ?_); rintro _ W ⟨rfl, hb⟩; replace H := hidk (H.out.call hb); clear hb; try simp only [Act.put, List.setIfInBounds_toArray, List.set_cons_zero, List.set_cons_succ])
      | fail)
    go_ret
    exact ⟨rfl, H.out.b⟩
  obtain ⟨_, hu, _, _, _⟩ := bigK_no (cmk_zero w) hu hb1
  obtain ⟨_, hv, _, _, _⟩ := bigK_no (cmk_zero w) hv hb2
  have WL : Hid (∀ W, Calls Try.prog 26 #[] W fun e w' => e = .returned (.bool true) ∧ Below W.heap.size W w') := fun W => laysK_true T W
  obtain ⟨m1, hm1⟩ : ∃ b, mayR u.t = b := ⟨_, rfl⟩
  obtain ⟨m2, hm2⟩ : ∃ b, mayR v.t = b := ⟨_, rfl⟩
  obtain ⟨S1, hS1⟩ : ∃ S : ByteArray, (⟨(if mayR u.t = true then en u.t else []).toArray⟩ : ByteArray) = S := ⟨_, rfl⟩
  obtain ⟨S2, hS2⟩ : ∃ S : ByteArray, (⟨(if mayR v.t = true then en v.t else []).toArray⟩ : ByteArray) = S := ⟨_, rfl⟩
  have P1 : Hid (∀ W, Below w.heap.size w W → Calls Try.prog 24 #[.agg (reA u)] W fun e w' => e = .returned (.tuple #[.string S1, .int .i64 (if m1 = true then 0 else 140)]) ∧ Below W.heap.size W w') := fun W hb => by
    have := T.put u W (hu.keep hb)
    unfold putRE at this
    rw [hS1, hm1] at this
    exact this
  have P2 : Hid (∀ W, Below w.heap.size w W → Calls Try.prog 24 #[.agg (reA v)] W fun e w' => e = .returned (.tuple #[.string S2, .int .i64 (if m2 = true then 0 else 140)]) ∧ Below W.heap.size W w') := fun W hb => by
    have := T.put v W (hv.keep hb)
    unfold putRE at this
    rw [hS2, hm2] at this
    exact this
  cases m1
  case false =>
    clear hu hv hb1 hb2 T hS1 hS2 hm1 hm2
    cases m2
    all_goals
      rw [if_neg (by decide)] at P1
      first | rw [if_neg (by decide)] at P2 | rw [if_pos rfl] at P2
      go_enter Try.func8, Try.ntmps8
      go_wp2_with (first
        | ((with_reducible show wpList _ _ _ (⟨_, .box _ _, _, _, _, _⟩ :: _) _ _); refine boxS (by rfl) (by rfl) H (by assumption) ?_; clear H; intro gq W hq H; clear hq; try simp only [Act.put, List.setIfInBounds_toArray, List.set_cons_zero, List.set_cons_succ])
        | ((with_reducible show wpList _ _ _ (⟨_, .load _ _, _, _, _, _⟩ :: _) _ _); refine rdS (by rfl) (by rfl) (by decide +kernel) H (by repeat constructor) ?_; try simp only [Act.put, List.setIfInBounds_toArray, List.set_cons_zero, List.set_cons_succ])
        | ((with_reducible show wpList _ _ _ (⟨_, .build _ _, _, _, _, _⟩ :: _) _ _); refine bldS (by rfl) (by with_reducible exact builtK_0) (by rfl) ?_; try simp only [Act.put, List.setIfInBounds_toArray, List.set_cons_zero, List.set_cons_succ])
        | ((with_reducible refine (Wb1.out _ H.out.b).mono ?_); rintro _ W ⟨rfl, hb⟩; replace H := hidk (H.out.call hb); clear hb; try simp only [Act.put, List.setIfInBounds_toArray, List.set_cons_zero, List.set_cons_succ])
        | ((with_reducible refine (Wb2.out _ H.out.b).mono ?_); rintro _ W ⟨rfl, hb⟩; replace H := hidk (H.out.call hb); clear hb; try simp only [Act.put, List.setIfInBounds_toArray, List.set_cons_zero, List.set_cons_succ])
        | ((with_reducible refine (P1.out _ H.out.b).mono ?_); rintro _ W ⟨rfl, hb⟩; replace H := hidk (H.out.call hb); clear hb; try simp only [Act.put, List.setIfInBounds_toArray, List.set_cons_zero, List.set_cons_succ])
        | ((with_reducible refine (P2.out _ H.out.b).mono ?_); rintro _ W ⟨rfl, hb⟩; replace H := hidk (H.out.call hb); clear hb; try simp only [Act.put, List.setIfInBounds_toArray, List.set_cons_zero, List.set_cons_succ])
        | ((with_reducible refine (WL.out _).mono ?_); rintro _ W ⟨rfl, hb⟩; replace H := hidk (H.out.call hb); clear hb; try simp only [Act.put, List.setIfInBounds_toArray, List.set_cons_zero, List.set_cons_succ])
        | fail)
      go_ret
      exact ⟨rfl, H.out.b⟩
  cases m2
  case false =>
    rw [if_pos rfl] at P1
    rw [if_neg (by decide)] at P2
    clear hu hv hb1 hb2 T hS1 hS2 hm1 hm2
    go_enter Try.func8, Try.ntmps8
    go_wp2_with (first
      | ((with_reducible show wpList _ _ _ (⟨_, .box _ _, _, _, _, _⟩ :: _) _ _); refine boxS (by rfl) (by rfl) H (by assumption) ?_; clear H; intro gq W hq H; clear hq; try simp only [Act.put, List.setIfInBounds_toArray, List.set_cons_zero, List.set_cons_succ])
      | ((with_reducible show wpList _ _ _ (⟨_, .load _ _, _, _, _, _⟩ :: _) _ _); refine rdS (by rfl) (by rfl) (by decide +kernel) H (by repeat constructor) ?_; try simp only [Act.put, List.setIfInBounds_toArray, List.set_cons_zero, List.set_cons_succ])
      | ((with_reducible show wpList _ _ _ (⟨_, .build _ _, _, _, _, _⟩ :: _) _ _); refine bldS (by rfl) (by with_reducible exact builtK_0) (by rfl) ?_; try simp only [Act.put, List.setIfInBounds_toArray, List.set_cons_zero, List.set_cons_succ])
      | ((with_reducible refine (Wb1.out _ H.out.b).mono ?_); rintro _ W ⟨rfl, hb⟩; replace H := hidk (H.out.call hb); clear hb; try simp only [Act.put, List.setIfInBounds_toArray, List.set_cons_zero, List.set_cons_succ])
      | ((with_reducible refine (Wb2.out _ H.out.b).mono ?_); rintro _ W ⟨rfl, hb⟩; replace H := hidk (H.out.call hb); clear hb; try simp only [Act.put, List.setIfInBounds_toArray, List.set_cons_zero, List.set_cons_succ])
      | ((with_reducible refine (P1.out _ H.out.b).mono ?_); rintro _ W ⟨rfl, hb⟩; replace H := hidk (H.out.call hb); clear hb; try simp only [Act.put, List.setIfInBounds_toArray, List.set_cons_zero, List.set_cons_succ])
      | ((with_reducible refine (P2.out _ H.out.b).mono ?_); rintro _ W ⟨rfl, hb⟩; replace H := hidk (H.out.call hb); clear hb; try simp only [Act.put, List.setIfInBounds_toArray, List.set_cons_zero, List.set_cons_succ])
      | ((with_reducible refine (WL.out _).mono ?_); rintro _ W ⟨rfl, hb⟩; replace H := hidk (H.out.call hb); clear hb; try simp only [Act.put, List.setIfInBounds_toArray, List.set_cons_zero, List.set_cons_succ])
      | fail)
    go_ret
    exact ⟨rfl, H.out.b⟩
  rw [if_pos rfl] at P1 P2
  rw [if_pos hm1] at hS1
  rw [if_pos hm2] at hS2
  have hinj := en_inj T hm1 hm2 hu.okt hv.okt
  obtain ⟨q, hq⟩ : ∃ q : Bool, q = true ↔ u.t = v.t := by
    by_cases h : u.t = v.t
    · exact ⟨true, by simp [h]⟩
    · exact ⟨false, by simp [h]⟩
  have SR : Hid (∀ W, Below w.heap.size w W → Calls Try.prog 22 #[.agg (reA u), .agg (reA v)] W fun e w' => e = .returned (.bool q) ∧ Below W.heap.size W w') := fun W hb => refSameRG_any u v W hu.ok hv.ok (hu.i.rd.keep hb) (hv.i.rd.keep hb) q hq
  cases q
  · have hne := text_ne (s := S1) (t := S2) (fun h => by
      have e : u.t = v.t := hinj.1 (by have := congrArg (fun x : ByteArray => x.data.toList) (hS1.trans (h.trans hS2.symm)); exact this)
      cases hq.2 e)
    clear hu hv hb1 hb2 T hS1 hS2 hm1 hm2 hinj hq
    go_enter Try.func8, Try.ntmps8
    go_wp2_with (first
      | ((with_reducible show wpList _ _ _ (⟨_, .box _ _, _, _, _, _⟩ :: _) _ _); refine boxS (by rfl) (by rfl) H (by assumption) ?_; clear H; intro gq W hq H; clear hq; try simp only [Act.put, List.setIfInBounds_toArray, List.set_cons_zero, List.set_cons_succ])
      | ((with_reducible show wpList _ _ _ (⟨_, .load _ _, _, _, _, _⟩ :: _) _ _); refine rdS (by rfl) (by rfl) (by decide +kernel) H (by repeat constructor) ?_; try simp only [Act.put, List.setIfInBounds_toArray, List.set_cons_zero, List.set_cons_succ])
      | ((with_reducible show wpList _ _ _ (⟨_, .build _ _, _, _, _, _⟩ :: _) _ _); refine bldS (by rfl) (by with_reducible exact builtK_0) (by rfl) ?_; try simp only [Act.put, List.setIfInBounds_toArray, List.set_cons_zero, List.set_cons_succ])
      | ((with_reducible refine (Wb1.out _ H.out.b).mono ?_); rintro _ W ⟨rfl, hb⟩; replace H := hidk (H.out.call hb); clear hb; try simp only [Act.put, List.setIfInBounds_toArray, List.set_cons_zero, List.set_cons_succ])
      | ((with_reducible refine (Wb2.out _ H.out.b).mono ?_); rintro _ W ⟨rfl, hb⟩; replace H := hidk (H.out.call hb); clear hb; try simp only [Act.put, List.setIfInBounds_toArray, List.set_cons_zero, List.set_cons_succ])
      | ((with_reducible refine (P1.out _ H.out.b).mono ?_); rintro _ W ⟨rfl, hb⟩; replace H := hidk (H.out.call hb); clear hb; try simp only [Act.put, List.setIfInBounds_toArray, List.set_cons_zero, List.set_cons_succ])
      | ((with_reducible refine (P2.out _ H.out.b).mono ?_); rintro _ W ⟨rfl, hb⟩; replace H := hidk (H.out.call hb); clear hb; try simp only [Act.put, List.setIfInBounds_toArray, List.set_cons_zero, List.set_cons_succ])
      | ((with_reducible refine (WL.out _).mono ?_); rintro _ W ⟨rfl, hb⟩; replace H := hidk (H.out.call hb); clear hb; try simp only [Act.put, List.setIfInBounds_toArray, List.set_cons_zero, List.set_cons_succ])
      | ((with_reducible refine (SR.out _ H.out.b).mono ?_); rintro _ W ⟨rfl, hb⟩; replace H := hidk (H.out.call hb); clear hb; try simp only [Act.put, List.setIfInBounds_toArray, List.set_cons_zero, List.set_cons_succ])
      | fail)
    go_ret
    exact ⟨rfl, H.out.b⟩
  · obtain rfl : S1 = S2 := by rw [← hS1, ← hS2, hq.1 rfl]
    clear hu hv hb1 hb2 T hS1 hS2 hm1 hm2 hinj hq
    go_enter Try.func8, Try.ntmps8
    go_wp2_with (first
      | ((with_reducible show wpList _ _ _ (⟨_, .box _ _, _, _, _, _⟩ :: _) _ _); refine boxS (by rfl) (by rfl) H (by assumption) ?_; clear H; intro gq W hq H; clear hq; try simp only [Act.put, List.setIfInBounds_toArray, List.set_cons_zero, List.set_cons_succ])
      | ((with_reducible show wpList _ _ _ (⟨_, .load _ _, _, _, _, _⟩ :: _) _ _); refine rdS (by rfl) (by rfl) (by decide +kernel) H (by repeat constructor) ?_; try simp only [Act.put, List.setIfInBounds_toArray, List.set_cons_zero, List.set_cons_succ])
      | ((with_reducible show wpList _ _ _ (⟨_, .build _ _, _, _, _, _⟩ :: _) _ _); refine bldS (by rfl) (by with_reducible exact builtK_0) (by rfl) ?_; try simp only [Act.put, List.setIfInBounds_toArray, List.set_cons_zero, List.set_cons_succ])
      | ((with_reducible refine (Wb1.out _ H.out.b).mono ?_); rintro _ W ⟨rfl, hb⟩; replace H := hidk (H.out.call hb); clear hb; try simp only [Act.put, List.setIfInBounds_toArray, List.set_cons_zero, List.set_cons_succ])
      | ((with_reducible refine (Wb2.out _ H.out.b).mono ?_); rintro _ W ⟨rfl, hb⟩; replace H := hidk (H.out.call hb); clear hb; try simp only [Act.put, List.setIfInBounds_toArray, List.set_cons_zero, List.set_cons_succ])
      | ((with_reducible refine (P1.out _ H.out.b).mono ?_); rintro _ W ⟨rfl, hb⟩; replace H := hidk (H.out.call hb); clear hb; try simp only [Act.put, List.setIfInBounds_toArray, List.set_cons_zero, List.set_cons_succ])
      | ((with_reducible refine (P2.out _ H.out.b).mono ?_); rintro _ W ⟨rfl, hb⟩; replace H := hidk (H.out.call hb); clear hb; try simp only [Act.put, List.setIfInBounds_toArray, List.set_cons_zero, List.set_cons_succ])
      | ((with_reducible refine (WL.out _).mono ?_); rintro _ W ⟨rfl, hb⟩; replace H := hidk (H.out.call hb); clear hb; try simp only [Act.put, List.setIfInBounds_toArray, List.set_cons_zero, List.set_cons_succ])
      | ((with_reducible refine (SR.out _ H.out.b).mono ?_); rintro _ W ⟨rfl, hb⟩; replace H := hidk (H.out.call hb); clear hb; try simp only [Act.put, List.setIfInBounds_toArray, List.set_cons_zero, List.set_cons_succ])
      | fail)
    go_ret
    exact ⟨rfl, H.out.b⟩
end Go.Proofs.Ytjpmmbmhkpgjcaa
