/- Texts of our own that the row of KeepLays leans on, part 37. -/
import Derived.Test.YtjpmmbmhkpgjcaaKeepLaysJ27
import Derived.Test.YtjpmmbmhkpgjcaaKeepLaysJ29
import Derived.Test.YtjpmmbmhkpgjcaaKeepLaysJ33
import Derived.Test.YtjpmmbmhkpgjcaaKeepLaysJ35
import Derived.Test.YtjpmmbmhkpgjcaaKeepLaysJ36

/- What the statements' lays and back answer. -/
namespace Go.Proofs.Ytjpmmbmhkpgjcaa
open Go.RowKit Nums Sums
set_option linter.unusedVariables false
set_option linter.unusedSimpArgs false
set_option maxRecDepth 100000

section
variable {P : Program} {a : Act} {d : Option Tmp} {tp : TypeId} {ps : String} {af : Array Edge} {gd : Option (Nat × Bool)} {C : World → Prop}
/-- Two values of rows held against one another, which reads nothing. -/
theorem qB {K : Act → Prop} {o : BinOp} {t t2 : TypeId} {x y : Operand} {X Y : Array Value} {u : Value} (hx : a.eval x = .agg X) (hy : a.eval y = .agg Y) (hm : P.eqGuardType P.depth t = false) (hr : ∀ W, (binOp o t (.agg X) (.agg Y)).run P W = .ok u W)
    (h : K (a.put d u)) : Oper.quiet P ⟨d, .binOp o t x y t2, tp, ps, af, gd⟩ a C K := by
  refine q_of (v := u) (fun W _ => ?_) h
  unfold execOp
  simp only [hx, hy, Sem.run_bind, run_eqGuard_agg W o t x y X Y hm, Result.andThen_ok, hr, Sem.run_pure]
end
theorem laid_may : mayR (laidR 1 1).t = true := by decide +kernel
theorem zero_may : mayR zeroR = false := by decide +kernel
theorem laid_ok : OkT (laidR 1 1).t := ⟨(fun x h => by cases h), uI_ok 1 1, rfl⟩
set_option maxHeartbeats 32000000 in
theorem laysK_true {en : ReT → List UInt8} {de : List UInt8 → ReT} (T : KeepTT en de) (w : World) : Calls Try.prog 26 #[] w fun e w' => e = .returned (.bool true) ∧ Below w.heap.size w w' := by
  have hlen := T.len _ laid_may laid_ok
  obtain ⟨S, hS⟩ : ∃ S : ByteArray, (⟨(en (laidR 1 1).t).toArray⟩ : ByteArray) = S := ⟨_, rfl⟩
  have hSd : S.data.toList = en (laidR 1 1).t := by rw [← hS]
  have hSz : S.size ≤ 100000 := by
    have e : S.size = (en (laidR 1 1).t).length := by rw [← hS]; rfl
    have : (laidR 1 1).t.l.length = 0 := rfl
    rw [this] at hlen
    split at hlen <;> omega
  have LA : Hid (∀ W, Calls Try.prog 33 #[.int .i64 1, .int .i64 1] W fun e w' => e = .returned (.agg (reA (laidR 1 1))) ∧ Below W.heap.size W w') := fun W => laidK_any 1 1 W
  have UA : Hid (∀ W, Calls Try.prog 51 #[.int .i64 1, .int .i64 1] W fun e w' => e = .returned (.agg (itA (uI 1 1))) ∧ Below W.heap.size W w') := fun W => userK_any 1 1 W
  have P1 : Hid (∀ W, Calls Try.prog 24 #[.agg (reA (laidR 1 1))] W fun e w' => e = .returned (.tuple #[.string S, .int .i64 0]) ∧ Below W.heap.size W w') := fun W => by
    have := T.put (laidR 1 1) W (laidR_in W 1 1 (in64_s (by decide) (by decide)) (in64_s (by decide) (by decide)))
    unfold putRE at this
    rw [if_pos laid_may, if_pos laid_may, hS] at this
    exact this
  have G1 : Hid (∀ W, Calls Try.prog 27 #[.string S] W fun e w' => ∃ r', e = .returned (.tuple #[.agg (reA r'), .int .i64 0]) ∧ Hid (r'.t = (laidR 1 1).t) ∧ ROut w' W.heap.size r' ∧ Below W.heap.size W w') := fun W => by
    have := T.get S W hSz
    rw [hSd, getRO_en T.toKeepT laid_may laid_ok] at this
    exact this
  have P2 : Hid (∀ W, Calls Try.prog 24 #[.agg (reA zeroRv)] W fun e w' => e = .returned (.tuple #[.string ⟨#[]⟩, .int .i64 140]) ∧ Below W.heap.size W w') := fun W => by
    have := T.put zeroRv W (rin_0 W)
    unfold putRE at this
    rw [show zeroRv.t = zeroR from rfl, if_neg (by rw [zero_may]; decide), if_neg (by rw [zero_may]; decide)] at this
    exact this
  have G2 : Hid (∀ W, Calls Try.prog 27 #[.string ⟨#[]⟩] W fun e w' => ∃ r', e = .returned (.tuple #[.agg (reA r'), .int .i64 140]) ∧ Hid (r'.t = zeroR) ∧ ROut w' W.heap.size r' ∧ Below W.heap.size W w') := fun W => by
    have := T.get ⟨#[]⟩ W (by decide)
    rw [show (⟨#[]⟩ : ByteArray).data.toList = [] from rfl, getRO_nil T] at this
    exact this
  have TIN := hidk (mayT_in laid_may laid_ok)
  have ZIN := hidk zeroT_in
  have EI : Hid (∀ W, (binOp .eql 40 (.agg (itA (uI 1 1))) (.agg (itA (uI 1 1)))).run Try.prog W = .ok (.bool true) W) := fun W => eqItem _ _ (uI_ok 1 1) (uI_ok 1 1) (itA (uI 1 1)) (itA (uI 1 1)) (hidk rfl) (hidk rfl) true (by simp) W
  have FXI := hidk (itA_fit (uI 1 1) (uI_ok 1 1)).s
  have H := hidk (Sep.start Try.prog w)
  clear T hlen hS hSd hSz
  go_enter Try.func26, Try.ntmps26
  go_wp2_with (first
    | ((with_reducible show wpList _ _ _ (⟨_, .alloc _, _, _, _, _⟩ :: _) _ _); refine newS (by rfl) (by kernel_rfl) H ?_; clear H; intro gq W hq H; clear hq; try simp only [Act.put, List.setIfInBounds_toArray, List.set_cons_zero, List.set_cons_succ])
    | ((with_reducible show wpList _ _ _ (⟨_, .store _ _ _, _, _, _, _⟩ :: _) _ _); refine setS (by rfl) (by rfl) (by rfl) H (by assumption) (by repeat first | apply uH | apply uT) ?_; clear H; intro W H; try simp only [Act.put, List.setIfInBounds_toArray, List.set_cons_zero, List.set_cons_succ])
    | ((with_reducible refine (LA.out _).mono ?_); rintro _ W ⟨rfl, hb⟩; replace H := hidk (H.out.call hb); clear hb; try simp only [Act.put, List.setIfInBounds_toArray, List.set_cons_zero, List.set_cons_succ])
    | ((with_reducible refine (P1.out _).mono ?_); rintro _ W ⟨rfl, hb⟩; replace H := hidk (H.out.call hb); clear hb; try simp only [Act.put, List.setIfInBounds_toArray, List.set_cons_zero, List.set_cons_succ])
    | ((with_reducible refine (P2.out _).mono ?_); rintro _ W ⟨rfl, hb⟩; replace H := hidk (H.out.call hb); clear hb; try simp only [Act.put, List.setIfInBounds_toArray, List.set_cons_zero, List.set_cons_succ])
    | ((with_reducible refine (G1.out _).mono ?_); rintro _ W ⟨r1, rfl, et, ho, hb⟩; obtain ⟨N1, HQ, RI⟩ := H.out.rout hb ho (by rw [et.out]; exact TIN.out.1) (by rw [ho.n]; have q := TIN.out.2; rw [← et.out] at q; exact Nat.le_trans q (by decide)); have FR := hidk (reA_fit r1 (RI.out _ HQ.out.has.l).1.ok); clear H ho hb; have H := HQ; clear HQ; try simp only [Act.put, List.setIfInBounds_toArray, List.set_cons_zero, List.set_cons_succ])
    | ((with_reducible refine (G2.out _).mono ?_); rintro _ W ⟨r2, rfl, et2, ho, hb⟩; obtain ⟨N2, HQ, RI2⟩ := H.out.rout hb ho (by rw [et2.out]; exact ZIN.out) (by rw [ho.n, show r2.l = [] from congrArg ReT.l et2.out]; decide); have FR2 := hidk (reA_fit r2 (RI2.out _ HQ.out.has.l).1.ok); clear H ho hb; have H := HQ; clear HQ; try simp only [Act.put, List.setIfInBounds_toArray, List.set_cons_zero, List.set_cons_succ])
    | ((with_reducible show wpList _ _ _ (⟨_, .build _ _, _, _, _, _⟩ :: _) _ _); refine bldS (by rfl) (by with_reducible exact builtR_0) (by rfl) ?_; try simp only [Act.put, List.setIfInBounds_toArray, List.set_cons_zero, List.set_cons_succ])
    | fail)
  have K0 : Hid ((reA r1)[0]? = some (.int .i64 2)) := by show _ = _; rw [reA_0, show r1.k = 2 from congrArg ReT.k et.out]
  have KX : Hid (SubA (reA r1) 3 (itA (uI 1 1))) := by have := reA_x r1; rw [show r1.x = uI 1 1 from congrArg ReT.x et.out] at this; exact this
  simp only [List.append_nil] at H
  refine region_mix _ _ [14] [] [0, 1, 2, 3, 4, 5, 6, 7, 8, 9, 10, 11, 12, 13, 14, 15, 16, 17, 18, 19, 20, 21, 22, 23, 24, 25] (by kernel_rfl) (by kernel_rfl) (by kernel_rfl) (by rfl) H (List.Sublist.refl _) (List.Sublist.refl _) ?_
  clear H
  intro W hne H
  repeat (first
    | (refine mix_skip (by rfl) (by rfl) ?_; try simp only [Act.put, List.setIfInBounds_toArray, List.set_cons_zero, List.set_cons_succ])
    | (refine mix_q (by rfl) (by rfl) (by rfl) (by rfl) ?_; intro K hK; first | (refine qF (by rfl) (by decide +kernel) (by repeat constructor) (by exact K0.out) ?_; try simp only [Act.put, List.setIfInBounds_toArray, List.set_cons_zero, List.set_cons_succ]; go_big_quiet_on) | (refine qU (by rfl) (by decide +kernel) (by repeat constructor) KX FXI.out ?_; try simp only [Act.put, List.setIfInBounds_toArray, List.set_cons_zero, List.set_cons_succ]; go_big_quiet_on) | (refine qB (by rfl) (by rfl) (by kernel_rfl) (EI.out) ?_; try simp only [Act.put, List.setIfInBounds_toArray, List.set_cons_zero, List.set_cons_succ]; go_big_quiet_on) | (go_big_quiet_op; go_big_quiet_on))
    | (refine mix_e (by rfl) (by rfl) (by rfl) ?_; go_wp2_with (first | ((with_reducible refine (UA.out _).mono ?_); rintro _ W ⟨rfl, hb⟩; replace H := hidk (H.out.call hb); clear hb; try simp only [Act.put, List.setIfInBounds_toArray, List.set_cons_zero, List.set_cons_succ]) | fail); first | refine mix_fin (by rfl) ?_ | refine mix_fin2 ?_ | refine mix_on (by first | exact H.out | exact H.out.tl | exact H.out.tn | exact H.out.tl.tn | exact H.out.tn.tl) ?_ | refine mix_on2 (by first | exact H.out | exact H.out.tl | exact H.out.tn | exact H.out.tl.tn | exact H.out.tn.tl) ?_))
  refine mix_end ?_
  clear hne
  go_wp2
  go_ret
  exact ⟨rfl, H.out.b⟩
end Go.Proofs.Ytjpmmbmhkpgjcaa

/- What the statements of keep lean on. -/
namespace Go.Proofs.Ytjpmmbmhkpgjcaa
open Go.RowKit Nums Sums
set_option linter.unusedVariables false
set_option linter.unusedSimpArgs false
set_option maxRecDepth 100000

end Go.Proofs.Ytjpmmbmhkpgjcaa

/- KeepLays. -/
namespace Go.Proofs.Ytjpmmbmhkpgjcaa
open Go.RowKit Nums Sums
set_option linter.unusedVariables false
set_option linter.unusedSimpArgs false
set_option maxRecDepth 100000
theorem cmk_0 (w : World) : CmK w zeroKv := ⟨ireads_none w, fun _ => rfl, (fun x h => by cases h), clreads_none w, fun _ => rfl, (fun x h => by cases h), in64_0, in64_0⟩
theorem RIn.okT {w : World} {r : ReV} (h : RIn w r) : OkT r.t := ⟨fun x hx => (h.i.its x hx).e.ok, h.xo, h.m.d⟩
set_option maxHeartbeats 32000000 in
theorem keepLays_in {en : ReT → List UInt8} {de : List UInt8 → ReT} (T : KeepTT en de) (r : ReV) (w : World) (h : CmR w r) : Calls Try.prog 6 #[.agg (reA r)] w fun e w' => e = .returned (.bool true) ∧ Below w.heap.size w w' := by
  have FX : Hid (Fit Try.prog 42 (reA r)) := reA_fit r h.ok
  obtain ⟨b1, hb1⟩ : ∃ b, bigK zeroKv r = b := ⟨_, rfl⟩
  have Wb1 : Hid (∀ W, Below w.heap.size w W → Calls Try.prog 9 #[.agg (keA zeroKv), .agg (reA r)] W fun e w' => e = .returned (.bool b1) ∧ Below W.heap.size W w') := fun W hb => by rw [← hb1]; exact refBigK_any zeroKv r W (cmk_0 W) (h.keep hb)
  have H := hidk (Sep.start Try.prog w)
  cases b1
  case true =>
    clear h hb1 T
    go_enter Try.func6, Try.ntmps6
    go_wp2_with (first
      | ((with_reducible show wpList _ _ _ (⟨_, .box _ _, _, _, _, _⟩ :: _) _ _); refine boxS (by rfl) (by rfl) H (by assumption) ?_; clear H; intro gq W hq H; clear hq; try simp only [Act.put, List.setIfInBounds_toArray, List.set_cons_zero, List.set_cons_succ])
      | ((with_reducible show wpList _ _ _ (⟨_, .load _ _, _, _, _, _⟩ :: _) _ _); refine rdS (by rfl) (by rfl) (by decide +kernel) H (by repeat constructor) ?_; try simp only [Act.put, List.setIfInBounds_toArray, List.set_cons_zero, List.set_cons_succ])
      | ((with_reducible show wpList _ _ _ (⟨_, .build _ _, _, _, _, _⟩ :: _) _ _); refine bldS (by rfl) (by with_reducible exact builtK_0) (by rfl) ?_; try simp only [Act.put, List.setIfInBounds_toArray, List.set_cons_zero, List.set_cons_succ])
      | ((with_reducible refine (Wb1.out _ H.out.b).mono ?_); rintro _ W ⟨rfl, hb⟩; replace H := hidk (H.out.call hb); clear hb; try simp only [Act.put, List.setIfInBounds_toArray, List.set_cons_zero, List.set_cons_succ])
      | fail)
    go_ret
    exact ⟨rfl, H.out.b⟩
  obtain ⟨_, hr, _, _, h60⟩ := bigK_no (cmk_0 w) h hb1
  have WL : Hid (∀ W, Calls Try.prog 26 #[] W fun e w' => e = .returned (.bool true) ∧ Below W.heap.size W w') := fun W => laysK_true T W
  have okt := hr.okT
  obtain ⟨m1, hm1⟩ : ∃ b, mayR r.t = b := ⟨_, rfl⟩
  have MR : Hid (∀ W, Below w.heap.size w W → Calls Try.prog 25 #[.agg (reA r)] W fun e w' => e = .returned (.bool m1) ∧ Below W.heap.size W w') := fun W hb => by rw [← hm1]; exact refMayR_any r W (hr.keep hb)
  cases m1
  case false =>
    have P1 : Hid (∀ W, Below w.heap.size w W → Calls Try.prog 24 #[.agg (reA r)] W fun e w' => e = .returned (.tuple #[.string ⟨#[]⟩, .int .i64 140]) ∧ Below W.heap.size W w') := fun W hb => by
      have := T.put r W (hr.keep hb)
      unfold putRE at this
      rw [if_neg (by rw [hm1]; decide), if_neg (by rw [hm1]; decide)] at this
      exact this
    clear h hb1 T hr okt hm1
    go_enter Try.func6, Try.ntmps6
    go_wp2_with (first
      | ((with_reducible show wpList _ _ _ (⟨_, .box _ _, _, _, _, _⟩ :: _) _ _); refine boxS (by rfl) (by rfl) H (by assumption) ?_; clear H; intro gq W hq H; clear hq; try simp only [Act.put, List.setIfInBounds_toArray, List.set_cons_zero, List.set_cons_succ])
      | ((with_reducible show wpList _ _ _ (⟨_, .load _ _, _, _, _, _⟩ :: _) _ _); refine rdS (by rfl) (by rfl) (by decide +kernel) H (by repeat constructor) ?_; try simp only [Act.put, List.setIfInBounds_toArray, List.set_cons_zero, List.set_cons_succ])
      | ((with_reducible show wpList _ _ _ (⟨_, .build _ _, _, _, _, _⟩ :: _) _ _); refine bldS (by rfl) (by with_reducible exact builtK_0) (by rfl) ?_; try simp only [Act.put, List.setIfInBounds_toArray, List.set_cons_zero, List.set_cons_succ])
      | ((with_reducible refine (Wb1.out _ H.out.b).mono ?_); rintro _ W ⟨rfl, hb⟩; replace H := hidk (H.out.call hb); clear hb; try simp only [Act.put, List.setIfInBounds_toArray, List.set_cons_zero, List.set_cons_succ])
      | ((with_reducible refine (P1.out _ H.out.b).mono ?_); rintro _ W ⟨rfl, hb⟩; replace H := hidk (H.out.call hb); clear hb; try simp only [Act.put, List.setIfInBounds_toArray, List.set_cons_zero, List.set_cons_succ])
      | ((with_reducible refine (MR.out _ H.out.b).mono ?_); rintro _ W ⟨rfl, hb⟩; replace H := hidk (H.out.call hb); clear hb; try simp only [Act.put, List.setIfInBounds_toArray, List.set_cons_zero, List.set_cons_succ])
      | ((with_reducible refine (WL.out _).mono ?_); rintro _ W ⟨rfl, hb⟩; replace H := hidk (H.out.call hb); clear hb; try simp only [Act.put, List.setIfInBounds_toArray, List.set_cons_zero, List.set_cons_succ])
      | fail)
    go_ret
    exact ⟨rfl, H.out.b⟩
  obtain ⟨S, hS⟩ : ∃ S : ByteArray, (⟨(en r.t).toArray⟩ : ByteArray) = S := ⟨_, rfl⟩
  have hSd : S.data.toList = en r.t := by rw [← hS]
  have hlen := T.len _ hm1 okt
  have hSz : S.size = (en r.t).length := by rw [← hS]; rfl
  obtain ⟨ra, rn, rc, r113, HI, HLN, h60⟩ : ∃ ra rn rc, Hid ((reA r)[113]? = some (.slice ra rn rc)) ∧ Hid (InL w ra rn rc r.l) ∧ Hid (r.l.length = rn) ∧ rn ≤ 60 := ⟨r.a, r.n, r.c, hidk (reA_113 r h.ok), hidk hr.i, hidk hr.i.rd.ln, h60⟩
  have hlen2 : (en r.t).length ≤ 100 + 300 * rn + (if r.k = 2 then 300 else 0) := by rw [← HLN.out]; exact hlen
  have hS1 : S.size ≤ 100000 := by split at hlen2 <;> omega
  have HSL : Hid (S.size ≤ 100 + 300 * rn + (if r.k = 2 then 300 else 0)) := by show _ ≤ _; rw [hSz]; exact hlen2
  have P1 : Hid (∀ W, Below w.heap.size w W → Calls Try.prog 24 #[.agg (reA r)] W fun e w' => e = .returned (.tuple #[.string S, .int .i64 0]) ∧ Below W.heap.size W w') := fun W hb => by
    have := T.put r W (hr.keep hb)
    unfold putRE at this
    rw [if_pos hm1, if_pos hm1, hS] at this
    exact this
  have G1 : Hid (∀ W, Calls Try.prog 27 #[.string S] W fun e w' => ∃ r', e = .returned (.tuple #[.agg (reA r'), .int .i64 0]) ∧ Hid (r'.t = r.t) ∧ ROut w' W.heap.size r' ∧ Below W.heap.size W w') := fun W => by
    have := T.get S W hS1
    rw [hSd, getRO_en T.toKeepT hm1 okt] at this
    exact this
  have TIN := hidk (mayT_in hm1 okt)
  have SR : Hid (∀ W (u : ReV), Hid (u.t = r.t) → RIn W u → Below w.heap.size w W → Calls Try.prog 22 #[.agg (reA u), .agg (reA r)] W fun e w' => e = .returned (.bool true) ∧ Below W.heap.size W w') := fun W u et hu hb => refSameR_any u r W hu.ok hr.ok hu.i.rd (hr.i.rd.keep hb) et.out
  have OKI : Hid (∀ x ∈ r.l, InI x) := hr.i.its
  have HXT : Hid (r.x.e.t.size ≤ 100000) := hr.x.e.t
  have hmx : rn ≤ 9223372036854775807 := by omega
  have hsmx : S.size ≤ 9223372036854775807 := by omega
  have htmx : r.x.e.t.size ≤ 9223372036854775807 := by have := HXT.out; omega
  clear h hb1 T hr okt hm1 hS hSd hlen hlen2 hSz hS1
  go_enter Try.func6, Try.ntmps6
  go_wp2_with (first
    | ((with_reducible show wpList _ _ _ (⟨_, .box _ _, _, _, _, _⟩ :: _) _ _); refine boxS (by rfl) (by rfl) H (by assumption) ?_; clear H; intro gq W hq H; clear hq; try simp only [Act.put, List.setIfInBounds_toArray, List.set_cons_zero, List.set_cons_succ])
    | ((with_reducible show wpList _ _ _ (⟨_, .alloc _, _, _, _, _⟩ :: _) _ _); refine newS (by rfl) (by kernel_rfl) H ?_; clear H; intro gq W hq H; clear hq; try simp only [Act.put, List.setIfInBounds_toArray, List.set_cons_zero, List.set_cons_succ])
    | ((with_reducible show wpList _ _ _ (⟨_, .store _ _ _, _, _, _, _⟩ :: _) _ _); refine setS (by rfl) (by rfl) (by rfl) H (by assumption) (by repeat first | apply uH | apply uT) ?_; clear H; intro W H; try simp only [Act.put, List.setIfInBounds_toArray, List.set_cons_zero, List.set_cons_succ])
    | ((with_reducible show wpList _ _ _ (⟨_, .load _ _, _, _, _, _⟩ :: _) _ _); refine rdS (by rfl) (by rfl) (by decide +kernel) H (by repeat constructor) ?_; try simp only [Act.put, List.setIfInBounds_toArray, List.set_cons_zero, List.set_cons_succ])
    | ((with_reducible show wpList _ _ _ (⟨_, .build _ _, _, _, _, _⟩ :: _) _ _); refine bldS (by rfl) (by with_reducible exact builtK_0) (by rfl) ?_; try simp only [Act.put, List.setIfInBounds_toArray, List.set_cons_zero, List.set_cons_succ])
    | ((with_reducible refine (Wb1.out _ H.out.b).mono ?_); rintro _ W ⟨rfl, hb⟩; replace H := hidk (H.out.call hb); clear hb; try simp only [Act.put, List.setIfInBounds_toArray, List.set_cons_zero, List.set_cons_succ])
    | ((with_reducible refine (P1.out _ H.out.b).mono ?_); rintro _ W ⟨rfl, hb⟩; replace H := hidk (H.out.call hb); clear hb; try simp only [Act.put, List.setIfInBounds_toArray, List.set_cons_zero, List.set_cons_succ])
    | ((with_reducible refine (MR.out _ H.out.b).mono ?_); rintro _ W ⟨rfl, hb⟩; replace H := hidk (H.out.call hb); clear hb; try simp only [Act.put, List.setIfInBounds_toArray, List.set_cons_zero, List.set_cons_succ])
    | ((with_reducible refine (G1.out _).mono ?_); rintro _ W ⟨r1, rfl, et, ho, hb⟩; obtain ⟨N1, HQ, RI⟩ := H.out.rout hb ho (by rw [et.out]; exact TIN.out.1) (by rw [ho.n]; have q := TIN.out.2; rw [← et.out] at q; exact Nat.le_trans q (by decide)); have FR := hidk (reA_fit r1 (RI.out _ HQ.out.has.l).1.ok); clear H ho hb; have H := HQ; clear HQ; try simp only [Act.put, List.setIfInBounds_toArray, List.set_cons_zero, List.set_cons_succ])
    | fail)
  go_loop [7, 8] (fun nv iv => ∃ (k : Nat) (n : Int), k ≤ rn ∧ iv = .int .i64 k ∧ nv = .int .i64 n ∧ 100 + 300 * (k : Int) ≤ n ∧ n ≤ 100 + 100300 * (k : Int)) (fun _ iv => rn - (intOf iv).toNat)
  case atStart => exact ⟨0, 100, by omega, rfl, rfl, by omega, by omega⟩
  case round =>
    obtain ⟨k, n, hk, rfl, rfl, h1, h2⟩ := hrel
    by_cases hlt : k < rn
    · have hd : decide ((k : Int) < (rn : Int)) = true := by rw [decide_eq_true_eq]; omega
      have hw1 := wrap_int ((k : Int) + 1) (by omega) (by omega)
      obtain ⟨g, o, rfl, hg⟩ := HI.out.rd.at (by omega)
      have hkl : k < r.l.length := by have := HLN.out; omega
      obtain ⟨t, ht⟩ : ∃ t, r.l[k].e.t = t := ⟨_, rfl⟩
      have htz : t.size ≤ 100000 := by rw [← ht]; exact (OKI.out _ (List.getElem_mem hkl)).e.t
      have htx : t.size ≤ 9223372036854775807 := by omega
      have HC : Hid (w.cell? ⟨g, o + 110 * k + 4, none⟩ = some (.string t)) := by rw [← ht]; exact HI.out.rd.cell k hkl 4 _ rfl
      have ix := fun W => index_item W g o rn rc k .i64 hlt
      have hw2 := wrap_int (n + 300) (by omega) (by omega)
      have hw3 := wrap_int (n + 300 + (t.size : Int)) (by omega) (by omega)
      clear ht hkl
      go_wp2_with (first
        | ((with_reducible show wpList _ _ _ (⟨_, .load _ _, _, _, _, _⟩ :: _) _ _); refine fldS (by rfl) (by rfl) (by decide +kernel) H (by repeat constructor) (by exact r113.out) ?_; try simp only [Act.put, List.setIfInBounds_toArray, List.set_cons_zero, List.set_cons_succ])
        | ((with_reducible show wpList _ _ _ (⟨_, .load _ _, _, _, _, _⟩ :: _) _ _); refine outS (by rfl) (by rfl) (by decide +kernel) H (by assumption) ?_; try simp only [Act.put, List.setIfInBounds_toArray, List.set_cons_zero, List.set_cons_succ])
        | fail)
      go_round
      case rel => exact ⟨k + 1, n + 300 + (t.size : Int), by omega, by go_num, rfl, by omega, by omega⟩
      case measure => simp [intOf]; omega
    · obtain rfl : rn = k := by omega
      have hd : decide ((rn : Int) < (rn : Int)) = false := by rw [decide_eq_false_iff_not]; omega
      by_cases hk2 : r.k = 2
      · have bk : (r.k == (2 : Int)) = true := by simp [hk2]
        have hw2 := wrap_int (n + 300) (by omega) (by omega)
        have hw3 := wrap_int (n + 300 + (r.x.e.t.size : Int)) (by have := HXT.out; omega) (by have := HXT.out; omega)
        have hle : decide ((S.size : Int) ≤ n + 300 + (r.x.e.t.size : Int)) = true := by have := HSL.out; rw [if_pos hk2] at this; rw [decide_eq_true_eq]; omega
        go_wp2_with (first
          | ((with_reducible refine (WL.out _).mono ?_); rintro _ W ⟨rfl, hb⟩; replace H := hidk (H.out.call hb); clear hb; try simp only [Act.put, List.setIfInBounds_toArray, List.set_cons_zero, List.set_cons_succ])
          | ((with_reducible show wpList _ _ _ (⟨_, .load _ _, _, _, _, _⟩ :: _) _ _); refine rdS (by rfl) (by rfl) (by decide +kernel) H (by repeat constructor) ?_; try simp only [Act.put, List.setIfInBounds_toArray, List.set_cons_zero, List.set_cons_succ])
          | ((with_reducible refine (SR.out _ r1 et (RI.out _ H.out.has.l).1 H.out.b).mono ?_); rintro _ W ⟨rfl, hb⟩; replace H := hidk (H.out.call hb); clear hb; try simp only [Act.put, List.setIfInBounds_toArray, List.set_cons_zero, List.set_cons_succ])
          | ((with_reducible show wpList _ _ _ (⟨_, .load _ _, _, _, _, _⟩ :: _) _ _); refine fldS (by rfl) (by rfl) (by decide +kernel) H (by repeat constructor) (by first | exact r113.out | exact reA_0 _ | exact reA_7 _) ?_; try simp only [Act.put, List.setIfInBounds_toArray, List.set_cons_zero, List.set_cons_succ])
          | fail)
        go_ret
        exact ⟨rfl, H.out.b⟩
      · have bk : (r.k == (2 : Int)) = false := by simp [hk2]
        have hle : decide ((S.size : Int) ≤ n) = true := by have := HSL.out; rw [if_neg hk2] at this; rw [decide_eq_true_eq]; omega
        go_wp2_with (first
          | ((with_reducible refine (WL.out _).mono ?_); rintro _ W ⟨rfl, hb⟩; replace H := hidk (H.out.call hb); clear hb; try simp only [Act.put, List.setIfInBounds_toArray, List.set_cons_zero, List.set_cons_succ])
          | ((with_reducible show wpList _ _ _ (⟨_, .load _ _, _, _, _, _⟩ :: _) _ _); refine rdS (by rfl) (by rfl) (by decide +kernel) H (by repeat constructor) ?_; try simp only [Act.put, List.setIfInBounds_toArray, List.set_cons_zero, List.set_cons_succ])
          | ((with_reducible refine (SR.out _ r1 et (RI.out _ H.out.has.l).1 H.out.b).mono ?_); rintro _ W ⟨rfl, hb⟩; replace H := hidk (H.out.call hb); clear hb; try simp only [Act.put, List.setIfInBounds_toArray, List.set_cons_zero, List.set_cons_succ])
          | ((with_reducible show wpList _ _ _ (⟨_, .load _ _, _, _, _, _⟩ :: _) _ _); refine fldS (by rfl) (by rfl) (by decide +kernel) H (by repeat constructor) (by first | exact r113.out | exact reA_0 _ | exact reA_7 _) ?_; try simp only [Act.put, List.setIfInBounds_toArray, List.set_cons_zero, List.set_cons_succ])
          | fail)
        go_ret
        exact ⟨rfl, H.out.b⟩
end Go.Proofs.Ytjpmmbmhkpgjcaa
