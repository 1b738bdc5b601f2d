/- Texts of our own that the row of KeepReads leans on, part 37. -/
import Derived.Test.YtjpmmbmhkpgjcaaKeepReadsJ15
import Derived.Test.YtjpmmbmhkpgjcaaKeepReadsJ22
import Derived.Test.YtjpmmbmhkpgjcaaKeepReadsJ27
import Derived.Test.YtjpmmbmhkpgjcaaKeepReadsJ29
import Derived.Test.YtjpmmbmhkpgjcaaKeepReadsJ33
import Derived.Test.YtjpmmbmhkpgjcaaKeepReadsJ35
import Derived.Test.YtjpmmbmhkpgjcaaKeepReadsJ36

/- What the statements' lays and back answer. -/
namespace Go.Proofs.Ytjpmmbmhkpgjcaa
open Go.RowKit Nums Sums
set_option linter.unusedVariables false
set_option linter.unusedSimpArgs false
set_option maxRecDepth 100000

section
variable {P : Program} {a : Act} {d : Option Tmp} {tp : TypeId} {ps : String} {af : Array Edge} {gd : Option (Nat × Bool)} {C : World → Prop}
/-- Two values of rows held against one another, which reads nothing. -/
theorem qB {K : Act → Prop} {o : BinOp} {t t2 : TypeId} {x y : Operand} {X Y : Array Value} {u : Value} (hx : a.eval x = .agg X) (hy : a.eval y = .agg Y) (hm : P.eqGuardType P.depth t = false) (hr : ∀ W, (binOp o t (.agg X) (.agg Y)).run P W = .ok u W)
    (h : K (a.put d u)) : Oper.quiet P ⟨d, .binOp o t x y t2, tp, ps, af, gd⟩ a C K := by
  refine q_of (v := u) (fun W _ => ?_) h
  unfold execOp
  simp only [hx, hy, Sem.run_bind, run_eqGuard_agg W o t x y X Y hm, Result.andThen_ok, hr, Sem.run_pure]
end
theorem laid_may : mayR (laidR 1 1).t = true := by decide +kernel
theorem zero_may : mayR zeroR = false := by decide +kernel
theorem laid_ok : OkT (laidR 1 1).t := ⟨(fun x h => by cases h), uI_ok 1 1, rfl⟩
set_option maxHeartbeats 32000000 in
theorem laysK_true {en : ReT → List UInt8} {de : List UInt8 → ReT} (T : KeepTT en de) (w : World) : Calls Try.prog 26 #[] w fun e w' => e = .returned (.bool true) ∧ Below w.heap.size w w' := by
  have hlen := T.len _ laid_may laid_ok
  obtain ⟨S, hS⟩ : ∃ S : ByteArray, (⟨(en (laidR 1 1).t).toArray⟩ : ByteArray) = S := ⟨_, rfl⟩
  have hSd : S.data.toList = en (laidR 1 1).t := by rw [← hS]
  have hSz : S.size ≤ 100000 := by
    have e : S.size = (en (laidR 1 1).t).length := by rw [← hS]; rfl
    have : (laidR 1 1).t.l.length = 0 := rfl
    rw [this] at hlen
    split at hlen <;> omega
  have LA : Hid (∀ W, Calls Try.prog 33 #[.int .i64 1, .int .i64 1] W fun e w' => e = .returned (.agg (reA (laidR 1 1))) ∧ Below W.heap.size W w') := fun W => laidK_any 1 1 W
  have UA : Hid (∀ W, Calls Try.prog 51 #[.int .i64 1, .int .i64 1] W fun e w' => e = .returned (.agg (itA (uI 1 1))) ∧ Below W.heap.size W w') := fun W => userK_any 1 1 W
  have P1 : Hid (∀ W, Calls Try.prog 24 #[.agg (reA (laidR 1 1))] W fun e w' => e = .returned (.tuple #[.string S, .int .i64 0]) ∧ Below W.heap.size W w') := fun W => by
    have := T.put (laidR 1 1) W (laidR_in W 1 1 (in64_s (by decide) (by decide)) (in64_s (by decide) (by decide)))
    unfold putRE at this
    rw [if_pos laid_may, if_pos laid_may, hS] at this
    exact this
  have G1 : Hid (∀ W, Calls Try.prog 27 #[.string S] W fun e w' => ∃ r', e = .returned (.tuple #[.agg (reA r'), .int .i64 0]) ∧ Hid (r'.t = (laidR 1 1).t) ∧ ROut w' W.heap.size r' ∧ Below W.heap.size W w') := fun W => by
    have := T.get S W hSz
    rw [hSd, getRO_en T.toKeepT laid_may laid_ok] at this
    exact this
  have P2 : Hid (∀ W, Calls Try.prog 24 #[.agg (reA zeroRv)] W fun e w' => e = .returned (.tuple #[.string ⟨#[]⟩, .int .i64 140]) ∧ Below W.heap.size W w') := fun W => by
    have := T.put zeroRv W (rin_0 W)
    unfold putRE at this
    rw [show zeroRv.t = zeroR from rfl, if_neg (by rw [zero_may]; decide), if_neg (by rw [zero_may]; decide)] at this
    exact this
  have G2 : Hid (∀ W, Calls Try.prog 27 #[.string ⟨#[]⟩] W fun e w' => ∃ r', e = .returned (.tuple #[.agg (reA r'), .int .i64 140]) ∧ Hid (r'.t = zeroR) ∧ ROut w' W.heap.size r' ∧ Below W.heap.size W w') := fun W => by
    have := T.get ⟨#[]⟩ W (by decide)
    rw [show (⟨#[]⟩ : ByteArray).data.toList = [] from rfl, getRO_nil T] at this
    exact this
  have TIN := hidk (mayT_in laid_may laid_ok)
  have ZIN := hidk zeroT_in
  have EI : Hid (∀ W, (binOp .eql 40 (.agg (itA (uI 1 1))) (.agg (itA (uI 1 1)))).run Try.prog W = .ok (.bool true) W) := fun W => eqItem _ _ (uI_ok 1 1) (uI_ok 1 1) (itA (uI 1 1)) (itA (uI 1 1)) (hidk rfl) (hidk rfl) true (by simp) W
  have FXI := hidk (itA_fit (uI 1 1) (uI_ok 1 1)).s
  have H := hidk (Sep.start Try.prog w)
  clear T hlen hS hSd hSz
  go_enter Try.func26, Try.ntmps26
  go_wp2_with (first
    | ((with_reducible show wpList _ _ _ (⟨_, .alloc _, _, _, _, _⟩ :: _) _ _); refine newS (by rfl) (by kernel_rfl) H ?_; clear H; intro gq W hq H; clear hq; try simp only [Act.put, List.setIfInBounds_toArray, List.set_cons_zero, List.set_cons_succ])
    | ((with_reducible show wpList _ _ _ (⟨_, .store _ _ _, _, _, _, _⟩ :: _) _ _); refine setS (by rfl) (by rfl) (by rfl) H (by assumption) (by repeat first | apply uH | apply uT) ?_; clear H; intro W H; try simp only [Act.put, List.setIfInBounds_toArray, List.set_cons_zero, List.set_cons_succ])
    | ((with_reducible refine (LA.out _).mono ?_); rintro _ W ⟨rfl, hb⟩; replace H := hidk (H.out.call hb); clear hb; try simp only [Act.put, List.setIfInBounds_toArray, List.set_cons_zero, List.set_cons_succ])
    | ((with_reducible refine (P1.out _).mono ?_); rintro _ W ⟨rfl, hb⟩; replace H := hidk (H.out.call hb); clear hb; try simp only [Act.put, List.setIfInBounds_toArray, List.set_cons_zero, List.set_cons_succ])
    | ((with_reducible refine (P2.out _).mono ?_); rintro _ W ⟨rfl, hb⟩; replace H := hidk (H.out.call hb); clear hb; try simp only [Act.put, List.setIfInBounds_toArray, List.set_cons_zero, List.set_cons_succ])
    | ((with_reducible refine (G1.out _).mono ?_); rintro _ W ⟨r1, rfl, et, ho, hb⟩; obtain ⟨N1, HQ, RI⟩ := H.out.rout hb ho (by rw [et.out]; exact TIN.out.1) (by rw [ho.n]; have q := TIN.out.2; rw [← et.out] at q; exact Nat.le_trans q (by decide)); have FR := hidk (reA_fit r1 (RI.out _ HQ.out.has.l).1.ok); clear H ho hb; have H := HQ; clear HQ; try simp only [Act.put, List.setIfInBounds_toArray, List.set_cons_zero, List.set_cons_succ])
    | ((with_reducible refine (G2.out _).mono ?_); rintro _ W ⟨r2, rfl, et2, ho, hb⟩; obtain ⟨N2, HQ, RI2⟩ := H.out.rout hb ho (by rw [et2.out]; exact ZIN.out) (by rw [ho.n, show r2.l = [] from congrArg ReT.l et2.out]; decide); have FR2 := hidk (reA_fit r2 (RI2.out _ HQ.out.has.l).1.ok); clear H ho hb; have H := HQ; clear HQ; try simp only [Act.put, List.setIfInBounds_toArray, List.set_cons_zero, List.set_cons_succ])
    | ((with_reducible show wpList _ _ _ (⟨_, .build _ _, _, _, _, _⟩ :: _) _ _); refine bldS (by rfl) (by with_reducible exact builtR_0) (by rfl) ?_; try simp only [Act.put, List.setIfInBounds_toArray, List.set_cons_zero, List.set_cons_succ])
    | fail)
  have K0 : Hid ((reA r1)[0]? = some (.int .i64 2)) := by show _ = _; rw [reA_0, show r1.k = 2 from congrArg ReT.k et.out]
  have KX : Hid (SubA (reA r1) 3 (itA (uI 1 1))) := by have := reA_x r1; rw [show r1.x = uI 1 1 from congrArg ReT.x et.out] at this; exact this
  simp only [List.append_nil] at H
  refine region_mix _ _ [14] [] [0, 1, 2, 3, 4, 5, 6, 7, 8, 9, 10, 11, 12, 13, 14, 15, 16, 17, 18, 19, 20, 21, 22, 23, 24, 25] (by kernel_rfl) (by kernel_rfl) (by kernel_rfl) (by rfl) H (List.Sublist.refl _) (List.Sublist.refl _) ?_
  clear H
  intro W hne H
  repeat (first
    | (refine mix_skip (by rfl) (by rfl) ?_; try simp only [Act.put, List.setIfInBounds_toArray, List.set_cons_zero, List.set_cons_succ])
    | (refine mix_q (by rfl) (by rfl) (by rfl) (by rfl) ?_; intro K hK; first | (refine qF (by rfl) (by decide +kernel) (by repeat constructor) (by exact K0.out) ?_; try simp only [Act.put, List.setIfInBounds_toArray, List.set_cons_zero, List.set_cons_succ]; go_big_quiet_on) | (refine qU (by rfl) (by decide +kernel) (by repeat constructor) KX FXI.out ?_; try simp only [Act.put, List.setIfInBounds_toArray, List.set_cons_zero, List.set_cons_succ]; go_big_quiet_on) | (refine qB (by rfl) (by rfl) (by kernel_rfl) (EI.out) ?_; try simp only [Act.put, List.setIfInBounds_toArray, List.set_cons_zero, List.set_cons_succ]; go_big_quiet_on) | (go_big_quiet_op; go_big_quiet_on))
    | (refine mix_e (by rfl) (by rfl) (by rfl) ?_; go_wp2_with (first | ((with_reducible refine (UA.out _).mono ?_); rintro _ W ⟨rfl, hb⟩; replace H := hidk (H.out.call hb); clear hb; try simp only [Act.put, List.setIfInBounds_toArray, List.set_cons_zero, List.set_cons_succ]) | fail); first | refine mix_fin (by rfl) ?_ | refine mix_fin2 ?_ | refine mix_on (by first | exact H.out | exact H.out.tl | exact H.out.tn | exact H.out.tl.tn | exact H.out.tn.tl) ?_ | refine mix_on2 (by first | exact H.out | exact H.out.tl | exact H.out.tn | exact H.out.tl.tn | exact H.out.tn.tl) ?_))
  refine mix_end ?_
  clear hne
  go_wp2
  go_ret
  exact ⟨rfl, H.out.b⟩
set_option maxHeartbeats 32000000 in
theorem backK_true {en : ReT → List UInt8} {de : List UInt8 → ReT} (T : KeepTT en de) (s : ByteArray) (hs : s.size ≤ 100000) (w : World) : Calls Try.prog 28 #[.string s] w fun e w' => e = .returned (.bool true) ∧ Below w.heap.size w w' := by
  have H := hidk (Sep.start Try.prog w)
  cases hg : getRO en de s.data.toList with
  | none =>
    have G2 : Hid (∀ W, Calls Try.prog 27 #[.string s] W fun e w' => ∃ r', e = .returned (.tuple #[.agg (reA r'), .int .i64 140]) ∧ Hid (r'.t = zeroR) ∧ ROut w' W.heap.size r' ∧ Below W.heap.size W w') := fun W => by
      have := T.get s W hs
      rw [hg] at this
      exact this
    have ZIN := hidk zeroT_in
    have SR : Hid (∀ W (u : ReV), Hid (u.t = zeroR) → RIn W u → Calls Try.prog 22 #[.agg (reA u), .agg (reA zeroRv)] W fun e w' => e = .returned (.bool true) ∧ Below W.heap.size W w') := fun W u et h => refSameR_any u zeroRv W h.ok (rin_0 W).ok h.i.rd (rin_0 W).i.rd et.out
    clear hg T hs
    go_enter Try.func28, Try.ntmps28
    go_wp2_with (first
      | ((with_reducible show wpList _ _ _ (⟨_, .alloc _, _, _, _, _⟩ :: _) _ _); refine newS (by rfl) (by kernel_rfl) H ?_; clear H; intro gq W hq H; clear hq; try simp only [Act.put, List.setIfInBounds_toArray, List.set_cons_zero, List.set_cons_succ])
      | ((with_reducible show wpList _ _ _ (⟨_, .store _ _ _, _, _, _, _⟩ :: _) _ _); refine setS (by rfl) (by rfl) (by rfl) H (by assumption) (by repeat first | apply uH | apply uT) ?_; clear H; intro W H; try simp only [Act.put, List.setIfInBounds_toArray, List.set_cons_zero, List.set_cons_succ])
      | ((with_reducible show wpList _ _ _ (⟨_, .load _ _, _, _, _, _⟩ :: _) _ _); refine rdS (by rfl) (by rfl) (by decide +kernel) H (by repeat constructor) ?_; try simp only [Act.put, List.setIfInBounds_toArray, List.set_cons_zero, List.set_cons_succ])
      | ((with_reducible refine (G2.out _).mono ?_); rintro _ W ⟨r2, rfl, et2, ho, hb⟩; obtain ⟨N2, HQ, RI2⟩ := H.out.rout hb ho (by rw [et2.out]; exact ZIN.out) (by rw [ho.n, show r2.l = [] from congrArg ReT.l et2.out]; decide); have FR2 := hidk (reA_fit r2 (RI2.out _ HQ.out.has.l).1.ok); clear H ho hb; have H := HQ; clear HQ; try simp only [Act.put, List.setIfInBounds_toArray, List.set_cons_zero, List.set_cons_succ])
      | ((with_reducible show wpList _ _ _ (⟨_, .build _ _, _, _, _, _⟩ :: _) _ _); refine bldS (by rfl) (by with_reducible exact builtR_0) (by rfl) ?_; try simp only [Act.put, List.setIfInBounds_toArray, List.set_cons_zero, List.set_cons_succ])
      | ((with_reducible refine (SR.out _ r2 et2 (RI2.out _ H.out.has.l).1).mono ?_); rintro _ W ⟨rfl, hb⟩; replace H := hidk (H.out.call hb); clear hb; try simp only [Act.put, List.setIfInBounds_toArray, List.set_cons_zero, List.set_cons_succ])
      | fail)
    go_ret
    exact ⟨rfl, H.out.b⟩
  | some r =>
    obtain ⟨hm, he, hr⟩ := getRO_some hg
    have ok : OkT r := by rw [hr]; exact T.ok _
    have TIN := hidk (mayT_in hm ok)
    have G1 : Hid (∀ W, Calls Try.prog 27 #[.string s] W fun e w' => ∃ r', e = .returned (.tuple #[.agg (reA r'), .int .i64 0]) ∧ Hid (r'.t = r) ∧ ROut w' W.heap.size r' ∧ Below W.heap.size W w') := fun W => by
      have := T.get s W hs
      rw [hg] at this
      exact this
    have PR : Hid (∀ W (u : ReV), Hid (u.t = r) → RIn W u → Calls Try.prog 24 #[.agg (reA u)] W fun e w' => e = .returned (.tuple #[.string s, .int .i64 0]) ∧ Below W.heap.size W w') := fun W u et h => by
      have := T.put u W h
      unfold putRE at this
      rw [et.out, if_pos hm, if_pos hm, he] at this
      exact this
    have MR : Hid (∀ W (u : ReV), Hid (u.t = r) → RIn W u → Calls Try.prog 25 #[.agg (reA u)] W fun e w' => e = .returned (.bool true) ∧ Below W.heap.size W w') := fun W u et h => by
      have := refMayR_any u W h
      rw [et.out, hm] at this
      exact this
    clear hg T hs hm he hr ok
    go_enter Try.func28, Try.ntmps28
    go_wp2_with (first
      | ((with_reducible show wpList _ _ _ (⟨_, .alloc _, _, _, _, _⟩ :: _) _ _); refine newS (by rfl) (by kernel_rfl) H ?_; clear H; intro gq W hq H; clear hq; try simp only [Act.put, List.setIfInBounds_toArray, List.set_cons_zero, List.set_cons_succ])
      | ((with_reducible show wpList _ _ _ (⟨_, .store _ _ _, _, _, _, _⟩ :: _) _ _); refine setS (by rfl) (by rfl) (by rfl) H (by assumption) (by repeat first | apply uH | apply uT) ?_; clear H; intro W H; try simp only [Act.put, List.setIfInBounds_toArray, List.set_cons_zero, List.set_cons_succ])
      | ((with_reducible show wpList _ _ _ (⟨_, .load _ _, _, _, _, _⟩ :: _) _ _); refine rdS (by rfl) (by rfl) (by decide +kernel) H (by repeat constructor) ?_; try simp only [Act.put, List.setIfInBounds_toArray, List.set_cons_zero, List.set_cons_succ])
      | ((with_reducible refine (G1.out _).mono ?_); rintro _ W ⟨r1, rfl, et, ho, hb⟩; obtain ⟨N1, HQ, RI⟩ := H.out.rout hb ho (by rw [et.out]; exact TIN.out.1) (by rw [ho.n]; have q := TIN.out.2; rw [← et.out] at q; exact Nat.le_trans q (by decide)); have FR := hidk (reA_fit r1 (RI.out _ HQ.out.has.l).1.ok); clear H ho hb; have H := HQ; clear HQ; try simp only [Act.put, List.setIfInBounds_toArray, List.set_cons_zero, List.set_cons_succ])
      | ((with_reducible refine (PR.out _ r1 et (RI.out _ H.out.has.l).1).mono ?_); rintro _ W ⟨rfl, hb⟩; replace H := hidk (H.out.call hb); clear hb; try simp only [Act.put, List.setIfInBounds_toArray, List.set_cons_zero, List.set_cons_succ])
      | ((with_reducible refine (MR.out _ r1 et (RI.out _ H.out.has.l).1).mono ?_); rintro _ W ⟨rfl, hb⟩; replace H := hidk (H.out.call hb); clear hb; try simp only [Act.put, List.setIfInBounds_toArray, List.set_cons_zero, List.set_cons_succ])
      | fail)
    go_ret
    exact ⟨rfl, H.out.b⟩
end Go.Proofs.Ytjpmmbmhkpgjcaa

/- What the statements of keep lean on. -/
namespace Go.Proofs.Ytjpmmbmhkpgjcaa
open Go.RowKit Nums Sums
set_option linter.unusedVariables false
set_option linter.unusedSimpArgs false
set_option maxRecDepth 100000

end Go.Proofs.Ytjpmmbmhkpgjcaa

/- KeepReads. -/
namespace Go.Proofs.Ytjpmmbmhkpgjcaa
open Go.RowKit Nums Sums
set_option linter.unusedVariables false
set_option linter.unusedSimpArgs false
set_option maxRecDepth 100000
theorem strTo (S : ByteArray) (n : Nat) (h : n ≤ S.size) (W : World) : (Instr.sliceAt 9 (.string S) none (some (.int .i64 (n : Int))) none).run Try.prog W = .ok (.string (S.extract 0 n)) W := by
  have h1 : (n : Int) ≤ (S.size : Int) := by omega
  have h2 : (0 : Int) ≤ (n : Int) := by omega
  unfold Instr.sliceAt
  simp
  rw [run_slice_string_h W 9 S Try.underlying9 .i64 (n : Int) h2 h1]
  simp
theorem strFrom (S : ByteArray) (n : Nat) (h : n ≤ S.size) (W : World) : (Instr.sliceAt 9 (.string S) (some (.int .i64 (n : Int))) none none).run Try.prog W = .ok (.string (S.extract n S.size)) W := by
  have h1 : (n : Int) ≤ (S.size : Int) := by omega
  have h2 : (0 : Int) ≤ (n : Int) := by omega
  unfold Instr.sliceAt
  simp
  rw [run_slice_string_l W 9 S Try.underlying9 .i64 (n : Int) h2 h1]
  simp
theorem strIx (S : ByteArray) (n : Nat) (h : n < S.size) (W : World) : (Instr.index 9 (.string S) (.int .i64 (n : Int))).run Try.prog W = .ok (.int .u8 ((S[n]'h).toNat : Nat)) W := by
  rw [run_index_string W 9 S .i64 (n : Int) Try.underlying9, dif_pos ⟨by omega, by omega⟩]
  simp
theorem strAdd (a b : ByteArray) (h : a.size + b.size ≤ 100000) (W : World) : (binOp .add 9 (.string a) (.string b)).run Try.prog W = .ok (.string (a ++ b)) W := by
  have := run_string_add_if (P := Try.prog) (w := W) a b
  rw [if_neg (by omega)] at this
  simp [binOp, this]
section
variable {a : Act} {d : Option Tmp} {tp t2 : TypeId} {ps : String} {af : Array Edge} {gd : Option (Nat × Bool)} {C : World → Prop} {K : Act → Prop}
theorem qSTo {x hi : Operand} {S : ByteArray} {n : Nat} (hx : a.eval x = .string S) (hh : a.eval hi = .int .i64 (n : Int)) (hn : n ≤ S.size) (h : K (a.put d (.string (S.extract 0 n)))) : Oper.quiet Try.prog ⟨d, .slice 9 x none (some hi) none, tp, ps, af, gd⟩ a C K := by
  refine q_of (v := .string (S.extract 0 n)) (fun W _ => ?_) h
  unfold execOp
  simp only [Option.map_some, Option.map_none, hx, hh, Sem.run_bind, strTo S n hn W, Result.andThen_ok, Sem.run_pure]
theorem qSFrom {x lo : Operand} {S : ByteArray} {n : Nat} (hx : a.eval x = .string S) (hh : a.eval lo = .int .i64 (n : Int)) (hn : n ≤ S.size) (h : K (a.put d (.string (S.extract n S.size)))) : Oper.quiet Try.prog ⟨d, .slice 9 x (some lo) none none, tp, ps, af, gd⟩ a C K := by
  refine q_of (v := .string (S.extract n S.size)) (fun W _ => ?_) h
  unfold execOp
  simp only [Option.map_some, Option.map_none, hx, hh, Sem.run_bind, strFrom S n hn W, Result.andThen_ok, Sem.run_pure]
theorem ixS {w : World} {ops : Array Oper} {rest : List Oper} {Q : Exit → Act → World → Prop} {x i : Operand} {S : ByteArray} {n : Nat} (hw : Region.wanted ⟨d, .index 9 x i, tp, ps, af, gd⟩ (yielded ops a.tmps) = true) (hx : a.eval x = .string S) (hh : a.eval i = .int .i64 (n : Int)) (hn : n < S.size) {c : Int} (hc : ((S[n]'hn).toNat : Int) = c) (h : wpList Try.prog ops Q rest (a.put d (.int .u8 c)) w) : wpList Try.prog ops Q (⟨d, .index 9 x i, tp, ps, af, gd⟩ :: rest) a w := by
  subst hc
  exact BigFrame.wpList_want hw fun K hK => by
    unfold Oper.wp execOp
    simp only [hx, hh, Sem.run_bind, strIx S n hn w, Result.andThen_ok]
    exact hK _ _ h
theorem qSAdd {x y : Operand} {X Y : ByteArray} (hx : a.eval x = .string X) (hy : a.eval y = .string Y) (hn : X.size + Y.size ≤ 100000) (h : K (a.put d (.string (X ++ Y)))) : Oper.quiet Try.prog ⟨d, .binOp .add 9 x y t2, tp, ps, af, gd⟩ a C K := by
  refine q_of (v := .string (X ++ Y)) (fun W _ => ?_) h
  unfold execOp
  have hg : (eqGuard .add 9 x y (.string X) (.string Y)).run Try.prog W = .ok () W := by rfl
  simp only [hx, hy, Sem.run_bind, hg, strAdd X Y hn W, Result.andThen_ok, Sem.run_pure]
end
theorem build_u8 (W : World) (c : Int) : (Instr.buildSlice 61 1 #[(0, .int .u8 c)]).run Try.prog W = .ok (.slice (some ⟨W.heap.size, 0, none⟩) 1 1) (W.alloc (.cells #[.int .u8 c] 5)) := by
  obtain ⟨ie, hie, hz, hs, hy⟩ := info_parts info5
  refine run_buildSlice W 61 5 1 _ _ ie _ Try.underlying61 hie hz (by rw [hs]; omega) (by rw [hs]; omega) ?_
  rw [hs]
  generalize hcs : Array.map _ (Array.range (1 * 1)) = cs
  have hcz : cs.size = 1 := by rw [← hcs]; simp
  obtain ⟨x, rfl⟩ : ∃ x, cs = #[x] := ⟨cs[0], by apply Array.ext <;> simp_all⟩
  simp [Instr.fill, Value.cells]
theorem conv_u8 (W : World) (y : UInt8) : (Go.convert 61 9 (.slice (some ⟨W.heap.size, 0, none⟩) 1 1)).run Try.prog (W.alloc (.cells #[.int .u8 (y.toNat : Int)] 5)) = .ok (.string ⟨#[y]⟩) (W.alloc (.cells #[.int .u8 (y.toNat : Int)] 5)) :=
  conv_any (l := [y]) (heap_alloc_new W _) rfl
theorem cmk_z (w : World) : CmK w zeroKv := ⟨ireads_none w, fun _ => rfl, (fun x h => by cases h), clreads_none w, fun _ => rfl, (fun x h => by cases h), in64_0, in64_0⟩
theorem RIn.okT2 {w : World} {r : ReV} (h : RIn w r) : OkT r.t := ⟨fun x hx => (h.i.its x hx).e.ok, h.xo, h.m.d⟩
theorem ext_size (S : ByteArray) (a b : Nat) (h : b ≤ S.size) : (S.extract a b).size = b - a := by rw [ByteArray.size_extract]; omega
set_option maxHeartbeats 32000000 in
theorem keepReads_in {en : ReT → List UInt8} {de : List UInt8 → ReT} (T : KeepTT en de) (s : ByteArray) (r : ReV) (i : Int) (b : UInt8) (w : World) (hmx : s.size ≤ maxLen) (h : CmR w r) (hi : In64 i) : Calls Try.prog 7 #[.string s, .agg (reA r), .int .i64 i, .int .u8 (b.toNat : Int)] w fun e w' => e = .returned (.bool true) ∧ Below w.heap.size w w' := by
  have FX : Hid (Fit Try.prog 42 (reA r)) := reA_fit r h.ok
  have hmx2 : s.size ≤ 9223372036854775807 := by unfold maxLen at hmx; omega
  obtain ⟨b1, hb1⟩ : ∃ b, bigK zeroKv r = b := ⟨_, rfl⟩
  have Wb1 : Hid (∀ W, Below w.heap.size w W → Calls Try.prog 9 #[.agg (keA zeroKv), .agg (reA r)] W fun e w' => e = .returned (.bool b1) ∧ Below W.heap.size W w') := fun W hb => by rw [← hb1]; exact refBigK_any zeroKv r W (cmk_z W) (h.keep hb)
  have H := hidk (Sep.start Try.prog w)
  by_cases h20 : 20000 < s.size
  · have hd : decide ((20000 : Int) < (s.size : Int)) = true := by rw [decide_eq_true_eq]; omega
    clear h hb1 T hi
    go_enter Try.func7, Try.ntmps7
    go_wp2_with (first
      | ((with_reducible show wpList _ _ _ (⟨_, .box _ _, _, _, _, _⟩ :: _) _ _); refine boxS (by rfl) (by rfl) H (by assumption) ?_; clear H; intro gq W hq H; clear hq; try simp only [Act.put, List.setIfInBounds_toArray, List.set_cons_zero, List.set_cons_succ])
      | ((with_reducible show wpList _ _ _ (⟨_, .load _ _, _, _, _, _⟩ :: _) _ _); refine rdS (by rfl) (by rfl) (by decide +kernel) H (by repeat constructor) ?_; try simp only [Act.put, List.setIfInBounds_toArray, List.set_cons_zero, List.set_cons_succ])
      | ((with_reducible show wpList _ _ _ (⟨_, .build _ _, _, _, _, _⟩ :: _) _ _); refine bldS (by rfl) (by with_reducible exact builtK_0) (by rfl) ?_; try simp only [Act.put, List.setIfInBounds_toArray, List.set_cons_zero, List.set_cons_succ])
      | ((with_reducible refine (Wb1.out _ H.out.b).mono ?_); rintro _ W ⟨rfl, hb⟩; replace H := hidk (H.out.call hb); clear hb; try simp only [Act.put, List.setIfInBounds_toArray, List.set_cons_zero, List.set_cons_succ])
      | fail)
    go_ret
    exact ⟨rfl, H.out.b⟩
  have hd : decide ((20000 : Int) < (s.size : Int)) = false := by rw [decide_eq_false_iff_not]; omega
  cases b1
  case true =>
    clear h hb1 T hi
    go_enter Try.func7, Try.ntmps7
    go_wp2_with (first
      | ((with_reducible show wpList _ _ _ (⟨_, .box _ _, _, _, _, _⟩ :: _) _ _); refine boxS (by rfl) (by rfl) H (by assumption) ?_; clear H; intro gq W hq H; clear hq; try simp only [Act.put, List.setIfInBounds_toArray, List.set_cons_zero, List.set_cons_succ])
      | ((with_reducible show wpList _ _ _ (⟨_, .load _ _, _, _, _, _⟩ :: _) _ _); refine rdS (by rfl) (by rfl) (by decide +kernel) H (by repeat constructor) ?_; try simp only [Act.put, List.setIfInBounds_toArray, List.set_cons_zero, List.set_cons_succ])
      | ((with_reducible show wpList _ _ _ (⟨_, .build _ _, _, _, _, _⟩ :: _) _ _); refine bldS (by rfl) (by with_reducible exact builtK_0) (by rfl) ?_; try simp only [Act.put, List.setIfInBounds_toArray, List.set_cons_zero, List.set_cons_succ])
      | ((with_reducible refine (Wb1.out _ H.out.b).mono ?_); rintro _ W ⟨rfl, hb⟩; replace H := hidk (H.out.call hb); clear hb; try simp only [Act.put, List.setIfInBounds_toArray, List.set_cons_zero, List.set_cons_succ])
      | fail)
    go_ret
    exact ⟨rfl, H.out.b⟩
  obtain ⟨_, hr, _, _, h60⟩ := bigK_no (cmk_z w) h hb1
  have WL : Hid (∀ W, Calls Try.prog 26 #[] W fun e w' => e = .returned (.bool true) ∧ Below W.heap.size W w') := fun W => laysK_true T W
  have BK : Hid (∀ W (x : ByteArray), x.size ≤ 100000 → Calls Try.prog 28 #[.string x] W fun e w' => e = .returned (.bool true) ∧ Below W.heap.size W w') := fun W x hx => backK_true T x hx W
  obtain ⟨S, hS⟩ : ∃ S : ByteArray, (⟨(if mayR r.t = true then en r.t else []).toArray⟩ : ByteArray) = S := ⟨_, rfl⟩
  obtain ⟨E, hE⟩ : ∃ E, putRE r.t = E := ⟨_, rfl⟩
  have hSz : S.size ≤ 20000 := by
    have e : S.size = (if mayR r.t = true then en r.t else []).length := by rw [← hS]; rfl
    rw [e]
    by_cases hm : mayR r.t = true
    · rw [if_pos hm]
      have hlen := T.len _ hm hr.okT2
      have hln := hr.i.rd.ln
      have hl2 : r.t.l.length ≤ 60 := by show r.l.length ≤ _; omega
      split at hlen <;> omega
    · rw [if_neg hm]; exact Nat.zero_le _
  have sZ : Hid (s.size ≤ 100000) := by show _ ≤ _; omega
  have SZ : Hid (S.size ≤ 100000) := by show _ ≤ _; omega
  have P1 : Hid (∀ W, Below w.heap.size w W → Calls Try.prog 24 #[.agg (reA r)] W fun e w' => e = .returned (.tuple #[.string S, .int .i64 E]) ∧ Below W.heap.size W w') := fun W hb => by
    have := T.put r W (hr.keep hb)
    rw [hS, hE] at this
    exact this
  have hsx : S.size ≤ 9223372036854775807 := by omega
  clear h hb1 T hr hS hE h20
  by_cases h0 : 0 ≤ i
  · have d0 : decide (0 ≤ i) = true := decide_eq_true h0
    obtain ⟨n, rfl⟩ : ∃ n : Nat, i = (n : Int) := ⟨i.toNat, by omega⟩
    by_cases hlt : n < S.size
    · have d1 : decide ((n : Int) < (S.size : Int)) = true := by rw [decide_eq_true_eq]; omega
      obtain ⟨c, hc⟩ : ∃ c : UInt8, S[n]'hlt = c := ⟨_, rfl⟩
      have HLT : Hid (n < S.size) := hlt
      have HC2 : Hid (((S[n]'(HLT.out)).toNat : Int) = (c.toNat : Int)) := by show _ = _; rw [hc]
      clear hc
      obtain ⟨y, hy⟩ : ∃ y : UInt8, y = c ^^^ b := ⟨_, rfl⟩
      have hx : bits .xor .u8 (c.toNat : Int) (b.toNat : Int) = (y.toNat : Int) := by rw [hy]; exact xor8 c b
      have hn1 : n ≤ S.size := by omega
      have hn2 : n + 1 ≤ S.size := by omega
      have hw1 := wrap_int ((n : Int) + 1) (by omega) (by omega)
      have e1 := ext_size S 0 n hn1
      have e2 := ext_size S (n + 1) S.size (Nat.le_refl _)
      have hz1 : (S.extract 0 n).size + (⟨#[y]⟩ : ByteArray).size ≤ 100000 := by rw [e1]; show _ + 1 ≤ _; omega
      have hz2 : (S.extract 0 n ++ (⟨#[y]⟩ : ByteArray)).size + (S.extract (n + 1) S.size).size ≤ 100000 := by rw [ByteArray.size_append, e1, e2]; show _ + 1 + _ ≤ _; omega
      obtain ⟨T2, hT2⟩ : ∃ T2 : ByteArray, S.extract 0 n ++ (⟨#[y]⟩ : ByteArray) ++ S.extract (n + 1) S.size = T2 := ⟨_, rfl⟩
      have T2Z : Hid (T2.size ≤ 100000) := by show _ ≤ _; rw [← hT2, ByteArray.size_append]; exact hz2
      clear hy e1 e2
      go_enter Try.func7, Try.ntmps7
      go_wp2_with (first
        | ((with_reducible show wpList _ _ _ (⟨_, .box _ _, _, _, _, _⟩ :: _) _ _); refine boxS (by rfl) (by rfl) H (by assumption) ?_; clear H; intro gq W hq H; clear hq; try simp only [Act.put, List.setIfInBounds_toArray, List.set_cons_zero, List.set_cons_succ])
        | ((with_reducible show wpList _ _ _ (⟨_, .load _ _, _, _, _, _⟩ :: _) _ _); refine rdS (by rfl) (by rfl) (by decide +kernel) H (by repeat constructor) ?_; try simp only [Act.put, List.setIfInBounds_toArray, List.set_cons_zero, List.set_cons_succ])
        | ((with_reducible show wpList _ _ _ (⟨_, .build _ _, _, _, _, _⟩ :: _) _ _); refine bldS (by rfl) (by with_reducible exact builtK_0) (by rfl) ?_; try simp only [Act.put, List.setIfInBounds_toArray, List.set_cons_zero, List.set_cons_succ])
        | ((with_reducible refine (Wb1.out _ H.out.b).mono ?_); rintro _ W ⟨rfl, hb⟩; replace H := hidk (H.out.call hb); clear hb; try simp only [Act.put, List.setIfInBounds_toArray, List.set_cons_zero, List.set_cons_succ])
        | ((with_reducible refine (P1.out _ H.out.b).mono ?_); rintro _ W ⟨rfl, hb⟩; replace H := hidk (H.out.call hb); clear hb; try simp only [Act.put, List.setIfInBounds_toArray, List.set_cons_zero, List.set_cons_succ])
        | fail)
      refine region_mix [(gq, reA r, 42)] [] [5, 8, 9] [] [0, 1, 2, 3, 4, 6, 11, 12, 13, 14, 5, 7, 8, 9, 10, 15, 16] (by kernel_rfl) (by kernel_rfl) (by kernel_rfl) (by rfl) H (List.Sublist.refl _) (List.nil_sublist _) ?_
      clear H
      intro W hne H
      repeat (first
        | (refine mix_skip (by rfl) (by rfl) ?_; try simp only [Act.put, List.setIfInBounds_toArray, List.set_cons_zero, List.set_cons_succ])
        | (refine mix_q (by rfl) (by rfl) (by rfl) (by rfl) ?_; intro K hK; first | ((with_reducible show Oper.quiet _ (⟨_, .slice 9 _ none (some _) none, _, _, _, _⟩ : Oper) _ _ _); refine qSTo (by rfl) (by rfl) hn1 ?_; try simp only [Act.put, List.setIfInBounds_toArray, List.set_cons_zero, List.set_cons_succ]; go_big_quiet_on) | ((with_reducible show Oper.quiet _ (⟨_, .slice 9 _ (some _) none none, _, _, _, _⟩ : Oper) _ _ _); refine qSFrom (by rfl) (by rfl) hn2 ?_; try simp only [Act.put, List.setIfInBounds_toArray, List.set_cons_zero, List.set_cons_succ]; go_big_quiet_on) | ((with_reducible show Oper.quiet _ (⟨_, .binOp .add 9 _ _ _, _, _, _, _⟩ : Oper) _ _ _); refine qSAdd (by rfl) (by rfl) (by first | with_reducible exact hz1 | with_reducible exact hz2) ?_; try simp only [Act.put, List.setIfInBounds_toArray, List.set_cons_zero, List.set_cons_succ]; go_big_quiet_on) | (go_big_quiet_op; go_big_quiet_on))
        | (refine mix_e (by rfl) (by rfl) (by rfl) ?_; go_wp2_with (first | ((with_reducible show wpList _ _ _ (⟨_, .index _ _ _, _, _, _, _⟩ :: _) _ _); refine ixS (by rfl) (by rfl) (by rfl) HLT.out HC2.out ?_; try simp only [Act.put, List.setIfInBounds_toArray, List.set_cons_zero, List.set_cons_succ]) | ((with_reducible show wpList _ _ _ (⟨_, .buildSlice _ _ _, _, _, _, _⟩ :: _) _ _); refine bslS (by rfl) (build_u8 _ _) (by rfl) ?_; try simp only [Act.put, List.setIfInBounds_toArray, List.set_cons_zero, List.set_cons_succ]) | ((with_reducible show wpList _ _ _ (⟨_, .convert _ _ _, _, _, _, _⟩ :: _) _ _); refine cvS (by rfl) (by rfl) (conv_u8 _ y) ?_; try simp only [Act.put, List.setIfInBounds_toArray, List.set_cons_zero, List.set_cons_succ]) | fail); first | refine mix_fin (by rfl) ?_ | refine mix_fin2 ?_ | refine mix_on (by first | exact H.out.sub (List.Sublist.refl _) (List.nil_sublist _) | exact (H.out.call ((Below.refl _ _).alloc (Nat.le_refl _) _)).sub (List.Sublist.refl _) (List.nil_sublist _)) ?_ | refine mix_on2 (by first | exact H.out.sub (List.Sublist.refl _) (List.nil_sublist _) | exact (H.out.call ((Below.refl _ _).alloc (Nat.le_refl _) _)).sub (List.Sublist.refl _) (List.nil_sublist _)) ?_))
      refine mix_end ?_
      clear hne
      replace H := hidk (H.out.call ((Below.refl _ _).alloc (Nat.le_refl _) (.cells #[.int .u8 (y.toNat : Int)] 5)))
      rw [hT2]
      go_wp2_with (first
        | ((with_reducible refine (WL.out _).mono ?_); rintro _ W ⟨rfl, hb⟩; replace H := hidk (H.out.call hb); clear hb; try simp only [Act.put, List.setIfInBounds_toArray, List.set_cons_zero, List.set_cons_succ])
        | ((with_reducible refine (BK.out _ s sZ.out).mono ?_); rintro _ W ⟨rfl, hb⟩; replace H := hidk (H.out.call hb); clear hb; try simp only [Act.put, List.setIfInBounds_toArray, List.set_cons_zero, List.set_cons_succ])
        | ((with_reducible refine (BK.out _ T2 T2Z.out).mono ?_); rintro _ W ⟨rfl, hb⟩; replace H := hidk (H.out.call hb); clear hb; try simp only [Act.put, List.setIfInBounds_toArray, List.set_cons_zero, List.set_cons_succ])
        | fail)
      go_ret
      exact ⟨rfl, H.out.b⟩
    · have d1 : decide ((n : Int) < (S.size : Int)) = false := by rw [decide_eq_false_iff_not]; omega
      go_enter Try.func7, Try.ntmps7
      go_wp2_with (first
        | ((with_reducible show wpList _ _ _ (⟨_, .box _ _, _, _, _, _⟩ :: _) _ _); refine boxS (by rfl) (by rfl) H (by assumption) ?_; clear H; intro gq W hq H; clear hq; try simp only [Act.put, List.setIfInBounds_toArray, List.set_cons_zero, List.set_cons_succ])
        | ((with_reducible show wpList _ _ _ (⟨_, .load _ _, _, _, _, _⟩ :: _) _ _); refine rdS (by rfl) (by rfl) (by decide +kernel) H (by repeat constructor) ?_; try simp only [Act.put, List.setIfInBounds_toArray, List.set_cons_zero, List.set_cons_succ])
        | ((with_reducible show wpList _ _ _ (⟨_, .build _ _, _, _, _, _⟩ :: _) _ _); refine bldS (by rfl) (by with_reducible exact builtK_0) (by rfl) ?_; try simp only [Act.put, List.setIfInBounds_toArray, List.set_cons_zero, List.set_cons_succ])
        | ((with_reducible refine (Wb1.out _ H.out.b).mono ?_); rintro _ W ⟨rfl, hb⟩; replace H := hidk (H.out.call hb); clear hb; try simp only [Act.put, List.setIfInBounds_toArray, List.set_cons_zero, List.set_cons_succ])
        | ((with_reducible refine (P1.out _ H.out.b).mono ?_); rintro _ W ⟨rfl, hb⟩; replace H := hidk (H.out.call hb); clear hb; try simp only [Act.put, List.setIfInBounds_toArray, List.set_cons_zero, List.set_cons_succ])
        | ((with_reducible refine (WL.out _).mono ?_); rintro _ W ⟨rfl, hb⟩; replace H := hidk (H.out.call hb); clear hb; try simp only [Act.put, List.setIfInBounds_toArray, List.set_cons_zero, List.set_cons_succ])
        | ((with_reducible refine (BK.out _ s sZ.out).mono ?_); rintro _ W ⟨rfl, hb⟩; replace H := hidk (H.out.call hb); clear hb; try simp only [Act.put, List.setIfInBounds_toArray, List.set_cons_zero, List.set_cons_succ])
        | ((with_reducible refine (BK.out _ S SZ.out).mono ?_); rintro _ W ⟨rfl, hb⟩; replace H := hidk (H.out.call hb); clear hb; try simp only [Act.put, List.setIfInBounds_toArray, List.set_cons_zero, List.set_cons_succ])
        | fail)
      go_ret
      exact ⟨rfl, H.out.b⟩
  · have d0 : decide (0 ≤ i) = false := decide_eq_false h0
    go_enter Try.func7, Try.ntmps7
    go_wp2_with (first
      | ((with_reducible show wpList _ _ _ (⟨_, .box _ _, _, _, _, _⟩ :: _) _ _); refine boxS (by rfl) (by rfl) H (by assumption) ?_; clear H; intro gq W hq H; clear hq; try simp only [Act.put, List.setIfInBounds_toArray, List.set_cons_zero, List.set_cons_succ])
      | ((with_reducible show wpList _ _ _ (⟨_, .load _ _, _, _, _, _⟩ :: _) _ _); refine rdS (by rfl) (by rfl) (by decide +kernel) H (by repeat constructor) ?_; try simp only [Act.put, List.setIfInBounds_toArray, List.set_cons_zero, List.set_cons_succ])
      | ((with_reducible show wpList _ _ _ (⟨_, .build _ _, _, _, _, _⟩ :: _) _ _); refine bldS (by rfl) (by with_reducible exact builtK_0) (by rfl) ?_; try simp only [Act.put, List.setIfInBounds_toArray, List.set_cons_zero, List.set_cons_succ])
      | ((with_reducible refine (Wb1.out _ H.out.b).mono ?_); rintro _ W ⟨rfl, hb⟩; replace H := hidk (H.out.call hb); clear hb; try simp only [Act.put, List.setIfInBounds_toArray, List.set_cons_zero, List.set_cons_succ])
      | ((with_reducible refine (P1.out _ H.out.b).mono ?_); rintro _ W ⟨rfl, hb⟩; replace H := hidk (H.out.call hb); clear hb; try simp only [Act.put, List.setIfInBounds_toArray, List.set_cons_zero, List.set_cons_succ])
      | ((with_reducible refine (WL.out _).mono ?_); rintro _ W ⟨rfl, hb⟩; replace H := hidk (H.out.call hb); clear hb; try simp only [Act.put, List.setIfInBounds_toArray, List.set_cons_zero, List.set_cons_succ])
      | ((with_reducible refine (BK.out _ s sZ.out).mono ?_); rintro _ W ⟨rfl, hb⟩; replace H := hidk (H.out.call hb); clear hb; try simp only [Act.put, List.setIfInBounds_toArray, List.set_cons_zero, List.set_cons_succ])
      | ((with_reducible refine (BK.out _ S SZ.out).mono ?_); rintro _ W ⟨rfl, hb⟩; replace H := hidk (H.out.call hb); clear hb; try simp only [Act.put, List.setIfInBounds_toArray, List.set_cons_zero, List.set_cons_succ])
      | fail)
    go_ret
    exact ⟨rfl, H.out.b⟩
end Go.Proofs.Ytjpmmbmhkpgjcaa
