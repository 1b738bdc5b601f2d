/- Texts of our own that the row of KeepReads leans on, part 38. -/
import Derived.Test.YtjpmmbmhkpgjcaaKeepReadsJ27
import Derived.Test.YtjpmmbmhkpgjcaaKeepReadsJ28
import Derived.Test.YtjpmmbmhkpgjcaaKeepReadsJ29
import Derived.Test.YtjpmmbmhkpgjcaaKeepReadsJ33
import Derived.Test.YtjpmmbmhkpgjcaaKeepReadsJ36

/- What keep's New, Check and Leader answer. -/
namespace Go.Proofs.Ytjpmmbmhkpgjcaa
open Go.RowKit Nums Sums
set_option linter.unusedVariables false
set_option linter.unusedSimpArgs false
set_option maxRecDepth 100000
theorem kcEpoch (n : Int) (w : World) : Calls Try.prog 54 #[.int .i64 n] w fun e w' => e = .returned (.bool (decide (1 ≤ n) && decide (n ≤ 900000000))) ∧ w = w' := by
  obtain ⟨b1, h1⟩ : ∃ b, decide (1 ≤ n) = b := ⟨_, rfl⟩
  obtain ⟨b2, h2⟩ : ∃ b, decide (n ≤ 900000000) = b := ⟨_, rfl⟩
  rw [h1, h2]
  go_enter Try.func54, Try.ntmps54
  cases b1
  all_goals go_wp2
  all_goals (go_ret; exact ⟨by rfl, rfl⟩)
end Go.Proofs.Ytjpmmbmhkpgjcaa

/- What keep's New, Check, Leader and mayBe answer. -/
namespace Go.Proofs.Ytjpmmbmhkpgjcaa
open Go.RowKit Nums Sums
set_option linter.unusedVariables false
set_option linter.unusedSimpArgs false
set_option maxRecDepth 100000
theorem kcBuiltI : Try.prog.built 40 [] = some (itA zeroI) := by kernel_rfl
theorem kcBuiltC : Try.prog.built 36 [] = some (clA zeroC) := by kernel_rfl
def noneR (v : ReV) : Bool := (v.e == (0 : Int)) && (v.f == (0 : Int)) && eqIB v.x zeroI && ((v.n : Int) == (0 : Int)) && eqCB v.m zeroC
set_option maxHeartbeats 16000000 in
theorem kcNothing_any (v : ReV) (ok : OkR v) (hmx : v.n ≤ 9223372036854775807) (w : World) : Calls Try.prog 62 #[.agg (reA v)] w fun x w' => x = .returned (.bool (noneR v)) ∧ Below w.heap.size w w' := by
  have FX : Hid (Fit Try.prog 42 (reA v)) := reA_fit v ok
  have FXS := hidk (itA_fit v.x ok.x).s
  have FMS := hidk (clA_fit v.m ok.m).s
  have r113 := hidk (reA_113 v ok)
  obtain ⟨i0, hi0⟩ : ∃ b, eqIB v.x zeroI = b := ⟨_, rfl⟩
  obtain ⟨m0, hm0⟩ : ∃ b, eqCB v.m zeroC = b := ⟨_, rfl⟩
  obtain ⟨e0, he0⟩ : ∃ b, (v.e == (0 : Int)) = b := ⟨_, rfl⟩
  obtain ⟨f0, hf0⟩ : ∃ b, (v.f == (0 : Int)) = b := ⟨_, rfl⟩
  obtain ⟨n0, hn0⟩ : ∃ b, ((v.n : Int) == (0 : Int)) = b := ⟨_, rfl⟩
  have HRES : Hid (noneR v = (e0 && f0 && i0 && n0 && m0)) := by show _ = _; unfold noneR; rw [hi0, hm0, he0, hf0, hn0]
  have EI : Hid (∀ W, (binOp .eql 40 (.agg (itA v.x)) (.agg (itA zeroI))).run Try.prog W = .ok (.bool i0) W) := fun W => eqItem _ _ ok.x zeroE_ok (itA v.x) (itA zeroI) (hidk rfl) (hidk rfl) i0 (by rw [← hi0, eqIB_iff]) W
  have EM : Hid (∀ W, (binOp .eql 36 (.agg (clA v.m)) (.agg (clA zeroC))).run Try.prog W = .ok (.bool m0) W) := fun W => eqClaim _ _ ok.m rfl (clA v.m) (clA zeroC) (hidk rfl) (hidk rfl) m0 (by rw [← hm0, eqCB_iff]) W
  have H := hidk (Sep.start Try.prog w)
  clear hi0 hm0
  go_enter Try.func62, Try.ntmps62
  go_wp2_with (first
    | ((with_reducible show wpList _ _ _ (⟨_, .box _ _, _, _, _, _⟩ :: _) _ _); refine boxS (by rfl) (by rfl) H (by assumption) ?_; clear H; intro gq W hq H; clear hq; try simp only [Act.put, List.setIfInBounds_toArray, List.set_cons_zero, List.set_cons_succ])
    | ((with_reducible show wpList _ _ _ (⟨_, .binOp .eql 40 _ _ _, _, _, _, _⟩ :: _) _ _); refine binS (by rfl) (by rfl) (by rfl) (by kernel_rfl) (EI.out _) ?_; try simp only [Act.put, List.setIfInBounds_toArray, List.set_cons_zero, List.set_cons_succ])
    | ((with_reducible show wpList _ _ _ (⟨_, .binOp .eql 36 _ _ _, _, _, _, _⟩ :: _) _ _); refine binS (by rfl) (by rfl) (by rfl) (by kernel_rfl) (EM.out _) ?_; try simp only [Act.put, List.setIfInBounds_toArray, List.set_cons_zero, List.set_cons_succ])
    | ((with_reducible show wpList _ _ _ (⟨_, .load _ _, _, _, _, _⟩ :: _) _ _); refine subS (by rfl) (by rfl) (by decide +kernel) H (by repeat constructor) (reA_x v) FXS.out ?_; try simp only [Act.put, List.setIfInBounds_toArray, List.set_cons_zero, List.set_cons_succ])
    | ((with_reducible show wpList _ _ _ (⟨_, .load _ _, _, _, _, _⟩ :: _) _ _); refine subS (by rfl) (by rfl) (by decide +kernel) H (by repeat constructor) (reA_m v ok) FMS.out ?_; try simp only [Act.put, List.setIfInBounds_toArray, List.set_cons_zero, List.set_cons_succ])
    | ((with_reducible show wpList _ _ _ (⟨_, .build _ _, _, _, _, _⟩ :: _) _ _); refine bldS (by rfl) (by with_reducible exact kcBuiltI) (by rfl) ?_; try simp only [Act.put, List.setIfInBounds_toArray, List.set_cons_zero, List.set_cons_succ])
      | ((with_reducible show wpList _ _ _ (⟨_, .build _ _, _, _, _, _⟩ :: _) _ _); refine bldS (by rfl) (by with_reducible exact kcBuiltC) (by rfl) ?_; try simp only [Act.put, List.setIfInBounds_toArray, List.set_cons_zero, List.set_cons_succ])
    | ((with_reducible show wpList _ _ _ (⟨_, .load _ _, _, _, _, _⟩ :: _) _ _); refine fldS (by rfl) (by rfl) (by decide +kernel) H (by repeat constructor) (by first | exact reA_0 _ | exact reA_1 _ | exact reA_2 _ | exact reA_3 _ | exact r113.out) ?_; try simp only [Act.put, List.setIfInBounds_toArray, List.set_cons_zero, List.set_cons_succ])
    | fail)

  all_goals (go_ret; exact ⟨by rw [HRES.out]; simp [*], H.out.b⟩)
end Go.Proofs.Ytjpmmbmhkpgjcaa

/- What keep's mayBe answers. -/
namespace Go.Proofs.Ytjpmmbmhkpgjcaa
open Go.RowKit Nums Sums
set_option linter.unusedVariables false
set_option linter.unusedSimpArgs false
set_option maxRecDepth 100000
theorem reA_s1 (v : ReV) (e : Int) : (reA v).setIfInBounds 1 (.int .i64 e) = reA { v with e := e } := rfl
theorem reA_s2 (v : ReV) (f : Int) : (reA v).setIfInBounds 2 (.int .i64 f) = reA { v with f := f } := rfl
theorem reA_mx (v : ReV) (ok : OkR v) (x : ItT) (hx : OkE x.e) : midA (reA v) 3 (itA x) = reA { v with x := x } := by
  have h1 : (icells v.x).length = 110 := icells_length _ ok.x
  have h2 : (icells x).length = 110 := icells_length _ hx
  unfold midA reA itA
  congr 1
  have e1 : (rcellsK v).toArray.toList.take 3 = [.int .i64 v.k, .int .i64 v.e, .int .i64 v.f] := rfl
  have e2 : (rcellsK v).toArray.toList.drop (3 + (icells x).toArray.size) = [.slice v.a v.n v.c] ++ ccells v.m := by
    show (rcellsK v).drop _ = _
    unfold rcellsK
    rw [List.size_toArray, h2, ← List.append_assoc, List.drop_append_of_le_length (by simp [h1])]
    rw [List.drop_of_length_le (by simp [h1]), List.nil_append]
  rw [e1, e2]
  show _ ++ icells x ++ _ = rcellsK _
  unfold rcellsK
  rw [List.append_assoc]
theorem reA_mm (v : ReV) (ok : OkR v) (m : ClT) (hm : m.d.length = 32) : midA (reA v) 114 (clA m) = reA { v with m := m } := by
  have h1 : (icells v.x).length = 110 := icells_length _ ok.x
  have h2 : (ccells m).length = 36 := ccells_length _ hm
  have h3 := rcellsK_length v ok
  unfold midA reA clA
  congr 1
  have e1 : (rcellsK v).toArray.toList.take 114 = [.int .i64 v.k, .int .i64 v.e, .int .i64 v.f] ++ (icells v.x ++ [.slice v.a v.n v.c]) := by
    show (rcellsK v).take _ = _
    unfold rcellsK
    rw [← List.append_assoc, ← List.append_assoc, List.take_append_of_le_length (by simp [h1]), List.take_of_length_le (by simp [h1]), List.append_assoc]
  rw [e1, List.drop_of_length_le (by show (rcellsK v).length ≤ _; rw [h3, List.size_toArray, h2]; omega)]
  show _ ++ ccells m ++ [] = rcellsK _
  unfold rcellsK
  simp only [List.append_assoc, List.append_nil]
theorem reA_e (v : ReV) : SubA (reA v) 4 (enA v.x.e) := fun j u hj => by
  have := reA_x v (1 + j) u (by
    unfold enA at hj
    unfold itA icells
    rw [List.getElem?_toArray] at hj ⊢
    rw [List.getElem?_append_right (by simp)]
    simpa using hj)
  rw [← this]
  congr 1
  omega
set_option maxHeartbeats 32000000 in
theorem kcMay_any (C : HistoryC) (D : EntryC) (v : ReV) (w : World) (h : RIn w v) : Calls Try.prog 40 #[.agg (reA v)] w fun x w' => x = .returned (.bool (mayR v.t)) ∧ Below w.heap.size w w' := by
  have ok := h.ok
  have hmx : v.n ≤ 9223372036854775807 := by have := h.i.le; omega
  have FX : Hid (Fit Try.prog 42 (reA v)) := reA_fit v ok
  have FES := hidk (enA_fit v.x.e h.xo).s
  have FMS := hidk (clA_fit v.m h.m.d).s
  have FZI := hidk (itA_fit zeroI zeroE_ok)
  have FZC := hidk (clA_fit zeroC rfl)
  have NZI : Hid ((itA zeroI).size = 110) := by show _ = _; simp [itA, icells_length zeroI zeroE_ok]
  have NZC : Hid ((clA zeroC).size = 36) := by show _ = _; simp [clA, ccells_length zeroC rfl]
  have HXE := hidk (reA_e v)
  have r113 := hidk (reA_113 v ok)
  have SZ : Hid (∀ e f a n c l, (reA { v with e := e, f := f, a := a, n := n, c := c, l := l }).size = 150) := fun e f a n c l => reA_size _ ⟨ok.x, ok.m⟩
  have S113 : Hid (∀ e f, (reA { v with e := e, f := f }).setIfInBounds 113 (.slice none 0 0) = reA { v with e := e, f := f, a := none, n := 0, c := 0, l := [] }) := fun e f => reA_s113 { v with e := e, f := f } ⟨ok.x, ok.m⟩ none 0 0 []
  have hl : decide (v.l.length = 0) = ((v.n : Int) == (0 : Int)) := by rw [h.i.rd.ln]; by_cases q : v.n = 0 <;> simp [q]
  have HH := hidk h
  have H := hidk (Sep.start Try.prog w)
  clear h
  go_enter Try.func40, Try.ntmps40
  go_wp2_with (first
    | ((with_reducible show wpList _ _ _ (⟨_, .box _ _, _, _, _, _⟩ :: _) _ _); refine boxS (by rfl) (by rfl) H (by assumption) ?_; clear H; intro gq W hq H; clear hq; try simp only [Act.put, List.setIfInBounds_toArray, List.set_cons_zero, List.set_cons_succ])
    | fail)

  refine region_mix [(gq, reA v, 42)] [] [1, 3] [] [0, 1, 2, 3] (by kernel_rfl) (by kernel_rfl) (by kernel_rfl) (by rfl) H (List.Sublist.refl _) (List.Sublist.refl _) ?_
  clear H
  intro W hne H
  repeat (first
    | (refine mix_skip (by rfl) (by rfl) ?_; try simp only [Act.put, List.setIfInBounds_toArray, List.set_cons_zero, List.set_cons_succ])
    | (refine mix_q (by rfl) (by rfl) (by rfl) (by rfl) ?_; intro K hK; first | (refine qR (by rfl) (by decide +kernel) (by repeat constructor) FX.out.s ?_; try simp only [Act.put, List.setIfInBounds_toArray, List.set_cons_zero, List.set_cons_succ]; go_big_quiet_on) | (go_big_quiet_op; go_big_quiet_on))
    | (refine mix_e (by rfl) (by rfl) (by rfl) ?_; go_wp2_with (first | ((with_reducible show wpList _ _ _ (⟨_, .alloc _, _, _, _, _⟩ :: _) _ _); refine newS (by rfl) (by kernel_rfl) H ?_; clear H; intro gq W hq H; clear hq; try simp only [Act.put, List.setIfInBounds_toArray, List.set_cons_zero, List.set_cons_succ]) | ((with_reducible show wpList _ _ _ (⟨_, .store _ _ _, _, _, _, _⟩ :: _) _ _); refine setS (by rfl) (by rfl) (by rfl) H (by assumption) (by repeat first | apply uH | apply uT) ?_; clear H; intro W H; try simp only [Act.put, List.setIfInBounds_toArray, List.set_cons_zero, List.set_cons_succ]) | fail); first | refine mix_fin (by rfl) ?_ | refine mix_fin2 ?_ | refine mix_on (by first | exact H.out | exact H.out.tl) ?_ | refine mix_on2 (by first | exact H.out | exact H.out.tl) ?_))
  refine mix_end ?_
  clear hne

  by_cases hk1 : v.k = 1
  · have q1 : (v.k == (1 : Int)) = true := by rw [beq_iff_eq]; exact hk1
    obtain ⟨we, hwe⟩ : ∃ b, (decide (1 ≤ v.e) && decide (v.e ≤ 900000000)) = b := ⟨_, rfl⟩
    have W1 : Hid (∀ W, Calls Try.prog 54 #[.int .i64 v.e] W fun e w' => e = .returned (.bool we) ∧ W = w') := fun W => by rw [← hwe]; exact kcEpoch _ W
    have HRES : Hid (mayR v.t = (we && noneR { v with e := 0 })) := by
      show _ = _
      unfold mayR ReV.t
      rw [if_pos hk1, ← hwe]; unfold noneR
      have z0 : ((0 : Int) == (0 : Int)) = true := rfl
      have ef : (v.f == (0 : Int)) = decide (v.f = 0) := rfl
      have ee : (v.e == (0 : Int)) = decide (v.e = 0) := rfl
      have ei : eqIB zeroI zeroI = true := (eqIB_iff _ _).2 rfl
      have em : eqCB zeroC zeroC = true := (eqCB_iff _ _).2 rfl
      have nz : (((0 : Nat) : Int) == (0 : Int)) = true := rfl
      simp only [hl, ef, ee, ei, em, z0, nz, Bool.and_true, Bool.true_and]
      generalize eqIB v.x zeroI = x1
      generalize eqCB v.m zeroC = x2
      generalize ((v.n : Int) == (0 : Int)) = x3
      generalize decide (v.f = 0) = x4
      generalize decide (v.e = 0) = x5
      generalize decide (1 ≤ v.e) = y1; generalize decide (v.e ≤ 900000000) = y2
      cases y1 <;> cases y2 <;> cases x1 <;> cases x2 <;> cases x3 <;> cases x4 <;> rfl
    obtain ⟨nn, hnn⟩ : ∃ b, noneR { v with e := 0 } = b := ⟨_, rfl⟩
    have okr : OkR { v with e := 0 } := by first | exact ok | exact ⟨zeroE_ok, ok.m⟩ | exact ⟨ok.x, rfl⟩ | exact ⟨ok.x, ok.m⟩
    have WN : Hid (∀ W, Calls Try.prog 62 #[.agg (reA { v with e := 0 })] W fun x w' => x = .returned (.bool nn) ∧ Below W.heap.size W w') := fun W => by rw [← hnn]; exact kcNothing_any _ okr (by first | exact hmx | (show 0 ≤ _; omega)) W
    rw [hnn] at HRES
    clear hnn hk1
    have hs : we = false ∨ we = true := by cases we <;> simp
    rcases hs with rfl | rfl
    all_goals
      go_wp2_with (first
        | ((with_reducible show wpList _ _ _ (⟨_, .store _ _ _, _, _, _, _⟩ :: _) _ _); refine putS (by rfl) (by rfl) (by rfl) (by exact ⟨rfl, rfl⟩) (by kernel_rfl) H (by repeat first | apply uH | apply uT) (by exact Nat.lt_of_lt_of_eq (by decide) (SZ.out _ _ _ _ _ _).symm) (by first | exact reA_s1 _ _ | exact reA_s2 _ _ | exact S113.out _ _) ?_; clear H; intro W H; try simp only [Act.put, List.setIfInBounds_toArray, List.set_cons_zero, List.set_cons_succ])
        | ((with_reducible show wpList _ _ _ (⟨_, .load _ _, _, _, _, _⟩ :: _) _ _); refine subS (by rfl) (by rfl) (by decide +kernel) H (by repeat constructor) (reA_m v ok) FMS.out ?_; try simp only [Act.put, List.setIfInBounds_toArray, List.set_cons_zero, List.set_cons_succ])
        | ((with_reducible show wpList _ _ _ (⟨_, .load _ _, _, _, _, _⟩ :: _) _ _); refine subS (by rfl) (by rfl) (by decide +kernel) H (by repeat constructor) (HXE) FES.out ?_; try simp only [Act.put, List.setIfInBounds_toArray, List.set_cons_zero, List.set_cons_succ])
        | ((with_reducible show wpList _ _ _ (⟨_, .build _ _, _, _, _, _⟩ :: _) _ _); refine bldS (by rfl) (by with_reducible exact kcBuiltI) (by rfl) ?_; try simp only [Act.put, List.setIfInBounds_toArray, List.set_cons_zero, List.set_cons_succ])
        | ((with_reducible show wpList _ _ _ (⟨_, .build _ _, _, _, _, _⟩ :: _) _ _); refine bldS (by rfl) (by with_reducible exact kcBuiltC) (by rfl) ?_; try simp only [Act.put, List.setIfInBounds_toArray, List.set_cons_zero, List.set_cons_succ])
        | ((with_reducible show wpList _ _ _ (⟨_, .load _ _, _, _, _, _⟩ :: _) _ _); refine rdS (by rfl) (by rfl) (by decide +kernel) H (by repeat constructor) ?_; try simp only [Act.put, List.setIfInBounds_toArray, List.set_cons_zero, List.set_cons_succ])
        | ((with_reducible show wpList _ _ _ (⟨_, .load _ _, _, _, _, _⟩ :: _) _ _); refine fldS (by rfl) (by rfl) (by decide +kernel) H (by repeat constructor) (by first | exact reA_0 _ | exact reA_1 _ | exact reA_2 _ | exact reA_3 _ | exact r113.out) ?_; try simp only [Act.put, List.setIfInBounds_toArray, List.set_cons_zero, List.set_cons_succ])
        | ((with_reducible refine (W1.out _).mono ?_); rintro _ _ ⟨rfl, rfl⟩; try simp only [Act.put, List.setIfInBounds_toArray, List.set_cons_zero, List.set_cons_succ])
        | ((with_reducible refine (W2.out _).mono ?_); rintro _ _ ⟨rfl, rfl⟩; try simp only [Act.put, List.setIfInBounds_toArray, List.set_cons_zero, List.set_cons_succ])
        | ((with_reducible refine (W3.out _ H.out.b).mono ?_); rintro _ W ⟨rfl, hb⟩; replace H := hidk (H.out.call hb); clear hb; try simp only [Act.put, List.setIfInBounds_toArray, List.set_cons_zero, List.set_cons_succ])
        | ((with_reducible refine (W4.out _).mono ?_); rintro _ W ⟨rfl, hb⟩; replace H := hidk (H.out.call hb); clear hb; try simp only [Act.put, List.setIfInBounds_toArray, List.set_cons_zero, List.set_cons_succ])
        | ((with_reducible refine (W5.out _).mono ?_); rintro _ W ⟨rfl, hb⟩; replace H := hidk (H.out.call hb); clear hb; try simp only [Act.put, List.setIfInBounds_toArray, List.set_cons_zero, List.set_cons_succ])
        | ((with_reducible refine (WN.out _).mono ?_); rintro _ W ⟨rfl, hb⟩; replace H := hidk (H.out.call hb); clear hb; try simp only [Act.put, List.setIfInBounds_toArray, List.set_cons_zero, List.set_cons_succ])
        | fail)
    all_goals (go_ret; exact ⟨by rw [HRES.out]; rfl, H.out.b⟩)
  have q1 : (v.k == (1 : Int)) = false := by rw [beq_eq_false_iff_ne]; exact hk1
  by_cases hk2 : v.k = 2
  · have q2 : (v.k == (2 : Int)) = true := by rw [beq_iff_eq]; exact hk2
    obtain ⟨wp, hwp⟩ : ∃ b, (decide (1 ≤ v.x.p) && decide (v.x.p ≤ 900000000)) = b := ⟨_, rfl⟩
    have W1 : Hid (∀ W, Calls Try.prog 54 #[.int .i64 v.x.p] W fun e w' => e = .returned (.bool wp) ∧ W = w') := fun W => by rw [← hwp]; exact kcEpoch _ W
    obtain ⟨re, hre⟩ : ∃ b, rightE v.x.e = b := ⟨_, rfl⟩
    obtain ⟨E, hE⟩ : ∃ x, eE v.x.e = x := ⟨_, rfl⟩
    have HEE : (E == (0 : Int)) = re := by rw [← hE, ← hre]; rcases eE_two v.x.e with ⟨a, b⟩ | ⟨a, b⟩ <;> rw [a, b] <;> rfl
    have W4 : Hid (∀ W, Calls Try.prog 60 #[.agg (enA v.x.e)] W fun e w' => e = .returned (.int .i64 E) ∧ Below W.heap.size W w') := fun W => by rw [← hE]; exact D.check v.x.e HH.out.x.e W _ (hidk rfl)
    clear hE
    have HRES : Hid (mayR v.t = (wp && re && noneR { v with x := zeroI })) := by
      show _ = _
      unfold mayR ReV.t
      rw [if_neg (by omega), if_pos hk2]; unfold noneR rightI; rw [← hwp, ← hre]
      have z0 : ((0 : Int) == (0 : Int)) = true := rfl
      have ef : (v.f == (0 : Int)) = decide (v.f = 0) := rfl
      have ee : (v.e == (0 : Int)) = decide (v.e = 0) := rfl
      have ei : eqIB zeroI zeroI = true := (eqIB_iff _ _).2 rfl
      have em : eqCB zeroC zeroC = true := (eqCB_iff _ _).2 rfl
      have nz : (((0 : Nat) : Int) == (0 : Int)) = true := rfl
      simp only [hl, ef, ee, ei, em, z0, nz, Bool.and_true, Bool.true_and]
      generalize eqIB v.x zeroI = x1
      generalize eqCB v.m zeroC = x2
      generalize ((v.n : Int) == (0 : Int)) = x3
      generalize decide (v.f = 0) = x4
      generalize decide (v.e = 0) = x5
      generalize decide (1 ≤ v.x.p) = y1; generalize decide (v.x.p ≤ 900000000) = y2; generalize rightE v.x.e = y3
      cases x2 <;> cases x3 <;> cases x4 <;> cases x5 <;> cases y1 <;> cases y2 <;> cases y3 <;> rfl
    obtain ⟨nn, hnn⟩ : ∃ b, noneR { v with x := zeroI } = b := ⟨_, rfl⟩
    have okr : OkR { v with x := zeroI } := by first | exact ok | exact ⟨zeroE_ok, ok.m⟩ | exact ⟨ok.x, rfl⟩ | exact ⟨ok.x, ok.m⟩
    have WN : Hid (∀ W, Calls Try.prog 62 #[.agg (reA { v with x := zeroI })] W fun x w' => x = .returned (.bool nn) ∧ Below W.heap.size W w') := fun W => by rw [← hnn]; exact kcNothing_any _ okr (by first | exact hmx | (show 0 ≤ _; omega)) W
    rw [hnn] at HRES
    clear hnn hk2
    have hs : wp = false ∨ wp = true ∧ re = false ∨ wp = true ∧ re = true := by cases wp <;> cases re <;> simp
    rcases hs with rfl | ⟨rfl, rfl⟩ | ⟨rfl, rfl⟩
    all_goals
      go_wp2_with (first
        | ((with_reducible show wpList _ _ _ (⟨_, .store _ _ _, _, _, _, _⟩ :: _) _ _); refine midS (by rfl) (by rfl) (by rfl) H (by exact FZI) (by repeat first | apply uH | apply uT) (by rw [reA_size _ (by assumption), NZI.out]; decide) (reA_mx _ (by assumption) zeroI zeroE_ok) ?_; clear H; intro W H; try simp only [Act.put, List.setIfInBounds_toArray, List.set_cons_zero, List.set_cons_succ])
        | ((with_reducible show wpList _ _ _ (⟨_, .load _ _, _, _, _, _⟩ :: _) _ _); refine subS (by rfl) (by rfl) (by decide +kernel) H (by repeat constructor) (reA_m v ok) FMS.out ?_; try simp only [Act.put, List.setIfInBounds_toArray, List.set_cons_zero, List.set_cons_succ])
        | ((with_reducible show wpList _ _ _ (⟨_, .load _ _, _, _, _, _⟩ :: _) _ _); refine subS (by rfl) (by rfl) (by decide +kernel) H (by repeat constructor) (HXE) FES.out ?_; try simp only [Act.put, List.setIfInBounds_toArray, List.set_cons_zero, List.set_cons_succ])
        | ((with_reducible show wpList _ _ _ (⟨_, .build _ _, _, _, _, _⟩ :: _) _ _); refine bldS (by rfl) (by with_reducible exact kcBuiltI) (by rfl) ?_; try simp only [Act.put, List.setIfInBounds_toArray, List.set_cons_zero, List.set_cons_succ])
        | ((with_reducible show wpList _ _ _ (⟨_, .build _ _, _, _, _, _⟩ :: _) _ _); refine bldS (by rfl) (by with_reducible exact kcBuiltC) (by rfl) ?_; try simp only [Act.put, List.setIfInBounds_toArray, List.set_cons_zero, List.set_cons_succ])
        | ((with_reducible show wpList _ _ _ (⟨_, .load _ _, _, _, _, _⟩ :: _) _ _); refine rdS (by rfl) (by rfl) (by decide +kernel) H (by repeat constructor) ?_; try simp only [Act.put, List.setIfInBounds_toArray, List.set_cons_zero, List.set_cons_succ])
        | ((with_reducible show wpList _ _ _ (⟨_, .load _ _, _, _, _, _⟩ :: _) _ _); refine fldS (by rfl) (by rfl) (by decide +kernel) H (by repeat constructor) (by first | exact reA_0 _ | exact reA_1 _ | exact reA_2 _ | exact reA_3 _ | exact r113.out) ?_; try simp only [Act.put, List.setIfInBounds_toArray, List.set_cons_zero, List.set_cons_succ])
        | ((with_reducible refine (W1.out _).mono ?_); rintro _ _ ⟨rfl, rfl⟩; try simp only [Act.put, List.setIfInBounds_toArray, List.set_cons_zero, List.set_cons_succ])
        | ((with_reducible refine (W2.out _).mono ?_); rintro _ _ ⟨rfl, rfl⟩; try simp only [Act.put, List.setIfInBounds_toArray, List.set_cons_zero, List.set_cons_succ])
        | ((with_reducible refine (W3.out _ H.out.b).mono ?_); rintro _ W ⟨rfl, hb⟩; replace H := hidk (H.out.call hb); clear hb; try simp only [Act.put, List.setIfInBounds_toArray, List.set_cons_zero, List.set_cons_succ])
        | ((with_reducible refine (W4.out _).mono ?_); rintro _ W ⟨rfl, hb⟩; replace H := hidk (H.out.call hb); clear hb; try simp only [Act.put, List.setIfInBounds_toArray, List.set_cons_zero, List.set_cons_succ])
        | ((with_reducible refine (W5.out _).mono ?_); rintro _ W ⟨rfl, hb⟩; replace H := hidk (H.out.call hb); clear hb; try simp only [Act.put, List.setIfInBounds_toArray, List.set_cons_zero, List.set_cons_succ])
        | ((with_reducible refine (WN.out _).mono ?_); rintro _ W ⟨rfl, hb⟩; replace H := hidk (H.out.call hb); clear hb; try simp only [Act.put, List.setIfInBounds_toArray, List.set_cons_zero, List.set_cons_succ])
        | fail)
    all_goals (go_ret; exact ⟨by rw [HRES.out]; rfl, H.out.b⟩)
  have q2 : (v.k == (2 : Int)) = false := by rw [beq_eq_false_iff_ne]; exact hk2
  by_cases hk3 : v.k = 3
  · have q3 : (v.k == (3 : Int)) = true := by rw [beq_iff_eq]; exact hk3
    obtain ⟨we, hwe⟩ : ∃ b, (decide (1 ≤ v.e) && decide (v.e ≤ 900000000)) = b := ⟨_, rfl⟩
    have W1 : Hid (∀ W, Calls Try.prog 54 #[.int .i64 v.e] W fun e w' => e = .returned (.bool we) ∧ W = w') := fun W => by rw [← hwe]; exact kcEpoch _ W
    obtain ⟨f1, hf1⟩ : ∃ b, decide (0 ≤ v.f) = b := ⟨_, rfl⟩
    obtain ⟨f2, hf2⟩ : ∃ b, decide (v.f ≤ 2000) = b := ⟨_, rfl⟩
    obtain ⟨rl, hrl⟩ : ∃ b, rightL v.l = b := ⟨_, rfl⟩
    obtain ⟨E, hE⟩ : ∃ x, chkE v.l = x := ⟨_, rfl⟩
    have HEE : (E == (0 : Int)) = rl := by rw [← hE, ← hrl]; unfold chkE; cases rightL v.l <;> rfl
    have W3 : Hid (∀ W, Below w.heap.size w W → Calls Try.prog 55 #[.slice v.a v.n v.c] W fun e w' => e = .returned (.int .i64 E) ∧ Below W.heap.size W w') := fun W hb => by rw [← hE]; exact C.check _ _ _ _ W (HH.out.i.keep hb)
    clear hE
    have HRES : Hid (mayR v.t = (we && f1 && f2 && rl && noneR { v with e := 0, f := 0, a := none, n := 0, c := 0, l := [] })) := by
      show _ = _
      unfold mayR ReV.t
      rw [if_neg (by omega), if_neg (by omega), if_pos hk3]; unfold noneR; rw [← hwe, ← hf1, ← hf2, ← hrl]
      have z0 : ((0 : Int) == (0 : Int)) = true := rfl
      have ef : (v.f == (0 : Int)) = decide (v.f = 0) := rfl
      have ee : (v.e == (0 : Int)) = decide (v.e = 0) := rfl
      have ei : eqIB zeroI zeroI = true := (eqIB_iff _ _).2 rfl
      have em : eqCB zeroC zeroC = true := (eqCB_iff _ _).2 rfl
      have nz : (((0 : Nat) : Int) == (0 : Int)) = true := rfl
      simp only [hl, ef, ee, ei, em, z0, nz, Bool.and_true, Bool.true_and]
      generalize eqIB v.x zeroI = x1
      generalize eqCB v.m zeroC = x2
      generalize ((v.n : Int) == (0 : Int)) = x3
      generalize decide (v.f = 0) = x4
      generalize decide (v.e = 0) = x5
      generalize decide (1 ≤ v.e) = y1; generalize decide (v.e ≤ 900000000) = y2; generalize decide (0 ≤ v.f) = y3; generalize decide (v.f ≤ 2000) = y4; generalize rightL v.l = y5
      cases x1 <;> cases x2 <;> cases y1 <;> cases y2 <;> cases y3 <;> cases y4 <;> cases y5 <;> rfl
    obtain ⟨nn, hnn⟩ : ∃ b, noneR { v with e := 0, f := 0, a := none, n := 0, c := 0, l := [] } = b := ⟨_, rfl⟩
    have okr : OkR { v with e := 0, f := 0, a := none, n := 0, c := 0, l := [] } := by first | exact ok | exact ⟨zeroE_ok, ok.m⟩ | exact ⟨ok.x, rfl⟩ | exact ⟨ok.x, ok.m⟩
    have WN : Hid (∀ W, Calls Try.prog 62 #[.agg (reA { v with e := 0, f := 0, a := none, n := 0, c := 0, l := [] })] W fun x w' => x = .returned (.bool nn) ∧ Below W.heap.size W w') := fun W => by rw [← hnn]; exact kcNothing_any _ okr (by first | exact hmx | (show 0 ≤ _; omega)) W
    rw [hnn] at HRES
    clear hnn hk3
    have hs : we = false ∨ we = true ∧ f1 = false ∨ we = true ∧ f1 = true ∧ f2 = false ∨ we = true ∧ f1 = true ∧ f2 = true ∧ rl = false ∨ we = true ∧ f1 = true ∧ f2 = true ∧ rl = true := by cases we <;> cases f1 <;> cases f2 <;> cases rl <;> simp
    rcases hs with rfl | ⟨rfl, rfl⟩ | ⟨rfl, rfl, rfl⟩ | ⟨rfl, rfl, rfl, rfl⟩ | ⟨rfl, rfl, rfl, rfl⟩
    all_goals
      go_wp2_with (first
        | ((with_reducible show wpList _ _ _ (⟨_, .store _ _ _, _, _, _, _⟩ :: _) _ _); refine putS (by rfl) (by rfl) (by rfl) (by exact ⟨rfl, rfl⟩) (by kernel_rfl) H (by repeat first | apply uH | apply uT) (by exact Nat.lt_of_lt_of_eq (by decide) (SZ.out _ _ _ _ _ _).symm) (by first | exact reA_s1 _ _ | exact reA_s2 _ _ | exact S113.out _ _) ?_; clear H; intro W H; try simp only [Act.put, List.setIfInBounds_toArray, List.set_cons_zero, List.set_cons_succ])
        | ((with_reducible show wpList _ _ _ (⟨_, .load _ _, _, _, _, _⟩ :: _) _ _); refine subS (by rfl) (by rfl) (by decide +kernel) H (by repeat constructor) (reA_m v ok) FMS.out ?_; try simp only [Act.put, List.setIfInBounds_toArray, List.set_cons_zero, List.set_cons_succ])
        | ((with_reducible show wpList _ _ _ (⟨_, .load _ _, _, _, _, _⟩ :: _) _ _); refine subS (by rfl) (by rfl) (by decide +kernel) H (by repeat constructor) (HXE) FES.out ?_; try simp only [Act.put, List.setIfInBounds_toArray, List.set_cons_zero, List.set_cons_succ])
        | ((with_reducible show wpList _ _ _ (⟨_, .build _ _, _, _, _, _⟩ :: _) _ _); refine bldS (by rfl) (by with_reducible exact kcBuiltI) (by rfl) ?_; try simp only [Act.put, List.setIfInBounds_toArray, List.set_cons_zero, List.set_cons_succ])
        | ((with_reducible show wpList _ _ _ (⟨_, .build _ _, _, _, _, _⟩ :: _) _ _); refine bldS (by rfl) (by with_reducible exact kcBuiltC) (by rfl) ?_; try simp only [Act.put, List.setIfInBounds_toArray, List.set_cons_zero, List.set_cons_succ])
        | ((with_reducible show wpList _ _ _ (⟨_, .load _ _, _, _, _, _⟩ :: _) _ _); refine rdS (by rfl) (by rfl) (by decide +kernel) H (by repeat constructor) ?_; try simp only [Act.put, List.setIfInBounds_toArray, List.set_cons_zero, List.set_cons_succ])
        | ((with_reducible show wpList _ _ _ (⟨_, .load _ _, _, _, _, _⟩ :: _) _ _); refine fldS (by rfl) (by rfl) (by decide +kernel) H (by repeat constructor) (by first | exact reA_0 _ | exact reA_1 _ | exact reA_2 _ | exact reA_3 _ | exact r113.out) ?_; try simp only [Act.put, List.setIfInBounds_toArray, List.set_cons_zero, List.set_cons_succ])
        | ((with_reducible refine (W1.out _).mono ?_); rintro _ _ ⟨rfl, rfl⟩; try simp only [Act.put, List.setIfInBounds_toArray, List.set_cons_zero, List.set_cons_succ])
        | ((with_reducible refine (W2.out _).mono ?_); rintro _ _ ⟨rfl, rfl⟩; try simp only [Act.put, List.setIfInBounds_toArray, List.set_cons_zero, List.set_cons_succ])
        | ((with_reducible refine (W3.out _ H.out.b).mono ?_); rintro _ W ⟨rfl, hb⟩; replace H := hidk (H.out.call hb); clear hb; try simp only [Act.put, List.setIfInBounds_toArray, List.set_cons_zero, List.set_cons_succ])
        | ((with_reducible refine (W4.out _).mono ?_); rintro _ W ⟨rfl, hb⟩; replace H := hidk (H.out.call hb); clear hb; try simp only [Act.put, List.setIfInBounds_toArray, List.set_cons_zero, List.set_cons_succ])
        | ((with_reducible refine (W5.out _).mono ?_); rintro _ W ⟨rfl, hb⟩; replace H := hidk (H.out.call hb); clear hb; try simp only [Act.put, List.setIfInBounds_toArray, List.set_cons_zero, List.set_cons_succ])
        | ((with_reducible refine (WN.out _).mono ?_); rintro _ W ⟨rfl, hb⟩; replace H := hidk (H.out.call hb); clear hb; try simp only [Act.put, List.setIfInBounds_toArray, List.set_cons_zero, List.set_cons_succ])
        | fail)
    all_goals (go_ret; exact ⟨by rw [HRES.out]; rfl, H.out.b⟩)
  have q3 : (v.k == (3 : Int)) = false := by rw [beq_eq_false_iff_ne]; exact hk3
  by_cases hk4 : v.k = 4
  · have q4 : (v.k == (4 : Int)) = true := by rw [beq_iff_eq]; exact hk4
    obtain ⟨rc, hrc⟩ : ∃ b, rightC v.m = b := ⟨_, rfl⟩
    obtain ⟨E, hE⟩ : ∃ x, cE v.m = x := ⟨_, rfl⟩
    have HEE : (E == (0 : Int)) = rc := by rw [← hE, ← hrc]; rcases cE_two v.m with ⟨a, b⟩ | ⟨a, b⟩ <;> rw [a, b] <;> rfl
    have W5 : Hid (∀ W, Calls Try.prog 61 #[.agg (clA v.m)] W fun e w' => e = .returned (.int .i64 E) ∧ Below W.heap.size W w') := fun W => by rw [← hE]; exact D.checkC v.m HH.out.m W _ (hidk rfl)
    clear hE
    have HRES : Hid (mayR v.t = (rc && noneR { v with m := zeroC })) := by
      show _ = _
      unfold mayR ReV.t
      rw [if_neg (by omega), if_neg (by omega), if_neg (by omega), if_pos hk4]; unfold noneR; rw [← hrc]
      have z0 : ((0 : Int) == (0 : Int)) = true := rfl
      have ef : (v.f == (0 : Int)) = decide (v.f = 0) := rfl
      have ee : (v.e == (0 : Int)) = decide (v.e = 0) := rfl
      have ei : eqIB zeroI zeroI = true := (eqIB_iff _ _).2 rfl
      have em : eqCB zeroC zeroC = true := (eqCB_iff _ _).2 rfl
      have nz : (((0 : Nat) : Int) == (0 : Int)) = true := rfl
      simp only [hl, ef, ee, ei, em, z0, nz, Bool.and_true, Bool.true_and]
      generalize eqIB v.x zeroI = x1
      generalize eqCB v.m zeroC = x2
      generalize ((v.n : Int) == (0 : Int)) = x3
      generalize decide (v.f = 0) = x4
      generalize decide (v.e = 0) = x5
      generalize rightC v.m = y1
      cases x1 <;> cases x3 <;> cases x4 <;> cases x5 <;> cases y1 <;> rfl
    obtain ⟨nn, hnn⟩ : ∃ b, noneR { v with m := zeroC } = b := ⟨_, rfl⟩
    have okr : OkR { v with m := zeroC } := by first | exact ok | exact ⟨zeroE_ok, ok.m⟩ | exact ⟨ok.x, rfl⟩ | exact ⟨ok.x, ok.m⟩
    have WN : Hid (∀ W, Calls Try.prog 62 #[.agg (reA { v with m := zeroC })] W fun x w' => x = .returned (.bool nn) ∧ Below W.heap.size W w') := fun W => by rw [← hnn]; exact kcNothing_any _ okr (by first | exact hmx | (show 0 ≤ _; omega)) W
    rw [hnn] at HRES
    clear hnn hk4
    have hs : rc = false ∨ rc = true := by cases rc <;> simp
    rcases hs with rfl | rfl
    all_goals
      go_wp2_with (first
        | ((with_reducible show wpList _ _ _ (⟨_, .store _ _ _, _, _, _, _⟩ :: _) _ _); refine midS (by rfl) (by rfl) (by rfl) H (by exact FZC) (by repeat first | apply uH | apply uT) (by rw [reA_size _ (by assumption), NZC.out]; decide) (reA_mm _ (by assumption) zeroC rfl) ?_; clear H; intro W H; try simp only [Act.put, List.setIfInBounds_toArray, List.set_cons_zero, List.set_cons_succ])
        | ((with_reducible show wpList _ _ _ (⟨_, .load _ _, _, _, _, _⟩ :: _) _ _); refine subS (by rfl) (by rfl) (by decide +kernel) H (by repeat constructor) (reA_m v ok) FMS.out ?_; try simp only [Act.put, List.setIfInBounds_toArray, List.set_cons_zero, List.set_cons_succ])
        | ((with_reducible show wpList _ _ _ (⟨_, .load _ _, _, _, _, _⟩ :: _) _ _); refine subS (by rfl) (by rfl) (by decide +kernel) H (by repeat constructor) (HXE) FES.out ?_; try simp only [Act.put, List.setIfInBounds_toArray, List.set_cons_zero, List.set_cons_succ])
        | ((with_reducible show wpList _ _ _ (⟨_, .build _ _, _, _, _, _⟩ :: _) _ _); refine bldS (by rfl) (by with_reducible exact kcBuiltI) (by rfl) ?_; try simp only [Act.put, List.setIfInBounds_toArray, List.set_cons_zero, List.set_cons_succ])
        | ((with_reducible show wpList _ _ _ (⟨_, .build _ _, _, _, _, _⟩ :: _) _ _); refine bldS (by rfl) (by with_reducible exact kcBuiltC) (by rfl) ?_; try simp only [Act.put, List.setIfInBounds_toArray, List.set_cons_zero, List.set_cons_succ])
        | ((with_reducible show wpList _ _ _ (⟨_, .load _ _, _, _, _, _⟩ :: _) _ _); refine rdS (by rfl) (by rfl) (by decide +kernel) H (by repeat constructor) ?_; try simp only [Act.put, List.setIfInBounds_toArray, List.set_cons_zero, List.set_cons_succ])
        | ((with_reducible show wpList _ _ _ (⟨_, .load _ _, _, _, _, _⟩ :: _) _ _); refine fldS (by rfl) (by rfl) (by decide +kernel) H (by repeat constructor) (by first | exact reA_0 _ | exact reA_1 _ | exact reA_2 _ | exact reA_3 _ | exact r113.out) ?_; try simp only [Act.put, List.setIfInBounds_toArray, List.set_cons_zero, List.set_cons_succ])
        | ((with_reducible refine (W1.out _).mono ?_); rintro _ _ ⟨rfl, rfl⟩; try simp only [Act.put, List.setIfInBounds_toArray, List.set_cons_zero, List.set_cons_succ])
        | ((with_reducible refine (W2.out _).mono ?_); rintro _ _ ⟨rfl, rfl⟩; try simp only [Act.put, List.setIfInBounds_toArray, List.set_cons_zero, List.set_cons_succ])
        | ((with_reducible refine (W3.out _ H.out.b).mono ?_); rintro _ W ⟨rfl, hb⟩; replace H := hidk (H.out.call hb); clear hb; try simp only [Act.put, List.setIfInBounds_toArray, List.set_cons_zero, List.set_cons_succ])
        | ((with_reducible refine (W4.out _).mono ?_); rintro _ W ⟨rfl, hb⟩; replace H := hidk (H.out.call hb); clear hb; try simp only [Act.put, List.setIfInBounds_toArray, List.set_cons_zero, List.set_cons_succ])
        | ((with_reducible refine (W5.out _).mono ?_); rintro _ W ⟨rfl, hb⟩; replace H := hidk (H.out.call hb); clear hb; try simp only [Act.put, List.setIfInBounds_toArray, List.set_cons_zero, List.set_cons_succ])
        | ((with_reducible refine (WN.out _).mono ?_); rintro _ W ⟨rfl, hb⟩; replace H := hidk (H.out.call hb); clear hb; try simp only [Act.put, List.setIfInBounds_toArray, List.set_cons_zero, List.set_cons_succ])
        | fail)
    all_goals (go_ret; exact ⟨by rw [HRES.out]; rfl, H.out.b⟩)
  have q4 : (v.k == (4 : Int)) = false := by rw [beq_eq_false_iff_ne]; exact hk4
  have HRES : Hid (mayR v.t = false) := by
    show _ = _
    unfold mayR ReV.t
    rw [if_neg hk1, if_neg hk2, if_neg hk3, if_neg hk4]
  go_wp2_with (first
    | ((with_reducible show wpList _ _ _ (⟨_, .load _ _, _, _, _, _⟩ :: _) _ _); refine fldS (by rfl) (by rfl) (by decide +kernel) H (by repeat constructor) (by first | exact reA_0 _ | exact reA_1 _ | exact reA_2 _ | exact reA_3 _ | exact r113.out) ?_; try simp only [Act.put, List.setIfInBounds_toArray, List.set_cons_zero, List.set_cons_succ])
    | ((with_reducible show wpList _ _ _ (⟨_, .load _ _, _, _, _, _⟩ :: _) _ _); refine rdS (by rfl) (by rfl) (by decide +kernel) H (by repeat constructor) ?_; try simp only [Act.put, List.setIfInBounds_toArray, List.set_cons_zero, List.set_cons_succ])
    | fail)
  go_ret
  exact ⟨by rw [HRES.out]; rfl, H.out.b⟩
end Go.Proofs.Ytjpmmbmhkpgjcaa

/- What keep's PutRecord answers. -/
namespace Go.Proofs.Ytjpmmbmhkpgjcaa
open Go.RowKit Nums Sums
set_option linter.unusedVariables false
set_option linter.unusedSimpArgs false
set_option maxRecDepth 100000
def pB (r : ReT) (k : Nat) : List UInt8 := rowB (headF r) ++ rowB (tailF (r.l.take k))
theorem pB_zero (r : ReT) : pB r 0 = rowB (headF r) := by unfold pB; simp [tailF, rowB]
theorem pB_all (r : ReT) : pB r r.l.length = enR r := by unfold pB enR; rw [List.take_of_length_le (Nat.le_refl _)]
theorem pB_succ (r : ReT) (k : Nat) (h : k < r.l.length) : pB r (k + 1) = pB r k ++ rowB [oneF r.l[k]] := by
  unfold pB
  rw [List.take_succ_eq_append_getElem h]
  unfold tailF
  rw [List.map_append, rowB_append, List.append_assoc]
  rfl
theorem pB_le (r : ReT) (k : Nat) : (pB r k).length ≤ (enR r).length := by
  unfold pB enR
  have e : r.l = r.l.take k ++ r.l.drop k := (List.take_append_drop k r.l).symm
  have : rowB (tailF r.l) = rowB (tailF (r.l.take k)) ++ rowB (tailF (r.l.drop k)) := by
    rw [← rowB_append]
    congr 1
    unfold tailF
    rw [← List.map_append, ← e]
  rw [this]
  simp only [List.length_append]
  omega
theorem small_max {n : Nat} (h : n ≤ 65536) : n ≤ maxLen := by unfold maxLen; omega
theorem hd_lay (r : ReT) (hx : OkE r.x.e) (hc : r.c.d.length = 32) : layE 0 (headF r) = 0 := by
  have a1 := nOf_size r.k
  have a2 := nOf_size r.e
  have a3 := nOf_size r.f
  have a4 : (bA (iB r.x)).size ≤ 256 := by rw [bA_size]; exact iB_length r.x hx
  have a5 : (bA (cB r.c)).size ≤ 84 := by rw [bA_size]; exact cB_length r.c hc
  unfold headF
  simp only [layE]
  rw [if_pos (fault_none _ _ _ (by omega) (by omega)), if_pos (fault_none _ _ _ (by omega) (by omega)), if_pos (fault_none _ _ _ (by omega) (by omega)), if_pos (fault_none _ _ _ (by omega) (by omega)), if_pos (fault_none _ _ _ (by omega) (by omega))]
theorem one_lay (x : ItT) (hx : OkE x.e) : (∀ f ∈ [oneF x], f.2.size ≤ maxLen) ∧ layE 0 [oneF x] = 0 := by
  have a4 : (bA (iB x)).size ≤ 256 := by rw [bA_size]; exact iB_length x hx
  refine ⟨fun f hf => ?_, ?_⟩
  · rw [List.mem_singleton.1 hf]; exact small_max (by show (bA (iB x)).size ≤ _; omega)
  · unfold oneF
    simp only [layE]
    rw [if_pos (fault_none _ _ _ (by omega) (by omega))]
section
variable {w0 w : World} {L : List Vr} {M : List (Nat × Obj)} {ops : Array Oper} {rest : List Oper} {a : Act} {Q : Exit → Act → World → Prop} {d : Option Tmp} {tp : TypeId} {ps : String} {af : Array Edge} {gd : Option (Nat × Bool)}
/-- A literal of fields, and what pack.Lay makes of it. -/
theorem litS {n : Nat} {parts : Array (Nat × Operand)} {fs : List (Int × ByteArray)} (hw : Region.wanted ⟨d, .buildSlice 88 n parts, tp, ps, af, gd⟩ (yielded ops a.tmps) = true) (hv : (parts.toList.map fun p => (p.1, a.eval p.2)) = ((fs.map fdL).zipIdx 0).map fun x => (x.2, Value.agg x.1.toArray)) (hn : fs.length = n) (h1 : 0 < n) (h2 : n ≤ 100) (hm : ∀ f ∈ fs, f.2.size ≤ maxLen) (h0 : layE 0 fs = 0) (H : Hid (Sep Try.prog w0 w L M))
    (h : ∀ g V, Hid (Calls Try.prog 46 #[.slice (some ⟨g, 0, none⟩) n n] V fun e V' => ∃ a c, e = .returned (.tuple #[.slice a (rowB fs).length c, .int .i64 0]) ∧ V'.ownsRow V.heap.size 5 1 (.slice a (rowB fs).length c) (rowB fs).length (cellsOf (rowB fs)) ∧ Below V.heap.size V V') → Hid (Sep Try.prog w0 V L M) → wpList Try.prog ops Q rest (a.put d (.slice (some ⟨g, 0, none⟩) n n)) V) : wpList Try.prog ops Q (⟨d, .buildSlice 88 n parts, tp, ps, af, gd⟩ :: rest) a w :=
  bslS (vals := (((fs.map fdL).zipIdx 0).map fun x => (x.2, Value.agg x.1.toArray)).toArray) hw (run_build_fields w n fs hn h1 h2 _ (by simp)) (by rw [hv]) (h w.heap.size _ (lay_lit w w fs n hn h2 hm h0 _ rfl) (H.out.call ((Below.refl _ _).alloc (Nat.le_refl _) _)))
/-- A conversion that answers the same in each such world. -/
theorem qV {P : Program} {K : Act → Prop} {s t : TypeId} {x : Operand} {v r : Value} (hx : a.eval x = v) (hr : ∀ n : SepW P w0 L M, (Go.convert s t v).run P n.1 = .ok r n.1)
    (h : K (a.put d r)) : Oper.quiet P ⟨d, .convert s t x, tp, ps, af, gd⟩ a (fun w' => ∃ n : SepW P w0 L M, w' = n.1) K := by
  refine q_of (v := r) (fun W hW => ?_) h
  obtain ⟨n, rfl⟩ := hW
  unfold execOp
  simp only [hx, Sem.run_bind, hr n, Result.andThen_ok, Sem.run_pure]
end
theorem own_reads {w : World} {B : Nat} {a : Option Addr} {n c : Nat} {l : List UInt8} (h : w.ownsRow B 5 1 (.slice a n c) n (cellsOf l)) : Reads w a n c l := by
  obtain rfl : l.length = n := by have := h.1; rw [cellsOf_length] at this; omega
  obtain ⟨a2, c2, e, hr⟩ := reads_own h
  cases e
  exact hr
/-- Bytes that can be read stay so where all that is told of a world holds. -/
theorem Sep.reads {P : Program} {w0 W : World} {L : List Vr} {M : List (Nat × Obj)} (H : Sep P w0 W L M) {a : Option Addr} {len cap : Nat} {l : List UInt8} (h : Reads W a len cap l) : ∃ N, Hid (Sep P w0 W L (N ++ M)) ∧ Hid (∀ V, Sep P w0 V L (N ++ M) → Reads V a len cap l) := by
  have h' := h
  obtain ⟨h1, h2, h3, ⟨rfl, h0⟩ | ⟨ad, rfl, h0⟩ | ⟨b, off, rfl, hlt, hc⟩⟩ := h
  · exact ⟨[], H, fun V _ => ⟨h1, h2, h3, .inl ⟨rfl, h0⟩⟩⟩
  · exact ⟨[], H, fun V _ => ⟨h1, h2, h3, .inr (.inl ⟨ad, rfl, h0⟩)⟩⟩
  · have go : ∀ V : World, V.heap[b]? = W.heap[b]? → Reads V (some ⟨b, off, none⟩) len cap l := fun V hV => by
      have hb : b < V.heap.size := by
        cases q : V.heap[b]? with
        | none => rw [q] at hV; have := Array.getElem?_eq_none_iff.1 hV.symm; omega
        | some o => exact heap_lt q
      exact ⟨h1, h2, h3, .inr (.inr ⟨b, off, rfl, hb, fun i hi => (World.cell?_of_block (a := ⟨b, off + i, none⟩) hV).trans (hc i hi)⟩)⟩
    by_cases h0 : b < w0.heap.size
    · exact ⟨[], H, fun V hV => go V ((hV.b.block b h0).trans (H.b.block b h0).symm)⟩
    by_cases hL : ∃ c ∈ L, c.1 = b
    · obtain ⟨c, hc1, hc2⟩ := hL
      subst hc2
      exact ⟨[], H, fun V hV => go V ((hV.v c hc1).1.trans (H.v c hc1).1.symm)⟩
    by_cases hM : ∃ c ∈ M, c.1 = b
    · obtain ⟨c, hc1, hc2⟩ := hM
      subst hc2
      exact ⟨[], H, fun V hV => go V ((hV.m c hc1).1.trans (H.m c hc1).1.symm)⟩
    obtain ⟨o, ho⟩ : ∃ o, W.heap[b]? = some o := ⟨W.heap[b], Array.getElem?_eq_getElem hlt⟩
    exact ⟨[(b, o)], H.more ho (by omega) (fun c hc e => hL ⟨c, hc, e⟩) (fun c hc e => hM ⟨c, hc, e⟩), fun V hV => go V (((hV.m (b, o) (List.mem_append_left _ (List.mem_singleton.2 rfl))).1).trans ho.symm)⟩
set_option maxHeartbeats 8000000 in
theorem ktPut_no (C : HistoryC) (E : EntryC) (r : ReV) (w : World) (h : RIn w r) (hM : mayR r.t = false) : Calls Try.prog 24 #[.agg (reA r)] w fun e w' => e = .returned (.tuple #[.string ⟨#[]⟩, .int .i64 140]) ∧ Below w.heap.size w w' := by
  have FX : Hid (Fit Try.prog 42 (reA r)) := reA_fit r h.ok
  have M1 : Hid (∀ W, Below w.heap.size w W → Calls Try.prog 40 #[.agg (reA r)] W fun e w' => e = .returned (.bool false) ∧ Below W.heap.size W w') := fun W hb => by rw [← hM]; exact kcMay_any C E r W (h.keep hb)
  have H := hidk (Sep.start Try.prog w)
  clear h hM C E
  go_enter Try.func24, Try.ntmps24
  go_wp2_with (first
    | ((with_reducible show wpList _ _ _ (⟨_, .box _ _, _, _, _, _⟩ :: _) _ _); refine boxS (by rfl) (by rfl) H (by assumption) ?_; clear H; intro gq W hq H; clear hq; try simp only [Act.put, List.setIfInBounds_toArray, List.set_cons_zero, List.set_cons_succ])
    | ((with_reducible show wpList _ _ _ (⟨_, .load _ _, _, _, _, _⟩ :: _) _ _); refine rdS (by rfl) (by rfl) (by decide +kernel) H (by repeat constructor) ?_; try simp only [Act.put, List.setIfInBounds_toArray, List.set_cons_zero, List.set_cons_succ])
    | ((with_reducible refine (M1.out _ H.out.b).mono ?_); rintro _ W ⟨rfl, hb⟩; replace H := hidk (H.out.call hb); clear hb; try simp only [Act.put, List.setIfInBounds_toArray, List.set_cons_zero, List.set_cons_succ])
    | fail)
  go_ret2
  exact ⟨rfl, H.out.b⟩
set_option maxHeartbeats 32000000 in
theorem ktPut_yes (C : HistoryC) (E : EntryC) (r : ReV) (w : World) (h : RIn w r) (hM : mayR r.t = true) : Calls Try.prog 24 #[.agg (reA r)] w fun e w' => e = .returned (.tuple #[.string ⟨(enR r.t).toArray⟩, .int .i64 0]) ∧ Below w.heap.size w w' := by
  have ok := h.ok
  have FX : Hid (Fit Try.prog 42 (reA r)) := reA_fit r ok
  have FXI := hidk (itA_fit r.x h.xo).s
  have SXI := hidk (reA_x r)
  have FXM := hidk (clA_fit r.m h.m.d).s
  have SXM := hidk (reA_m r ok)
  obtain ⟨ra, rn, rc, r113, HI, HLN⟩ : ∃ ra rn rc, Hid ((reA r)[113]? = some (.slice ra rn rc)) ∧ Hid (InL w ra rn rc r.l) ∧ Hid (r.l.length = rn) := ⟨r.a, r.n, r.c, hidk (reA_113 r ok), hidk h.i, hidk h.i.rd.ln⟩
  have hmx : rn ≤ 9223372036854775807 := by have := HI.out.le; omega
  have OKI : Hid (∀ x ∈ r.l, InI x) := h.i.its
  have HLEN : Hid (∀ k, (pB r.t k).length + 300 ≤ 100000000) := fun k => by
    have h1 := pB_le r.t k
    have h2 := en_length hM (fun x hx => (h.i.its x hx).e.ok) h.xo h.m.d
    have h3 := h.i.rd.ln
    have h4 := h.i.le
    have h5 : r.t.l.length ≤ 3000 := by show r.l.length ≤ _; omega
    split at h2 <;> omega
  have M1 : Hid (∀ W, Below w.heap.size w W → Calls Try.prog 40 #[.agg (reA r)] W fun e w' => e = .returned (.bool true) ∧ Below W.heap.size W w') := fun W hb => by rw [← hM]; exact kcMay_any C E r W (h.keep hb)
  have P1 : Hid (∀ W, Calls Try.prog 45 #[.agg (clA r.m)] W fun e w' => BytesE (cB r.m) (cE r.m) e w' ∧ Below W.heap.size W w') := fun W => E.putC r.m h.m W _ (hidk rfl)
  obtain ⟨d1, hd1⟩ : ∃ d, nOf r.k = d := ⟨_, rfl⟩
  obtain ⟨d2, hd2⟩ : ∃ d, nOf r.e = d := ⟨_, rfl⟩
  obtain ⟨d3, hd3⟩ : ∃ d, nOf r.f = d := ⟨_, rfl⟩
  obtain ⟨d4, hd4⟩ : ∃ d, bA (iB r.x) = d := ⟨_, rfl⟩
  obtain ⟨d5, hd5⟩ : ∃ d, bA (cB r.m) = d := ⟨_, rfl⟩
  have HF : Hid (headF r.t = [(1, d1), (2, d2), (3, d3), (4, d4), (5, d5)]) := by show _ = _; rw [← hd1, ← hd2, ← hd3, ← hd4, ← hd5]; rfl
  have HFS : Hid ((∀ f ∈ [((1 : Int), d1), (2, d2), (3, d3), (4, d4), (5, d5)], f.2.size ≤ maxLen) ∧ layE 0 [((1 : Int), d1), (2, d2), (3, d3), (4, d4), (5, d5)] = 0) := by
    have e := HF.out
    show _ ∧ _
    rw [← e]
    exact ⟨fun f hf => small_max (headF_ok r.t h.xo h.m.d f hf).2.2, hd_lay r.t h.xo h.m.d⟩
  have N1 : Hid (∀ W, Calls Try.prog 47 #[.int .i64 1, .int .i64 r.k] W fun e w' => e = .returned (.agg (fdA 1 d1)) ∧ Below W.heap.size W w') := fun W => by rw [← hd1]; exact ktNum 1 r.k W
  have N2 : Hid (∀ W, Calls Try.prog 47 #[.int .i64 2, .int .i64 r.e] W fun e w' => e = .returned (.agg (fdA 2 d2)) ∧ Below W.heap.size W w') := fun W => by rw [← hd2]; exact ktNum 2 r.e W
  have N3 : Hid (∀ W, Calls Try.prog 47 #[.int .i64 3, .int .i64 r.f] W fun e w' => e = .returned (.agg (fdA 3 d3)) ∧ Below W.heap.size W w') := fun W => by rw [← hd3]; exact ktNum 3 r.f W
  have I4 : Hid (∀ W, Calls Try.prog 48 #[.int .i64 4, .agg (itA r.x)] W fun e w' => e = .returned (.agg (fdA 4 d4)) ∧ Below W.heap.size W w') := fun W => by rw [← hd4]; exact ktItm E 4 r.x h.x W
  have I6 : Hid (∀ x, InI x → ∀ W, Calls Try.prog 48 #[.int .i64 6, .agg (itA x)] W fun e w' => e = .returned (.agg (fdA 6 (bA (iB x)))) ∧ Below W.heap.size W w') := fun x hx W => ktItm E 6 x hx W
  have H := hidk (Sep.start Try.prog w)
  clear h hM C E hd1 hd2 hd3 hd4
  go_enter Try.func24, Try.ntmps24
  go_wp2_with (first
    | ((with_reducible show wpList _ _ _ (⟨_, .box _ _, _, _, _, _⟩ :: _) _ _); refine boxS (by rfl) (by rfl) H (by assumption) ?_; clear H; intro gq W hq H; clear hq; try simp only [Act.put, List.setIfInBounds_toArray, List.set_cons_zero, List.set_cons_succ])
    | ((with_reducible show wpList _ _ _ (⟨_, .load _ _, _, _, _, _⟩ :: _) _ _); refine rdS (by rfl) (by rfl) (by decide +kernel) H (by repeat constructor) ?_; try simp only [Act.put, List.setIfInBounds_toArray, List.set_cons_zero, List.set_cons_succ])
    | ((with_reducible refine (M1.out _ H.out.b).mono ?_); rintro _ W ⟨rfl, hb⟩; replace H := hidk (H.out.call hb); clear hb; try simp only [Act.put, List.setIfInBounds_toArray, List.set_cons_zero, List.set_cons_succ])
    | ((with_reducible show wpList _ _ _ (⟨_, .load _ _, _, _, _, _⟩ :: _) _ _); refine subS (by rfl) (by rfl) (by decide +kernel) H (by repeat constructor) SXM FXM.out ?_; try simp only [Act.put, List.setIfInBounds_toArray, List.set_cons_zero, List.set_cons_succ])
    | ((with_reducible refine (P1.out _).mono ?_); rintro _ W ⟨⟨pa, pc, rfl, hrd⟩, hb⟩; replace H := hidk (H.out.call hb); clear hb; try simp only [Act.put, List.setIfInBounds_toArray, List.set_cons_zero, List.set_cons_succ])
    | fail)
  obtain ⟨NC, HQ, RD⟩ := H.out.reads hrd
  rw [List.append_nil] at HQ RD
  clear H hrd
  have H := HQ
  clear HQ
  have CV : Hid (∀ V, Sep Try.prog w V [(gq, reA r, 42)] NC → (Go.convert 61 9 (.slice pa (cB r.m).length pc)).run Try.prog V = .ok (.string d5) V) := fun V hV => by rw [← hd5]; exact conv_reads (RD.out V hV)
  refine region_mix [(gq, reA r, 42)] NC [2, 5, 8, 11, 15, 16] [] [0, 1, 3, 4, 6, 7, 9, 10, 12, 13, 14, 2, 5, 8, 11, 15, 16, 17, 18, 19, 20, 21] (by kernel_rfl) (by kernel_rfl) (by kernel_rfl) (by rfl) H (List.Sublist.refl _) (List.Sublist.refl _) ?_
  clear H
  intro W hne H
  repeat (first
    | (refine mix_skip (by rfl) (by rfl) ?_; try simp only [Act.put, List.setIfInBounds_toArray, List.set_cons_zero, List.set_cons_succ])
    | (refine mix_q (by rfl) (by rfl) (by rfl) (by rfl) ?_; intro K hK; first | (refine qF (by rfl) (by decide +kernel) (by repeat constructor) (by first | exact reA_0 _ | exact reA_1 _ | exact reA_2 _) ?_; try simp only [Act.put, List.setIfInBounds_toArray, List.set_cons_zero, List.set_cons_succ]; go_big_quiet_on) | (refine qU (by rfl) (by decide +kernel) (by repeat constructor) SXI FXI.out ?_; try simp only [Act.put, List.setIfInBounds_toArray, List.set_cons_zero, List.set_cons_succ]; go_big_quiet_on) | (refine qV (by rfl) (fun n => CV.out n.1 n.2) ?_; try simp only [Act.put, List.setIfInBounds_toArray, List.set_cons_zero, List.set_cons_succ]; go_big_quiet_on) | (go_big_quiet_op; go_big_quiet_on))
    | (refine mix_e (by rfl) (by rfl) (by rfl) ?_; go_wp2_with (first | ((with_reducible refine (N1.out _).mono ?_); rintro _ W ⟨rfl, hb⟩; replace H := hidk (H.out.call hb); clear hb; try simp only [Act.put, List.setIfInBounds_toArray, List.set_cons_zero, List.set_cons_succ]) | ((with_reducible refine (N2.out _).mono ?_); rintro _ W ⟨rfl, hb⟩; replace H := hidk (H.out.call hb); clear hb; try simp only [Act.put, List.setIfInBounds_toArray, List.set_cons_zero, List.set_cons_succ]) | ((with_reducible refine (N3.out _).mono ?_); rintro _ W ⟨rfl, hb⟩; replace H := hidk (H.out.call hb); clear hb; try simp only [Act.put, List.setIfInBounds_toArray, List.set_cons_zero, List.set_cons_succ]) | ((with_reducible refine (I4.out _).mono ?_); rintro _ W ⟨rfl, hb⟩; replace H := hidk (H.out.call hb); clear hb; try simp only [Act.put, List.setIfInBounds_toArray, List.set_cons_zero, List.set_cons_succ]) | ((with_reducible show wpList _ _ _ (⟨_, .buildSlice _ _ _, _, _, _, _⟩ :: _) _ _); refine litS (fs := [(1, d1), (2, d2), (3, d3), (4, d4), (5, d5)]) (by rfl) (by rfl) (by rfl) (by decide) (by decide) HFS.out.1 HFS.out.2 H ?_; clear H; intro gl W LY H; try simp only [Act.put, List.setIfInBounds_toArray, List.set_cons_zero, List.set_cons_succ]) | ((with_reducible refine LY.out.mono ?_); rintro _ W ⟨la, lc, rfl, ho, hb⟩; obtain ⟨NB, HQ, FB⟩ := H.out.own hb ho; clear H ho hb LY; have H := HQ; clear HQ; try simp only [Act.put, List.setIfInBounds_toArray, List.set_cons_zero, List.set_cons_succ]) | fail); first | refine mix_fin (by rfl) ?_ | refine mix_fin2 ?_ | refine mix_on (by first | exact H.out | exact H.out.tl | exact H.out.tn | exact H.out.tl.tn | exact H.out.tn.tl) ?_ | refine mix_on2 (by first | exact H.out | exact H.out.tl | exact H.out.tn | exact H.out.tl.tn | exact H.out.tn.tl) ?_))
  refine mix_end ?_
  clear hne
  go_wp2_with (first
    | ((with_reducible show wpList _ _ _ (⟨_, .load _ _, _, _, _, _⟩ :: _) _ _); refine fldS (by rfl) (by rfl) (by decide +kernel) H (by repeat constructor) (by exact r113.out) ?_; try simp only [Act.put, List.setIfInBounds_toArray, List.set_cons_zero, List.set_cons_succ])
    | fail)
  have FB2 : Hid (OwnIn (.slice la (pB r.t 0).length lc) NB ∧ ∀ W, Has W NB → W.ownsRow w.heap.size 5 1 (.slice la (pB r.t 0).length lc) (pB r.t 0).length (cellsOf (pB r.t 0))) := by
    show _ ∧ _
    rw [pB_zero, HF.out]
    exact FB.out
  go_loopw [6, 44] (fun bv iv wr => ∃ (k : Nat) (N : List (Nat × Obj)) (al : Option Addr) (cl : Nat), k ≤ rn ∧ iv = .int .i64 k ∧ bv = .slice al (pB r.t k).length cl ∧ Hid (Sep Try.prog w wr [] N) ∧ Hid (OwnIn (.slice al (pB r.t k).length cl) N ∧ ∀ W, Has W N → W.ownsRow w.heap.size 5 1 (.slice al (pB r.t k).length cl) (pB r.t k).length (cellsOf (pB r.t k)))) (fun _ iv _ => rn - (intOf iv).toNat)
  case atStart => exact ⟨0, NB, la, lc, by omega, rfl, by rw [pB_zero, HF.out], H.out.sub (List.nil_sublist _) (List.sublist_append_left ..), FB2⟩
  case round =>
    obtain ⟨k, N, al, cl, hk, rfl, rfl, HX, F⟩ := hrel
    clear H FB FB2 CV RD HF HFS N1 N2 N3 I4 P1 M1 hd5
    have H := HX
    clear HX
    by_cases hlt : k < rn
    · have hd : decide ((k : Int) < (rn : Int)) = true := by rw [decide_eq_true_eq]; omega
      have hw1 := wrap_int ((k : Int) + 1) (by omega) (by omega)
      obtain ⟨g, o, rfl, hg⟩ := HI.out.rd.at (by omega)
      have hkl : k < r.l.length := by have := HLN.out; omega
      obtain ⟨x, HX⟩ : ∃ x, Hid (x = r.l[k]) := ⟨_, hidk rfl⟩
      have hin : InI x := by rw [HX.out]; exact OKI.out _ (List.getElem_mem hkl)
      have HR : Hid (w.rangeAt g (o + 110 * k) (itA x).toList) := by
        show World.rangeAt _ _ _ _
        rw [HX.out]
        simpa [itA] using HI.out.rd.range k hkl
      have FE : Hid (Fit Try.prog 40 (itA x)) := itA_fit x hin.e.ok
      have ix := fun W => index_item W g o rn rc k .i64 hlt
      obtain ⟨d6, hd6⟩ : ∃ d, bA (iB x) = d := ⟨_, rfl⟩
      have J6 : Hid (∀ W, Calls Try.prog 48 #[.int .i64 6, .agg (itA x)] W fun e w' => e = .returned (.agg (fdA 6 d6)) ∧ Below W.heap.size W w') := fun W => by rw [← hd6]; exact I6.out x hin W
      have HF6 : Hid ((∀ f ∈ [((6 : Int), d6)], f.2.size ≤ maxLen) ∧ layE 0 [((6 : Int), d6)] = 0) := by
        have := one_lay x hin.e.ok
        unfold oneF at this
        rw [hd6] at this
        exact this
      have HS : Hid (pB r.t (k + 1) = pB r.t k ++ rowB [((6 : Int), d6)]) := by
        show _ = _
        rw [pB_succ r.t k hkl, ← hd6, HX.out]
        rfl
      have HLB : Hid ((pB r.t k).length + (rowB [((6 : Int), d6)]).length ≤ 100000000) := by
        have h1 := HLEN.out (k + 1)
        rw [HS.out, List.length_append] at h1
        show _ ≤ _
        omega
      clear hd6 hin hkl HX I6 HI
      go_wp2_with (first
        | ((with_reducible show wpList _ _ _ (⟨_, .alloc _, _, _, _, _⟩ :: _) _ _); refine newS (by rfl) (by kernel_rfl) H ?_; clear H; intro gq W hq H; clear hq; try simp only [Act.put, List.setIfInBounds_toArray, List.set_cons_zero, List.set_cons_succ])
        | ((with_reducible show wpList _ _ _ (⟨_, .store _ _ _, _, _, _, _⟩ :: _) _ _); refine setS (by rfl) (by rfl) (by rfl) H (by assumption) (by repeat first | apply uH | apply uT) ?_; clear H; intro W H; try simp only [Act.put, List.setIfInBounds_toArray, List.set_cons_zero, List.set_cons_succ])
        | ((with_reducible show wpList _ _ _ (⟨_, .load _ _, _, _, _, _⟩ :: _) _ _); refine outR (by rfl) (by rfl) (by decide +kernel) H (by assumption) (by assumption) ?_; try simp only [Act.put, List.setIfInBounds_toArray, List.set_cons_zero, List.set_cons_succ])
        | ((with_reducible show wpList _ _ _ (⟨_, .load _ _, _, _, _, _⟩ :: _) _ _); refine rdS (by rfl) (by rfl) (by decide +kernel) H (by repeat constructor) ?_; try simp only [Act.put, List.setIfInBounds_toArray, List.set_cons_zero, List.set_cons_succ])
        | ((with_reducible refine (J6.out _).mono ?_); rintro _ W ⟨rfl, hb⟩; replace H := hidk (H.out.call hb); clear hb; try simp only [Act.put, List.setIfInBounds_toArray, List.set_cons_zero, List.set_cons_succ])
        | ((with_reducible show wpList _ _ _ (⟨_, .buildSlice _ _ _, _, _, _, _⟩ :: _) _ _); refine litS (fs := [(6, d6)]) (by rfl) (by rfl) (by rfl) (by decide) (by decide) HF6.out.1 HF6.out.2 H ?_; clear H; intro gl W LY H; try simp only [Act.put, List.setIfInBounds_toArray, List.set_cons_zero, List.set_cons_succ])
        | ((with_reducible refine LY.out.mono ?_); rintro _ W ⟨la, lc, rfl, ho, hb⟩; obtain ⟨NB, HQ, FB⟩ := H.out.own hb ho; clear H ho hb LY; have H := HQ; clear HQ; try simp only [Act.put, List.setIfInBounds_toArray, List.set_cons_zero, List.set_cons_succ])
        | ((with_reducible show wpList _ _ _ (⟨_, .call _, _, _, _, _⟩ :: _) _ _); obtain ⟨a2, c2, V, Nx, har, HV, FV⟩ := app_bytes (A := NB) (M := []) (by rw [List.append_nil]; exact H.out) F.out (own_reads (FB.out.2 _ H.out.has.l)) HLB.out; refine appS (by rfl) (by rfl) (by rfl) har ?_; clear H; have H := HV; clear HV; try simp only [Act.put, List.setIfInBounds_toArray, List.set_cons_zero, List.set_cons_succ])
        | fail)
      go_roundw
      case rel => exact ⟨k + 1, Nx, a2, c2, by omega, by go_num, by rw [HS.out, List.length_append], H.out.sub (List.nil_sublist _) (by rw [List.append_nil]; exact List.sublist_append_right ..), by show _ ∧ _; rw [HS.out, List.length_append]; exact FV.out⟩
      case measure => simp [intOf]; omega
    · obtain rfl : rn = k := by omega
      have hd : decide ((rn : Int) < (rn : Int)) = false := by rw [decide_eq_false_iff_not]; omega
      have HALL : Hid (pB r.t rn = enR r.t) := by
        show _ = _
        rw [← HLN.out]
        exact pB_all r.t
      have hcv := conv_reads (own_reads (F.out.2 _ H.out.has))
      go_wp2_with (first
        | ((with_reducible show wpList _ _ _ (⟨_, .convert _ _ _, _, _, _, _⟩ :: _) _ _); refine cvS (by rfl) (by rfl) (hcv) ?_; try simp only [Act.put, List.setIfInBounds_toArray, List.set_cons_zero, List.set_cons_succ])
        | fail)
      go_ret2
      exact ⟨by rw [HALL.out]; rfl, H.out.b⟩
theorem ktPut (C : HistoryC) (E : EntryC) (r : ReV) (w : World) (h : RIn w r) : Calls Try.prog 24 #[.agg (reA r)] w fun e w' => e = .returned (.tuple #[.string ⟨(if mayR r.t = true then enR r.t else []).toArray⟩, .int .i64 (putRE r.t)]) ∧ Below w.heap.size w w' := by
  cases hM : mayR r.t
  · refine (ktPut_no C E r w h hM).mono ?_
    rintro e w' ⟨rfl, hb⟩
    exact ⟨by unfold putRE; rw [hM]; rfl, hb⟩
  · refine (ktPut_yes C E r w h hM).mono ?_
    rintro e w' ⟨rfl, hb⟩
    exact ⟨by unfold putRE; rw [hM]; rfl, hb⟩
end Go.Proofs.Ytjpmmbmhkpgjcaa

/- What keep's take answers. -/
namespace Go.Proofs.Ytjpmmbmhkpgjcaa
open Go.RowKit Nums Sums
set_option linter.unusedVariables false
set_option linter.unusedSimpArgs false
set_option maxRecDepth 100000
theorem idxFK (W : World) (b off len cap k : Nat) (h : k < len) : (Instr.indexAt 88 (.slice (some ⟨b, off, none⟩) len cap) (.int .i64 (k : Int))).run Try.prog W = .ok (.pointer (some ⟨b, off + k * 2, none⟩)) W := by
  have hs : ∀ w, (sizeOf 85).run Try.prog w = .ok 2 w := fun w => sizeOf_of (by kernel_rfl) w
  simp [Instr.indexAt, asIntOf, run_underlying Try.underlying88, hs, h]
  rw [add_plain]
theorem reA_s0 (v : ReV) (k : Int) : (reA v).setIfInBounds 0 (.int .i64 k) = reA { v with k := k } := rfl
theorem Has.hd {W : World} {c : Nat × Obj} {M : List (Nat × Obj)} (h : Has W (c :: M)) : Has W [c] := fun x hx => h x (by rw [List.mem_singleton.1 hx]; exact List.mem_cons_self ..)
theorem zcR : zc Try.prog 42 = reA zeroRv := by kernel_rfl
theorem takeR_succ (fs : List (Int × ByteArray)) (k : Nat) (h : k < fs.length) : takeR (fs.take (k + 1)) = stepR (takeR (fs.take k)) fs[k] := by
  unfold takeR
  rw [List.take_succ_eq_append_getElem h, List.foldl_append]
  rfl
set_option maxHeartbeats 64000000 in
theorem ktTake (C : EntryC) (a : Option Addr) (len cap : Nat) (fs : List (Int × ByteArray)) (w : World) (hF : FReads w.heap.size w a len cap fs) (h65 : ∀ f ∈ fs, f.2.size ≤ 65536) (hl : len ≤ 2005) : Calls Try.prog 52 #[.slice a len cap] w fun e w' => ∃ r, e = .returned (.agg (reA r)) ∧ r.t = takeR fs ∧ ROut w' w.heap.size r ∧ OkR r ∧ Below w.heap.size w w' := by
  have HFR := hidk hF
  have HLN := hidk hF.1
  have HH := hidk h65
  have FZ : Hid (Fit Try.prog 42 (reA zeroRv)) := reA_fit zeroRv ⟨zeroE_ok, rfl⟩
  have hmx : len ≤ 9223372036854775807 := by omega
  have H := hidk (Sep.start Try.prog w)
  clear hF h65
  go_enter Try.func52, Try.ntmps52
  go_wp2_with (first
    | ((with_reducible show wpList _ _ _ (⟨_, .alloc _, _, _, _, _⟩ :: _) _ _); have hh := g2; clear hh; refine newS (by rfl) (by kernel_rfl) H ?_; clear H; intro g3 W hq H; clear hq; rw [zcR] at H; try simp only [Act.put, List.setIfInBounds_toArray, List.set_cons_zero, List.set_cons_succ])
    | ((with_reducible show wpList _ _ _ (⟨_, .alloc _, _, _, _, _⟩ :: _) _ _); refine newS (by rfl) (by kernel_rfl) H ?_; clear H; intro g2 W hq H; clear hq; rw [zcR] at H; try simp only [Act.put, List.setIfInBounds_toArray, List.set_cons_zero, List.set_cons_succ])
    | fail)
  go_loopw [8] (fun iv wr => ∃ (k : Nat) (v : ReV) (N : List (Nat × Obj)), k ≤ len ∧ iv = .int .i64 k ∧ Hid (Sep Try.prog w wr [(g3, reA v, 42), (g2, reA zeroRv, 42)] (N ++ [])) ∧ Hid (OwnIn (.slice v.a v.n v.c) N ∧ ∀ W, Has W N → W.ownsRow w.heap.size 40 110 (.slice v.a v.n v.c) v.n (icL v.l)) ∧ Hid (v.t = takeR (fs.take k)) ∧ Hid (v.n = v.l.length ∧ v.n ≤ k) ∧ Hid (OkR v) ∧ Hid (∀ x ∈ v.l, OkE x.e)) (fun iv _ => len - (intOf iv).toNat)
  case atStart => exact ⟨0, zeroRv, [], by omega, rfl, H, ⟨fun g hg => (by cases hg), fun W _ => World.ownsRow_nil _ _ _ _⟩, hidk rfl, ⟨rfl, Nat.le_refl _⟩, ⟨zeroE_ok, rfl⟩, (fun x hx => by cases hx)⟩
  case round =>
    obtain ⟨k, v, N, hk, rfl, H, F, HT, HN, OKV, OKL⟩ := hrel
    by_cases hlt : k < len
    · have hd : decide ((k : Int) < (len : Int)) = true := by rw [decide_eq_true_eq]; omega
      have hw1 := wrap_int ((k : Int) + 1) (by omega) (by omega)
      have hkl : k < fs.length := by have := HLN.out; omega
      obtain ⟨h1, h2, h3, h4, ⟨rfl, h0⟩ | ⟨ad, rfl, h0⟩ | ⟨b, off, rfl, hlb, hc⟩⟩ := HFR.out
      · omega
      · omega
      have hck := hc k hkl
      have HTK : Hid (takeR (fs.take (k + 1)) = stepR (takeR (fs.take k)) fs[k]) := takeR_succ fs k hkl
      have HS0 : Hid (fs[k].2.size ≤ 65536) := HH.out _ (List.getElem_mem hkl)
      obtain ⟨t0, ht0⟩ : ∃ t, fs[k].1 = t := ⟨_, rfl⟩
      obtain ⟨s0, hs0⟩ : ∃ s, fs[k].2 = s := ⟨_, rfl⟩
      rw [show fs[k] = (t0, s0) from Prod.ext ht0 hs0] at HTK
      rw [hs0] at HS0
      rw [ht0, hs0] at hck
      have RG : Hid (w.rangeAt b (off + k * 2) (fdA t0 s0).toList) := by
        show World.rangeAt _ _ _ _
        intro j u hj
        match j, hj with
        | 0, hj => simp [fdA] at hj; subst hj; exact hck.1
        | 1, hj => simp [fdA] at hj; subst hj; exact hck.2
        | j + 2, hj => simp [fdA] at hj
      have ix := fun W => idxFK W b off len cap k hlt
      have FX := hidk (fdA_fit t0 s0)
      clear h1 h2 h3 h4 hlb hc hck ht0 hs0 hkl
      by_cases q1 : (t0 == (1 : Int)) = true
      · obtain rfl : t0 = 1 := by simpa using q1
        clear q1
        have NV : Hid (∀ W, Calls Try.prog 78 #[.agg (fdA 1 s0)] W fun e w' => e = .returned (.int .i64 (vOf s0.data.toList)) ∧ Below W.heap.size W w') := fun W => ktVal _ _ (by have := HS0.out; unfold maxLen; omega) W
        have HT2 : Hid (ReV.t { v with k := vOf s0.data.toList } = takeR (fs.take (k + 1))) := by rw [HTK.out]; unfold stepR; simp; rw [← HT.out]; rfl
        clear HTK
        go_wp2_with (first
          | ((with_reducible show wpList _ _ _ (⟨_, .alloc _, _, _, _, _⟩ :: _) _ _); refine newS (by rfl) (by kernel_rfl) H ?_; clear H; intro gq W hq H; clear hq; try simp only [Act.put, List.setIfInBounds_toArray, List.set_cons_zero, List.set_cons_succ])
          | ((with_reducible show wpList _ _ _ (⟨_, .store _ _ _, _, _, _, _⟩ :: _) _ _); refine setS (by rfl) (by rfl) (by rfl) H (by assumption) (by repeat first | apply uH | apply uT) ?_; clear H; intro W H; try simp only [Act.put, List.setIfInBounds_toArray, List.set_cons_zero, List.set_cons_succ])
          | ((with_reducible show wpList _ _ _ (⟨_, .load _ _, _, _, _, _⟩ :: _) _ _); refine outR (by rfl) (by rfl) (by decide +kernel) H (by assumption) (by assumption) ?_; try simp only [Act.put, List.setIfInBounds_toArray, List.set_cons_zero, List.set_cons_succ])
          | ((with_reducible show wpList _ _ _ (⟨_, .load _ _, _, _, _, _⟩ :: _) _ _); refine rdS (by rfl) (by rfl) (by decide +kernel) H (by repeat constructor) ?_; try simp only [Act.put, List.setIfInBounds_toArray, List.set_cons_zero, List.set_cons_succ])
          | ((with_reducible show wpList _ _ _ (⟨_, .load _ _, _, _, _, _⟩ :: _) _ _); refine fldS (by rfl) (by rfl) (by decide +kernel) H (by repeat constructor) (by first | exact fdA_0 _ _ | exact fdA_1 _ _) ?_; try simp only [Act.put, List.setIfInBounds_toArray, List.set_cons_zero, List.set_cons_succ])
          | ((with_reducible refine (NV.out _).mono ?_); rintro _ W ⟨rfl, hb⟩; replace H := hidk (H.out.call hb); clear hb; try simp only [Act.put, List.setIfInBounds_toArray, List.set_cons_zero, List.set_cons_succ])
          | ((with_reducible show wpList _ _ _ (⟨_, .store _ _ _, _, _, _, _⟩ :: _) _ _); refine putS (by rfl) (by rfl) (by rfl) (by exact ⟨rfl, rfl⟩) (by kernel_rfl) H (by repeat first | apply uH | apply uT) (by rw [reA_size _ OKV.out]; decide) (by exact reA_s0 _ _) ?_; clear H; intro W H; try simp only [Act.put, List.setIfInBounds_toArray, List.set_cons_zero, List.set_cons_succ])
          | fail)
        go_roundw
        case rel => exact ⟨k + 1, { v with k := vOf s0.data.toList }, N, by omega, by go_num, H.out.tl, F, HT2, ⟨HN.out.1, Nat.le_succ_of_le HN.out.2⟩, ⟨OKV.out.x, OKV.out.m⟩, OKL⟩
        case measure => simp [intOf]; omega
      rw [Bool.not_eq_true] at q1
      by_cases q2 : (t0 == (2 : Int)) = true
      · obtain rfl : t0 = 2 := by simpa using q2
        clear q1 q2
        have NV : Hid (∀ W, Calls Try.prog 78 #[.agg (fdA 2 s0)] W fun e w' => e = .returned (.int .i64 (vOf s0.data.toList)) ∧ Below W.heap.size W w') := fun W => ktVal _ _ (by have := HS0.out; unfold maxLen; omega) W
        have HT2 : Hid (ReV.t { v with e := vOf s0.data.toList } = takeR (fs.take (k + 1))) := by rw [HTK.out]; unfold stepR; simp; rw [← HT.out]; rfl
        clear HTK
        go_wp2_with (first
          | ((with_reducible show wpList _ _ _ (⟨_, .alloc _, _, _, _, _⟩ :: _) _ _); refine newS (by rfl) (by kernel_rfl) H ?_; clear H; intro gq W hq H; clear hq; try simp only [Act.put, List.setIfInBounds_toArray, List.set_cons_zero, List.set_cons_succ])
          | ((with_reducible show wpList _ _ _ (⟨_, .store _ _ _, _, _, _, _⟩ :: _) _ _); refine setS (by rfl) (by rfl) (by rfl) H (by assumption) (by repeat first | apply uH | apply uT) ?_; clear H; intro W H; try simp only [Act.put, List.setIfInBounds_toArray, List.set_cons_zero, List.set_cons_succ])
          | ((with_reducible show wpList _ _ _ (⟨_, .load _ _, _, _, _, _⟩ :: _) _ _); refine outR (by rfl) (by rfl) (by decide +kernel) H (by assumption) (by assumption) ?_; try simp only [Act.put, List.setIfInBounds_toArray, List.set_cons_zero, List.set_cons_succ])
          | ((with_reducible show wpList _ _ _ (⟨_, .load _ _, _, _, _, _⟩ :: _) _ _); refine rdS (by rfl) (by rfl) (by decide +kernel) H (by repeat constructor) ?_; try simp only [Act.put, List.setIfInBounds_toArray, List.set_cons_zero, List.set_cons_succ])
          | ((with_reducible show wpList _ _ _ (⟨_, .load _ _, _, _, _, _⟩ :: _) _ _); refine fldS (by rfl) (by rfl) (by decide +kernel) H (by repeat constructor) (by first | exact fdA_0 _ _ | exact fdA_1 _ _) ?_; try simp only [Act.put, List.setIfInBounds_toArray, List.set_cons_zero, List.set_cons_succ])
          | ((with_reducible refine (NV.out _).mono ?_); rintro _ W ⟨rfl, hb⟩; replace H := hidk (H.out.call hb); clear hb; try simp only [Act.put, List.setIfInBounds_toArray, List.set_cons_zero, List.set_cons_succ])
          | ((with_reducible show wpList _ _ _ (⟨_, .store _ _ _, _, _, _, _⟩ :: _) _ _); refine putS (by rfl) (by rfl) (by rfl) (by exact ⟨rfl, rfl⟩) (by kernel_rfl) H (by repeat first | apply uH | apply uT) (by rw [reA_size _ OKV.out]; decide) (by exact reA_s1 _ _) ?_; clear H; intro W H; try simp only [Act.put, List.setIfInBounds_toArray, List.set_cons_zero, List.set_cons_succ])
          | fail)
        go_roundw
        case rel => exact ⟨k + 1, { v with e := vOf s0.data.toList }, N, by omega, by go_num, H.out.tl, F, HT2, ⟨HN.out.1, Nat.le_succ_of_le HN.out.2⟩, ⟨OKV.out.x, OKV.out.m⟩, OKL⟩
        case measure => simp [intOf]; omega
      rw [Bool.not_eq_true] at q2
      by_cases q3 : (t0 == (3 : Int)) = true
      · obtain rfl : t0 = 3 := by simpa using q3
        clear q1 q2 q3
        have NV : Hid (∀ W, Calls Try.prog 78 #[.agg (fdA 3 s0)] W fun e w' => e = .returned (.int .i64 (vOf s0.data.toList)) ∧ Below W.heap.size W w') := fun W => ktVal _ _ (by have := HS0.out; unfold maxLen; omega) W
        have HT2 : Hid (ReV.t { v with f := vOf s0.data.toList } = takeR (fs.take (k + 1))) := by rw [HTK.out]; unfold stepR; simp; rw [← HT.out]; rfl
        clear HTK
        go_wp2_with (first
          | ((with_reducible show wpList _ _ _ (⟨_, .alloc _, _, _, _, _⟩ :: _) _ _); refine newS (by rfl) (by kernel_rfl) H ?_; clear H; intro gq W hq H; clear hq; try simp only [Act.put, List.setIfInBounds_toArray, List.set_cons_zero, List.set_cons_succ])
          | ((with_reducible show wpList _ _ _ (⟨_, .store _ _ _, _, _, _, _⟩ :: _) _ _); refine setS (by rfl) (by rfl) (by rfl) H (by assumption) (by repeat first | apply uH | apply uT) ?_; clear H; intro W H; try simp only [Act.put, List.setIfInBounds_toArray, List.set_cons_zero, List.set_cons_succ])
          | ((with_reducible show wpList _ _ _ (⟨_, .load _ _, _, _, _, _⟩ :: _) _ _); refine outR (by rfl) (by rfl) (by decide +kernel) H (by assumption) (by assumption) ?_; try simp only [Act.put, List.setIfInBounds_toArray, List.set_cons_zero, List.set_cons_succ])
          | ((with_reducible show wpList _ _ _ (⟨_, .load _ _, _, _, _, _⟩ :: _) _ _); refine rdS (by rfl) (by rfl) (by decide +kernel) H (by repeat constructor) ?_; try simp only [Act.put, List.setIfInBounds_toArray, List.set_cons_zero, List.set_cons_succ])
          | ((with_reducible show wpList _ _ _ (⟨_, .load _ _, _, _, _, _⟩ :: _) _ _); refine fldS (by rfl) (by rfl) (by decide +kernel) H (by repeat constructor) (by first | exact fdA_0 _ _ | exact fdA_1 _ _) ?_; try simp only [Act.put, List.setIfInBounds_toArray, List.set_cons_zero, List.set_cons_succ])
          | ((with_reducible refine (NV.out _).mono ?_); rintro _ W ⟨rfl, hb⟩; replace H := hidk (H.out.call hb); clear hb; try simp only [Act.put, List.setIfInBounds_toArray, List.set_cons_zero, List.set_cons_succ])
          | ((with_reducible show wpList _ _ _ (⟨_, .store _ _ _, _, _, _, _⟩ :: _) _ _); refine putS (by rfl) (by rfl) (by rfl) (by exact ⟨rfl, rfl⟩) (by kernel_rfl) H (by repeat first | apply uH | apply uT) (by rw [reA_size _ OKV.out]; decide) (by exact reA_s2 _ _) ?_; clear H; intro W H; try simp only [Act.put, List.setIfInBounds_toArray, List.set_cons_zero, List.set_cons_succ])
          | fail)
        go_roundw
        case rel => exact ⟨k + 1, { v with f := vOf s0.data.toList }, N, by omega, by go_num, H.out.tl, F, HT2, ⟨HN.out.1, Nat.le_succ_of_le HN.out.2⟩, ⟨OKV.out.x, OKV.out.m⟩, OKL⟩
        case measure => simp [intOf]; omega
      rw [Bool.not_eq_true] at q3
      by_cases q4 : (t0 == (4 : Int)) = true
      · obtain rfl : t0 = 4 := by simpa using q4
        clear q1 q2 q3 q4
        have NV : Hid (∀ W, Calls Try.prog 79 #[.agg (fdA 4 s0)] W fun e w' => e = .returned (.agg (itA (getIO s0.data.toList))) ∧ Below W.heap.size W w') := fun W => ktIt C _ _ (by have := HS0.out; omega) W
        have HT2 : Hid (ReV.t { v with x := getIO s0.data.toList } = takeR (fs.take (k + 1))) := by rw [HTK.out]; unfold stepR; simp; rw [← HT.out]; rfl
        have HXO : Hid (OkE (getIO s0.data.toList).e) := (getIO_in _).e.ok
        have FI := hidk (itA_fit (getIO s0.data.toList) HXO.out)
        have NZ : Hid ((itA (getIO s0.data.toList)).size = 110) := by show _ = _; simp [itA, icells_length _ HXO.out]
        clear HTK
        go_wp2_with (first
          | ((with_reducible show wpList _ _ _ (⟨_, .alloc _, _, _, _, _⟩ :: _) _ _); refine newS (by rfl) (by kernel_rfl) H ?_; clear H; intro gq W hq H; clear hq; try simp only [Act.put, List.setIfInBounds_toArray, List.set_cons_zero, List.set_cons_succ])
          | ((with_reducible show wpList _ _ _ (⟨_, .store _ _ _, _, _, _, _⟩ :: _) _ _); refine setS (by rfl) (by rfl) (by rfl) H (by assumption) (by repeat first | apply uH | apply uT) ?_; clear H; intro W H; try simp only [Act.put, List.setIfInBounds_toArray, List.set_cons_zero, List.set_cons_succ])
          | ((with_reducible show wpList _ _ _ (⟨_, .load _ _, _, _, _, _⟩ :: _) _ _); refine outR (by rfl) (by rfl) (by decide +kernel) H (by assumption) (by assumption) ?_; try simp only [Act.put, List.setIfInBounds_toArray, List.set_cons_zero, List.set_cons_succ])
          | ((with_reducible show wpList _ _ _ (⟨_, .load _ _, _, _, _, _⟩ :: _) _ _); refine rdS (by rfl) (by rfl) (by decide +kernel) H (by repeat constructor) ?_; try simp only [Act.put, List.setIfInBounds_toArray, List.set_cons_zero, List.set_cons_succ])
          | ((with_reducible show wpList _ _ _ (⟨_, .load _ _, _, _, _, _⟩ :: _) _ _); refine fldS (by rfl) (by rfl) (by decide +kernel) H (by repeat constructor) (by first | exact fdA_0 _ _ | exact fdA_1 _ _) ?_; try simp only [Act.put, List.setIfInBounds_toArray, List.set_cons_zero, List.set_cons_succ])
          | ((with_reducible refine (NV.out _).mono ?_); rintro _ W ⟨rfl, hb⟩; replace H := hidk (H.out.call hb); clear hb; try simp only [Act.put, List.setIfInBounds_toArray, List.set_cons_zero, List.set_cons_succ])
          | ((with_reducible show wpList _ _ _ (⟨_, .store _ _ _, _, _, _, _⟩ :: _) _ _); refine midS (by rfl) (by rfl) (by rfl) H (by assumption) (by repeat first | apply uH | apply uT) (by rw [reA_size _ OKV.out, NZ.out]; decide) (by exact reA_mx _ OKV.out _ HXO.out) ?_; clear H; intro W H; try simp only [Act.put, List.setIfInBounds_toArray, List.set_cons_zero, List.set_cons_succ])
          | fail)
        go_roundw
        case rel => exact ⟨k + 1, { v with x := getIO s0.data.toList }, N, by omega, by go_num, H.out.tl, F, HT2, ⟨HN.out.1, Nat.le_succ_of_le HN.out.2⟩, ⟨HXO.out, OKV.out.m⟩, OKL⟩
        case measure => simp [intOf]; omega
      rw [Bool.not_eq_true] at q4
      by_cases q5 : (t0 == (5 : Int)) = true
      · obtain rfl : t0 = 5 := by simpa using q5
        clear q1 q2 q3 q4 q5
        have HTL : Hid (s0.size ≤ maxLen) := by show _ ≤ _; have := HS0.out; unfold maxLen; omega
        have NV : Hid (∀ W a c, Reads W a s0.size c s0.data.toList → Calls Try.prog 80 #[.slice a s0.size c] W fun e w' => e = .returned (.tuple #[.agg (clA (getCO s0.data.toList)), .int .i64 (getCE s0.data.toList)]) ∧ Below W.heap.size W w') := fun W a c h => C.getC a _ c _ W h (by have := HS0.out; omega) _ (hidk rfl)
        have HT2 : Hid (ReV.t { v with m := getCO s0.data.toList } = takeR (fs.take (k + 1))) := by rw [HTK.out]; unfold stepR; simp; rw [← HT.out]; rfl
        have HXO : Hid ((getCO s0.data.toList).d.length = 32) := (getCO_in _).d
        have FI := hidk (clA_fit (getCO s0.data.toList) HXO.out)
        have NZ : Hid ((clA (getCO s0.data.toList)).size = 36) := by show _ = _; simp [clA, ccells_length _ HXO.out]
        clear HTK
        go_wp2_with (first
          | ((with_reducible show wpList _ _ _ (⟨_, .alloc _, _, _, _, _⟩ :: _) _ _); refine newS (by rfl) (by kernel_rfl) H ?_; clear H; intro gq W hq H; clear hq; try simp only [Act.put, List.setIfInBounds_toArray, List.set_cons_zero, List.set_cons_succ])
          | ((with_reducible show wpList _ _ _ (⟨_, .store _ _ _, _, _, _, _⟩ :: _) _ _); refine setS (by rfl) (by rfl) (by rfl) H (by assumption) (by repeat first | apply uH | apply uT) ?_; clear H; intro W H; try simp only [Act.put, List.setIfInBounds_toArray, List.set_cons_zero, List.set_cons_succ])
          | ((with_reducible show wpList _ _ _ (⟨_, .load _ _, _, _, _, _⟩ :: _) _ _); refine outR (by rfl) (by rfl) (by decide +kernel) H (by assumption) (by assumption) ?_; try simp only [Act.put, List.setIfInBounds_toArray, List.set_cons_zero, List.set_cons_succ])
          | ((with_reducible show wpList _ _ _ (⟨_, .load _ _, _, _, _, _⟩ :: _) _ _); refine rdS (by rfl) (by rfl) (by decide +kernel) H (by repeat constructor) ?_; try simp only [Act.put, List.setIfInBounds_toArray, List.set_cons_zero, List.set_cons_succ])
          | ((with_reducible show wpList _ _ _ (⟨_, .load _ _, _, _, _, _⟩ :: _) _ _); refine fldS (by rfl) (by rfl) (by decide +kernel) H (by repeat constructor) (by first | exact fdA_0 _ _ | exact fdA_1 _ _) ?_; try simp only [Act.put, List.setIfInBounds_toArray, List.set_cons_zero, List.set_cons_succ])
          | ((with_reducible show wpList _ _ _ (⟨_, .convert _ _ _, _, _, _, _⟩ :: _) _ _); refine txS (by rfl) (by rfl) Try.underlying9 Try.underlying61 Try.underlying5 HTL.out H ?_; clear H; intro gt ct W o HTX H; try simp only [Act.put, List.setIfInBounds_toArray, List.set_cons_zero, List.set_cons_succ])
          | ((with_reducible refine (NV.out _ _ _ (HTX.out _ H.out.has.hd)).mono ?_); rintro _ W ⟨rfl, hb⟩; replace H := hidk (H.out.call hb); clear hb; try simp only [Act.put, List.setIfInBounds_toArray, List.set_cons_zero, List.set_cons_succ])
          | ((with_reducible show wpList _ _ _ (⟨_, .store _ _ _, _, _, _, _⟩ :: _) _ _); refine midS (by rfl) (by rfl) (by rfl) H (by assumption) (by repeat first | apply uH | apply uT) (by rw [reA_size _ OKV.out, NZ.out]; decide) (by exact reA_mm _ OKV.out _ HXO.out) ?_; clear H; intro W H; try simp only [Act.put, List.setIfInBounds_toArray, List.set_cons_zero, List.set_cons_succ])
          | fail)
        go_roundw
        case rel => exact ⟨k + 1, { v with m := getCO s0.data.toList }, N, by omega, by go_num, H.out.sub (List.sublist_cons_self ..) (List.sublist_cons_self ..), F, HT2, ⟨HN.out.1, Nat.le_succ_of_le HN.out.2⟩, ⟨OKV.out.x, HXO.out⟩, OKL⟩
        case measure => simp [intOf]; omega
      rw [Bool.not_eq_true] at q5
      by_cases q6 : (t0 == (6 : Int)) = true
      · obtain rfl : t0 = 6 := by simpa using q6
        clear q1 q2 q3 q4 q5 q6
        have NV : Hid (∀ W, Calls Try.prog 79 #[.agg (fdA 6 s0)] W fun e w' => e = .returned (.agg (itA (getIO s0.data.toList))) ∧ Below W.heap.size W w') := fun W => ktIt C _ _ (by have := HS0.out; omega) W
        have HT2 : Hid (∀ a n c, ReV.t { v with a := a, n := n, c := c, l := v.l ++ [getIO s0.data.toList] } = takeR (fs.take (k + 1))) := fun a n c => by rw [HTK.out]; unfold stepR; simp; rw [← HT.out]; rfl
        have HXO : Hid (OkE (getIO s0.data.toList).e) := (getIO_in _).e.ok
        have OKL2 : Hid (∀ y ∈ v.l ++ [getIO s0.data.toList], OkE y.e) := fun y hy => by rcases List.mem_append.1 hy with q | q; exact OKL.out y q; rw [List.mem_singleton.1 q]; exact HXO.out
        have r113 := hidk (reA_113 v OKV.out)
        have HNK : Hid (v.n + 1 ≤ 3000) := by show _ ≤ _; have := HN.out.2; omega
        clear HTK
        go_wp2_with (first
          | ((with_reducible show wpList _ _ _ (⟨_, .alloc _, _, _, _, _⟩ :: _) _ _); refine newS (by rfl) (by kernel_rfl) H ?_; clear H; intro gq W hq H; clear hq; try simp only [Act.put, List.setIfInBounds_toArray, List.set_cons_zero, List.set_cons_succ])
          | ((with_reducible show wpList _ _ _ (⟨_, .store _ _ _, _, _, _, _⟩ :: _) _ _); refine setS (by rfl) (by rfl) (by rfl) H (by assumption) (by repeat first | apply uH | apply uT) ?_; clear H; intro W H; try simp only [Act.put, List.setIfInBounds_toArray, List.set_cons_zero, List.set_cons_succ])
          | ((with_reducible show wpList _ _ _ (⟨_, .load _ _, _, _, _, _⟩ :: _) _ _); refine outR (by rfl) (by rfl) (by decide +kernel) H (by assumption) (by assumption) ?_; try simp only [Act.put, List.setIfInBounds_toArray, List.set_cons_zero, List.set_cons_succ])
          | ((with_reducible show wpList _ _ _ (⟨_, .load _ _, _, _, _, _⟩ :: _) _ _); refine rdS (by rfl) (by rfl) (by decide +kernel) H (by repeat constructor) ?_; try simp only [Act.put, List.setIfInBounds_toArray, List.set_cons_zero, List.set_cons_succ])
          | ((with_reducible show wpList _ _ _ (⟨_, .load _ _, _, _, _, _⟩ :: _) _ _); refine fldS (by rfl) (by rfl) (by decide +kernel) H (by repeat constructor) (by first | exact fdA_0 _ _ | exact fdA_1 _ _) ?_; try simp only [Act.put, List.setIfInBounds_toArray, List.set_cons_zero, List.set_cons_succ])
          | fail)
        refine region_mix _ [] [3, 4, 5, 7] [7] [0, 1, 2, 3, 4, 5, 6, 7] (by kernel_rfl) (by kernel_rfl) (by kernel_rfl) (by rfl) H (List.Sublist.refl _) (List.nil_sublist _) ?_
        clear H
        intro W hne H
        repeat (first
          | (refine mix_skip (by rfl) (by rfl) ?_; try simp only [Act.put, List.setIfInBounds_toArray, List.set_cons_zero, List.set_cons_succ])
          | (refine mix_q (by rfl) (by rfl) (by rfl) (by rfl) ?_; intro K hK; first | (refine qF (by rfl) (by decide +kernel) (by repeat constructor) (by exact r113.out) ?_; try simp only [Act.put, List.setIfInBounds_toArray, List.set_cons_zero, List.set_cons_succ]; go_big_quiet_on) | (refine qR (by rfl) (by decide +kernel) (by repeat constructor) (by kernel_rfl) ?_; try simp only [Act.put, List.setIfInBounds_toArray, List.set_cons_zero, List.set_cons_succ]; go_big_quiet_on) | (go_big_quiet_op; go_big_quiet_on))
          | (refine mix_e (by rfl) (by rfl) (by rfl) ?_; go_wp2_with (first | ((with_reducible refine (NV.out _).mono ?_); rintro _ W ⟨rfl, hb⟩; replace H := hidk (H.out.call hb); clear hb; try simp only [Act.put, List.setIfInBounds_toArray, List.set_cons_zero, List.set_cons_succ]) | ((with_reducible show wpList _ _ _ (⟨_, .buildSlice _ _ _, _, _, _, _⟩ :: _) _ _); obtain ⟨hbr, a2, c2, V, Nx, har, HV, FV⟩ := app_item (A := []) H.out F.out (getIO s0.data.toList) OKL2.out HNK.out; refine bslS (by rfl) hbr (by rfl) ?_; try simp only [Act.put, List.setIfInBounds_toArray, List.set_cons_zero, List.set_cons_succ]) | ((with_reducible show wpList _ _ _ (⟨_, .call _, _, _, _, _⟩ :: _) _ _); refine appS (by rfl) (by rfl) (by rfl) har ?_; clear H; have H := HV; clear HV; try simp only [Act.put, List.setIfInBounds_toArray, List.set_cons_zero, List.set_cons_succ]) | ((with_reducible show wpList _ _ _ (⟨_, .store _ _ _, _, _, _, _⟩ :: _) _ _); refine putS (by rfl) (by rfl) (by rfl) (by exact ⟨rfl, rfl⟩) (by kernel_rfl) H (by repeat first | apply uH | apply uT) (by rw [reA_size _ OKV.out]; decide) (by exact reA_s113 _ OKV.out _ _ _ (v.l ++ [getIO s0.data.toList])) ?_; clear H; intro W H; try simp only [Act.put, List.setIfInBounds_toArray, List.set_cons_zero, List.set_cons_succ]) | fail); first | refine mix_fin (by rfl) ?_ | refine mix_fin2 ?_ | refine mix_on (by first | exact H.out.sub (List.Sublist.refl _) (List.nil_sublist _) | exact (H.out.call ((Below.refl _ _).alloc (Nat.le_refl _) _)).sub (List.Sublist.refl _) (List.nil_sublist _)) ?_ | refine mix_on2 (by first | exact H.out.sub (List.Sublist.refl _) (List.nil_sublist _) | exact (H.out.call ((Below.refl _ _).alloc (Nat.le_refl _) _)).sub (List.Sublist.refl _) (List.nil_sublist _)) ?_))
        refine mix_end ?_
        clear hne
        go_wp2
        go_roundw
        case rel => exact ⟨k + 1, { v with a := a2, n := v.n + 1, c := c2, l := v.l ++ [getIO s0.data.toList] }, Nx, by omega, by go_num, H.out.tl, FV, HT2.out _ _ _, by show _ ∧ _; have := HN.out; simp; omega, ⟨OKV.out.x, OKV.out.m⟩, OKL2⟩
        case measure => simp [intOf]; omega
      rw [Bool.not_eq_true] at q6
      have HT2 : Hid (v.t = takeR (fs.take (k + 1))) := by
        show _ = _
        rw [HTK.out]; unfold stepR
        simp only [beq_eq_false_iff_ne] at q1 q2 q3 q4 q5 q6
        rw [if_neg q1, if_neg q2, if_neg q3, if_neg q4, if_neg q5, if_neg q6, ← HT.out]
      clear HTK
      go_wp2_with (first
        | ((with_reducible show wpList _ _ _ (⟨_, .alloc _, _, _, _, _⟩ :: _) _ _); refine newS (by rfl) (by kernel_rfl) H ?_; clear H; intro gq W hq H; clear hq; try simp only [Act.put, List.setIfInBounds_toArray, List.set_cons_zero, List.set_cons_succ])
        | ((with_reducible show wpList _ _ _ (⟨_, .store _ _ _, _, _, _, _⟩ :: _) _ _); refine setS (by rfl) (by rfl) (by rfl) H (by assumption) (by repeat first | apply uH | apply uT) ?_; clear H; intro W H; try simp only [Act.put, List.setIfInBounds_toArray, List.set_cons_zero, List.set_cons_succ])
        | ((with_reducible show wpList _ _ _ (⟨_, .load _ _, _, _, _, _⟩ :: _) _ _); refine outR (by rfl) (by rfl) (by decide +kernel) H (by assumption) (by assumption) ?_; try simp only [Act.put, List.setIfInBounds_toArray, List.set_cons_zero, List.set_cons_succ])
        | ((with_reducible show wpList _ _ _ (⟨_, .load _ _, _, _, _, _⟩ :: _) _ _); refine rdS (by rfl) (by rfl) (by decide +kernel) H (by repeat constructor) ?_; try simp only [Act.put, List.setIfInBounds_toArray, List.set_cons_zero, List.set_cons_succ])
        | ((with_reducible show wpList _ _ _ (⟨_, .load _ _, _, _, _, _⟩ :: _) _ _); refine fldS (by rfl) (by rfl) (by decide +kernel) H (by repeat constructor) (by first | exact fdA_0 _ _ | exact fdA_1 _ _) ?_; try simp only [Act.put, List.setIfInBounds_toArray, List.set_cons_zero, List.set_cons_succ])
        | fail)
      go_roundw
      case rel => exact ⟨k + 1, v, N, by omega, by go_num, H.out.tl, F, HT2, by show _ ∧ _; have := HN.out; omega, OKV, OKL⟩
      case measure => simp [intOf]; omega
    · obtain rfl : len = k := by omega
      have hd : decide ((len : Int) < (len : Int)) = false := by rw [decide_eq_false_iff_not]; omega
      have FV := hidk (reA_fit v OKV.out)
      have HE : Hid (v.t = takeR fs) := by have := HT.out; rwa [List.take_of_length_le (by have := HLN.out; omega)] at this
      go_wp2_with (first
        | ((with_reducible show wpList _ _ _ (⟨_, .load _ _, _, _, _, _⟩ :: _) _ _); refine rdS (by rfl) (by rfl) (by decide +kernel) H (by repeat constructor) ?_; try simp only [Act.put, List.setIfInBounds_toArray, List.set_cons_zero, List.set_cons_succ])
        | ((with_reducible show wpList _ _ _ (⟨_, .store _ _ _, _, _, _, _⟩ :: _) _ _); refine setS (by rfl) (by rfl) (by rfl) H (by assumption) (by repeat first | apply uH | apply uT) ?_; clear H; intro W H; try simp only [Act.put, List.setIfInBounds_toArray, List.set_cons_zero, List.set_cons_succ])
        | fail)
      refine bodyPost_ret (resS1 rfl rfl H (by repeat constructor) (by kernel_rfl)) rfl ?_
      exact ⟨v, rfl, HE.out, ⟨.inr (F.out.2 _ H.out.has.l), HN.out.1⟩, OKV.out, H.out.b⟩
end Go.Proofs.Ytjpmmbmhkpgjcaa
