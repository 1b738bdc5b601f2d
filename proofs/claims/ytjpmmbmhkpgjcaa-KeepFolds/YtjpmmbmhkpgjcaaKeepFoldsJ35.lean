/- Texts of our own that the row of KeepFolds leans on, part 35. -/
import Derived.Test.YtjpmmbmhkpgjcaaKeepFoldsJ0
import Derived.Test.YtjpmmbmhkpgjcaaKeepFoldsJ27
import Derived.Test.YtjpmmbmhkpgjcaaKeepFoldsJ31
import Derived.Test.YtjpmmbmhkpgjcaaKeepFoldsJ34
/- The document's Fold. -/
namespace Go.Proofs.Ytjpmmbmhkpgjcaa
open Go.RowKit Nums Sums
set_option linter.unusedVariables false
set_option linter.unusedSimpArgs false
set_option maxRecDepth 100000
theorem kpE_1 {t : KeT} {r : ReT} (h : rightKe t = false) : kpE t r = 1 := by unfold kpE; rw [if_pos h]
theorem kpE_2 {t : KeT} {r : ReT} (h : rightKe t = true) (h2 : mayR r = false) : kpE t r = 140 := by unfold kpE; rw [if_neg (by rw [h]; decide), if_pos h2]
theorem kpE_3 {t : KeT} {r : ReT} (h : rightKe t = true) (h2 : mayR r = true) (h3 : kpW t r ≠ 0) : kpE t r = kpW t r := by unfold kpE; rw [if_neg (by rw [h]; decide), if_neg (by rw [h2]; decide), if_pos h3]
theorem kpE_4 {t : KeT} {r : ReT} (h : rightKe t = true) (h2 : mayR r = true) (h3 : kpW t r = 0) : kpE t r = if rightKe (kpX t r) = false then 140 else 0 := by unfold kpE; rw [if_neg (by rw [h]; decide), if_neg (by rw [h2]; decide), if_neg (by rw [h3]; decide)]
theorem builtZK : Try.prog.built 25 [] = some (keA zeroKv) := by kernel_rfl
def FoldP (t : KeT) (r : ReT) (w : World) (x : Ending) (w' : World) : Prop := ∃ v', x = .returned (.tuple #[.agg (keA v'), .int .i64 (kpE t r)]) ∧ v'.t = kpO t r ∧ v'.n = v'.l.length ∧ v'.m = v'.k.length ∧ OwnKe w' w.heap.size v' ∧ Below w.heap.size w w'
theorem own_zero (W : World) (B : Nat) : OwnKe W B zeroKv := ⟨⟨rfl, .inl ⟨rfl, rfl⟩⟩, ⟨rfl, .inl ⟨rfl, rfl⟩⟩⟩
theorem FoldP.no {t : KeT} {r : ReT} {w w' : World} {E : Int} (h : kpE t r = E) (h0 : E ≠ 0) (hb : Below w.heap.size w w') : FoldP t r w (.returned (.tuple #[.agg (keA zeroKv), .int .i64 E])) w' :=
  ⟨zeroKv, by rw [h], by rw [kp_no (by rw [h]; exact h0)]; rfl, rfl, rfl, own_zero _ _, hb⟩
theorem kpX_1 {v1 v : KeV} {r : ReV} (hk : r.k = 1) (et : v1.t = v.t) : KeV.t { v1 with e := r.e } = kpX v.t r.t := by
  unfold kpX
  rw [if_pos (show r.t.k = 1 from hk), ← et]
  rfl
theorem kpX_2 {v1 v : KeV} {r : ReV} {a : Option Addr} {n c : Nat} (hk : r.k = 2) (et : v1.t = v.t) : KeV.t { v1 with a := a, n := n, c := c, l := v1.l ++ [r.x] } = kpX v.t r.t := by
  unfold kpX
  rw [if_neg (by rw [show r.t.k = 2 from hk]; decide), if_pos (show r.t.k = 2 from hk), ← et]
  rfl
theorem kpX_3 {v1 v : KeV} {r : ReV} {a : Option Addr} {n c j : Nat} (hk : r.k = 3) (et : v1.t = v.t) (hf : r.f = j) : KeV.t { v1 with e := r.e, g := r.e, a := a, n := n, c := c, l := v.l.take j ++ r.l } = kpX v.t r.t := by
  unfold kpX
  rw [if_neg (by rw [show r.t.k = 3 from hk]; decide), if_neg (by rw [show r.t.k = 3 from hk]; decide), if_pos (show r.t.k = 3 from hk)]
  have h4 : v1.k = v.k := congrArg KeT.k et
  show KeT.mk r.e r.e (v.l.take j ++ r.l) v1.k = KeT.mk r.e r.e (v.l.take r.f.toNat ++ r.l) v.k
  rw [h4, hf, Int.toNat_natCast]
theorem kpX_4 {v1 v : KeV} {r : ReV} {a : Option Addr} {n c : Nat} (hk : r.k = 4) (et : v1.t = v.t) : KeV.t { v1 with b := a, m := n, d := c, k := recL v.k r.m } = kpX v.t r.t := by
  unfold kpX
  rw [if_neg (by rw [show r.t.k = 4 from hk]; decide), if_neg (by rw [show r.t.k = 4 from hk]; decide), if_neg (by rw [show r.t.k = 4 from hk]; decide)]
  show KeT.mk v1.e v1.g v1.l (recL v.k r.m) = KeT.mk v.e v.g v.l (recL v.k r.m)
  rw [show v1.e = v.e from congrArg KeT.e et, show v1.g = v.g from congrArg KeT.g et, show v1.l = v.l from congrArg KeT.l et]
theorem kpX_ok {w : World} {v : KeV} {r : ReV} (h : KIn w v) (hr : RIn w r) (hl : r.n ≤ 250) : (∀ x ∈ (kpX v.t r.t).l, OkE x.e) ∧ (∀ x ∈ (kpX v.t r.t).k, OkC x) ∧ (kpX v.t r.t).l.length ≤ 1000 ∧ (kpX v.t r.t).k.length ≤ 1000 := by
  have l1 := h.i.rd.ln
  have l2 := h.c.ln
  have l3 := hr.i.rd.ln
  have l4 := h.il
  have l5 := h.cl
  have l6 := hl
  have o1 : ∀ x ∈ v.l, OkE x.e := h.i.rd.ok
  have o2 : ∀ x ∈ r.l, OkE x.e := hr.i.rd.ok
  have o3 : ∀ x ∈ v.k, OkC x := h.c.ok
  unfold kpX
  split
  · exact ⟨o1, o3, by show v.l.length ≤ 1000; omega, by show v.k.length ≤ 1000; omega⟩
  split
  · refine ⟨fun x hx => ?_, o3, by show (v.l ++ [r.x]).length ≤ 1000; rw [List.length_append]; show v.l.length + 1 ≤ 1000; omega, by show v.k.length ≤ 1000; omega⟩
    rcases List.mem_append.1 hx with q | q
    · exact o1 x q
    · rw [List.mem_singleton.1 q]; exact hr.xo
  split
  · refine ⟨fun x hx => ?_, o3, by show (v.l.take _ ++ r.l).length ≤ 1000; rw [List.length_append, List.length_take]; omega, by show v.k.length ≤ 1000; omega⟩
    rcases List.mem_append.1 hx with q | q
    · exact o1 x (List.mem_of_mem_take q)
    · exact o2 x q
  · refine ⟨o1, fun x hx => ?_, by show v.l.length ≤ 1000; omega, ?_⟩
    · by_cases q : recE v.k r.m = 0
      · rcases (recL_mem q x).1 hx with e | e
        · rw [e]; exact hr.m.d
        · exact o3 x e
      · have : recL v.k r.m = [] := by unfold recL; rw [if_neg q]
        have hx' : x ∈ recL v.k r.m := hx
        rw [this] at hx'; cases hx'
    · show (recL v.k r.m).length ≤ 1000
      by_cases q : recE v.k r.m = 0
      · have := (recL_length q).2; omega
      · have : recL v.k r.m = [] := by unfold recL; rw [if_neg q]
        rw [this]; show 0 ≤ 1000; omega
theorem refRightKe_own (u : KeV) (W : World) (B : Nat) (ho : OwnKe W B u) (okl : ∀ x ∈ u.l, OkE x.e) (okk : ∀ x ∈ u.k, OkC x) (hl : u.l.length ≤ 1000000) (hk : u.k.length ≤ 1000000) : Calls Try.prog 13 #[.agg (keA u)] W fun e w' => e = .returned (.bool (rightKe u.t)) ∧ Below W.heap.size W w' := by
  obtain ⟨a, c, e, rd, _, _⟩ := IReads.own ho.1 okl
  obtain ⟨b, d, e2, rc, _, _⟩ := CReads.own ho.2 okk
  have h1 := rd.ln
  have h2 := rc.ln
  cases e
  cases e2
  exact refRightKe_in u.e u.g _ _ _ u.l _ _ _ u.k _ W rd rc (by omega) (by omega) (keA_fit u) (keA_0 u) (keA_1 u) (keA_2 u) (keA_3 u)
set_option maxHeartbeats 32000000 in
theorem refFold_any (v : KeV) (r : ReV) (w : World) (h : KIn w v) (hr : RIn w r) (hl : r.n ≤ 250) : Calls Try.prog 21 #[.agg (keA v), .agg (reA r)] w (FoldP v.t r.t w) := by
  have ok := hr.ok
  have FX : Hid (Fit Try.prog 25 (keA v)) := keA_fit _
  have FR : Hid (Fit Try.prog 42 (reA r)) := reA_fit r ok
  have FY := hidk keA_fit
  have FXS := hidk (itA_fit r.x hr.xo).s
  have FMS := hidk (clA_fit r.m hr.m.d).s
  have r113 := hidk (reA_113 r ok)
  obtain ⟨b1, h1⟩ : ∃ b, rightKe v.t = b := ⟨_, rfl⟩
  obtain ⟨b2, h2⟩ : ∃ b, mayR r.t = b := ⟨_, rfl⟩
  have W1 : Hid (∀ W, Below w.heap.size w W → Calls Try.prog 13 #[.agg (keA v)] W fun e w' => e = .returned (.bool b1) ∧ Below W.heap.size W w') := fun W hb => by rw [← h1]; exact refRightKe_any v W (h.keep hb)
  have W2 : Hid (∀ W, Below w.heap.size w W → Calls Try.prog 25 #[.agg (reA r)] W fun e w' => e = .returned (.bool b2) ∧ Below W.heap.size W w') := fun W hb => by rw [← h2]; exact refMayR_any r W (hr.keep hb)
  have W3 : Hid (∀ W, Below w.heap.size w W → Calls Try.prog 10 #[.agg (keA v)] W fun x w' => ∃ v', x = .returned (.agg (keA v')) ∧ v'.t = v.t ∧ v'.n = v.n ∧ v'.m = v.m ∧ OwnKe w' W.heap.size v' ∧ Below W.heap.size W w') := fun W hb => refOwnKe_any v W (h.keep hb)
  have H := hidk (Sep.start Try.prog w)
  cases b1
  · have HE := hidk (kpE_1 (r := r.t) h1)
    clear h hr hl h1 h2
    go_enter Try.func21, Try.ntmps21
    go_wp2_with (first
      | ((with_reducible show wpList _ _ _ (⟨_, .box _ _, _, _, _, _⟩ :: _) _ _); refine boxS (by rfl) (by rfl) H (by assumption) ?_; clear H; intro gq W hq H; clear hq; try simp only [Act.put, pS1, pS2, pS3])
      | ((with_reducible show wpList _ _ _ (⟨_, .alloc _, _, _, _, _⟩ :: _) _ _); refine newS (by rfl) (by kernel_rfl) H ?_; clear H; intro gq W hq H; clear hq; try simp only [Act.put, pS1, pS2, pS3])
      | ((with_reducible show wpList _ _ _ (⟨_, .build _ _, _, _, _, _⟩ :: _) _ _); refine bldS (by rfl) (by with_reducible exact builtZK) (by rfl) ?_; try simp only [Act.put, pS1, pS2, pS3])
      | ((with_reducible show wpList _ _ _ (⟨_, .store _ _ _, _, _, _, _⟩ :: _) _ _); refine setS (by rfl) (by rfl) (by rfl) H (by exact FY.out _) (by repeat first | apply uH | apply uT) ?_; clear H; intro W H; try simp only [Act.put, pS1, pS2, pS3])
      | ((with_reducible show wpList _ _ _ (⟨_, .load _ _, _, _, _, _⟩ :: _) _ _); refine rdS (by rfl) (by rfl) (by decide +kernel) H (by repeat constructor) ?_; try simp only [Act.put, pS1, pS2, pS3])
      | ((with_reducible refine (W1.out _ H.out.b).mono ?_); rintro _ W ⟨rfl, hb⟩; replace H := hidk (H.out.call hb); clear hb; try simp only [Act.put, pS1, pS2, pS3])
      | fail)
    refine bodyPost_ret (resS2 rfl rfl H (by repeat constructor) (by kernel_rfl)) rfl ?_
    exact FoldP.no HE.out (by decide) H.out.b
  cases b2
  · have HE := hidk (kpE_2 h1 h2)
    clear h hr hl h1 h2
    go_enter Try.func21, Try.ntmps21
    go_wp2_with (first
      | ((with_reducible show wpList _ _ _ (⟨_, .box _ _, _, _, _, _⟩ :: _) _ _); refine boxS (by rfl) (by rfl) H (by assumption) ?_; clear H; intro gq W hq H; clear hq; try simp only [Act.put, pS1, pS2, pS3])
      | ((with_reducible show wpList _ _ _ (⟨_, .alloc _, _, _, _, _⟩ :: _) _ _); refine newS (by rfl) (by kernel_rfl) H ?_; clear H; intro gq W hq H; clear hq; try simp only [Act.put, pS1, pS2, pS3])
      | ((with_reducible show wpList _ _ _ (⟨_, .build _ _, _, _, _, _⟩ :: _) _ _); refine bldS (by rfl) (by with_reducible exact builtZK) (by rfl) ?_; try simp only [Act.put, pS1, pS2, pS3])
      | ((with_reducible show wpList _ _ _ (⟨_, .store _ _ _, _, _, _, _⟩ :: _) _ _); refine setS (by rfl) (by rfl) (by rfl) H (by exact FY.out _) (by repeat first | apply uH | apply uT) ?_; clear H; intro W H; try simp only [Act.put, pS1, pS2, pS3])
      | ((with_reducible show wpList _ _ _ (⟨_, .load _ _, _, _, _, _⟩ :: _) _ _); refine rdS (by rfl) (by rfl) (by decide +kernel) H (by repeat constructor) ?_; try simp only [Act.put, pS1, pS2, pS3])
      | ((with_reducible refine (W1.out _ H.out.b).mono ?_); rintro _ W ⟨rfl, hb⟩; replace H := hidk (H.out.call hb); clear hb; try simp only [Act.put, pS1, pS2, pS3])
      | ((with_reducible refine (W2.out _ H.out.b).mono ?_); rintro _ W ⟨rfl, hb⟩; replace H := hidk (H.out.call hb); clear hb; try simp only [Act.put, pS1, pS2, pS3])
      | fail)
    refine bodyPost_ret (resS2 rfl rfl H (by repeat constructor) (by kernel_rfl)) rfl ?_
    exact FoldP.no HE.out (by decide) H.out.b
  obtain ⟨hxl, hxk, hnl, hnk⟩ := kpX_ok h hr hl
  obtain ⟨b3, h3⟩ : ∃ b, rightKe (kpX v.t r.t) = b := ⟨_, rfl⟩
  have W4 : Hid (∀ (u : KeV) W, u.t = kpX v.t r.t → OwnKe W w.heap.size u → Calls Try.prog 13 #[.agg (keA u)] W fun e w' => e = .returned (.bool b3) ∧ Below W.heap.size W w') := fun u W hu ho => by
    rw [← h3, ← hu]
    rw [← hu] at hxl hxk hnl hnk
    exact refRightKe_own u W _ ho hxl hxk (by have : u.l.length ≤ 1000 := hnl; omega) (by have : u.k.length ≤ 1000 := hnk; omega)
  have HOK := hidk hxl
  have HE4 : Hid (kpW v.t r.t = 0 → kpE v.t r.t = if b3 = false then 140 else 0) := fun q => by rw [kpE_4 h1 h2 q, h3]
  have HE3 : Hid (kpW v.t r.t ≠ 0 → kpE v.t r.t = kpW v.t r.t) := fun q => kpE_3 h1 h2 q
  have HFO : Hid (∀ (u : KeV) (W : World), kpE v.t r.t = 0 → u.t = kpX v.t r.t → u.n = u.l.length → u.m = u.k.length → OwnKe W w.heap.size u → Below w.heap.size w W → FoldP v.t r.t w (.returned (.tuple #[.agg (keA u), .int .i64 0])) W) := fun u W q hu hn hm ho hb => ⟨u, by rw [q], by rw [(kpE_ok q).2.2.2.2, hu], hn, hm, ho, hb⟩
  have LN : Hid (v.n = v.l.length ∧ v.m = v.k.length ∧ r.n = r.l.length) := hidk ⟨h.i.rd.ln.symm, h.c.ln.symm, hr.i.rd.ln.symm⟩
  clear hxl hxk hnl hnk h3
  rcases mayR_kinds h2 with hk | hk | hk | hk
  · -- kind 1
    have d1 : (r.k == (1 : Int)) = true := by rw [show r.k = 1 from hk]; rfl
    have d2 : (r.k == (2 : Int)) = false := by rw [show r.k = 1 from hk]; rfl
    have d3 : (r.k == (3 : Int)) = false := by rw [show r.k = 1 from hk]; rfl
    have d4 : (r.k == (4 : Int)) = false := by rw [show r.k = 1 from hk]; rfl
    have HK := hidk hk
    obtain ⟨p1, hp1⟩ : ∃ b, decide (r.e < v.e) = b := ⟨_, rfl⟩
    have HW : Hid (kpW v.t r.t = if p1 = true then 140 else 0) := by show _ = _; unfold kpW; rw [if_pos hk, ← hp1]; simp only [decide_eq_true_eq]; rfl
    cases p1
    all_goals try cases b3
    all_goals clear h hr hl h1 h2 hk 
    all_goals
      go_enter Try.func21, Try.ntmps21
      go_wp2_with (first
        | ((with_reducible show wpList _ _ _ (⟨_, .box _ _, _, _, _, _⟩ :: _) _ _); refine boxS (by rfl) (by rfl) H (by assumption) ?_; clear H; intro gq W hq H; clear hq; try simp only [Act.put, pS1, pS2, pS3])
        | ((with_reducible show wpList _ _ _ (⟨_, .alloc _, _, _, _, _⟩ :: _) _ _); refine newS (by rfl) (by kernel_rfl) H ?_; clear H; intro gq W hq H; clear hq; try simp only [Act.put, pS1, pS2, pS3])
        | ((with_reducible show wpList _ _ _ (⟨_, .build _ _, _, _, _, _⟩ :: _) _ _); refine bldS (by rfl) (by with_reducible exact builtZK) (by rfl) ?_; try simp only [Act.put, pS1, pS2, pS3])
        | ((with_reducible show wpList _ _ _ (⟨_, .store _ _ _, _, _, _, _⟩ :: _) _ _); refine setS (by rfl) (by rfl) (by rfl) H (by exact FY.out _) (by repeat first | apply uH | apply uT) ?_; clear H; intro W H; try simp only [Act.put, pS1, pS2, pS3])
        | ((with_reducible show wpList _ _ _ (⟨_, .load _ _, _, _, _, _⟩ :: _) _ _); refine rdS (by rfl) (by rfl) (by decide +kernel) H (by repeat constructor) ?_; try simp only [Act.put, pS1, pS2, pS3])
        | ((with_reducible show wpList _ _ _ (⟨_, .load _ _, _, _, _, _⟩ :: _) _ _); refine fldS (by rfl) (by rfl) (by decide +kernel) H (by repeat constructor) (by first | exact keA_0 _ | exact keA_1 _ | exact keA_2 _ | exact keA_3 _) ?_; try simp only [Act.put, pS1, pS2, pS3])
        | ((with_reducible show wpList _ _ _ (⟨_, .load _ _, _, _, _, _⟩ :: _) _ _); refine fldS (by rfl) (by rfl) (by decide +kernel) H (by repeat constructor) (by first | exact reA_0 _ | exact reA_1 _ | exact reA_2 _ | exact reA_3 _ | exact r113.out) ?_; try simp only [Act.put, pS1, pS2, pS3])
        | ((with_reducible show wpList _ _ _ (⟨_, .load _ _, _, _, _, _⟩ :: _) _ _); refine subS (by rfl) (by rfl) (by decide +kernel) H (by repeat constructor) (reA_x r) FXS.out ?_; try simp only [Act.put, pS1, pS2, pS3])
        | ((with_reducible show wpList _ _ _ (⟨_, .load _ _, _, _, _, _⟩ :: _) _ _); refine subS (by rfl) (by rfl) (by decide +kernel) H (by repeat constructor) (reA_m r ok) FMS.out ?_; try simp only [Act.put, pS1, pS2, pS3])
        | ((with_reducible refine (W1.out _ H.out.b).mono ?_); rintro _ W ⟨rfl, hb⟩; replace H := hidk (H.out.call hb); clear hb; try simp only [Act.put, pS1, pS2, pS3])
        | ((with_reducible refine (W2.out _ H.out.b).mono ?_); rintro _ W ⟨rfl, hb⟩; replace H := hidk (H.out.call hb); clear hb; try simp only [Act.put, pS1, pS2, pS3])
        | ((with_reducible refine (W3.out _ H.out.b).mono ?_); rintro _ W ⟨v1, rfl, et, en, em, ho, hb⟩; obtain ⟨N1, N2, HQ, F1, F2⟩ := H.out.own2 hb ho.1 ho.2 (by decide); replace et := hidk et; replace en := hidk en; replace em := hidk em; clear H ho hb; have H := HQ; clear HQ; try simp only [Act.put, pS1, pS2, pS3])
        | ((with_reducible show wpList _ _ _ (⟨_, .store _ _ _, _, _, _, _⟩ :: _) _ _); refine putS (by rfl) (by rfl) (by rfl) (by exact ⟨rfl, rfl⟩) (by kernel_rfl) H (by repeat first | apply uH | apply uT) (by rw [keA_size]; omega) (by first | exact keA_s0 _ _) ?_; clear H; intro W H; try simp only [Act.put, pS1, pS2, pS3])
        | ((with_reducible refine (W4.out _ _ ?_ ?_).mono ?_); (exact kpX_1 HK.out et.out); (exact ⟨F1.out.2 _ H.out.has.r.l, F2.out.2 _ H.out.has.l⟩); rintro _ W ⟨rfl, hb⟩; replace H := hidk (H.out.call hb); clear hb; try simp only [Act.put, pS1, pS2, pS3])
        | fail)
    all_goals refine bodyPost_ret (resS2 rfl rfl H (by repeat constructor) (by kernel_rfl)) rfl ?_
    · exact FoldP.no (HE4.out HW.out) (by decide) H.out.b
    · exact HFO.out _ _ (HE4.out HW.out) (kpX_1 HK.out et.out) (by rw [show (_ : Nat) = v1.n from rfl, en.out, LN.out.1]; exact (congrArg (fun t => t.l.length) et.out).symm) (by rw [show (_ : Nat) = v1.m from rfl, em.out, LN.out.2.1]; exact (congrArg (fun t => t.k.length) et.out).symm) ⟨F1.out.2 _ H.out.has.r.l, F2.out.2 _ H.out.has.l⟩ H.out.b
    all_goals exact FoldP.no (by rw [HE3.out (by rw [HW.out]; decide), HW.out]; rfl) (by decide) H.out.b
  · -- kind 2
    have d1 : (r.k == (1 : Int)) = false := by rw [show r.k = 2 from hk]; rfl
    have d2 : (r.k == (2 : Int)) = true := by rw [show r.k = 2 from hk]; rfl
    have d3 : (r.k == (3 : Int)) = false := by rw [show r.k = 2 from hk]; rfl
    have d4 : (r.k == (4 : Int)) = false := by rw [show r.k = 2 from hk]; rfl
    have HK := hidk hk
    obtain ⟨E, hE⟩ : ∃ x, mayE v.l r.x = x := ⟨_, rfl⟩
    obtain ⟨p1, hp1⟩ : ∃ b, (r.x.p != v.g) = b := ⟨_, rfl⟩
    obtain ⟨p2, hp2⟩ : ∃ b, (E != (0 : Int)) = b := ⟨_, rfl⟩
    have HW : Hid (kpW v.t r.t = if (p1 || p2) = true then 140 else 0) := by
      show _ = _
      unfold kpW
      rw [if_neg (by rw [hk]; decide), if_pos hk, ← hp1, ← hp2, ← hE]
      simp only [Bool.or_eq_true, bne_iff_ne]
      rfl
    have W5 : Hid (∀ W, Below w.heap.size w W → Calls Try.prog 43 #[.slice v.a v.n v.c, .agg (itA r.x)] W fun e w' => e = .returned (.int .i64 E) ∧ Below W.heap.size W w') := fun W hb => by rw [← hE]; exact refMayL_any _ _ _ _ r.x hr.xo W (h.i.rd.keep hb) _ (hidk rfl)
    have OKX : Hid (∀ u : KeV, u.t = v.t → ∀ y ∈ u.l ++ [r.x], OkE y.e) := fun u hu y hy => by
      have hl : u.l = v.l := congrArg KeT.l hu
      rw [hl] at hy
      rcases List.mem_append.1 hy with q | q
      · exact h.i.rd.ok y q
      · rw [List.mem_singleton.1 q]; exact hr.xo
    have LE : Hid (v.n + 1 ≤ 3000) := by have := h.il; show v.n + 1 ≤ 3000; omega
    cases p1
    all_goals try cases p2
    all_goals try cases b3
    all_goals clear h hr hl h1 h2 hk hE
    all_goals
      go_enter Try.func21, Try.ntmps21
      go_wp2_with (first
        | ((with_reducible show wpList _ _ _ (⟨_, .box _ _, _, _, _, _⟩ :: _) _ _); refine boxS (by rfl) (by rfl) H (by assumption) ?_; clear H; intro gq W hq H; clear hq; try simp only [Act.put, pS1, pS2, pS3])
        | ((with_reducible show wpList _ _ _ (⟨_, .alloc _, _, _, _, _⟩ :: _) _ _); refine newS (by rfl) (by kernel_rfl) H ?_; clear H; intro gq W hq H; clear hq; try simp only [Act.put, pS1, pS2, pS3])
        | ((with_reducible show wpList _ _ _ (⟨_, .build _ _, _, _, _, _⟩ :: _) _ _); refine bldS (by rfl) (by with_reducible exact builtZK) (by rfl) ?_; try simp only [Act.put, pS1, pS2, pS3])
        | ((with_reducible show wpList _ _ _ (⟨_, .store _ _ _, _, _, _, _⟩ :: _) _ _); refine setS (by rfl) (by rfl) (by rfl) H (by exact FY.out _) (by repeat first | apply uH | apply uT) ?_; clear H; intro W H; try simp only [Act.put, pS1, pS2, pS3])
        | ((with_reducible show wpList _ _ _ (⟨_, .load _ _, _, _, _, _⟩ :: _) _ _); refine rdS (by rfl) (by rfl) (by decide +kernel) H (by repeat constructor) ?_; try simp only [Act.put, pS1, pS2, pS3])
        | ((with_reducible show wpList _ _ _ (⟨_, .load _ _, _, _, _, _⟩ :: _) _ _); refine fldS (by rfl) (by rfl) (by decide +kernel) H (by repeat constructor) (by first | exact keA_0 _ | exact keA_1 _ | exact keA_2 _ | exact keA_3 _) ?_; try simp only [Act.put, pS1, pS2, pS3])
        | ((with_reducible show wpList _ _ _ (⟨_, .load _ _, _, _, _, _⟩ :: _) _ _); refine fldS (by rfl) (by rfl) (by decide +kernel) H (by repeat constructor) (by first | exact reA_0 _ | exact reA_1 _ | exact reA_2 _ | exact reA_3 _ | exact r113.out) ?_; try simp only [Act.put, pS1, pS2, pS3])
        | ((with_reducible show wpList _ _ _ (⟨_, .load _ _, _, _, _, _⟩ :: _) _ _); refine subS (by rfl) (by rfl) (by decide +kernel) H (by repeat constructor) (reA_x r) FXS.out ?_; try simp only [Act.put, pS1, pS2, pS3])
        | ((with_reducible show wpList _ _ _ (⟨_, .load _ _, _, _, _, _⟩ :: _) _ _); refine subS (by rfl) (by rfl) (by decide +kernel) H (by repeat constructor) (reA_m r ok) FMS.out ?_; try simp only [Act.put, pS1, pS2, pS3])
        | ((with_reducible refine (W1.out _ H.out.b).mono ?_); rintro _ W ⟨rfl, hb⟩; replace H := hidk (H.out.call hb); clear hb; try simp only [Act.put, pS1, pS2, pS3])
        | ((with_reducible refine (W2.out _ H.out.b).mono ?_); rintro _ W ⟨rfl, hb⟩; replace H := hidk (H.out.call hb); clear hb; try simp only [Act.put, pS1, pS2, pS3])
        | ((with_reducible refine (W3.out _ H.out.b).mono ?_); rintro _ W ⟨v1, rfl, et, en, em, ho, hb⟩; obtain ⟨N1, N2, HQ, F1, F2⟩ := H.out.own2 hb ho.1 ho.2 (by decide); replace et := hidk et; replace en := hidk en; replace em := hidk em; clear H ho hb; have H := HQ; clear HQ; try simp only [Act.put, pS1, pS2, pS3])
        | ((with_reducible refine (W5.out _ H.out.b).mono ?_); rintro _ W ⟨rfl, hb⟩; replace H := hidk (H.out.call hb); clear hb; try simp only [Act.put, pS1, pS2, pS3])
        | ((with_reducible show wpList _ _ _ (⟨_, .buildSlice _ _ _, _, _, _, _⟩ :: _) _ _); obtain ⟨HBU, a2, c2, V, N3, HAR, HQ, F3⟩ := app_item (A := N2) (N := N1) (M := []) H.out F1.out r.x (OKX.out _ et.out) (by rw [en.out]; exact LE.out); replace HBU := hidk HBU; replace HAR := hidk HAR; refine bslS (by rfl) HBU.out (by rfl) ?_; try simp only [Act.put, pS1, pS2, pS3])
        | ((with_reducible show wpList _ _ _ (⟨_, .call _, _, _, _, _⟩ :: _) _ _); refine appS (by rfl) (by rfl) (by rfl) HAR.out ?_; clear H HAR HBU F1; have H := HQ; clear HQ; try simp only [Act.put, pS1, pS2, pS3])
        | ((with_reducible show wpList _ _ _ (⟨_, .store _ _ _, _, _, _, _⟩ :: _) _ _); refine putS (by rfl) (by rfl) (by rfl) (by exact ⟨rfl, rfl⟩) (by kernel_rfl) H (by repeat first | apply uH | apply uT) (by rw [keA_size]; omega) (by first | exact keA_s2 _ a2 (v1.n + 1) c2 (v1.l ++ [r.x])) ?_; clear H; intro W H; try simp only [Act.put, pS1, pS2, pS3])
        | ((with_reducible refine (W4.out _ _ ?_ ?_).mono ?_); (exact kpX_2 HK.out et.out); (exact ⟨F3.out.2 _ H.out.has.r.l, F2.out.2 _ H.out.has.l⟩); rintro _ W ⟨rfl, hb⟩; replace H := hidk (H.out.call hb); clear hb; try simp only [Act.put, pS1, pS2, pS3])
        | fail)
    all_goals refine bodyPost_ret (resS2 rfl rfl H (by repeat constructor) (by kernel_rfl)) rfl ?_
    · exact FoldP.no (HE4.out HW.out) (by decide) H.out.b
    · exact HFO.out _ _ (HE4.out HW.out) (kpX_2 HK.out et.out) (by rw [List.length_append]; show v1.n + 1 = v1.l.length + 1; rw [en.out, LN.out.1, show v1.l = v.l from congrArg KeT.l et.out]) (by rw [show (_ : Nat) = v1.m from rfl, em.out, LN.out.2.1]; exact (congrArg (fun t => t.k.length) et.out).symm) ⟨F3.out.2 _ H.out.has.r.l, F2.out.2 _ H.out.has.l⟩ H.out.b
    all_goals exact FoldP.no (by rw [HE3.out (by rw [HW.out]; decide), HW.out]; rfl) (by decide) H.out.b
  · -- kind 3
    have d1 : (r.k == (1 : Int)) = false := by rw [show r.k = 3 from hk]; rfl
    have d2 : (r.k == (2 : Int)) = false := by rw [show r.k = 3 from hk]; rfl
    have d3 : (r.k == (3 : Int)) = true := by rw [show r.k = 3 from hk]; rfl
    have d4 : (r.k == (4 : Int)) = false := by rw [show r.k = 3 from hk]; rfl
    have HK := hidk hk
    obtain ⟨j, HF, hj⟩ : ∃ j : Nat, Hid (r.f = j) ∧ j ≤ 2000 := by
      unfold mayR at h2
      rw [if_neg (by rw [hk]; decide), if_neg (by rw [hk]; decide), if_pos hk] at h2
      simp only [Bool.and_eq_true, decide_eq_true_eq] at h2
      have h3 : 0 ≤ r.f ∧ r.f ≤ 2000 := h2.1.1.2
      exact ⟨r.f.toNat, hidk (by omega), by omega⟩
    obtain ⟨p1, hp1⟩ : ∃ b, decide (r.e < v.e) = b := ⟨_, rfl⟩
    obtain ⟨p2, hp2⟩ : ∃ b, decide ((v.n : Int) < r.f) = b := ⟨_, rfl⟩
    have HW : Hid (kpW v.t r.t = if p1 = true then 140 else if p2 = true then 141 else 0) := by
      show _ = _
      unfold kpW
      rw [if_neg (by rw [hk]; decide), if_neg (by rw [hk]; decide), if_pos hk, ← hp1, ← hp2, LN.out.1]
      simp only [decide_eq_true_eq]
      rfl
    have hlt : p2 = false → j ≤ v.n := fun q => by
      rw [q, decide_eq_false_iff_not, HF.out] at hp2
      omega
    obtain ⟨a0, SL, INL⟩ : ∃ a0, Hid (p2 = false → ∀ W, (Instr.sliceAt 22 (.slice v.a v.n v.c) none (some (.int .i64 r.f)) none).run Try.prog W = .ok (.slice a0 j v.c) W) ∧ (p2 = false → InL w a0 j v.c (v.l.take j)) := by
      rw [HF.out]
      exact first_items h.i j hlt
    have W5 : p2 = false → Hid (∀ W, Below w.heap.size w W → Calls Try.prog 30 #[.slice a0 j v.c] W fun e w' => ∃ a2 c2, e = .returned (.slice a2 j c2) ∧ w'.ownsRow W.heap.size 40 110 (.slice a2 j c2) j (icL (v.l.take j)) ∧ Below W.heap.size W w') := fun q => ownI_call (INL q)
    have RD : Hid (∀ W, Below w.heap.size w W → IReads W r.a r.n r.c r.l) := fun W hb => hr.i.rd.keep hb
    have RN : Hid (r.a = none → r.c = 0) := hr.i.nil
    have OKX : Hid (∀ y ∈ v.l.take j ++ r.l, OkE y.e) := fun y hy => by
      rcases List.mem_append.1 hy with q | q
      · exact h.i.rd.ok y (List.mem_of_mem_take q)
      · exact hr.i.rd.ok y q
    have LEN : Hid (p2 = false → j + r.n ≤ 3000 ∧ j + r.n = (v.l.take j ++ r.l).length) := fun q => by
      have h1 := hlt q
      have h2 := h.il
      have h3 := hl
      have h4 := LN.out
      rw [List.length_append, List.length_take]
      omega
    have hd : decide (r.f > (v.n : Int)) = p2 := hp2
    cases p1
    all_goals try cases p2
    all_goals try cases b3
    all_goals try have sl := SL.out rfl
    all_goals try replace W5 := W5 rfl
    all_goals try have LE := hidk (LEN.out rfl).1
    all_goals clear h hr hl h1 h2 hk hj hlt INL
    all_goals
      go_enter Try.func21, Try.ntmps21
      go_wp2_with (first
        | ((with_reducible show wpList _ _ _ (⟨_, .box _ _, _, _, _, _⟩ :: _) _ _); refine boxS (by rfl) (by rfl) H (by assumption) ?_; clear H; intro gq W hq H; clear hq; try simp only [Act.put, pS1, pS2, pS3])
        | ((with_reducible show wpList _ _ _ (⟨_, .alloc _, _, _, _, _⟩ :: _) _ _); refine newS (by rfl) (by kernel_rfl) H ?_; clear H; intro gq W hq H; clear hq; try simp only [Act.put, pS1, pS2, pS3])
        | ((with_reducible show wpList _ _ _ (⟨_, .build _ _, _, _, _, _⟩ :: _) _ _); refine bldS (by rfl) (by with_reducible exact builtZK) (by rfl) ?_; try simp only [Act.put, pS1, pS2, pS3])
        | ((with_reducible show wpList _ _ _ (⟨_, .store _ _ _, _, _, _, _⟩ :: _) _ _); refine setS (by rfl) (by rfl) (by rfl) H (by exact FY.out _) (by repeat first | apply uH | apply uT) ?_; clear H; intro W H; try simp only [Act.put, pS1, pS2, pS3])
        | ((with_reducible show wpList _ _ _ (⟨_, .load _ _, _, _, _, _⟩ :: _) _ _); refine rdS (by rfl) (by rfl) (by decide +kernel) H (by repeat constructor) ?_; try simp only [Act.put, pS1, pS2, pS3])
        | ((with_reducible show wpList _ _ _ (⟨_, .load _ _, _, _, _, _⟩ :: _) _ _); refine fldS (by rfl) (by rfl) (by decide +kernel) H (by repeat constructor) (by first | exact keA_0 _ | exact keA_1 _ | exact keA_2 _ | exact keA_3 _) ?_; try simp only [Act.put, pS1, pS2, pS3])
        | ((with_reducible show wpList _ _ _ (⟨_, .load _ _, _, _, _, _⟩ :: _) _ _); refine fldS (by rfl) (by rfl) (by decide +kernel) H (by repeat constructor) (by first | exact reA_0 _ | exact reA_1 _ | exact reA_2 _ | exact reA_3 _ | exact r113.out) ?_; try simp only [Act.put, pS1, pS2, pS3])
        | ((with_reducible show wpList _ _ _ (⟨_, .load _ _, _, _, _, _⟩ :: _) _ _); refine subS (by rfl) (by rfl) (by decide +kernel) H (by repeat constructor) (reA_x r) FXS.out ?_; try simp only [Act.put, pS1, pS2, pS3])
        | ((with_reducible show wpList _ _ _ (⟨_, .load _ _, _, _, _, _⟩ :: _) _ _); refine subS (by rfl) (by rfl) (by decide +kernel) H (by repeat constructor) (reA_m r ok) FMS.out ?_; try simp only [Act.put, pS1, pS2, pS3])
        | ((with_reducible refine (W1.out _ H.out.b).mono ?_); rintro _ W ⟨rfl, hb⟩; replace H := hidk (H.out.call hb); clear hb; try simp only [Act.put, pS1, pS2, pS3])
        | ((with_reducible refine (W2.out _ H.out.b).mono ?_); rintro _ W ⟨rfl, hb⟩; replace H := hidk (H.out.call hb); clear hb; try simp only [Act.put, pS1, pS2, pS3])
        | ((with_reducible refine (W3.out _ H.out.b).mono ?_); rintro _ W ⟨v1, rfl, et, en, em, ho, hb⟩; obtain ⟨N1, N2, HQ, F1, F2⟩ := H.out.own2 hb ho.1 ho.2 (by decide); replace et := hidk et; replace en := hidk en; replace em := hidk em; clear H ho hb; have H := HQ; clear HQ; try simp only [Act.put, pS1, pS2, pS3])
        | ((with_reducible refine (W5.out _ H.out.b).mono ?_); rintro _ W ⟨a1, c1, rfl, ho, hb⟩; obtain ⟨N3, HQ, F3⟩ := H.out.own hb ho; clear H ho hb; have H := HQ; clear HQ; try simp only [Act.put, pS1, pS2, pS3])
        | ((with_reducible show wpList _ _ _ (⟨_, .call _, _, _, _, _⟩ :: _) _ _); obtain ⟨a2, c2, V, N4, HAR, HQ, F4⟩ := app_items (A := []) (N := N3) (M := N2 ++ (N1 ++ [])) H.out F3.out (RD.out _ H.out.b) RN.out OKX.out LE.out; refine appS (by rfl) (by rfl) (by rfl) HAR ?_; clear H HAR F3; have H := HQ; clear HQ; try simp only [Act.put, pS1, pS2, pS3])
        | ((with_reducible show wpList _ _ _ (⟨_, .store _ _ _, _, _, _, _⟩ :: _) _ _); refine putS (by rfl) (by rfl) (by rfl) (by exact ⟨rfl, rfl⟩) (by kernel_rfl) H (by repeat first | apply uH | apply uT) (by rw [keA_size]; omega) (by first | exact keA_s0 _ _ | exact keA_s1 _ _ | exact keA_s2 _ a2 (j + r.n) c2 (v.l.take j ++ r.l)) ?_; clear H; intro W H; try simp only [Act.put, pS1, pS2, pS3])
        | ((with_reducible refine (W4.out _ _ ?_ ?_).mono ?_); (exact kpX_3 HK.out et.out HF.out); (exact ⟨F4.out.2 _ H.out.has.r.l, F2.out.2 _ H.out.has.r.r.l⟩); rintro _ W ⟨rfl, hb⟩; replace H := hidk (H.out.call hb); clear hb; try simp only [Act.put, pS1, pS2, pS3])
        | fail)
    all_goals refine bodyPost_ret (resS2 rfl rfl H (by repeat constructor) (by kernel_rfl)) rfl ?_
    · exact FoldP.no (HE4.out HW.out) (by decide) H.out.b
    · exact HFO.out _ _ (HE4.out HW.out) (kpX_3 HK.out et.out HF.out) ((LEN.out (by simp)).2) (by rw [show (_ : Nat) = v1.m from rfl, em.out, LN.out.2.1]; exact (congrArg (fun t => t.k.length) et.out).symm) ⟨F4.out.2 _ H.out.has.r.l, F2.out.2 _ H.out.has.r.r.l⟩ H.out.b
    all_goals exact FoldP.no (by rw [HE3.out (by rw [HW.out]; decide), HW.out]; rfl) (by decide) H.out.b
  · -- kind 4
    have d1 : (r.k == (1 : Int)) = false := by rw [show r.k = 4 from hk]; rfl
    have d2 : (r.k == (2 : Int)) = false := by rw [show r.k = 4 from hk]; rfl
    have d3 : (r.k == (3 : Int)) = false := by rw [show r.k = 4 from hk]; rfl
    have d4 : (r.k == (4 : Int)) = true := by rw [show r.k = 4 from hk]; rfl
    have HK := hidk hk
    obtain ⟨E, hE⟩ : ∃ x, recE v.k r.m = x := ⟨_, rfl⟩
    obtain ⟨z, hz⟩ : ∃ x, (recL v.k r.m).length = x := ⟨_, rfl⟩
    obtain ⟨p1, hp1⟩ : ∃ b, (E != (0 : Int)) = b := ⟨_, rfl⟩
    have HW : Hid (kpW v.t r.t = if p1 = true then 140 else 0) := by
      show _ = _
      unfold kpW
      rw [if_neg (by rw [hk]; decide), if_neg (by rw [hk]; decide), if_neg (by rw [hk]; decide), ← hp1, ← hE]
      simp only [bne_iff_ne]
      rfl
    have W5 : Hid (∀ W, Below w.heap.size w W → Calls Try.prog 44 #[.slice v.b v.m v.d, .agg (clA r.m)] W fun x w' => ∃ a3 c3, x = .returned (.tuple #[.slice a3 z c3, .int .i64 E]) ∧ w'.ownsRow W.heap.size 36 36 (.slice a3 z c3) z (clcL (recL v.k r.m)) ∧ Below W.heap.size W w') := fun W hb => by
      refine (refRecord_any _ _ _ _ r.m _ (hidk rfl) hr.m.d W (h.c.keep hb) (by have := h.cl; omega)).mono ?_
      rintro e w' ⟨vv, rfl, ho, hb2⟩
      have okk : ∀ x ∈ recL v.k r.m, OkC x := (kpX_ok h hr hl).2.1 |> fun q => by
        have e : (kpX v.t r.t).k = recL v.k r.m := by unfold kpX; rw [if_neg (by rw [hk]; decide), if_neg (by rw [hk]; decide), if_neg (by rw [hk]; decide)]; rfl
        rwa [e] at q
      obtain ⟨ao, co, rfl, _, _, _⟩ := CReads.own ho okk
      rw [hz, hE] at *
      exact ⟨ao, co, rfl, ho, hb2⟩
    cases p1
    all_goals try cases b3
    all_goals clear h hr hl h1 h2 hk hE
    all_goals
      go_enter Try.func21, Try.ntmps21
      go_wp2_with (first
        | ((with_reducible show wpList _ _ _ (⟨_, .box _ _, _, _, _, _⟩ :: _) _ _); refine boxS (by rfl) (by rfl) H (by assumption) ?_; clear H; intro gq W hq H; clear hq; try simp only [Act.put, pS1, pS2, pS3])
        | ((with_reducible show wpList _ _ _ (⟨_, .alloc _, _, _, _, _⟩ :: _) _ _); refine newS (by rfl) (by kernel_rfl) H ?_; clear H; intro gq W hq H; clear hq; try simp only [Act.put, pS1, pS2, pS3])
        | ((with_reducible show wpList _ _ _ (⟨_, .build _ _, _, _, _, _⟩ :: _) _ _); refine bldS (by rfl) (by with_reducible exact builtZK) (by rfl) ?_; try simp only [Act.put, pS1, pS2, pS3])
        | ((with_reducible show wpList _ _ _ (⟨_, .store _ _ _, _, _, _, _⟩ :: _) _ _); refine setS (by rfl) (by rfl) (by rfl) H (by exact FY.out _) (by repeat first | apply uH | apply uT) ?_; clear H; intro W H; try simp only [Act.put, pS1, pS2, pS3])
        | ((with_reducible show wpList _ _ _ (⟨_, .load _ _, _, _, _, _⟩ :: _) _ _); refine rdS (by rfl) (by rfl) (by decide +kernel) H (by repeat constructor) ?_; try simp only [Act.put, pS1, pS2, pS3])
        | ((with_reducible show wpList _ _ _ (⟨_, .load _ _, _, _, _, _⟩ :: _) _ _); refine fldS (by rfl) (by rfl) (by decide +kernel) H (by repeat constructor) (by first | exact keA_0 _ | exact keA_1 _ | exact keA_2 _ | exact keA_3 _) ?_; try simp only [Act.put, pS1, pS2, pS3])
        | ((with_reducible show wpList _ _ _ (⟨_, .load _ _, _, _, _, _⟩ :: _) _ _); refine fldS (by rfl) (by rfl) (by decide +kernel) H (by repeat constructor) (by first | exact reA_0 _ | exact reA_1 _ | exact reA_2 _ | exact reA_3 _ | exact r113.out) ?_; try simp only [Act.put, pS1, pS2, pS3])
        | ((with_reducible show wpList _ _ _ (⟨_, .load _ _, _, _, _, _⟩ :: _) _ _); refine subS (by rfl) (by rfl) (by decide +kernel) H (by repeat constructor) (reA_x r) FXS.out ?_; try simp only [Act.put, pS1, pS2, pS3])
        | ((with_reducible show wpList _ _ _ (⟨_, .load _ _, _, _, _, _⟩ :: _) _ _); refine subS (by rfl) (by rfl) (by decide +kernel) H (by repeat constructor) (reA_m r ok) FMS.out ?_; try simp only [Act.put, pS1, pS2, pS3])
        | ((with_reducible refine (W1.out _ H.out.b).mono ?_); rintro _ W ⟨rfl, hb⟩; replace H := hidk (H.out.call hb); clear hb; try simp only [Act.put, pS1, pS2, pS3])
        | ((with_reducible refine (W2.out _ H.out.b).mono ?_); rintro _ W ⟨rfl, hb⟩; replace H := hidk (H.out.call hb); clear hb; try simp only [Act.put, pS1, pS2, pS3])
        | ((with_reducible refine (W3.out _ H.out.b).mono ?_); rintro _ W ⟨v1, rfl, et, en, em, ho, hb⟩; obtain ⟨N1, N2, HQ, F1, F2⟩ := H.out.own2 hb ho.1 ho.2 (by decide); replace et := hidk et; replace en := hidk en; replace em := hidk em; clear H ho hb; have H := HQ; clear HQ; try simp only [Act.put, pS1, pS2, pS3])
        | ((with_reducible refine (W5.out _ H.out.b).mono ?_); rintro _ W ⟨a3, c3, rfl, ho, hb⟩; obtain ⟨N3, HQ, F3⟩ := H.out.own hb ho; clear H ho hb; have H := HQ; clear HQ; try simp only [Act.put, pS1, pS2, pS3])
        | ((with_reducible show wpList _ _ _ (⟨_, .store _ _ _, _, _, _, _⟩ :: _) _ _); refine putS (by rfl) (by rfl) (by rfl) (by exact ⟨rfl, rfl⟩) (by kernel_rfl) H (by repeat first | apply uH | apply uT) (by rw [keA_size]; omega) (by first | exact keA_s3 _ a3 z c3 (recL v.k r.m)) ?_; clear H; intro W H; try simp only [Act.put, pS1, pS2, pS3])
        | ((with_reducible refine (W4.out _ _ ?_ ?_).mono ?_); (exact kpX_4 HK.out et.out); (exact ⟨F1.out.2 _ H.out.has.r.r.l, F3.out.2 _ H.out.has.l⟩); rintro _ W ⟨rfl, hb⟩; replace H := hidk (H.out.call hb); clear hb; try simp only [Act.put, pS1, pS2, pS3])
        | fail)
    all_goals refine bodyPost_ret (resS2 rfl rfl H (by repeat constructor) (by kernel_rfl)) rfl ?_
    · exact FoldP.no (HE4.out HW.out) (by decide) H.out.b
    · exact HFO.out _ _ (HE4.out HW.out) (kpX_4 HK.out et.out) (by rw [show (_ : Nat) = v1.n from rfl, en.out, LN.out.1]; exact (congrArg (fun t => t.l.length) et.out).symm) (hz.symm) ⟨F1.out.2 _ H.out.has.r.r.l, F3.out.2 _ H.out.has.l⟩ H.out.b
    all_goals exact FoldP.no (by rw [HE3.out (by rw [HW.out]; decide), HW.out]; rfl) (by decide) H.out.b
end Go.Proofs.Ytjpmmbmhkpgjcaa
