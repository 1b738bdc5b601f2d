/- Texts of our own that the row of KeepFolds leans on, part 39. -/
import Derived.Test.YtjpmmbmhkpgjcaaKeepFoldsJ0
import Derived.Test.YtjpmmbmhkpgjcaaKeepFoldsJ27
import Derived.Test.YtjpmmbmhkpgjcaaKeepFoldsJ33
import Derived.Test.YtjpmmbmhkpgjcaaKeepFoldsJ35
import Derived.Test.YtjpmmbmhkpgjcaaKeepFoldsJ36
import Derived.Test.YtjpmmbmhkpgjcaaKeepFoldsJ37
import Derived.Test.YtjpmmbmhkpgjcaaKeepFoldsJ38
/- What the statements of keep lean on. -/
namespace Go.Proofs.Ytjpmmbmhkpgjcaa
open Go.RowKit Nums Sums
set_option linter.unusedVariables false
set_option linter.unusedSimpArgs false
set_option maxRecDepth 100000
theorem KIn.okk {w : World} {v : KeV} (h : KIn w v) : OkKe v.t := ⟨h.i.its, h.cs, by have := h.i.rd.ln; have := h.il; show v.l.length ≤ 250; omega, by have := h.c.ln; have := h.cl; show v.k.length ≤ 250; omega, h.e, h.g⟩
theorem own_kout {w w' : World} {B : Nat} {v v1 : KeV} (h : KIn w v) (et : v1.t = v.t) (hn : v1.n = v.n) (hm : v1.m = v.m) (ho : OwnKe w' B v1) : KOut w' B v1 :=
  ho.out (by rw [hn, ← h.i.rd.ln]; exact (congrArg (fun t => t.l.length) et).symm) (by rw [hm, ← h.c.ln]; exact (congrArg (fun t => t.k.length) et).symm)
def RowQ (w0 W : World) (L : List Vr) (M : List (Nat × Obj)) (t : TypeId) (sz : Nat) (a : Option Addr) (n : Nat) : Prop :=
  n = 0 ∨ ∃ g cur, a = some ⟨g, 0, none⟩ ∧ W.heap[g]? = some (.cells cur t (0, 0)) ∧ n * sz ≤ cur.size ∧ w0.heap.size ≤ g ∧ (∀ c ∈ L, c.1 ≠ g) ∧ ∀ c ∈ M, c.1 ≠ g
theorem Sep.kout2 {w0 w w' : World} {L : List Vr} {M : List (Nat × Obj)} (h : Sep Try.prog w0 w L M) (hb : Below w.heap.size w w') {v : KeV} (ho : KOut w' w.heap.size v) :
    ∃ N1 N2, Hid (Sep Try.prog w0 w' L (N2 ++ (N1 ++ M))) ∧ Hid (∀ W, Has W N1 → Has W N2 → KOut W w0.heap.size v) ∧ Hid (v.n = 0 ∨ OwnIn (.slice v.a v.n v.c) N1) ∧ Hid (v.m = 0 ∨ OwnIn (.slice v.b v.m v.d) N2) := by
  rcases ho.i with h1 | h1
  · rcases ho.c with h2 | h2
    · exact ⟨[], [], h.call hb, hidkS fun W _ _ => ⟨.inl h1, .inl h2, ho.n, ho.m⟩, hidkS (.inl h1.1), hidkS (.inl h2.1)⟩
    · obtain ⟨N, H, F⟩ := h.own hb h2
      exact ⟨[], N, H, hidkS fun W _ hW => ⟨.inl h1, .inr (F.out.2 W hW), ho.n, ho.m⟩, hidkS (.inl h1.1), hidkS (.inr F.out.1)⟩
  · rcases ho.c with h2 | h2
    · obtain ⟨N, H, F⟩ := h.own hb h1
      exact ⟨N, [], H, hidkS fun W hW _ => ⟨.inr (F.out.2 W hW), .inl h2, ho.n, ho.m⟩, hidkS (.inr F.out.1), hidkS (.inl h2.1)⟩
    · obtain ⟨N1, N2, H, F1, F2⟩ := h.own2 hb h1 h2 (by decide)
      exact ⟨N1, N2, H, hidkS fun W hW1 hW2 => ⟨.inr (F1.out.2 W hW1), .inr (F2.out.2 W hW2), ho.n, ho.m⟩, hidkS (.inr F1.out.1), hidkS (.inr F2.out.1)⟩
theorem rowQ_of {P : Program} {w0 W : World} {B : Nat} {L : List Vr} {A N M : List (Nat × Obj)} (H : Sep P w0 W L (A ++ (N ++ M))) {t : TypeId} {sz n c : Nat} {a : Option Addr} {xs : List Value} (h : RowZ W B t sz a n c xs) (ho : n = 0 ∨ OwnIn (.slice a n c) N) (hB : w0.heap.size ≤ B) : RowQ w0 W L M t sz a n := by
  rcases ho with h0 | ho
  · exact .inl h0
  · rcases h with ⟨h0, _⟩ | h
    · exact .inl h0
    · rcases h.2 with ⟨e, h0⟩ | ⟨g, cap, cur, e, hb, hg, hc, hm, hs, ht⟩
      · exact .inl h0
      · cases e
        obtain ⟨o, hmem⟩ := ho g rfl
        have mm := List.pairwise_append.1 (List.pairwise_append.1 H.mm).2.1
        exact .inr ⟨g, cur, rfl, hg, by rw [hs]; exact Nat.mul_le_mul_right _ hc, Nat.le_trans hB hb, fun x hx => H.lm x hx _ (List.mem_append_right _ (List.mem_append_left _ hmem)), fun x hx e => mm.2.2 (g, o) hmem x hx e.symm⟩
theorem RowQ.sub {w0 W : World} {L : List Vr} {M M' : List (Nat × Obj)} {t : TypeId} {sz n : Nat} {a : Option Addr} (h : RowQ w0 W L M t sz a n) (hM : List.Sublist M' M) : RowQ w0 W L M' t sz a n := by
  rcases h with h | ⟨g, cur, h1, h2, h3, h4, h5, h6⟩
  · exact .inl h
  · exact .inr ⟨g, cur, h1, h2, h3, h4, h5, fun c hc => h6 c (hM.subset hc)⟩
theorem Sep.aside {P : Program} {w0 w : World} {L : List Vr} {M : List (Nat × Obj)} (h : Sep P w0 w L M) {g : Nat} (hg : w0.heap.size ≤ g) (hL : ∀ c ∈ L, c.1 ≠ g) (hM : ∀ c ∈ M, c.1 ≠ g) (D : Array Value) : Sep P w0 (w.setRow g D) L M :=
  ⟨below_setRow h.b hg D, fun c hc => ⟨(setRow_other _ _ _ _ (hL c hc)).trans (h.v c hc).1, (h.v c hc).2⟩, fun c hc => ⟨(setRow_other _ _ _ _ (hM c hc)).trans (h.m c hc).1, (h.m c hc).2⟩, h.ap, h.lm, h.mm⟩
theorem RowQ.aside {w0 W : World} {L : List Vr} {M : List (Nat × Obj)} {t : TypeId} {sz n : Nat} {a : Option Addr} (h : RowQ w0 W L M t sz a n) {g : Nat} {cur D : Array Value} {s : TypeId} (hg : W.heap[g]? = some (.cells cur s (0, 0))) (hs : s ≠ t) : RowQ w0 (W.setRow g D) L M t sz a n := by
  rcases h with h | ⟨g2, cur2, h1, h2, h3, h4, h5, h6⟩
  · exact .inl h
  · refine .inr ⟨g2, cur2, h1, (setRow_other _ _ _ _ fun e => ?_).trans h2, h3, h4, h5, h6⟩
    subst e
    rw [hg] at h2
    cases h2
    exact hs rfl
section
variable {P : Program} {w0 w : World} {L : List Vr} {M : List (Nat × Obj)} {ops : Array Oper} {rest : List Oper} {a : Act} {Q : Exit → Act → World → Prop} {d : Option Tmp} {tp : TypeId} {ps : String} {af : Array Edge} {gd : Option (Nat × Bool)}
theorem putF {t s : TypeId} {x y : Operand} {g k : Nat} {cur : Array Value} {v : Value} (hw : Region.wanted ⟨d, .store t x y, tp, ps, af, gd⟩ (yielded ops a.tmps) = true) (hx : a.eval x = .pointer (some ⟨g, k, none⟩)) (hy : a.eval y = v) (h1 : v.cells = #[v] ∧ v.oneCell' = true) (hz : (P.info? t).map (·.size) = some 1) (hg : w.heap[g]? = some (.cells cur s (0, 0))) (hk : k < cur.size)
    (h : ∀ D : Array Value, D.size = cur.size → wpList P ops Q rest (a.put d undef) (w.setRow g D)) : wpList P ops Q (⟨d, .store t x y, tp, ps, af, gd⟩ :: rest) a w := by
  refine BigFrame.wpList_want hw fun K hK => ?_
  have hkk := hK _ _ (h (cur.toList.take (k + 0) ++ [v] ++ cur.toList.drop (k + 0 + [v].length)).toArray (by simp; omega))
  have hst := run_storeCells_at P g k s [v] 0 cur w hg (by simp; omega) (fun u hu => by rw [List.mem_singleton.1 hu]; exact h1.2)
  cases hq : P.info? t with
  | none => simp [hq] at hz
  | some i =>
    have hs : i.size = 1 := by simpa [hq] using hz
    have hrun : (storeVar t ⟨g, k, none⟩ v).run P w = .ok () (w.setRow g (cur.toList.take (k + 0) ++ [v] ++ cur.toList.drop (k + 0 + [v].length)).toArray) := by
      simp [storeVar, sizeOf, typeInfo, hq, h1.1, hs]
      simpa using hst
    unfold Oper.wp execOp
    simp only [hx, hy, Instr.storeAt, Instr.sureAddr, Sem.run_bind, Sem.run_pure, Result.andThen_ok, hrun]
    exact hkk
end
end Go.Proofs.Ytjpmmbmhkpgjcaa
/- KeepFolds. -/
namespace Go.Proofs.Ytjpmmbmhkpgjcaa
open Go.RowKit Nums Sums
set_option linter.unusedVariables false
set_option linter.unusedSimpArgs false
set_option maxRecDepth 100000
set_option maxHeartbeats 64000000 in
theorem keepFolds_in (C : KeepC) (v : KeV) (r : ReV) (w : World) (h : CmK w v) (hrc : CmR w r) : Calls Try.prog 4 #[.agg (keA v), .agg (reA r)] w fun e w' => e = .returned (.bool true) ∧ Below w.heap.size w w' := by
  have FX : Hid (Fit Try.prog 25 (keA v)) := keA_fit v
  have FK := hidk keA_fit
  have ok := hrc.ok
  have FR : Hid (Fit Try.prog 42 (reA r)) := reA_fit r ok
  obtain ⟨bb, hbb⟩ : ∃ b, bigK v r = b := ⟨_, rfl⟩
  have WB : Hid (∀ W, Below w.heap.size w W → Calls Try.prog 9 #[.agg (keA v), .agg (reA r)] W fun e w' => e = .returned (.bool bb) ∧ Below W.heap.size W w') := fun W hb => by rw [← hbb]; exact refBigK_any v _ W (h.keep hb) (hrc.keep hb)
  have WF : Hid (∀ W, Calls Try.prog 12 #[] W fun e w' => e = .returned (.bool true) ∧ Below W.heap.size W w') := fun W => folds_true C W
  have H := hidk (Sep.start Try.prog w)
  cases bb
  case true =>
    clear h hbb C hrc
    go_enter Try.func4, Try.ntmps4
    go_wp2_with (first
      | ((with_reducible show wpList _ _ _ (⟨_, .box _ _, _, _, _, _⟩ :: _) _ _); refine boxS (by rfl) (by rfl) H (by assumption) ?_; clear H; intro gq W hq H; clear hq; try simp only [Act.put, pS1, pS2, pS3])
      | ((with_reducible show wpList _ _ _ (⟨_, .load _ _, _, _, _, _⟩ :: _) _ _); refine rdS (by rfl) (by rfl) (by decide +kernel) H (by repeat constructor) ?_; try simp only [Act.put, pS1, pS2, pS3])
      | ((with_reducible refine (WB.out _ H.out.b).mono ?_); rintro _ W ⟨rfl, hb⟩; replace H := hidk (H.out.call hb); clear hb; try simp only [Act.put, pS1, pS2, pS3])
      | fail)
    go_ret
    exact ⟨rfl, H.out.b⟩
  obtain ⟨hk, hr, hvn, hvm, hrn⟩ := bigK_no h hrc hbb
  have okk := hk.okk
  have okr_of : ∀ {q : ReV}, q.t = r.t → OkR q := fun {q} e => ⟨by rw [show q.x = r.x from congrArg ReT.x e]; exact ok.x, by rw [show q.m = r.m from congrArg ReT.c e]; exact ok.m⟩
  have rin_of : ∀ {q : ReV} {V : World} {B : Nat}, q.t = r.t → q.n = r.n → V.ownsRow B 40 110 (.slice q.a q.n q.c) q.n (icL q.l) → RIn V q := fun {q V B} e en ho => by
    have hl : q.l = r.l := congrArg ReT.l e
    obtain ⟨a2, c2, e2, h1, h2, _⟩ := IReads.own ho (fun x hx => by rw [hl] at hx; exact hr.i.rd.ok x hx)
    cases e2
    exact ⟨⟨h1, h2, (by rw [hl]; exact hr.i.its), by rw [en]; exact hr.i.le⟩, by rw [show q.x = r.x from congrArg ReT.x e]; exact hr.x, by rw [show q.x = r.x from congrArg ReT.x e]; exact hr.xo, by rw [show q.m = r.m from congrArg ReT.c e]; exact hr.m, by rw [show q.k = r.k from congrArg ReT.k e]; exact hr.k, by rw [show q.e = r.e from congrArg ReT.e e]; exact hr.e, by rw [show q.f = r.f from congrArg ReT.f e]; exact hr.f⟩
  obtain ⟨E1, hE1⟩ : ∃ z, kpE v.t r.t = z := ⟨_, rfl⟩
  obtain ⟨T1, hT1⟩ : ∃ z, kpO v.t r.t = z := ⟨_, rfl⟩
  have WO : Hid (∀ W, Below w.heap.size w W → Calls Try.prog 10 #[.agg (keA v)] W fun x w' => ∃ v', x = .returned (.agg (keA v')) ∧ v'.t = v.t ∧ KOut w' W.heap.size v' ∧ Below W.heap.size W w') := fun W hb => by
    refine (refOwnKe_any v W (hk.keep hb)).mono ?_
    rintro x w' ⟨v', rfl, e, hn, hm, ho, hb2⟩
    exact ⟨v', rfl, e, own_kout hk e hn hm ho, hb2⟩
  have WP : Hid (∀ W, Below w.heap.size w W → Calls Try.prog 19 #[.agg (reA r)] W fun x w' => ∃ v', x = .returned (.agg (reA v')) ∧ v'.t = r.t ∧ v'.n = r.n ∧ w'.ownsRow W.heap.size 40 110 (.slice v'.a v'.n v'.c) v'.n (icL v'.l) ∧ Below W.heap.size W w') := fun W hb => refOwnR_any r W (hr.keep hb)
  have W1 : Hid (∀ W, Below w.heap.size w W → Calls Try.prog 20 #[.agg (keA v), .agg (reA r)] W fun x w' => ∃ v', x = .returned (.tuple #[.agg (keA v'), .int .i64 E1]) ∧ v'.t = T1 ∧ KOut w' W.heap.size v' ∧ Below W.heap.size W w') := fun W hb => by
    refine (C.fold v r W (hk.keep hb) (hr.keep hb) (by omega)).mono ?_
    rintro x w' ⟨v', rfl, q, ho, hb2⟩
    exact ⟨v', by rw [← hE1], by rw [← hT1]; exact q, ho, hb2⟩
  have W2 : Hid (∀ W (u : KeV) (q : ReV), u.t = v.t → KOut W w.heap.size u → q.t = r.t → q.n = r.n → W.ownsRow w.heap.size 40 110 (.slice q.a q.n q.c) q.n (icL q.l) → Calls Try.prog 21 #[.agg (keA u), .agg (reA q)] W fun x w' => ∃ v', x = .returned (.tuple #[.agg (keA v'), .int .i64 E1]) ∧ v'.t = T1 ∧ KOut w' W.heap.size v' ∧ Below W.heap.size W w') := fun W u q e ho e2 en ho2 => by
    refine (refFold_any u q W (ho.kin_of e okk) (rin_of e2 en ho2) (by omega)).mono ?_
    rintro x w' ⟨v', rfl, q1, hn, hm, ho3, hb2⟩
    exact ⟨v', by rw [← hE1, e, e2], by rw [← hT1, ← e, ← e2]; exact q1, ho3.out hn hm, hb2⟩
  have WT : Hid (∀ W (u u2 : KeV), u.t = T1 → KOut W w.heap.size u → u2.t = T1 → KOut W w.heap.size u2 → Calls Try.prog 16 #[.agg (keA u), .agg (keA u2)] W fun e w' => e = .returned (.bool true) ∧ Below W.heap.size W w') := fun W u u2 q ho q2 ho2 => refSameKe_any u u2 W (kpO_in ho (q.trans hT1.symm) hk hr (by omega) (by omega)) (kpO_in ho2 (q2.trans hT1.symm) hk hr (by omega) (by omega)) (q.trans q2.symm)
  have WS : Hid (∀ W (u : KeV), u.t = v.t → KOut W w.heap.size u → Below w.heap.size w W → Calls Try.prog 16 #[.agg (keA v), .agg (keA u)] W fun e w' => e = .returned (.bool true) ∧ Below W.heap.size W w') := fun W u q ho hb => refSameKe_any v u W (hk.keep hb) (ho.kin_of q okk) q.symm
  have WR : Hid (∀ W (q : ReV), q.t = r.t → q.n = r.n → W.ownsRow w.heap.size 40 110 (.slice q.a q.n q.c) q.n (icL q.l) → Below w.heap.size w W → Calls Try.prog 22 #[.agg (reA r), .agg (reA q)] W fun e w' => e = .returned (.bool true) ∧ Below W.heap.size W w') := fun W q e en ho hb => refSameR_any r q W ok (okr_of e) (hr.i.rd.keep hb) (rin_of e en ho).i.rd e.symm
  have HNM : Hid (∀ u : KeV, u.t = T1 → u.n = u.l.length → u.m = u.k.length → u.n ≤ 250 ∧ u.m ≤ 250) := fun u e hn hm => by
    have ln : v.t.l.length = v.n := hk.i.rd.ln
    have lm : v.t.k.length = v.m := hk.c.ln
    have lr : r.t.l.length = r.n := hr.i.rd.ln
    have h1 : u.l = T1.l := congrArg KeT.l e
    have h2 : u.k = T1.k := congrArg KeT.k e
    by_cases q : E1 = 0
    · have hx := (kpE_ok (hE1.trans q)).2.2.2.2
      obtain ⟨_, _, m3, m4⟩ := kpX_mem v.t r.t
      rw [← hx, hT1] at m3 m4
      rw [hn, hm, h1, h2]
      omega
    · have hx := kp_no (by rw [hE1]; exact q : kpE v.t r.t ≠ 0)
      rw [hT1] at hx
      rw [hn, hm, h1, h2, hx]
      exact ⟨Nat.zero_le _, Nat.zero_le _⟩
  clear h hbb C hrc hk hr hvn hvm hrn okk hE1 hT1 rin_of
  go_enter Try.func4, Try.ntmps4
  go_wp2_with (first
    | ((with_reducible show wpList _ _ _ (⟨some 2, .box _ _, _, _, _, _⟩ :: _) _ _); refine boxS (by rfl) (by rfl) H (by assumption) ?_; clear H; intro g2 W hq H; clear hq; try simp only [Act.put, pS1, pS2, pS3])
    | ((with_reducible show wpList _ _ _ (⟨some 3, .box _ _, _, _, _, _⟩ :: _) _ _); refine boxS (by rfl) (by rfl) H (by assumption) ?_; clear H; intro g3 W hq H; clear hq; try simp only [Act.put, pS1, pS2, pS3])
    | ((with_reducible show wpList _ _ _ (⟨some 5, .alloc _, _, _, _, _⟩ :: _) _ _); refine newS (by rfl) (by kernel_rfl) H ?_; clear H; intro g5 W hq H; clear hq; try simp only [Act.put, pS1, pS2, pS3])
    | ((with_reducible show wpList _ _ _ (⟨some 6, .alloc _, _, _, _, _⟩ :: _) _ _); refine newS (by rfl) (by kernel_rfl) H ?_; clear H; intro g6 W hq H; clear hq; try simp only [Act.put, pS1, pS2, pS3])
    | ((with_reducible show wpList _ _ _ (⟨some 7, .alloc _, _, _, _, _⟩ :: _) _ _); refine newS (by rfl) (by kernel_rfl) H ?_; clear H; intro g7 W hq H; clear hq; try simp only [Act.put, pS1, pS2, pS3])
    | ((with_reducible show wpList _ _ _ (⟨some 9, .alloc _, _, _, _, _⟩ :: _) _ _); refine newS (by rfl) (by kernel_rfl) H ?_; clear H; intro g9 W hq H; clear hq; try simp only [Act.put, pS1, pS2, pS3])
    | ((with_reducible show wpList _ _ _ (⟨_, .load _ _, _, _, _, _⟩ :: _) _ _); refine rdS (by rfl) (by rfl) (by decide +kernel) H (by repeat constructor) ?_; try simp only [Act.put, pS1, pS2, pS3])
    | ((with_reducible show wpList _ _ _ (⟨_, .store _ _ _, _, _, _, _⟩ :: _) _ _); refine setS (by rfl) (by rfl) (by rfl) H (by first | exact FK.out _ | exact FR6.out) (by repeat first | apply uH | apply uT) ?_; clear H; intro W H; try simp only [Act.put, pS1, pS2, pS3])
    | ((with_reducible show wpList _ _ _ (⟨_, .load _ _, _, _, _, _⟩ :: _) _ _); refine fldS (by rfl) (by rfl) (by decide +kernel) H (by repeat constructor) (by first | exact keA_0 _ | exact keA_1 _ | exact keA_2 _ | exact keA_3 _) ?_; try simp only [Act.put, pS1, pS2, pS3])
    | ((with_reducible refine (WB.out _ H.out.b).mono ?_); rintro _ W ⟨rfl, hb⟩; replace H := hidk (H.out.call hb); clear hb; try simp only [Act.put, pS1, pS2, pS3])
    | ((with_reducible refine (WO.out _ H.out.b).mono ?_); rintro _ W ⟨v5, rfl, et5, ho, hb⟩; obtain ⟨N5, HQ, K5⟩ := H.out.kout hb ho; replace et5 := hidk et5; clear H ho hb; have H := HQ; clear HQ; try simp only [Act.put, pS1, pS2, pS3])
    | ((with_reducible refine (WP.out _ H.out.b).mono ?_); rintro _ W ⟨r6, rfl, et6, en6, ho, hb⟩; have OK6 := hidk (okr_of et6); have FR6 := hidk (reA_fit r6 OK6.out); obtain ⟨N6, HQ, F6⟩ := H.out.own hb ho; replace et6 := hidk et6; replace en6 := hidk en6; clear H ho hb; have H := HQ; clear HQ; try simp only [Act.put, pS1, pS2, pS3])
    | ((with_reducible refine (W1.out _ H.out.b).mono ?_); rintro _ W ⟨v7, rfl, et7, ho, hb⟩; obtain ⟨N7, M7, HQ, K7, O7, P7⟩ := H.out.kout2 hb ho; replace et7 := hidk et7; clear H ho hb; have H := HQ; clear HQ; try simp only [Act.put, pS1, pS2, pS3])
    | ((with_reducible refine (W2.out _ _ _ et5.out (K5.out _ (by first | exact H.out.has.l | exact H.out.has.r.l | exact H.out.has.r.r.l | exact H.out.has.r.r.r.l | exact H.out.has.r.r.r.r.l | exact H.out.has.r.r.r.r.r.l | exact H.out.has.r.r.r.r.r.r.l)) et6.out en6.out (F6.out.2 _ (by first | exact H.out.has.l | exact H.out.has.r.l | exact H.out.has.r.r.l | exact H.out.has.r.r.r.l | exact H.out.has.r.r.r.r.l | exact H.out.has.r.r.r.r.r.l | exact H.out.has.r.r.r.r.r.r.l))).mono ?_); rintro _ W ⟨v9, rfl, et9, ho, hb⟩; obtain ⟨N9, HQ, K9⟩ := H.out.kout hb ho; replace et9 := hidk et9; clear H ho hb; have H := HQ; clear HQ; try simp only [Act.put, pS1, pS2, pS3])
    | ((with_reducible refine (WT.out _ _ _ et7.out (K7.out _ (by first | exact H.out.has.l | exact H.out.has.r.l | exact H.out.has.r.r.l | exact H.out.has.r.r.r.l | exact H.out.has.r.r.r.r.l | exact H.out.has.r.r.r.r.r.l | exact H.out.has.r.r.r.r.r.r.l) (by first | exact H.out.has.l | exact H.out.has.r.l | exact H.out.has.r.r.l | exact H.out.has.r.r.r.l | exact H.out.has.r.r.r.r.l | exact H.out.has.r.r.r.r.r.l | exact H.out.has.r.r.r.r.r.r.l)) et9.out (K9.out _ (by first | exact H.out.has.l | exact H.out.has.r.l | exact H.out.has.r.r.l | exact H.out.has.r.r.r.l | exact H.out.has.r.r.r.r.l | exact H.out.has.r.r.r.r.r.l | exact H.out.has.r.r.r.r.r.r.l))).mono ?_); rintro _ W ⟨rfl, hb⟩; replace H := hidk (H.out.call hb); clear hb; try simp only [Act.put, pS1, pS2, pS3])
    | fail)
  have hnm := HNM.out v7 et7.out (K7.out _ H.out.has.r.r.l H.out.has.r.l).n (K7.out _ H.out.has.r.r.l H.out.has.r.l).m
  have hn250 := hnm.1
  have hm250 := hnm.2
  have HF110 : Hid (RowQ w W [(g9, keA v9, 25), (g7, keA v7, 25), (g6, reA r6, 42), (g5, keA v5, 25), (g3, reA r, 42), (g2, keA v, 25)] (N6 ++ (N5 ++ [])) 40 110 v7.a v7.n) := rowQ_of (A := N9 ++ M7) (N := N7) (by rw [List.append_assoc]; exact H.out) (K7.out _ H.out.has.r.r.l H.out.has.r.l).i O7.out (Nat.le_refl _)
  have HF36 : Hid (RowQ w W [(g9, keA v9, 25), (g7, keA v7, 25), (g6, reA r6, 42), (g5, keA v5, 25), (g3, reA r, 42), (g2, keA v, 25)] (N6 ++ (N5 ++ [])) 36 36 v7.b v7.m) := (rowQ_of (A := N9) (N := M7) H.out (K7.out _ H.out.has.r.r.l H.out.has.r.l).c P7.out (Nat.le_refl _)).sub (List.sublist_append_right ..)
  have HQ := hidk (H.out.sub (List.Sublist.refl _) ((List.sublist_append_right ..).trans ((List.sublist_append_right ..).trans (List.sublist_append_right ..)) : List.Sublist (N6 ++ (N5 ++ [])) (N9 ++ (M7 ++ (N7 ++ (N6 ++ (N5 ++ [])))))))
  clear H hnm HNM
  have H := HQ
  clear HQ
  go_loopw [12] (fun u wr => ∃ i : Nat, i ≤ v7.n ∧ u = .int .i64 i ∧ Hid (Sep Try.prog w wr [(g9, keA v9, 25), (g7, keA v7, 25), (g6, reA r6, 42), (g5, keA v5, 25), (g3, reA r, 42), (g2, keA v, 25)] (N6 ++ (N5 ++ []))) ∧ Hid (RowQ w wr [(g9, keA v9, 25), (g7, keA v7, 25), (g6, reA r6, 42), (g5, keA v5, 25), (g3, reA r, 42), (g2, keA v, 25)] (N6 ++ (N5 ++ [])) 40 110 v7.a v7.n) ∧ Hid (RowQ w wr [(g9, keA v9, 25), (g7, keA v7, 25), (g6, reA r6, 42), (g5, keA v5, 25), (g3, reA r, 42), (g2, keA v, 25)] (N6 ++ (N5 ++ [])) 36 36 v7.b v7.m)) (fun u _ => v7.n - (intOf u).toNat)
  case atStart => exact ⟨0, by omega, rfl, H, HF110, HF36⟩
  case round =>
    clear H HF110 HF36
    obtain ⟨i, hi, rfl, H, HF110, HF36⟩ := hrel
    by_cases hlt : i < v7.n
    · have hd : decide ((i : Int) < (v7.n : Int)) = true := by rw [decide_eq_true_eq]; omega
      have hd2 : decide (i < v7.n) = true := by rw [decide_eq_true_eq]; omega
      have hw1 := wrap_int ((i : Int) + 1) (by omega) (by omega)
      obtain ⟨gr, cur, hga, hgr, hgs, hgb, hgl, hgm⟩ : ∃ g cur, v7.a = some ⟨g, 0, none⟩ ∧ wr.heap[g]? = some (.cells cur 40 (0, 0)) ∧ v7.n * 110 ≤ cur.size ∧ w.heap.size ≤ g ∧ (∀ c ∈ [(g9, keA v9, 25), (g7, keA v7, 25), (g6, reA r6, 42), (g5, keA v5, 25), (g3, reA r, 42), (g2, keA v, 25)], c.1 ≠ g) ∧ ∀ c ∈ (N6 ++ (N5 ++ [])), c.1 ≠ g := by
        rcases HF110.out with h | h
        · omega
        · exact h
      have ix : ∀ W, (Instr.indexAt 22 (.slice v7.a v7.n v7.c) (.int .i64 i)).run Try.prog W = .ok (.pointer (some ⟨gr, 110 * i, none⟩)) W := fun W => by rw [hga]; simpa using index_item W gr 0 _ _ i .i64 hlt
      have hmul : (i + 1) * 110 ≤ v7.n * 110 := Nat.mul_le_mul_right _ hlt
      have HGB := hidk hgb
      have HGL := hidk hgl
      have HGM := hidk hgm
      have HGA := hidk hga
      have HGS := hidk hgs
      have hkk : 110 * i < cur.size := by omega
      clear hgb hgl hgm hga hgs hmul
      go_wp2_with (first
        | ((with_reducible show wpList _ _ _ (⟨_, .load _ _, _, _, _, _⟩ :: _) _ _); refine fldS (by rfl) (by rfl) (by decide +kernel) H (by repeat constructor) (by first | exact keA_0 _ | exact keA_1 _ | exact keA_2 _ | exact keA_3 _) ?_; try simp only [Act.put, pS1, pS2, pS3])
        | ((with_reducible show wpList _ _ _ (⟨_, .store _ _ _, _, _, _, _⟩ :: _) _ _); refine putF (by rfl) (by rfl) (by rfl) (by exact ⟨rfl, rfl⟩) (by kernel_rfl) hgr hkk ?_; intro D hD; try simp only [Act.put, pS1, pS2, pS3])
        | fail)
      go_roundw
      case rel => exact ⟨i + 1, by omega, by go_num, H.out.aside HGB.out HGL.out HGM.out D, .inr ⟨gr, D, HGA.out, setRow_heap _ _ _ _ _ _ hgr, by rw [hD]; exact HGS.out, HGB.out, HGL.out, HGM.out⟩, HF36.out.aside hgr (by decide)⟩
      case measure => simp [intOf]; omega
    · have hn : i = v7.n := by omega
      have hd : decide ((i : Int) < (v7.n : Int)) = false := by rw [decide_eq_false_iff_not]; omega
      have hd2 : decide (i < v7.n) = false := by rw [decide_eq_false_iff_not]; omega
      clear hn
      go_wp2_with (first
        | ((with_reducible show wpList _ _ _ (⟨_, .load _ _, _, _, _, _⟩ :: _) _ _); refine fldS (by rfl) (by rfl) (by decide +kernel) H (by repeat constructor) (by first | exact keA_0 _ | exact keA_1 _ | exact keA_2 _ | exact keA_3 _) ?_; try simp only [Act.put, pS1, pS2, pS3])
        | fail)
      go_loopw [13] (fun u wr => ∃ i : Nat, i ≤ v7.m ∧ u = .int .i64 i ∧ Hid (Sep Try.prog w wr [(g9, keA v9, 25), (g7, keA v7, 25), (g6, reA r6, 42), (g5, keA v5, 25), (g3, reA r, 42), (g2, keA v, 25)] (N6 ++ (N5 ++ []))) ∧ Hid (RowQ w wr [(g9, keA v9, 25), (g7, keA v7, 25), (g6, reA r6, 42), (g5, keA v5, 25), (g3, reA r, 42), (g2, keA v, 25)] (N6 ++ (N5 ++ [])) 36 36 v7.b v7.m)) (fun u _ => v7.m - (intOf u).toNat)
      case atStart => exact ⟨0, by omega, rfl, H, HF36⟩
      case round =>
        clear H HF36
        obtain ⟨i, hi, rfl, H, HF36⟩ := hrel
        by_cases hlt : i < v7.m
        · have hd : decide ((i : Int) < (v7.m : Int)) = true := by rw [decide_eq_true_eq]; omega
          have hd2 : decide (i < v7.m) = true := by rw [decide_eq_true_eq]; omega
          have hw1 := wrap_int ((i : Int) + 1) (by omega) (by omega)
          obtain ⟨gr, cur, hga, hgr, hgs, hgb, hgl, hgm⟩ : ∃ g cur, v7.b = some ⟨g, 0, none⟩ ∧ wr.heap[g]? = some (.cells cur 36 (0, 0)) ∧ v7.m * 36 ≤ cur.size ∧ w.heap.size ≤ g ∧ (∀ c ∈ [(g9, keA v9, 25), (g7, keA v7, 25), (g6, reA r6, 42), (g5, keA v5, 25), (g3, reA r, 42), (g2, keA v, 25)], c.1 ≠ g) ∧ ∀ c ∈ (N6 ++ (N5 ++ [])), c.1 ≠ g := by
            rcases HF36.out with h | h
            · omega
            · exact h
          have ix : ∀ W, (Instr.indexAt 23 (.slice v7.b v7.m v7.d) (.int .i64 i)).run Try.prog W = .ok (.pointer (some ⟨gr, 36 * i, none⟩)) W := fun W => by rw [hga]; simpa using index_cl W gr 0 _ _ i .i64 hlt
          have hmul : (i + 1) * 36 ≤ v7.m * 36 := Nat.mul_le_mul_right _ hlt
          have HGB := hidk hgb
          have HGL := hidk hgl
          have HGM := hidk hgm
          have HGA := hidk hga
          have HGS := hidk hgs
          have hkk : 36 * i + 2 < cur.size := by omega
          clear hgb hgl hgm hga hgs hmul
          go_wp2_with (first
            | ((with_reducible show wpList _ _ _ (⟨_, .load _ _, _, _, _, _⟩ :: _) _ _); refine fldS (by rfl) (by rfl) (by decide +kernel) H (by repeat constructor) (by first | exact keA_0 _ | exact keA_1 _ | exact keA_2 _ | exact keA_3 _) ?_; try simp only [Act.put, pS1, pS2, pS3])
            | ((with_reducible show wpList _ _ _ (⟨_, .store _ _ _, _, _, _, _⟩ :: _) _ _); refine putF (by rfl) (by rfl) (by rfl) (by exact ⟨rfl, rfl⟩) (by kernel_rfl) hgr hkk ?_; intro D hD; try simp only [Act.put, pS1, pS2, pS3])
            | fail)
          go_roundw
          case rel => exact ⟨i + 1, by omega, by go_num, H.out.aside HGB.out HGL.out HGM.out D, .inr ⟨gr, D, HGA.out, setRow_heap _ _ _ _ _ _ hgr, by rw [hD]; exact HGS.out, HGB.out, HGL.out, HGM.out⟩⟩
          case measure => simp [intOf]; omega
        · have hn : i = v7.m := by omega
          have hd : decide ((i : Int) < (v7.m : Int)) = false := by rw [decide_eq_false_iff_not]; omega
          have hd2 : decide (i < v7.m) = false := by rw [decide_eq_false_iff_not]; omega
          clear hn
          go_wp2_with (first
            | ((with_reducible show wpList _ _ _ (⟨_, .load _ _, _, _, _, _⟩ :: _) _ _); refine fldS (by rfl) (by rfl) (by decide +kernel) H (by repeat constructor) (by first | exact keA_0 _ | exact keA_1 _ | exact keA_2 _ | exact keA_3 _) ?_; try simp only [Act.put, pS1, pS2, pS3])
            | ((with_reducible show wpList _ _ _ (⟨_, .load _ _, _, _, _, _⟩ :: _) _ _); refine rdS (by rfl) (by rfl) (by decide +kernel) H (by repeat constructor) ?_; try simp only [Act.put, pS1, pS2, pS3])
            | ((with_reducible refine (WF.out _).mono ?_); rintro _ W ⟨rfl, hb⟩; replace H := hidk (H.out.call hb); clear hb; try simp only [Act.put, pS1, pS2, pS3])
            | ((with_reducible refine (WS.out _ _ et5.out (K5.out _ H.out.has.r.l) H.out.b).mono ?_); rintro _ W ⟨rfl, hb⟩; replace H := hidk (H.out.call hb); clear hb; try simp only [Act.put, pS1, pS2, pS3])
            | ((with_reducible refine (WR.out _ _ et6.out en6.out (F6.out.2 _ H.out.has.l) H.out.b).mono ?_); rintro _ W ⟨rfl, hb⟩; replace H := hidk (H.out.call hb); clear hb; try simp only [Act.put, pS1, pS2, pS3])
            | fail)
          go_ret
          exact ⟨rfl, H.out.b⟩
end Go.Proofs.Ytjpmmbmhkpgjcaa
