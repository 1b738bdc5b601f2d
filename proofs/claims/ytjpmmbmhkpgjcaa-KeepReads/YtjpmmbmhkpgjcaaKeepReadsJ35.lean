/- Texts of our own that the row of KeepReads leans on, part 35. -/
import Derived.Test.YtjpmmbmhkpgjcaaKeepReadsJ25
import Derived.Test.YtjpmmbmhkpgjcaaKeepReadsJ27
import Derived.Test.YtjpmmbmhkpgjcaaKeepReadsJ31
import Derived.Test.YtjpmmbmhkpgjcaaKeepReadsJ32
import Derived.Test.YtjpmmbmhkpgjcaaKeepReadsJ34
import Derived.Deep.Slices

/- Slices of claims that came in. -/
namespace Go.Proofs.Ytjpmmbmhkpgjcaa
open Go.RowKit Sums Nums Go.ChangeShapes
set_option linter.unusedVariables false
set_option linter.unusedSimpArgs false
set_option maxRecDepth 100000
variable {H : Type} {enc : TypeId × Value → H} {W : World} {base : Nat} {sp : Nat → Bool} {held : Bool} {fuel : Nat} {x : DataW H × List MemPlace}
theorem InC.okC {c : ClT} (h : InC c) : OkC c := h.d
theorem in64_ofC {z : Int} (h : (Lit.int .i64 z).wf = true) : In64 z := by
  have e1 : IntKind.i64.min = -9223372036854775808 := rfl
  have e2 : IntKind.i64.max = 9223372036854775807 := rfl
  simp [Lit.wf, e1, e2] at h
  unfold In64
  omega
end Go.Proofs.Ytjpmmbmhkpgjcaa

/- What is kept, and records, that came in. -/
namespace Go.Proofs.Ytjpmmbmhkpgjcaa
open Go.RowKit Sums Nums Go.ChangeShapes
set_option linter.unusedVariables false
set_option linter.unusedSimpArgs false
set_option maxRecDepth 100000
variable {H : Type} {enc : TypeId × Value → H} {W : World} {fuel : Nat} {x : DataW H × List MemPlace}
structure CmK (W : World) (v : KeV) : Prop where
  i : IReads W v.a v.n v.c v.l
  ni : v.a = none → v.c = 0
  mi : ∀ x ∈ v.l, CmI x
  k : CReads W v.b v.m v.d v.k
  nk : v.b = none → v.d = 0
  mc : ∀ x ∈ v.k, InC x
  e : In64 v.e
  g : In64 v.g
structure CmR (W : World) (v : ReV) : Prop where
  i : IReads W v.a v.n v.c v.l
  ni : v.a = none → v.c = 0
  mi : ∀ x ∈ v.l, CmI x
  x : CmI v.x
  m : InC v.m
  k : In64 v.k
  e : In64 v.e
  f : In64 v.f
theorem CmK.keep {W' : World} {v : KeV} (h : CmK W v) (hb : Below W.heap.size W W') : CmK W' v := ⟨h.i.keep hb, h.ni, h.mi, h.k.keep hb, h.nk, h.mc, h.e, h.g⟩
theorem CmR.keep {W' : World} {v : ReV} (h : CmR W v) (hb : Below W.heap.size W W') : CmR W' v := ⟨h.i.keep hb, h.ni, h.mi, h.x, h.m, h.k, h.e, h.f⟩
theorem CmR.ok {v : ReV} (h : CmR W v) : OkR v := ⟨h.x.ok, h.m.d⟩
theorem open_items_cells {cs : List Value} (hf : DataW.trod enc Try.prog W 0 (fun _ => true) true fuel 22 cs = some x) : ∃ a n c l, cs = [.slice a n c] ∧ IReads W a n c l ∧ (a = none → c = 0) ∧ ∀ x ∈ l, CmI x := by
  rcases DataW.trod_slice Try.underlying22 hf with ⟨hcs, _⟩ | ⟨a', len', cap', elems, rest, n, _, hcs, _, hb, hl, hm, hlen, hel, _, _⟩
  · exact ⟨none, 0, 0, [], hcs, ireads_none W, (fun _ => rfl), fun d hd => by cases hd⟩
  · subst hcs
    obtain ⟨l, hl, hn, hc⟩ := open_items (a := some a') (len := len') (cap := cap') ⟨fuel, hf⟩
    exact ⟨some a', len', cap', l, rfl, hl, hn, hc⟩
theorem open_record_cells {cs : List Value} (hf : DataW.trod enc Try.prog W 0 (fun _ => true) true fuel 42 cs = some x) : ∃ v : ReV, CmR W v ∧ cs = rcellsK v := by
  obtain ⟨xs, m, rfl, _, hl, hx, hall⟩ := DataW.trod_struct Try.underlying42 hf
  have h0 : Try.prog.cellsOf 27 = 1 := by kernel_rfl
  have h1 : Try.prog.cellsOf 3 = 1 := by kernel_rfl
  have h110 : Try.prog.cellsOf 40 = 110 := by kernel_rfl
  have hL : Try.prog.cellsOf 22 = 1 := by kernel_rfl
  have h36 : Try.prog.cellsOf 36 = 36 := by kernel_rfl
  have hsz : Try.prog.cellsOf 42 = 150 := by kernel_rfl
  rw [hsz] at hl
  obtain ⟨y0, e0⟩ := part_some hx (i := 0) (by decide)
  obtain ⟨y1, e1⟩ := part_some hx (i := 1) (by decide)
  obtain ⟨y2, e2⟩ := part_some hx (i := 2) (by decide)
  obtain ⟨y3, e3⟩ := part_some hx (i := 3) (by decide)
  obtain ⟨y4, e4⟩ := part_some hx (i := 4) (by decide)
  obtain ⟨y5, e5⟩ := part_some hx (i := 5) (by decide)
  have f0 : DataW.trod enc Try.prog W 0 (fun _ => true) true m 27 ((cs.drop 0).take (Try.prog.cellsOf 27)) = some y0 := (hall 0 _ rfl).trans e0
  have f1 : DataW.trod enc Try.prog W 0 (fun _ => true) true m 3 ((cs.drop 1).take (Try.prog.cellsOf 3)) = some y1 := (hall 1 _ rfl).trans e1
  have f2 : DataW.trod enc Try.prog W 0 (fun _ => true) true m 3 ((cs.drop 2).take (Try.prog.cellsOf 3)) = some y2 := (hall 2 _ rfl).trans e2
  have f3 : DataW.trod enc Try.prog W 0 (fun _ => true) true m 40 ((cs.drop 3).take (Try.prog.cellsOf 40)) = some y3 := (hall 3 _ rfl).trans e3
  have f4 : DataW.trod enc Try.prog W 0 (fun _ => true) true m 22 ((cs.drop 113).take (Try.prog.cellsOf 22)) = some y4 := (hall 4 _ rfl).trans e4
  have f5 : DataW.trod enc Try.prog W 0 (fun _ => true) true m 36 ((cs.drop 114).take (Try.prog.cellsOf 36)) = some y5 := (hall 5 _ rfl).trans e5
  rw [h0] at f0
  rw [h1] at f1 f2
  rw [h110] at f3
  rw [hL] at f4
  rw [h36] at f5
  obtain ⟨k, ck, _, hwf⟩ := DataW.trod_int Try.underlying27 f0
  obtain ⟨i, ii, ci⟩ := open_int_cells f1
  obtain ⟨j, ij, cj⟩ := open_int_cells f2
  obtain ⟨z, iz, cz⟩ := open_item_cells f3
  obtain ⟨a, n, c, l, cl, hl1, hl2, hl3⟩ := open_items_cells f4
  obtain ⟨q, iq, cq⟩ := open_claim_cells f5
  refine ⟨⟨k, i, j, z, a, n, c, l, q⟩, ⟨hl1, hl2, hl3, iz, iq, bounds_i64 hwf, ii, ij⟩, ?_⟩
  have k0 : cs = (cs.drop 0).take 1 ++ ((cs.drop 1).take 1 ++ ((cs.drop 2).take 1 ++ ((cs.drop 3).take 110 ++ ((cs.drop 113).take 1 ++ (cs.drop 114).take 36)))) := by
    have st : ∀ p s t : Nat, t = p + s → (cs.drop p).take s ++ cs.drop t = cs.drop p := fun p s t e => by
      have := List.take_append_drop s (cs.drop p)
      rw [List.drop_drop, ← e] at this
      exact this
    have q5 : (cs.drop 114).take 36 = cs.drop 114 := List.take_of_length_le (by rw [List.length_drop]; omega)
    rw [q5, st 113 1 114 rfl, st 3 110 113 rfl, st 2 1 3 rfl, st 1 1 2 rfl, st 0 1 1 rfl, List.drop_zero]
  rw [ck, ci, cj, cz, cl, cq] at k0
  rw [k0]
  rfl
theorem open_record {base' : Nat} {r : Reach} {v : Value} {d : DataW H} {p : List MemPlace}
    (hv : Value.okWide Try.prog W r base' 42 v) (h : DataW.Trod enc Try.prog W 0 (fun _ => true) true 42 v d p) : ∃ z : ReV, CmR W z ∧ v = .agg (reA z) := by
  obtain ⟨cs, rfl⟩ : ∃ cs, v = .agg cs := by
    simp only [Value.okWide, Try.underlying42] at hv
    obtain ⟨cs, h1, _⟩ := hv
    exact ⟨cs, h1⟩
  obtain ⟨fuel, hf⟩ := h
  obtain ⟨z, iz, hz⟩ := open_record_cells hf
  refine ⟨z, iz, ?_⟩
  unfold reA
  rw [← hz]
  rfl
end Go.Proofs.Ytjpmmbmhkpgjcaa

/- The document's Big and SameRecord. -/
namespace Go.Proofs.Ytjpmmbmhkpgjcaa
open Go.RowKit Nums Sums
set_option linter.unusedVariables false
set_option linter.unusedSimpArgs false
set_option maxRecDepth 100000
theorem reA_7 (v : ReV) : (reA v)[7]? = some (.string v.x.e.t) := rfl
def bigK (v : KeV) (r : ReV) : Bool := bigL v.l || decide ((60 : Int) < (v.m : Int)) || bigL r.l || decide ((1000 : Int) < (r.x.e.t.size : Int))
theorem big_len {l : List ItT} (h : bigL l = false) : l.length ≤ 60 ∧ ∀ x ∈ l, x.e.t.size ≤ 1000 := by
  unfold bigL at h
  rw [Bool.or_eq_false_iff, decide_eq_false_iff_not, List.any_eq_false] at h
  refine ⟨by omega, fun x hx => ?_⟩
  have := h.2 x hx
  rw [decide_eq_true_eq] at this
  omega
theorem bigK_no {w : World} {v : KeV} {r : ReV} (h : CmK w v) (hr : CmR w r) (hb : bigK v r = false) : KIn w v ∧ RIn w r ∧ v.n ≤ 60 ∧ v.m ≤ 60 ∧ r.n ≤ 60 := by
  unfold bigK at hb
  rw [Bool.or_eq_false_iff, Bool.or_eq_false_iff, Bool.or_eq_false_iff, decide_eq_false_iff_not, decide_eq_false_iff_not] at hb
  obtain ⟨⟨⟨h1, h2⟩, h3⟩, h4⟩ := hb
  obtain ⟨n1, t1⟩ := big_len h1
  obtain ⟨n3, t3⟩ := big_len h3
  have l1 := h.i.ln
  have l3 := hr.i.ln
  exact ⟨⟨⟨h.i, h.ni, fun x hx => (h.mi x hx).in (by have := t1 x hx; omega), by omega⟩, h.k, h.nk, h.mc, by omega, by omega, h.e, h.g⟩, ⟨⟨hr.i, hr.ni, fun x hx => (hr.mi x hx).in (by have := t3 x hx; omega), by omega⟩, hr.x.in (by omega), hr.x.ok, hr.m, hr.k, hr.e, hr.f⟩, by omega, by omega, by omega⟩
set_option maxHeartbeats 8000000 in
theorem refBigK_any (u : KeV) (v : ReV) (w : World) (h : CmK w u) (hr : CmR w v) : Calls Try.prog 9 #[.agg (keA u), .agg (reA v)] w fun x w' => x = .returned (.bool (bigK u v)) ∧ Below w.heap.size w w' := by
  have ok := hr.ok
  have FX : Hid (Fit Try.prog 25 (keA u)) := keA_fit _
  have FY : Hid (Fit Try.prog 42 (reA v)) := reA_fit v ok
  have r113 := hidk (reA_113 v ok)
  have r113v := r113
  have hm : u.m ≤ 9223372036854775807 := by have := h.k.mx; unfold maxLen at this; omega
  have ht : v.x.e.t.size ≤ 9223372036854775807 := by have := hr.x.e.t; unfold maxLen at this; omega
  obtain ⟨b1, h1⟩ : ∃ b, bigL u.l = b := ⟨_, rfl⟩
  obtain ⟨b2, h2⟩ : ∃ b, decide ((60 : Int) < (u.m : Int)) = b := ⟨_, rfl⟩
  obtain ⟨b3, h3⟩ : ∃ b, bigL v.l = b := ⟨_, rfl⟩
  obtain ⟨b4, h4⟩ : ∃ b, decide ((1000 : Int) < (v.x.e.t.size : Int)) = b := ⟨_, rfl⟩
  have W1 : Hid (∀ W, Below w.heap.size w W → Calls Try.prog 29 #[.slice u.a u.n u.c] W fun e w' => e = .returned (.bool b1) ∧ W = w') := fun W hb => by rw [← h1]; exact refBig_any _ _ _ _ W (h.i.keep hb) (fun x hx => (h.mi x hx).e.t)
  have W2 : Hid (∀ W, Below w.heap.size w W → Calls Try.prog 29 #[.slice v.a v.n v.c] W fun e w' => e = .returned (.bool b3) ∧ W = w') := fun W hb => by rw [← h3]; exact refBig_any _ _ _ _ W (hr.i.keep hb) (fun x hx => (hr.mi x hx).e.t)
  have HRES : Hid (bigK u v = (b1 || b2 || b3 || b4)) := by show _ = _; unfold bigK; rw [h1, h2, h3, h4]
  have H := hidk (Sep.start Try.prog w)
  clear h hr h1 h3
  go_enter Try.func9, Try.ntmps9
  go_wp2_with (first
    | ((with_reducible show wpList _ _ _ (⟨_, .box _ _, _, _, _, _⟩ :: _) _ _); refine boxS (by rfl) (by rfl) H (by assumption) ?_; clear H; intro gq W hq H; clear hq; try simp only [Act.put, List.setIfInBounds_toArray, List.set_cons_zero, List.set_cons_succ])
    | ((with_reducible show wpList _ _ _ (⟨_, .load _ _, _, _, _, _⟩ :: _) _ _); refine fldS (by rfl) (by rfl) (by decide +kernel) H (by repeat constructor) (by first | exact keA_0 _ | exact keA_1 _ | exact keA_2 _ | exact keA_3 _) ?_; try simp only [Act.put, List.setIfInBounds_toArray, List.set_cons_zero, List.set_cons_succ])
    | ((with_reducible show wpList _ _ _ (⟨_, .load _ _, _, _, _, _⟩ :: _) _ _); refine fldS (by rfl) (by rfl) (by decide +kernel) H (by repeat constructor) (by first | exact reA_0 _ | exact reA_1 _ | exact reA_2 _ | exact r113.out | exact r113v.out | exact reA_7 _) ?_; try simp only [Act.put, List.setIfInBounds_toArray, List.set_cons_zero, List.set_cons_succ])
    | ((with_reducible refine (W1.out _ H.out.b).mono ?_); rintro _ _ ⟨rfl, rfl⟩; try simp only [Act.put, List.setIfInBounds_toArray, List.set_cons_zero, List.set_cons_succ])
    | ((with_reducible refine (W2.out _ H.out.b).mono ?_); rintro _ _ ⟨rfl, rfl⟩; try simp only [Act.put, List.setIfInBounds_toArray, List.set_cons_zero, List.set_cons_succ])
    | fail)

  all_goals (go_ret; exact ⟨by rw [HRES.out]; simp [*], H.out.b⟩)
def sameR (u v : ReV) (s : Bool) : Bool := (u.k == v.k) && (u.e == v.e) && (u.f == v.f) && eqIB u.x v.x && eqCB u.m v.m && s
set_option maxHeartbeats 8000000 in
theorem refSameR_core (u v : ReV) (s : Bool) (w : World) (ou : OkR u) (ov : OkR v) (W6 : Hid (∀ W, Below w.heap.size w W → Calls Try.prog 23 #[.slice u.a u.n u.c, .slice v.a v.n v.c] W fun e w' => e = .returned (.bool s) ∧ Below W.heap.size W w')) : Calls Try.prog 22 #[.agg (reA u), .agg (reA v)] w fun x w' => x = .returned (.bool (sameR u v s)) ∧ Below w.heap.size w w' := by
  have FX : Hid (Fit Try.prog 42 (reA u)) := reA_fit u ou
  have FY : Hid (Fit Try.prog 42 (reA v)) := reA_fit v ov
  have FXS := hidk (itA_fit u.x ou.x).s
  have FMS := hidk (clA_fit u.m ou.m).s
  have FXV := hidk (itA_fit v.x ov.x).s
  have FMV := hidk (clA_fit v.m ov.m).s
  have r113 := hidk (reA_113 u ou)
  have r113v := hidk (reA_113 v ov)
  obtain ⟨b1, h1⟩ : ∃ b, (u.k == v.k) = b := ⟨_, rfl⟩
  obtain ⟨b2, h2⟩ : ∃ b, (u.e == v.e) = b := ⟨_, rfl⟩
  obtain ⟨b3, h3⟩ : ∃ b, (u.f == v.f) = b := ⟨_, rfl⟩
  obtain ⟨b4, h4⟩ : ∃ b, eqIB u.x v.x = b := ⟨_, rfl⟩
  obtain ⟨b5, h5⟩ : ∃ b, eqCB u.m v.m = b := ⟨_, rfl⟩
  have EI : Hid (∀ W, (binOp .eql 40 (.agg (itA u.x)) (.agg (itA v.x))).run Try.prog W = .ok (.bool b4) W) := fun W => eqItem _ _ ou.x ov.x (itA u.x) (itA v.x) (hidk rfl) (hidk rfl) b4 (by rw [← h4, eqIB_iff]) W
  have EM : Hid (∀ W, (binOp .eql 36 (.agg (clA u.m)) (.agg (clA v.m))).run Try.prog W = .ok (.bool b5) W) := fun W => eqClaim _ _ ou.m ov.m (clA u.m) (clA v.m) (hidk rfl) (hidk rfl) b5 (by rw [← h5, eqCB_iff]) W
  have HRES : Hid (sameR u v s = (b1 && b2 && b3 && b4 && b5 && s)) := by show _ = _; unfold sameR; rw [h1, h2, h3, h4, h5]
  have H := hidk (Sep.start Try.prog w)
  clear h4 h5
  go_enter Try.func22, Try.ntmps22
  go_wp2_with (first
    | ((with_reducible show wpList _ _ _ (⟨_, .box _ _, _, _, _, _⟩ :: _) _ _); refine boxS (by rfl) (by rfl) H (by assumption) ?_; clear H; intro gq W hq H; clear hq; try simp only [Act.put, List.setIfInBounds_toArray, List.set_cons_zero, List.set_cons_succ])
    | ((with_reducible show wpList _ _ _ (⟨_, .binOp .eql 40 _ _ _, _, _, _, _⟩ :: _) _ _); refine binS (by rfl) (by rfl) (by rfl) (by kernel_rfl) (EI.out _) ?_; try simp only [Act.put, List.setIfInBounds_toArray, List.set_cons_zero, List.set_cons_succ])
    | ((with_reducible show wpList _ _ _ (⟨_, .binOp .eql 36 _ _ _, _, _, _, _⟩ :: _) _ _); refine binS (by rfl) (by rfl) (by rfl) (by kernel_rfl) (EM.out _) ?_; try simp only [Act.put, List.setIfInBounds_toArray, List.set_cons_zero, List.set_cons_succ])
    | ((with_reducible show wpList _ _ _ (⟨_, .load _ _, _, _, _, _⟩ :: _) _ _); refine subS (by rfl) (by rfl) (by decide +kernel) H (by repeat constructor) (by first | exact reA_x u | exact reA_x v) (by first | exact FXS.out | exact FXV.out) ?_; try simp only [Act.put, List.setIfInBounds_toArray, List.set_cons_zero, List.set_cons_succ])
    | ((with_reducible show wpList _ _ _ (⟨_, .load _ _, _, _, _, _⟩ :: _) _ _); refine subS (by rfl) (by rfl) (by decide +kernel) H (by repeat constructor) (by first | exact reA_m u ou | exact reA_m v ov) (by first | exact FMS.out | exact FMV.out) ?_; try simp only [Act.put, List.setIfInBounds_toArray, List.set_cons_zero, List.set_cons_succ])
    | ((with_reducible show wpList _ _ _ (⟨_, .load _ _, _, _, _, _⟩ :: _) _ _); refine fldS (by rfl) (by rfl) (by decide +kernel) H (by repeat constructor) (by first | exact reA_0 _ | exact reA_1 _ | exact reA_2 _ | exact r113.out | exact r113v.out | exact reA_7 _) ?_; try simp only [Act.put, List.setIfInBounds_toArray, List.set_cons_zero, List.set_cons_succ])
    | ((with_reducible refine (W6.out _ H.out.b).mono ?_); rintro _ W ⟨rfl, hb⟩; replace H := hidk (H.out.call hb); clear hb; try simp only [Act.put, List.setIfInBounds_toArray, List.set_cons_zero, List.set_cons_succ])
    | fail)

  all_goals (go_ret; exact ⟨by rw [HRES.out]; simp [*], H.out.b⟩)
theorem sameR_true {u v : ReV} (h : u.t = v.t) : sameR u v true = true := by
  have e1 : u.k = v.k := congrArg ReT.k h
  have e2 : u.e = v.e := congrArg ReT.e h
  have e3 : u.f = v.f := congrArg ReT.f h
  have e4 : u.x = v.x := congrArg ReT.x h
  have e5 : u.m = v.m := congrArg ReT.c h
  unfold sameR
  rw [e1, e2, e3, e4, e5, (eqIB_iff _ _).2 rfl, (eqCB_iff _ _).2 rfl]
  simp
theorem refSameR_any (u v : ReV) (w : World) (ou : OkR u) (ov : OkR v) (hu : IReads w u.a u.n u.c u.l) (hv : IReads w v.a v.n v.c v.l) (ht : u.t = v.t) : Calls Try.prog 22 #[.agg (reA u), .agg (reA v)] w fun x w' => x = .returned (.bool true) ∧ Below w.heap.size w w' := by
  have e3 : u.l = v.l := congrArg ReT.l ht
  have e5 : u.n = v.n := by rw [← hu.ln, ← hv.ln, e3]
  have := refSameR_core u v true w ou ov fun W hb => by
    have h1 := hu.keep hb
    have h2 := hv.keep hb
    rw [← e3, ← e5] at h2
    rw [← e5]
    exact refSame_any _ _ _ _ _ _ W h1 h2
  rw [sameR_true ht] at this
  exact this
end Go.Proofs.Ytjpmmbmhkpgjcaa
