/- Texts of our own that the row of KeepClaims leans on, part 33. -/
import Derived.Test.YtjpmmbmhkpgjcabKeepClaimsJ25
import Derived.Test.YtjpmmbmhkpgjcabKeepClaimsJ27
import Derived.Test.YtjpmmbmhkpgjcabKeepClaimsJ29
import Derived.Test.YtjpmmbmhkpgjcabKeepClaimsJ30
import Derived.Test.YtjpmmbmhkpgjcabKeepClaimsJ32
import Derived.Deep.Slices

/- Slices of claims that came in. -/
namespace Go.Proofs.Ytjpmmbmhkpgjcab
open Go.RowKit Sums Nums Go.ChangeShapes
set_option linter.unusedVariables false
set_option linter.unusedSimpArgs false
set_option maxRecDepth 100000
variable {H : Type} {enc : TypeId × Value → H} {W : World} {base : Nat} {sp : Nat → Bool} {held : Bool} {fuel : Nat} {x : DataW H × List MemPlace}
theorem InC.okC {c : ClT} (h : InC c) : OkC c := h.d
theorem open_cls {a : Option Addr} {len cap : Nat} {d : DataW H} {p : List MemPlace} (h : DataW.Trod enc Try.prog W base sp held 23 (.slice a len cap) d p) : ∃ l, CReads W a len cap l ∧ (a = none → cap = 0) ∧ ∀ x ∈ l, InC x := by
  obtain ⟨fuel, hf⟩ := h
  have h2 : Try.prog.cellsOf 29 = 36 := by kernel_rfl
  rcases Deep.open_slice Try.underlying23 hf with ⟨hcs, _⟩ | ⟨ad, len', cap', m, n, D, Pl, hcs, _, hl, hm, hmm, _, hx⟩
  · simp [Value.cells] at hcs
    obtain ⟨rfl, rfl, rfl⟩ := hcs
    exact ⟨[], clreads_none W, fun _ => rfl, fun o ho => by cases ho⟩
  · simp [Value.cells] at hcs
    obtain ⟨rfl, rfl, rfl⟩ := hcs
    have hlm : len ≤ m := by rw [hmm]; split <;> omega
    have each : ∀ i, i < len → ∃ o : ClT, InC o ∧ ∀ j v, (ccells o)[j]? = some v → W.cell? (ad.add (i * 36 + j)) = some v := by
      intro i hi
      obtain ⟨cs', c1, c2⟩ := hx i (by omega)
      rw [h2] at c1
      obtain ⟨_, hlen, hcell⟩ := World.cells?_some c1
      obtain ⟨o, ho, rfl⟩ := open_claim_cells c2
      refine ⟨o, ho, fun j v hj => ?_⟩
      have hj' : j < (ccells o).length := (List.getElem?_eq_some_iff.1 hj).1
      have e0 := hcell j (by rw [ccells_length _ ho.d] at hj'; omega)
      rw [Deep.add_add] at e0
      rw [e0]
      simpa using hj
    haveI : Inhabited ClT := ⟨zeroC⟩
    obtain ⟨F, hF⟩ := Deep.choose_lt each
    refine ⟨(List.range len).map F, ⟨by simp, hl, by unfold maxLen at hm ⊢; omega, ?_, ?_⟩, (fun e => by cases e), ?_⟩
    · intro o ho
      obtain ⟨i, hi, rfl⟩ := List.mem_map.1 ho
      exact (hF i (List.mem_range.1 hi)).1.d
    · by_cases h0 : len = 0
      · exact .inl h0
      · have hc := (hF 0 (by omega)).2 0 _ rfl
        obtain ⟨b, off, spot⟩ := ad
        have hspot : spot = none := by simpa [Addr.add] using World.cell?_spot hc
        subst hspot
        refine .inr ⟨b, off, rfl, fun i hi j v hj => ?_⟩
        have hi' : i < len := by simpa using hi
        simp only [List.getElem_map, List.getElem_range] at hj
        have := (hF i hi').2 j v hj
        rw [add_plain] at this
        rw [← this]
        congr 2
        omega
    · intro o ho
      obtain ⟨i, hi, rfl⟩ := List.mem_map.1 ho
      exact (hF i (List.mem_range.1 hi)).1
end Go.Proofs.Ytjpmmbmhkpgjcab

/- What is kept, and records, that came in. -/
namespace Go.Proofs.Ytjpmmbmhkpgjcab
open Go.RowKit Sums Nums Go.ChangeShapes
set_option linter.unusedVariables false
set_option linter.unusedSimpArgs false
set_option maxRecDepth 100000
variable {H : Type} {enc : TypeId × Value → H} {W : World} {fuel : Nat} {x : DataW H × List MemPlace}
structure CmK (W : World) (v : KeV) : Prop where
  i : IReads W v.a v.n v.c v.l
  ni : v.a = none → v.c = 0
  mi : ∀ x ∈ v.l, CmI x
  k : CReads W v.b v.m v.d v.k
  nk : v.b = none → v.d = 0
  mc : ∀ x ∈ v.k, InC x
  e : In64 v.e
  g : In64 v.g
structure CmR (W : World) (v : ReV) : Prop where
  i : IReads W v.a v.n v.c v.l
  ni : v.a = none → v.c = 0
  mi : ∀ x ∈ v.l, CmI x
  x : CmI v.x
  m : InC v.m
  k : In64 v.k
  e : In64 v.e
  f : In64 v.f
theorem CmK.keep {W' : World} {v : KeV} (h : CmK W v) (hb : Below W.heap.size W W') : CmK W' v := ⟨h.i.keep hb, h.ni, h.mi, h.k.keep hb, h.nk, h.mc, h.e, h.g⟩
theorem CmR.keep {W' : World} {v : ReV} (h : CmR W v) (hb : Below W.heap.size W W') : CmR W' v := ⟨h.i.keep hb, h.ni, h.mi, h.x, h.m, h.k, h.e, h.f⟩
theorem CmR.ok {v : ReV} (h : CmR W v) : OkR v := ⟨h.x.ok, h.m.d⟩
theorem open_items_cells {cs : List Value} (hf : DataW.trod enc Try.prog W 0 (fun _ => true) true fuel 22 cs = some x) : ∃ a n c l, cs = [.slice a n c] ∧ IReads W a n c l ∧ (a = none → c = 0) ∧ ∀ x ∈ l, CmI x := by
  rcases DataW.trod_slice Try.underlying22 hf with ⟨hcs, _⟩ | ⟨a', len', cap', elems, rest, n, _, hcs, _, hb, hl, hm, hlen, hel, _, _⟩
  · exact ⟨none, 0, 0, [], hcs, ireads_none W, (fun _ => rfl), fun d hd => by cases hd⟩
  · subst hcs
    obtain ⟨l, hl, hn, hc⟩ := open_items (a := some a') (len := len') (cap := cap') ⟨fuel, hf⟩
    exact ⟨some a', len', cap', l, rfl, hl, hn, hc⟩
theorem open_cls_cells {cs : List Value} (hf : DataW.trod enc Try.prog W 0 (fun _ => true) true fuel 23 cs = some x) : ∃ a n c l, cs = [.slice a n c] ∧ CReads W a n c l ∧ (a = none → c = 0) ∧ ∀ x ∈ l, InC x := by
  rcases DataW.trod_slice Try.underlying23 hf with ⟨hcs, _⟩ | ⟨a', len', cap', elems, rest, n, _, hcs, _, hb, hl, hm, hlen, hel, _, _⟩
  · exact ⟨none, 0, 0, [], hcs, clreads_none W, (fun _ => rfl), fun d hd => by cases hd⟩
  · subst hcs
    obtain ⟨l, hl, hn, hc⟩ := open_cls (a := some a') (len := len') (cap := cap') ⟨fuel, hf⟩
    exact ⟨some a', len', cap', l, rfl, hl, hn, hc⟩
theorem open_kept_cells {cs : List Value} (hf : DataW.trod enc Try.prog W 0 (fun _ => true) true fuel 25 cs = some x) : ∃ v : KeV, CmK W v ∧ cs = (keA v).toList := by
  obtain ⟨xs, m, rfl, _, hl, hx, hall⟩ := DataW.trod_struct Try.underlying25 hf
  have h1 : Try.prog.cellsOf 3 = 1 := by kernel_rfl
  have h2 : Try.prog.cellsOf 22 = 1 := by kernel_rfl
  have h3 : Try.prog.cellsOf 23 = 1 := by kernel_rfl
  have hsz : Try.prog.cellsOf 25 = 4 := by kernel_rfl
  rw [hsz] at hl
  obtain ⟨y0, e0⟩ := part_some hx (i := 0) (by decide)
  obtain ⟨y1, e1⟩ := part_some hx (i := 1) (by decide)
  obtain ⟨y2, e2⟩ := part_some hx (i := 2) (by decide)
  obtain ⟨y3, e3⟩ := part_some hx (i := 3) (by decide)
  have f0 : DataW.trod enc Try.prog W 0 (fun _ => true) true m 3 ((cs.drop 0).take (Try.prog.cellsOf 3)) = some y0 := (hall 0 _ rfl).trans e0
  have f1 : DataW.trod enc Try.prog W 0 (fun _ => true) true m 3 ((cs.drop 1).take (Try.prog.cellsOf 3)) = some y1 := (hall 1 _ rfl).trans e1
  have f2 : DataW.trod enc Try.prog W 0 (fun _ => true) true m 22 ((cs.drop 2).take (Try.prog.cellsOf 22)) = some y2 := (hall 2 _ rfl).trans e2
  have f3 : DataW.trod enc Try.prog W 0 (fun _ => true) true m 23 ((cs.drop 3).take (Try.prog.cellsOf 23)) = some y3 := (hall 3 _ rfl).trans e3
  rw [h1] at f0 f1
  rw [h2] at f2
  rw [h3] at f3
  obtain ⟨i, ii, ci⟩ := open_int_cells f0
  obtain ⟨j, ij, cj⟩ := open_int_cells f1
  obtain ⟨a, n, c, l, cl, hl1, hl2, hl3⟩ := open_items_cells f2
  obtain ⟨b, o, d, k, ck, hk1, hk2, hk3⟩ := open_cls_cells f3
  refine ⟨⟨i, j, a, n, c, l, b, o, d, k⟩, ⟨hl1, hl2, hl3, hk1, hk2, hk3, ii, ij⟩, ?_⟩
  have k0 : cs = (cs.drop 0).take 1 ++ ((cs.drop 1).take 1 ++ ((cs.drop 2).take 1 ++ (cs.drop 3).take 1)) := by
    match cs, hl with
    | [a, b, c, d], _ => rfl
  rw [ci, cj, cl, ck] at k0
  rw [k0]
  rfl
theorem open_kept {base' : Nat} {r : Reach} {v : Value} {d : DataW H} {p : List MemPlace}
    (hv : Value.okWide Try.prog W r base' 25 v) (h : DataW.Trod enc Try.prog W 0 (fun _ => true) true 25 v d p) : ∃ z : KeV, CmK W z ∧ v = .agg (keA z) := by
  obtain ⟨cs, rfl⟩ : ∃ cs, v = .agg cs := by
    simp only [Value.okWide, Try.underlying25] at hv
    obtain ⟨cs, h1, _⟩ := hv
    exact ⟨cs, h1⟩
  obtain ⟨fuel, hf⟩ := h
  obtain ⟨z, iz, hz⟩ := open_kept_cells hf
  refine ⟨z, iz, ?_⟩
  have e : cs = keA z := by apply Array.ext'; exact hz
  rw [e]
end Go.Proofs.Ytjpmmbmhkpgjcab

/- The document's Big and SameRecord. -/
namespace Go.Proofs.Ytjpmmbmhkpgjcab
open Go.RowKit Nums Sums
set_option linter.unusedVariables false
set_option linter.unusedSimpArgs false
set_option maxRecDepth 100000
theorem reA_7 (v : ReV) : (reA v)[7]? = some (.string v.x.e.t) := rfl
def bigK (v : KeV) (r : ReV) : Bool := bigL v.l || decide ((60 : Int) < (v.m : Int)) || bigL r.l || decide ((1000 : Int) < (r.x.e.t.size : Int))
theorem big_len {l : List ItT} (h : bigL l = false) : l.length ≤ 60 ∧ ∀ x ∈ l, x.e.t.size ≤ 1000 := by
  unfold bigL at h
  rw [Bool.or_eq_false_iff, decide_eq_false_iff_not, List.any_eq_false] at h
  refine ⟨by omega, fun x hx => ?_⟩
  have := h.2 x hx
  rw [decide_eq_true_eq] at this
  omega
theorem bigK_no {w : World} {v : KeV} {r : ReV} (h : CmK w v) (hr : CmR w r) (hb : bigK v r = false) : KIn w v ∧ RIn w r ∧ v.n ≤ 60 ∧ v.m ≤ 60 ∧ r.n ≤ 60 := by
  unfold bigK at hb
  rw [Bool.or_eq_false_iff, Bool.or_eq_false_iff, Bool.or_eq_false_iff, decide_eq_false_iff_not, decide_eq_false_iff_not] at hb
  obtain ⟨⟨⟨h1, h2⟩, h3⟩, h4⟩ := hb
  obtain ⟨n1, t1⟩ := big_len h1
  obtain ⟨n3, t3⟩ := big_len h3
  have l1 := h.i.ln
  have l3 := hr.i.ln
  exact ⟨⟨⟨h.i, h.ni, fun x hx => (h.mi x hx).in (by have := t1 x hx; omega), by omega⟩, h.k, h.nk, h.mc, by omega, by omega, h.e, h.g⟩, ⟨⟨hr.i, hr.ni, fun x hx => (hr.mi x hx).in (by have := t3 x hx; omega), by omega⟩, hr.x.in (by omega), hr.x.ok, hr.m, hr.k, hr.e, hr.f⟩, by omega, by omega, by omega⟩
set_option maxHeartbeats 8000000 in
theorem refBigK_any (u : KeV) (v : ReV) (w : World) (h : CmK w u) (hr : CmR w v) : Calls Try.prog 5 #[.agg (keA u), .agg (reA v)] w fun x w' => x = .returned (.bool (bigK u v)) ∧ Below w.heap.size w w' := by
  have ok := hr.ok
  have FX : Hid (Fit Try.prog 25 (keA u)) := keA_fit _
  have FY : Hid (Fit Try.prog 42 (reA v)) := reA_fit v ok
  have r113 := hidk (reA_113 v ok)
  have r113v := r113
  have hm : u.m ≤ 9223372036854775807 := by have := h.k.mx; unfold maxLen at this; omega
  have ht : v.x.e.t.size ≤ 9223372036854775807 := by have := hr.x.e.t; unfold maxLen at this; omega
  obtain ⟨b1, h1⟩ : ∃ b, bigL u.l = b := ⟨_, rfl⟩
  obtain ⟨b2, h2⟩ : ∃ b, decide ((60 : Int) < (u.m : Int)) = b := ⟨_, rfl⟩
  obtain ⟨b3, h3⟩ : ∃ b, bigL v.l = b := ⟨_, rfl⟩
  obtain ⟨b4, h4⟩ : ∃ b, decide ((1000 : Int) < (v.x.e.t.size : Int)) = b := ⟨_, rfl⟩
  have W1 : Hid (∀ W, Below w.heap.size w W → Calls Try.prog 11 #[.slice u.a u.n u.c] W fun e w' => e = .returned (.bool b1) ∧ W = w') := fun W hb => by rw [← h1]; exact refBig_any _ _ _ _ W (h.i.keep hb) (fun x hx => (h.mi x hx).e.t)
  have W2 : Hid (∀ W, Below w.heap.size w W → Calls Try.prog 11 #[.slice v.a v.n v.c] W fun e w' => e = .returned (.bool b3) ∧ W = w') := fun W hb => by rw [← h3]; exact refBig_any _ _ _ _ W (hr.i.keep hb) (fun x hx => (hr.mi x hx).e.t)
  have HRES : Hid (bigK u v = (b1 || b2 || b3 || b4)) := by show _ = _; unfold bigK; rw [h1, h2, h3, h4]
  have H := hidk (Sep.start Try.prog w)
  clear h hr h1 h3
  go_enter Try.func5, Try.ntmps5
  go_wp2_with (first
    | ((with_reducible show wpList _ _ _ (⟨_, .box _ _, _, _, _, _⟩ :: _) _ _); refine boxS (by rfl) (by rfl) H (by assumption) ?_; clear H; intro gq W hq H; clear hq; try simp only [Act.put, List.setIfInBounds_toArray, List.set_cons_zero, List.set_cons_succ])
    | ((with_reducible show wpList _ _ _ (⟨_, .load _ _, _, _, _, _⟩ :: _) _ _); refine fldS (by rfl) (by rfl) (by decide +kernel) H (by repeat constructor) (by first | exact keA_0 _ | exact keA_1 _ | exact keA_2 _ | exact keA_3 _) ?_; try simp only [Act.put, List.setIfInBounds_toArray, List.set_cons_zero, List.set_cons_succ])
    | ((with_reducible show wpList _ _ _ (⟨_, .load _ _, _, _, _, _⟩ :: _) _ _); refine fldS (by rfl) (by rfl) (by decide +kernel) H (by repeat constructor) (by first | exact reA_0 _ | exact reA_1 _ | exact reA_2 _ | exact r113.out | exact r113v.out | exact reA_7 _) ?_; try simp only [Act.put, List.setIfInBounds_toArray, List.set_cons_zero, List.set_cons_succ])
    | ((with_reducible refine (W1.out _ H.out.b).mono ?_); rintro _ _ ⟨rfl, rfl⟩; try simp only [Act.put, List.setIfInBounds_toArray, List.set_cons_zero, List.set_cons_succ])
    | ((with_reducible refine (W2.out _ H.out.b).mono ?_); rintro _ _ ⟨rfl, rfl⟩; try simp only [Act.put, List.setIfInBounds_toArray, List.set_cons_zero, List.set_cons_succ])
    | fail)

  all_goals (go_ret; exact ⟨by rw [HRES.out]; simp [*], H.out.b⟩)
end Go.Proofs.Ytjpmmbmhkpgjcab
