/- Texts of our own that the row of KeepReads leans on, part 28. -/
import Derived.Test.YtjpmmbmhkpgjcaaKeepReadsJ1
import Derived.Deep.RegionHeld3

/- The steps of a region that draws its order, over what a call's own blocks hold. -/
namespace Go.Proofs.Ytjpmmbmhkpgjcaa
open Go.RowKit
set_option maxRecDepth 100000
set_option linter.unusedVariables false
set_option linter.unusedSimpArgs false
section
variable {P : Program} {w0 w w' : World} {L L' : List Vr} {M N : List (Nat × Obj)} {ops : Array Oper} {a : Act} {Q : Exit → Act → World → Prop} {d : Option Tmp} {tp : TypeId} {ps : String} {af : Array Edge} {gd : Option (Nat × Bool)}
/-- Fewer variables, fewer rows. -/
theorem Sep.sub (h : Sep P w0 w L M) (hL : List.Sublist L' L) (hM : List.Sublist N M) : Sep P w0 w L' N :=
  ⟨h.b, fun c hc => h.v c (hL.subset hc), fun c hc => h.m c (hM.subset hc), h.ap.sublist hL, fun c hc d hd => h.lm c (hL.subset hc) d (hM.subset hd), h.mm.sublist hM⟩
theorem Sep.tl {c : Vr} (h : Sep P w0 w (c :: L) M) : Sep P w0 w L M := h.sub (List.sublist_cons_self ..) (List.Sublist.refl _)
theorem Sep.tn (h : Sep P w0 w L (N ++ M)) : Sep P w0 w L M := h.sub (List.Sublist.refl _) (List.sublist_append_right ..)
/-- A plain cell that a world of the region's holds. -/
theorem yF {t s : TypeId} {x : Operand} {g k : Nat} {X : Array Value} {v : Value} (hw : Region.wanted ⟨d, .load t x, tp, ps, af, gd⟩ (yielded ops a.tmps) = true) (hx : a.eval x = .pointer (some ⟨g, k, none⟩)) (hr : isScB P t = true) (hm : (g, X, s) ∈ L) (hv : X[k]? = some v) :
    YieldsIf P ops (fun W => Sep P w0 W L M) ⟨d, .load t x, tp, ps, af, gd⟩ v a := by
  refine .inl ⟨hw, fun W H => ?_⟩
  have hc := H.cell hm hv
  have hne : (isAgg t).run P W = .ok false W := by
    unfold isScB at hr
    cases he : P.underlying t with
    | none => simp [he] at hr
    | some e =>
      simp only [he] at hr
      unfold isAgg
      rw [Sem.run_bind, run_underlying he, Result.andThen_ok]
      cases e <;> first | rfl | (simp at hr)
  unfold execOp
  simp only [hx, Instr.loadAt, Instr.sureAddr, loadVar, Sem.run_bind, Sem.run_pure, Result.andThen_ok, hne]
  simp [run_load, hc]
/-- Rows that it holds. -/
theorem yU {t s : TypeId} {x : Operand} {g k : Nat} {X D : Array Value} (hw : Region.wanted ⟨d, .load t x, tp, ps, af, gd⟩ (yielded ops a.tmps) = true) (hx : a.eval x = .pointer (some ⟨g, k, none⟩)) (hr : isRowB P t = true) (hm : (g, X, s) ∈ L) (hs : Hid (SubA X k D)) (hD : (P.info? t).map (·.size) = some D.size) :
    YieldsIf P ops (fun W => Sep P w0 W L M) ⟨d, .load t x, tp, ps, af, gd⟩ (.agg D) a := by
  obtain ⟨e, h1, h2⟩ := row_of hr
  refine .inl ⟨hw, fun W H => ?_⟩
  have hc : W.rangeAt g k D.toList := fun j v hj => by
    rw [cell_of_row W g (k + j) X s (0, 0) (H.at hm)]
    exact hs.out j v (by simpa using hj)
  have hrun : (loadVar t ⟨g, k, none⟩).run P W = .ok (.agg D) W := by
    cases e <;> first | exact (run_loadVar_mid W g k t D.toList _ hc h1 rfl (by simpa using hD)) | (simp at h2)
  unfold execOp
  simp only [hx, Instr.loadAt, Instr.sureAddr, Sem.run_bind, Sem.run_pure, Result.andThen_ok, hrun]
theorem subA_self (X : Array Value) : SubA X 0 X := fun j v hj => by rw [Nat.zero_add]; exact hj
/-- A region cut off from what is behind it. -/
def joinQ (J : Act → World → Prop) : Exit → Act → World → Prop
  | .normal => J
  | _ => fun _ _ => False
theorem region_join {c : Code} (J : Act → Act → World → Prop) (h1 : c.wp P (joinQ (J a)) a w) (h2 : ∀ a' w', J a a' w' → Q .normal a' w') : c.wp P Q a w :=
  Code.wp_mono (fun e a' w' h => by cases e <;> first | exact h2 a' w' h | exact h.elim) h1
end
end Go.Proofs.Ytjpmmbmhkpgjcaa

/- Rows written into the midst of a variable. -/
namespace Go.Proofs.Ytjpmmbmhkpgjcaa
open Go.RowKit
set_option maxRecDepth 100000
set_option linter.unusedVariables false
set_option linter.unusedSimpArgs false
section
variable {P : Program} {w0 w : World} {L L' : List Vr} {M : List (Nat × Obj)} {ops : Array Oper} {rest : List Oper} {a : Act} {Q : Exit → Act → World → Prop} {d : Option Tmp} {tp : TypeId} {ps : String} {af : Array Edge} {gd : Option (Nat × Bool)}
/-- X with D from k on. -/
def midA (X : Array Value) (k : Nat) (D : Array Value) : Array Value := (X.toList.take k ++ D.toList ++ X.toList.drop (k + D.size)).toArray
theorem midS {t s : TypeId} {x y : Operand} {g k : Nat} {X D X' : Array Value} (hw : Region.wanted ⟨d, .store t x y, tp, ps, af, gd⟩ (yielded ops a.tmps) = true) (hx : a.eval x = .pointer (some ⟨g, k, none⟩)) (hy : a.eval y = .agg D) (H : Hid (Sep P w0 w L M)) (hD : Hid (Fit P t D)) (hu : Upd L g s X X' L') (hk : k + D.size ≤ X.size) (hX : midA X k D = X')
    (h : ∀ w', Hid (Sep P w0 w' L' M) → wpList P ops Q rest (a.put d undef) w') : wpList P ops Q (⟨d, .store t x y, tp, ps, af, gd⟩ :: rest) a w := by
  have hg := H.out.v _ hu.mem
  have hsz : X'.size = X.size := by rw [← hX]; unfold midA; simp; omega
  refine BigFrame.wpList_want hw fun K hK => ?_
  have hkk := hK _ _ (h _ (H.out.set hu (by rw [hg.2.2, hsz])))
  have hst := run_storeCells_at P g k s D.toList 0 X w hg.1 (by simp; omega) (fun u hu => by have := hD.out.o; rw [Array.all_eq_true_iff_forall_mem] at this; exact this u (by simpa using hu))
  have e : (X.toList.take (k + 0) ++ D.toList ++ X.toList.drop (k + 0 + D.toList.length)).toArray = X' := by rw [← hX]; simp [midA]
  rw [e] at hst
  have hz := hD.out.s
  cases hq : P.info? t with
  | none => simp [hq] at hz
  | some i =>
    have hs : i.size = D.size := by simpa [hq] using hz
    have hrun : (storeVar t ⟨g, k, none⟩ (.agg D)).run P w = .ok () (w.setRow g X') := by
      simp [storeVar, sizeOf, typeInfo, hq, Value.cells, hs]
      exact hst
    unfold Oper.wp execOp
    simp only [hx, hy, Instr.storeAt, Instr.sureAddr, Sem.run_bind, Sem.run_pure, Result.andThen_ok, hrun]
    exact hkk
end
end Go.Proofs.Ytjpmmbmhkpgjcaa
