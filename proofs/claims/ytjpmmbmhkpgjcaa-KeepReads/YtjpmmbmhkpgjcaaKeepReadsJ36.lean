/- Texts of our own that the row of KeepReads leans on, part 36. -/
import Derived.Test.YtjpmmbmhkpgjcaaKeepReadsJ28
import Derived.BigQuiet

/- A region that draws its order and whose operations leave a call's own blocks as they are: one walk, in the order of the text. -/
namespace Go.Proofs.Ytjpmmbmhkpgjcaa
open Go.RowKit
set_option maxRecDepth 100000
set_option linter.unusedVariables false
set_option linter.unusedSimpArgs false
/-- The worlds in which a call's own blocks are so. -/
structure SepW (P : Program) (w0 : World) (L : List Vr) (M : List (Nat × Obj)) : Type where
  w : World
  h : Sep P w0 w L M
section
variable {P : Program} {w0 w : World} {L : List Vr} {M : List (Nat × Obj)} {ops : Array Oper} {a : Act} {Q : Exit → Act → World → Prop} {d : Option Tmp} {tp : TypeId} {ps : String} {af : Array Edge} {gd : Option (Nat × Bool)}
theorem q_of {C : World → Prop} {o : Oper} {v : Value} {K : Act → Prop} (hy : ∀ W, C W → (execOp a.eval o).run P W = .ok (.value v) W) (h : K (a.put o.dst v)) : o.quiet P a C K :=
  ⟨v, fun W hW => by unfold Oper.quietAt; rw [hy W hW]; exact ⟨rfl, rfl⟩, h⟩
theorem yield_ex {S : World → Prop} {o : Oper} {v : Value} (hw : Region.wanted o (yielded ops a.tmps) = true) (hy : YieldsIf P ops S o v a) : ∀ W, S W → (execOp a.eval o).run P W = .ok (.value v) W := by
  rcases hy with h | h
  · exact h.2
  · rw [hw] at h; cases h.1
/-- Rows of a variable, read whole or in part. -/
theorem qU {K : Act → Prop} {t s : TypeId} {x : Operand} {g k : Nat} {X D : Array Value} (hx : a.eval x = .pointer (some ⟨g, k, none⟩)) (hr : isRowB P t = true) (hm : (g, X, s) ∈ L) (hs : Hid (SubA X k D)) (hD : (P.info? t).map (·.size) = some D.size)
    (h : K (a.put d (.agg D))) : Oper.quiet P ⟨d, .load t x, tp, ps, af, gd⟩ a (fun w' => ∃ n : SepW P w0 L M, w' = n.1) K := by
  refine q_of (v := .agg D) (fun W hW => ?_) h
  obtain ⟨n, rfl⟩ := hW
  have := yield_ex (ops := #[]) (o := ⟨d, .load t x, tp, ps, af, none⟩) (P := P) (a := a) (S := fun W => Sep P w0 W L M) (v := .agg D) rfl (yU rfl hx hr hm hs hD) n.1 n.2
  exact this
theorem qR {K : Act → Prop} {t : TypeId} {x : Operand} {g : Nat} {X : Array Value} (hx : a.eval x = .pointer (some ⟨g, 0, none⟩)) (hr : isRowB P t = true) (hm : (g, X, t) ∈ L) (hD : (P.info? t).map (·.size) = some X.size)
    (h : K (a.put d (.agg X))) : Oper.quiet P ⟨d, .load t x, tp, ps, af, gd⟩ a (fun w' => ∃ n : SepW P w0 L M, w' = n.1) K := qU hx hr hm ((show Hid (SubA X 0 X) from subA_self X)) hD h
theorem qF {K : Act → Prop} {t s : TypeId} {x : Operand} {g k : Nat} {X : Array Value} {v : Value} (hx : a.eval x = .pointer (some ⟨g, k, none⟩)) (hr : isScB P t = true) (hm : (g, X, s) ∈ L) (hv : X[k]? = some v)
    (h : K (a.put d v)) : Oper.quiet P ⟨d, .load t x, tp, ps, af, gd⟩ a (fun w' => ∃ n : SepW P w0 L M, w' = n.1) K := by
  refine q_of (v := v) (fun W hW => ?_) h
  obtain ⟨n, rfl⟩ := hW
  exact yield_ex (ops := #[]) (o := ⟨d, .load t x, tp, ps, af, none⟩) (P := P) (a := a) (S := fun W => Sep P w0 W L M) (v := v) rfl (yF rfl hx hr hm hv) n.1 n.2
end
end Go.Proofs.Ytjpmmbmhkpgjcaa

/- A region that draws its order: what only reads is taken first, what does more comes in the one order that is left. -/
namespace Go.Proofs.Ytjpmmbmhkpgjcaa
open Go.RowKit
set_option maxRecDepth 100000
set_option linter.unusedVariables false
set_option linter.unusedSimpArgs false
/-- Does an operation hand back a value and nothing else? -/
def isValB (o : Oper) : Bool := match o.op with
  | .move _ | .assign _ | .pick _ _ _ | .fieldAddr _ _ _ | .load _ _ | .nilCheck _ | .binOp _ _ _ _ _ | .unOp _ _ _ | .indexAddr _ _ _ | .slice _ _ _ _ _ | .extract _ _ | .build _ _ | .makeFunc _ _ _ | .convert _ _ _ => true
  | .call c => (match c.callee with | .builtin .len => true | _ => false)
  | _ => false
theorem val_bind {P : Program} {w : World} {s : Sem Value} {n : Next} {w' : World} (h : (do let x ← s; pure (Next.value x) : Sem Next).run P w = .ok n w') : ∃ v, n = .value v := by
  rw [Sem.run_bind] at h
  cases hs : s.run P w with
  | ok x w1 => rw [hs] at h; simp [Result.andThen] at h; exact ⟨x, h.1.symm⟩
  | halt x w1 => rw [hs] at h; simp [Result.andThen] at h
theorem exec_val {P : Program} {ρ : Operand → Value} {o : Oper} (h : isValB o = true) {w w' : World} {n : Next} (hr : (execOp ρ o).run P w = .ok n w') : ∃ v, n = .value v := by
  obtain ⟨d, op, tp, ps, af, gd⟩ := o
  cases op <;> simp only [isValB, Bool.false_eq_true] at h <;> unfold execOp at hr <;> simp only at hr
  case move => simp at hr; exact ⟨_, hr.1.symm⟩
  case assign => simp at hr; exact ⟨_, hr.1.symm⟩
  case pick c a b =>
    rw [Sem.run_bind] at hr
    cases hs : (asBool (ρ c)).run P w with
    | ok x w1 => rw [hs] at hr; simp [Result.andThen] at hr; exact ⟨_, hr.1.symm⟩
    | halt x w1 => rw [hs] at hr; simp [Result.andThen] at hr
  case nilCheck x =>
    have hp : (runtimePanic .nilDeref : Sem Next).run P w ≠ .ok n w' := fun h => by simp [runtimePanic] at h
    have hb : ∀ {α : Type} (s : Sem α) (k : α → Sem Next) (w : World), (s >>= k).run P w = .ok n w' → (∀ x w1, (k x).run P w1 = .ok n w' → ∃ v, n = .value v) → ∃ v, n = .value v := fun s k w h hk => by
      rw [Sem.run_bind] at h
      cases hs : s.run P w with
      | ok x w1 => rw [hs] at h; exact hk x w1 h
      | halt x w1 => rw [hs] at h; simp [Result.andThen] at h
    generalize ρ x = y at hr
    split at hr <;> first | exact absurd hr hp | (simp at hr; exact ⟨_, hr.1.symm⟩) | skip
    split at hr <;> first | exact absurd hr hp | (simp at hr; exact ⟨_, hr.1.symm⟩) | skip
    refine hb _ _ _ hr fun x w1 h => hb _ _ _ h fun a w2 h => ?_
    split at h
    · refine hb _ _ _ h fun _ w3 h => ?_
      simp at h; exact ⟨_, h.1.symm⟩
    · simp at h; exact ⟨_, h.1.symm⟩
  case call c =>
    obtain ⟨ce, ar, at_⟩ := c
    cases ce with
    | builtin b =>
      cases b <;> simp only [Bool.false_eq_true] at h
      simp only [resolve, Sem.run_bind, Sem.run_pure, Result.andThen_ok, invoke, builtin] at hr
      exact val_bind (by rw [Sem.run_bind]; exact hr)
    | _ => simp only [Bool.false_eq_true] at h
  all_goals exact val_bind hr
section
variable {P : Program} {l : List Oper} {Q : Exit → Act → World → Prop} {J : Act → World → Prop} {S : World → Prop} {eff fin : List Nat}
/-- Does operation j wait for i (by way of others)? -/
def waitsF (l : List Oper) : Nat → Nat → Nat → Bool
  | 0, _, _ => false
  | f + 1, j, i => match l[j]? with
    | some o => o.after.any fun e => Region.binds .any e && (e.on == i || waitsF l f e.on i)
    | none => false
def ClosedL (l : List Oper) (listed : Array Bool) : Prop := ∀ j o, l[j]? = some o → listed.getD j false = true → ∀ e ∈ o.after, Region.binds .any e = true → listed.getD e.on false = true
theorem waits_listed {listed : Array Bool} (hc : ClosedL l listed) {i : Nat} : ∀ (f j : Nat) (o : Oper), l[j]? = some o → (∀ e ∈ o.after, Region.binds .any e = true → listed.getD e.on false = true) → waitsF l f j i = true → listed.getD i false = true := by
  intro f
  induction f with
  | zero => intro j o _ _ h; cases h
  | succ f ih =>
    intro j o ho hd h
    unfold waitsF at h
    rw [ho] at h
    obtain ⟨e, he, hb⟩ := Array.any_eq_true'.1 h
    rw [Bool.and_eq_true, Bool.or_eq_true, beq_iff_eq] at hb
    have h1 := hd e he hb.1
    rcases hb.2 with h2 | h2
    · rw [← h2]; exact h1
    · cases hq : l[e.on]? with
      | none => cases f <;> simp [waitsF, hq] at h2
      | some o2 => exact ih e.on o2 hq (fun e2 he2 hb2 => hc e.on o2 hq h1 e2 he2 hb2) h2
/-- Whatever order is picked; behind each operation but the last ones S holds. -/
def wpAnyL (P : Program) (l : List Oper) (Q : Exit → Act → World → Prop) (S : World → Prop) (fin : List Nat) : Nat → Array Bool → Act → World → Prop
  | 0, listed, a, w => Region.ready .any l.toArray listed = [] ∧ Q .normal a w
  | fuel + 1, listed, a, w => (Region.ready .any l.toArray listed = [] → Q .normal a w) ∧
    ∀ i ∈ Region.ready .any l.toArray listed, wpOp P l.toArray Q i (fun a' w' => (i ∉ fin → S w') ∧ wpAnyL P l Q S fin fuel (listed.setIfInBounds i true) a' w') a w
theorem wpAny_of_L : ∀ (fuel : Nat) (listed : Array Bool) (a : Act) (w : World), wpAnyL P l Q S fin fuel listed a w → wpAny P .any l.toArray Q fuel listed a w
  | 0, _, _, _, h => h
  | fuel + 1, _, _, _, h => ⟨h.1, fun i hi => wpOp_mono (fun a' w' h' => wpAny_of_L fuel _ a' w' h'.2) (h.2 i hi)⟩
theorem closed_set {listed : Array Bool} (hc : ClosedL l listed) {j : Nat} (hj : j ∈ Region.ready .any l.toArray listed) : ClosedL l (listed.setIfInBounds j true) := by
  intro k o hk hl e he hb
  by_cases hjk : j = k
  · subst hjk
    obtain ⟨_, o2, ho2, hall⟩ := mem_ready.1 hj
    rw [List.getElem?_toArray, hk] at ho2
    cases ho2
    exact getD_set_true (hall e he hb)
  · rw [getD_set_ne false hjk] at hl
    exact getD_set_true (hc k o hk hl e he hb)
theorem wpAnyL_first {i : Nat} {oi : Oper} {v : Value} (hi : l.toArray[i]? = some oi) (hsel : ∀ (j : Nat) (o : Oper) cs b, l.toArray[j]? = some o → o.op ≠ .select cs b)
    (hQ : ∀ c a w, Q (.panic c) (a.put oi.dst v) w → Q (.panic c) a w) (hfin : ∀ j ∈ fin, waitsF l l.length j i = true) (hifin : i ∉ fin) :
    ∀ (fuel : Nat) (listed : Array Bool) (a : Act) (w : World), ClosedL l listed →
      (∀ j oj, l.toArray[j]? = some oj → j ≠ i → listed.getD j true = false → (∀ e ∈ oj.after, Region.binds .any e = true → e.on ≠ i) → oi.apart l.toArray oj = true) →
      i ∈ Region.ready .any l.toArray listed → YieldsIf P l.toArray S oi v a → S w →
      wpAnyL P l Q S fin fuel (listed.setIfInBounds i true) (a.put oi.dst v) w → wpAnyL P l Q S fin (fuel + 1) listed a w := by
  intro fuel
  induction fuel with
  | zero =>
    intro listed a w _ _ hr hy hS H
    refine ⟨fun h => (by rw [h] at hr; cases hr), fun j hj => ?_⟩
    by_cases hji : j = i
    · subst hji; exact hy.wpOp hi hS ⟨fun _ => hS, H⟩
    · have := ready_mono hj hji
      rw [H.1] at this
      cases this
  | succ fuel ih =>
    intro listed a w hcl hfree hr hy hS H
    refine ⟨fun h => (by rw [h] at hr; cases hr), fun j hj => ?_⟩
    by_cases hji : j = i
    · subst hji; exact hy.wpOp hi hS ⟨fun _ => hS, H⟩
    · have h1 := H.2 j (ready_mono hj hji)
      obtain ⟨hjun, oj, hoj, hall⟩ := mem_ready.1 hj
      have hiun : listed.getD i false = false := by
        have h0 := (mem_ready.1 hr).1
        rcases Nat.lt_or_ge i listed.size with h' | h'
        · simp [h'] at h0 ⊢; exact h0
        · simp [Array.getElem?_eq_none h'] at h0
      have hnot : ∀ e ∈ oj.after, Region.binds .any e = true → e.on ≠ i := fun e he hb heq => by
        have h1 := hall e he hb
        rw [heq, hiun] at h1
        cases h1
      have hjf : j ∉ fin := fun hm => by
        have h2 := waits_listed hcl l.length j oj (by rw [List.getElem?_toArray] at hoj; exact hoj) hall (hfin j hm)
        rw [hiun] at h2
        cases h2
      have h2 := wpOp_putIf hoj (hfree j oj hoj hji hjun hnot) (fun cs b => hsel i oi cs b hi) (fun cs b => hsel j oj cs b hoj) hQ hy h1
      have hfree' : ∀ k ok, l.toArray[k]? = some ok → k ≠ i → (listed.setIfInBounds j true).getD k true = false →
          (∀ e ∈ ok.after, Region.binds .any e = true → e.on ≠ i) → oi.apart l.toArray ok = true := fun k ok hk hki hun hno => by
        refine hfree k ok hk hki ?_ hno
        by_cases hjk : j = k
        · subst hjk; exact hjun
        · rw [getD_set_ne true hjk] at hun; exact hun
      refine wpOp_mono (fun a' w' h3 => ⟨fun _ => h3.2.1 hjf, ih (listed.setIfInBounds j true) a' w' (closed_set hcl hj) hfree' (ready_mono hr (Ne.symm hji)) h3.1 (h3.2.1 hjf) ?_⟩) h2
      rw [Array.setIfInBounds_comm _ _ hji]
      exact h3.2.2
/-- The walk: an order, in which what only reads comes as soon as it may. -/
def wpMix (P : Program) (l : List Oper) (S : World → Prop) (J : Act → World → Prop) (eff fin : List Nat) : List Nat → Act → World → Prop
  | [], a, w => J a w
  | i :: r, a, w => match l[i]? with
    | none => False
    | some o => if Region.wanted o (yielded l.toArray a.tmps) = true then
        (if eff.contains i then wpList P l.toArray (joinQ fun a' w' => (fin.contains i = false → S w') ∧ wpMix P l S J eff fin r a' w') [o] a w
         else isValB o = true ∧ o.quiet P a S (fun a' => wpMix P l S J eff fin r a' w))
      else wpMix P l S J eff fin r (a.put o.dst undef) w
def mixB (l : List Oper) (eff fin : List Nat) : Array Bool → List Nat → Bool
  | listed, [] => Region.ready .any l.toArray listed == []
  | listed, i :: r =>
    (if eff.contains i then Region.ready .any l.toArray listed == [i] && (!fin.contains i || r.all fin.contains)
     else (Region.ready .any l.toArray listed).contains i && Region.free .any l.toArray listed i && fin.all (fun j => waitsF l l.length j i) && !fin.contains i)
    && mixB l eff fin (listed.setIfInBounds i true) r
theorem quiet_yields {o : Oper} {a : Act} {K : Act → Prop} {ops : Array Oper} (hw : Region.wanted o (yielded ops a.tmps) = true) (hv : isValB o = true) (h : o.quiet P a S K) : ∃ v, YieldsIf P ops S o v a ∧ K (a.put o.dst v) := by
  obtain ⟨v, h1, h2⟩ := h
  refine ⟨v, .inl ⟨hw, fun w hS => ?_⟩, h2⟩
  have h3 := h1 w hS
  unfold Oper.quietAt at h3
  cases hr : (execOp a.eval o).run P w with
  | ok n w' =>
    obtain ⟨u, rfl⟩ := exec_val hv hr
    rw [hr] at h3
    obtain ⟨rfl, rfl⟩ := h3
    rfl
  | halt x w' => rw [hr] at h3; exact h3.elim
theorem mix_sound (hs : Region.noSelect l.toArray = true) : ∀ (ord : List Nat) (listed : Array Bool) (a : Act) (w : World), ClosedL l listed → mixB l eff fin listed ord = true → (ord.all fin.contains = false → S w) →
    wpMix P l S J eff fin ord a w → wpAnyL P l (joinQ J) S fin ord.length listed a w
  | [], listed, a, w, _, hB, _, h => ⟨by simpa [mixB] using hB, h⟩
  | i :: r, listed, a, w, hc, hB, hS, h => by
    unfold mixB at hB
    rw [Bool.and_eq_true] at hB
    obtain ⟨hB1, hB2⟩ := hB
    unfold wpMix at h
    cases ho : l[i]? with
    | none => rw [ho] at h; exact h.elim
    | some o =>
      have ho' : l.toArray[i]? = some o := by rw [List.getElem?_toArray, ho]
      rw [ho] at h
      dsimp only at h
      by_cases he : eff.contains i = true
      · rw [if_pos he, Bool.and_eq_true, beq_iff_eq, Bool.or_eq_true] at hB1
        have hcl := closed_set hc (j := i) (by rw [hB1.1]; exact List.mem_singleton.2 rfl)
        have hSn : ∀ w', (fin.contains i = false → S w') → (r.all fin.contains = false → S w') := fun w' h1 h2 => by
          rcases hB1.2 with h3 | h3
          · exact h1 (by simpa using h3)
          · rw [h3] at h2; cases h2
        refine ⟨fun h0 => (by rw [hB1.1] at h0; cases h0), fun j hj => ?_⟩
        rw [hB1.1] at hj
        obtain rfl := List.mem_singleton.1 hj
        unfold wpOp
        simp only [ho']
        by_cases hw : Region.wanted o (yielded l.toArray a.tmps) = true
        · rw [if_pos hw] at h ⊢
          rw [if_pos he] at h
          unfold wpList at h
          rw [if_pos hw] at h
          rcases h with h | h
          · refine .inl ?_
            have h2 := Oper.wp_mono (K' := fun a' w' => (j ∉ fin → S w') ∧ wpAnyL P l (joinQ J) S fin r.length (listed.setIfInBounds j true) a' w') (fun a' w' h1 => ?_) h
            · unfold Oper.wp at h2 ⊢
              generalize (execOp a.eval o).run P w = x at h2 ⊢
              cases x with
              | ok n w' =>
                cases n <;> simp only [Oper.upon] at h2 ⊢ <;> first
                  | exact h2
                  | (refine Calls.mono h2 fun e w'' hh => ?_; cases e <;> first | exact hh | exact hh.elim | (obtain ⟨_, _, hf⟩ := hh; exact hf.elim))
              | halt x w' => cases x <;> simp only [Oper.upon] at h2 ⊢ <;> first | exact h2 | exact h2.elim
            · have h1' : (fin.contains j = false → S w') ∧ wpMix P l S J eff fin r a' w' := h1
              exact ⟨fun hn => h1'.1 (by simpa using hn), mix_sound hs r _ a' w' hcl hB2 (hSn w' h1'.1) h1'.2⟩
          · obtain ⟨_, _, _, hf⟩ := h
            exact hf.elim
        · rw [if_neg hw] at h ⊢
          exact ⟨fun hn => hS (by rw [List.all_cons, (by simpa using hn : fin.contains j = false), Bool.false_and]), mix_sound hs r _ _ w hcl hB2 (fun h2 => by
            by_cases hn : fin.contains j = true
            · rcases hB1.2 with h3 | h3
              · rw [hn] at h3; cases h3
              · rw [h3] at h2; cases h2
            · exact hS (by rw [List.all_cons, (by simpa using hn : fin.contains j = false), Bool.false_and])) h⟩
      · rw [if_neg he] at hB1
        simp only [Bool.and_eq_true, List.all_eq_true, Bool.not_eq_true'] at hB1
        obtain ⟨⟨⟨hr, hf⟩, hfin⟩, hif⟩ := hB1
        have hr' : i ∈ Region.ready .any l.toArray listed := by simpa using hr
        have hSw : S w := hS (by rw [List.all_cons, hif, Bool.false_and])
        have hcl := closed_set hc hr'
        have hfirst : ∀ v, YieldsIf P l.toArray S o v a → wpMix P l S J eff fin r (a.put o.dst v) w → wpAnyL P l (joinQ J) S fin (r.length + 1) listed a w := fun v hy hk =>
          wpAnyL_first ho' (Region.noSelect_spec hs) (fun c a w h => h) hfin (by simpa using hif) r.length listed a w hc (Region.free_spec ho' hf) hr' hy hSw
            (mix_sound hs r _ _ w hcl hB2 (fun _ => hSw) hk)
        by_cases hw : Region.wanted o (yielded l.toArray a.tmps) = true
        · rw [if_pos hw, if_neg he] at h
          obtain ⟨v, hy, hk⟩ := quiet_yields hw h.1 h.2
          exact hfirst v hy hk
        · rw [if_neg hw] at h
          exact hfirst undef (.inr ⟨by simpa using hw, rfl⟩) h
end
section
variable {P : Program} {l : List Oper} {Q : Exit → Act → World → Prop} {J : Act → World → Prop} {S : World → Prop} {eff fin r : List Nat} {w0 w : World} {L Lc : List Vr} {M Mc : List (Nat × Obj)} {a : Act} {i : Nat} {o : Oper}
theorem region_mix {id : Nat} (Lc : List Vr) (Mc : List (Nat × Obj)) (eff fin ord : List Nat) (hm : P.follows .mixedOrders = true) (hs : Region.noSelect l.toArray = true) (hB : mixB l eff fin (Array.replicate l.length false) ord = true) (hn : ord.length = l.length)
    (H : Hid (Sep P w0 w L M)) (hL : List.Sublist Lc L) (hM : List.Sublist Mc M) (h : ∀ W, Nonempty (SepW P w0 Lc Mc) → Hid (Sep P w0 W L M) → wpMix P l (fun w' => ∃ n : SepW P w0 Lc Mc, w' = n.w) (Q .normal) eff fin ord a W) : (Code.region id l.toArray true).wp P Q a w := by
  have HD := H.out.drew
  have HC := HD.sub hL hM
  refine region_join (J := fun _ => Q .normal) (wp_region_any hm ?_) (fun _ _ h => h)
  have h1 := mix_sound (P := P) (S := fun w' => ∃ n : SepW P w0 Lc Mc, w' = n.w) (J := Q .normal) hs ord (Array.replicate l.length false) a w.drew (fun j o _ hl => by
    exfalso
    by_cases hj : j < l.length
    · simp [hj] at hl
    · simp [hj] at hl) hB (fun _ => ⟨⟨_, HC⟩, rfl⟩) (h _ ⟨⟨_, HC⟩⟩ HD)
  rw [hn] at h1
  simpa using wpAny_of_L _ _ _ _ h1
theorem mix_skip (ho : l[i]? = some o) (hw : Region.wanted o (yielded l.toArray a.tmps) = false) (h : wpMix P l S J eff fin r (a.put o.dst undef) w) : wpMix P l S J eff fin (i :: r) a w := by
  unfold wpMix
  rw [ho]
  dsimp only
  rw [if_neg (by rw [hw]; decide)]
  exact h
theorem mix_q (ho : l[i]? = some o) (hw : Region.wanted o (yielded l.toArray a.tmps) = true) (he : eff.contains i = false) (hv : isValB o = true) (h : ∀ K : Act → Prop, (∀ a, wpMix P l S J eff fin r a w → K a) → o.quiet P a S K) : wpMix P l S J eff fin (i :: r) a w := by
  unfold wpMix
  rw [ho]
  dsimp only
  rw [if_pos hw, if_neg (by rw [he]; decide)]
  exact ⟨hv, h _ fun _ h => h⟩
theorem mix_end (h : J a w) : wpMix P l S J eff fin [] a w := h
theorem mix_e (ho : l[i]? = some o) (hw : Region.wanted o (yielded l.toArray a.tmps) = true) (he : eff.contains i = true) (h : wpList P l.toArray (joinQ fun a' w' => (fin.contains i = false → S w') ∧ wpMix P l S J eff fin r a' w') [o] a w) : wpMix P l S J eff fin (i :: r) a w := by
  unfold wpMix
  rw [ho]
  dsimp only
  rw [if_pos hw, if_pos he]
  exact h
theorem mix_on (hS : Sep P w0 w Lc Mc) (h : wpMix P l (fun w' => ∃ n : SepW P w0 Lc Mc, w' = n.w) J eff fin r a w) :
    joinQ (fun a' w' => (fin.contains i = false → ∃ n : SepW P w0 Lc Mc, w' = n.w) ∧ wpMix P l (fun w' => ∃ n : SepW P w0 Lc Mc, w' = n.w) J eff fin r a' w') .normal a w := ⟨fun _ => ⟨⟨w, hS⟩, rfl⟩, h⟩
theorem mix_on2 (hS : Sep P w0 w Lc Mc) (h : wpMix P l (fun w' => ∃ n : SepW P w0 Lc Mc, w' = n.w) J eff fin r a w) :
    joinQ (fun a' w' => (∃ n : SepW P w0 Lc Mc, w' = n.w) ∧ wpMix P l (fun w' => ∃ n : SepW P w0 Lc Mc, w' = n.w) J eff fin r a' w') .normal a w := ⟨⟨⟨w, hS⟩, rfl⟩, h⟩
theorem mix_fin2 (h : wpMix P l S J eff fin r a w) : joinQ (fun a' w' => wpMix P l S J eff fin r a' w') .normal a w := h
theorem mix_fin (hf : fin.contains i = true) (h : wpMix P l S J eff fin r a w) : joinQ (fun a' w' => (fin.contains i = false → S w') ∧ wpMix P l S J eff fin r a' w') .normal a w := ⟨fun h0 => (by rw [hf] at h0; cases h0), h⟩
end
end Go.Proofs.Ytjpmmbmhkpgjcaa
