/- What pack.Read answers: the row of fields that bytes are made of, or what is wrong first. -/
import Derived.Test.YtmfopddmkaecaabParsedIn
import Derived.Test.YtmfopddmkaecaabLay
namespace Go.Proofs.Ytmfopddmkaecaab
open Go.RowKit Go.Shelf Nums

attribute [local go_sem] Oper.semAt_some

theorem info37 : (Try.prog.info? 37).map (fun i => (i.zero, i.size, i.bytes)) = some (some (.agg #[.int .i64 0, .string ⟨#[]⟩]), 2, 24) := by kernel_rfl

/-- Fields as cells. -/
def fcells : List (Int × ByteArray) → List Value
  | [] => []
  | f :: r => .int .i64 f.1 :: .string f.2 :: fcells r

theorem fcells_length : ∀ fs, (fcells fs).length = fs.length * 2
  | [] => rfl
  | f :: r => by simp [fcells, fcells_length r]; omega
theorem fcells_append : ∀ a b, fcells (a ++ b) = fcells a ++ fcells b
  | [], _ => rfl
  | f :: r, b => by simp [fcells, fcells_append r b]

/-- Every field's block lies as it lay. -/
def Keep2 (W W' : World) : Prop := ∀ (b : Nat) (x y : Value) (m : Nat × Nat), W.heap[b]? = some (Obj.cells #[x, y] 37 m) → W'.heap[b]? = some (Obj.cells #[x, y] 37 m)
theorem Keep2.trans {A B C : World} (h : Keep2 A B) (k : Keep2 B C) : Keep2 A C := fun b x y m hb => k b x y m (h b x y m hb)
theorem Keep2.below {A B : World} (h : Below A.heap.size A B) : Keep2 A B := fun b _ _ _ hb => (h.block b (Array.getElem?_eq_some_iff.1 hb).1).trans hb
theorem Keep2.none {A B : World} (h : A.grownBy B none) : Keep2 A B := fun b _ _ _ hb => (h.block b (Array.getElem?_eq_some_iff.1 hb).1 (by simp)).trans hb

theorem run_append_field (W : World) (B : Nat) (v : Value) (fs : List (Int × ByteArray)) (f : Int × ByteArray) (hown : W.ownsRow B 37 2 v fs.length (fcells fs)) (hnil : v = .slice none 0 0 ↔ fs = []) (hB : B ≤ W.heap.size) (hl : fs.length ≤ 1048576) :
    ∃ v' w1, (Builtin.append_ #[22, 22] 22 #[v, .slice (some ⟨W.heap.size, 0, none⟩) 1 1]).run Try.prog (W.alloc (.cells #[.int .i64 f.1, .string f.2] 37)) = .ok v' w1 ∧
      w1.ownsRow B 37 2 v' (fs.length + 1) (fcells (fs ++ [f])) ∧ Below B W w1 ∧ Spares 37 W w1 ∧ Keep2 W w1 := by
  obtain ⟨i0, hi, hz0, hz1, hz2⟩ := info_parts info37
  have hb0 : Below W.heap.size W (W.alloc (.cells #[.int .i64 f.1, .string f.2] 37)) := (Below.refl _ _).alloc (Nat.le_refl _) _
  have hn : ∀ (j : Nat) (u : Value), (fcells [f])[j]? = some u → (W.alloc (.cells #[.int .i64 f.1, .string f.2] 37)).cell? ((⟨W.heap.size, 0, none⟩ : Addr).add j) = some u := by
    intro j u hj
    rw [add_plain]
    match j, hj with
    | 0, hj => simp [fcells] at hj; subst hj; simp
    | 1, hj => simp [fcells] at hj; subst hj; simp
    | j + 2, hj => simp [fcells] at hj
  have h1 : ∀ u ∈ fcells [f], u.oneCell' = true := by
    intro u hu
    simp [fcells] at hu
    rcases hu with rfl | rfl <;> rfl
  have hown1 := hown.alloc (.cells #[.int .i64 f.1, .string f.2] 37)
  have hsz : (W.alloc (.cells #[.int .i64 f.1, .string f.2] 37)).heap.size = W.heap.size + 1 := by simp
  rcases hown.2 with ⟨hv, h0⟩ | ⟨g, cap, cur, hv, hbg, hgb, hnc, hcm, hcs, htk⟩
  · obtain ⟨v', w1, hr, ho, hg, _⟩ := run_append_own (P := Try.prog) _ B 22 22 37 i0 (.agg #[.int .i64 0, .string ⟨#[]⟩]) 2 24 Try.underlying22 hi hz0 hz1 hz2 rfl (by decide) v fs.length _ hown1 ⟨W.heap.size, 0, none⟩ 1 1 (fcells [f]) (by simp [fcells]) hn h1 (by unfold maxLen; omega) (by omega) (by rw [hsz]; omega)
    rw [hv] at hg
    refine ⟨v', w1, hr, by rw [fcells_append]; exact ho, (hb0.mono hB).grown hg (by rw [hsz]; omega) (by intro k hk; cases hk), (Spares.alloc 37 W (.cells #[.int .i64 f.1, .string f.2] 37)).trans ?_, (Keep2.below hb0).trans (Keep2.none hg)⟩
    exact Spares.grown (v := .slice none 0 0) (by rw [← hv]; exact hown1) hg
  · have hfs : fs.length ≠ 0 := by
      intro e
      have : fs = [] := List.eq_nil_of_length_eq_zero e
      have := hnil.2 this
      rw [hv] at this; cases this
    by_cases hroom : fs.length + 1 ≤ cap
    · rw [hv] at hown1 ⊢
      obtain ⟨w1, hr, ho, hg⟩ := run_append_fits (P := Try.prog) _ B 22 22 37 i0 2 Try.underlying22 hi hz1 g fs.length cap _ hown1 ⟨W.heap.size, 0, none⟩ 1 1 (fcells [f]) (by simp [fcells]) hn h1 hroom
      refine ⟨_, w1, hr, by rw [fcells_append]; exact ho, (hb0.mono hB).grown hg (by rw [hsz]; omega) (by intro k hk; cases hk; exact hbg), (Spares.alloc 37 W (.cells #[.int .i64 f.1, .string f.2] 37)).trans (Spares.grown hown1 hg), (Keep2.below hb0).trans ?_⟩
      intro b x y m hb
      refine (hg.block b (Array.getElem?_eq_some_iff.1 hb).1 ?_).trans hb
      intro e
      cases e
      have hgb' : (W.alloc (.cells #[.int .i64 f.1, .string f.2] 37)).heap[g]? = some (.cells cur 37 (0, 0)) := (hb0.block g (Array.getElem?_eq_some_iff.1 hgb).1).trans hgb
      rw [hgb'] at hb
      cases hb
      simp at hcs
      omega
    · rw [hv]
      have hcells : ∀ (j : Nat) (u : Value), (fcells fs)[j]? = some u → (W.alloc (.cells #[.int .i64 f.1, .string f.2] 37)).cell? ((⟨g, 0, none⟩ : Addr).add j) = some u := hown1.cells (g := g) (by rw [hv]; rfl)
      obtain ⟨v', w1, hr, ho, hg⟩ := run_append_arg_grows (P := Try.prog) _ 22 22 37 i0 (.agg #[.int .i64 0, .string ⟨#[]⟩]) 2 24 Try.underlying22 hi hz0 hz1 hz2 rfl (by decide) ⟨g, 0, none⟩ fs.length cap (fcells fs) (fcells_length fs) hcells ⟨W.heap.size, 0, none⟩ 1 1 (fcells [f]) (by simp [fcells]) hn (by omega) (by unfold maxLen; omega) (by omega)
      refine ⟨v', w1, hr, by rw [fcells_append]; exact own_lower ho (by rw [hsz]; omega), (hb0.mono hB).grown hg (by rw [hsz]; omega) (by intro k hk; cases hk), (Spares.alloc 37 W (.cells #[.int .i64 f.1, .string f.2] 37)).trans ?_, (Keep2.below hb0).trans (Keep2.none hg)⟩
      intro i o hi2 _
      exact (hg.block i (Array.getElem?_eq_some_iff.1 hi2).1 (by simp)).trans hi2

theorem wpListIn_append_run {F : Fence} {n : Nat} {P : Program} {w : World} {ops : Array Oper} {rest : List Oper} {o : Oper} {a : Act} {Q : Exit → Act → World → Prop}
    (hg : o.guard = none) (s x : Operand) (t u : TypeId) (hop : o.op = Op.call { callee := Callee.builtin Builtin.append, args := #[s, x], argTypes := #[t, u] })
    (vs vx v' : Value) (w' : World) (hs : a.eval s = vs) (hx : a.eval x = vx) (hrun : (Builtin.append_ #[t, u] o.type #[vs, vx]).run P w = .ok v' w')
    (hK : wpListIn F n P ops Q rest (a.put o.dst v') w') : wpListIn F n P ops Q (o :: rest) a w := by
  refine wpListIn_plain hg fun K hK' => ?_
  unfold Oper.wpIn
  refine ⟨?_, ?_⟩
  · simp [Oper.about, hop, resolve, Target.leads, Sem.run_pure]
  · rw [Oper.semAt_plain F _ _ (by rw [hop]; intro c hc'; cases hc')]
    simp [execOp, hop, resolve, invoke, builtin, hs, hx, hrun, Result.andThen]
    exact hK' _ _ hK

def toF (ps : List Pd) : List (Int × ByteArray) := ps.map fun x => ((x.tag : Int), ⟨x.d.toArray⟩)
theorem toF_snoc (ps : List Pd) (x : Pd) : toF (ps ++ [x]) = toF ps ++ [((x.tag : Int), ⟨x.d.toArray⟩)] := by simp [toF]
theorem toF_length (ps : List Pd) : (toF ps).length = ps.length := by simp [toF]

theorem spares_boxT {T : TypeId} {w w' : World} (h : Spares T w w') {b : Nat} {c : Array Value} {t : TypeId} {m : Nat × Nat} (ht : t ≠ T) (hb : w.heap[b]? = some (.cells c t m)) : w'.heap[b]? = some (.cells c t m) :=
  h b _ hb (fun c' m' e => by cases e; exact ht rfl)
theorem spares_othersT {T : TypeId} {w w' : World} (h : Spares T w w') (hs : w.heap.size ≤ w'.heap.size) : KeepsOthers w w' := ⟨hs, fun k o hk ho => h k o hk (fun c m e => by subst e; cases ho)⟩

set_option maxRecDepth 100000 in
set_option maxHeartbeats 4000000 in
theorem read_in (n : Nat) (hn : 3 ≤ n) (a : Option Addr) (len cap : Nat) (bs : List UInt8) (w : World) (hR : Reads w a len cap bs) (hl : len ≤ 1000000) :
    CallsIn Fence.wide n Try.prog 11 #[.slice a len cap] w fun e W' =>
      ((∀ x ∈ parse (len + 1) 0 bs, x.e = 0) ∧ ∃ v, e = .returned (.tuple #[v, .int .i64 0]) ∧ W'.ownsRow w.heap.size 37 2 v (toF (parse (len + 1) 0 bs)).length (fcells (toF (parse (len + 1) 0 bs))) ∧ Below w.heap.size w W') ∨
      (∃ pre x, (pre ++ [x]) <+: parse (len + 1) 0 bs ∧ (∀ y ∈ pre, y.e = 0) ∧ x.e ≠ 0 ∧ e = .returned (.tuple #[.slice none 0 0, .int .i64 x.e]) ∧ Below w.heap.size w W') := by
  have h1 : 1 ≤ n := by omega
  refine callsIn_of_wp_marks Try.func11 rfl trivial ?_ rfl
  simp only [Try.ntmps11, List.size_toArray, List.length_cons, List.length_nil, Nat.reduceAdd, Nat.reduceSub, Array.replicate_succ, Array.replicate_zero, List.push_toArray, List.append_toArray, List.nil_append, List.cons_append]
  gi_wp2_with (refine ⟨trivial, ?_⟩; gi_at_call 20; refine (parsed_in (n - 1) _ _ _ _).mono ?_; rintro e w' ⟨rfl, rfl⟩)
  have bR1 := (((Boxed.new w 22 (.slice none 0 0)).alloc (.cells #[.int .i64 0] 25)).alloc (.cells #[.slice none 0 0] 22)).alloc (.cells #[.slice a len cap] 24)
  have bR2 := ((Boxed.new (w.alloc (.cells #[.slice none 0 0] 22)) 25 (.int .i64 0)).alloc (.cells #[.slice none 0 0] 22)).alloc (.cells #[.slice a len cap] 24)
  have bO := (Boxed.new ((w.alloc (.cells #[.slice none 0 0] 22)).alloc (.cells #[.int .i64 0] 25)) 22 (.slice none 0 0)).alloc (.cells #[.slice a len cap] 24)
  have bA := Boxed.new (((w.alloc (.cells #[.slice none 0 0] 22)).alloc (.cells #[.int .i64 0] 25)).alloc (.cells #[.slice none 0 0] 22)) 24 (.slice a len cap)
  simp only [World.size_alloc] at bR2 bO bA
  have hB0 : Below w.heap.size w ((((w.alloc (.cells #[.slice none 0 0] 22)).alloc (.cells #[.int .i64 0] 25)).alloc (.cells #[.slice none 0 0] 22)).alloc (.cells #[.slice a len cap] 24)) :=
    ((((Below.refl _ w).alloc (Nat.le_refl _) _).alloc (by simp) _).alloc (by simp; omega) _).alloc (by simp; omega) _
  have hsz : ((((w.alloc (.cells #[.slice none 0 0] 22)).alloc (.cells #[.int .i64 0] 25)).alloc (.cells #[.slice none 0 0] 22)).alloc (.cells #[.slice a len cap] 24)).heap.size = w.heap.size + 4 := by simp
  obtain ⟨W0, hW0⟩ : ∃ W0, (((w.alloc (.cells #[.slice none 0 0] 22)).alloc (.cells #[.int .i64 0] 25)).alloc (.cells #[.slice none 0 0] 22)).alloc (.cells #[.slice a len cap] 24) = W0 := ⟨_, rfl⟩
  rw [hW0] at bR1 bR2 bO bA hB0 hsz ⊢
  clear hW0
  have hge : w.heap.size + 4 ≤ W0.heap.size := Nat.le_of_eq hsz.symm
  clear hsz
  refine wpIn_rangeFunc_ownH rfl h1 (gf := 24) (lb := #[.pointer (some ⟨w.heap.size + 1 + 1 + 1, 0, none⟩)]) rfl trivial (enters_of Try.func24 (by kernel_rfl) rfl)
    (parsed_stops (n - 1) (by omega) (w.heap.size + 1 + 1 + 1) w.heap.size a len cap bs W0 (by omega) (by omega) bA.cell (LReads.below hB0 hR.lreads)) kpP_t (kpP_b (by omega)) (Below.refl _ _) (fun _ => rfl)
    (fun pre W => ((∃ v, Boxed W (w.heap.size + 1 + 1) 22 v ∧ W.ownsRow W0.heap.size 37 2 v (toF pre).length (fcells (toF pre)) ∧ (v = .slice none 0 0 ↔ toF pre = [])) ∧ (Boxed W w.heap.size 22 (.slice none 0 0) ∧ Boxed W (w.heap.size + 1) 25 (.int .i64 0))) ∧ ((∀ x ∈ pre, x.e = 0) ∧ Below w.heap.size w W))
    (fun c pre W => (c = .ret ∧ ∃ pre' x, pre = pre' ++ [x] ∧ (∀ y ∈ pre', y.e = 0) ∧ x.e ≠ 0 ∧ Boxed W w.heap.size 22 (.slice none 0 0) ∧ Boxed W (w.heap.size + 1) 25 (.int .i64 x.e)) ∧ Below w.heap.size w W)
    (OwnFrom.and (OwnFrom.and (Own.from (holdsRow_own W0.heap.size (w.heap.size + 1 + 1) 22 37 2 (fun pre => (toF pre).length) (fun pre => fcells (toF pre)) (fun pre v => v = .slice none 0 0 ↔ toF pre = [])) _) (OwnFrom.and (Own.from (boxed_own _ _ _) _) (Own.from (boxed_own _ _ _) _))) (OwnFrom.and (ownFrom_pure _ _) (ownFrom_below (Nat.le_refl _) (by omega))))
    (fun c => OwnFrom.and (fun s X Y row hs hg hr => by
      obtain ⟨hc, pre', x, e1, e2, e3, b1, b2⟩ := hs
      exact ⟨hc, pre', x, e1, e2, e3, cells_stay b1 hg (fun r e => (hr r e).2), cells_stay b2 hg (fun r e => (hr r e).2)⟩) (ownFrom_below (Nat.le_refl _) (by omega)))
    ⟨⟨⟨_, bO, World.ownsRow_nil _ _ _ _, by simp [toF]⟩, bR1, bR2⟩, by simp, hB0⟩
    (fun x a' W => ∃ Bx, w.heap.size + 1 + 1 < Bx ∧ W.heap[Bx]? = some (.cells #[.int .i64 x.tag, .string ⟨x.d.toArray⟩] 37 (0, 0)) ∧ a' = { tmps := #[.slice a len cap, undef, .pointer (some ⟨w.heap.size, 0, none⟩), .pointer (some ⟨w.heap.size + 1, 0, none⟩), .pointer (some ⟨w.heap.size + 1 + 1, 0, none⟩), .pointer (some ⟨Bx, 0, none⟩), .int .i64 x.e, .slice a len cap, .func (.func 24) #[] #[.pointer (some ⟨w.heap.size + 1 + 1 + 1, 0, none⟩)], .agg #[.int .i64 x.tag, .string ⟨x.d.toArray⟩], .int .i64 x.e, undef, undef, undef, undef, undef, undef, undef, undef], defers := [] })
    (fun x a' _ X Y row hs hg hr => by obtain ⟨Bx, h1, h2, h3⟩ := hs; exact ⟨Bx, h1, cells_stay h2 hg (fun r e => (hr r e).2), h3⟩)
    ?assign ?body ?done ?stop
  case assign =>
    rintro l pre x W K ⟨⟨⟨v, bO1, hrow, ht⟩, bR11, bR21⟩, hz, hB1⟩ hK
    dsimp only [encP]
    gi_wp2
    refine hK _ _ ((KeepsOthers.alloc _ _).from _) ⟨(Below.refl _ W).alloc hB1.size _, fun b c _ m hb => (Below.heap_alloc W _ b (Array.getElem?_eq_some_iff.1 hb).1).trans hb⟩ ⟨⟨⟨v, bO1.alloc _, hrow.alloc _, ht⟩, bR11.alloc _, bR21.alloc _⟩, hz, hB1.alloc hB1.size _⟩ ⟨W.heap.size, bO1.lt, World.alloc_heap_new W _, rfl⟩
  case body =>
    rintro l pre x a' W hl0 ⟨r, hr⟩ ⟨⟨⟨v, bO1, hrow, ht⟩, bR11, bR21⟩, hz, hB1⟩ ⟨Bx, hBx, bX, rfl⟩ hlt
    have hsW := hB1.size
    have hlW : W0.heap.size ≤ W.heap.size := Nat.le_trans hl0 (Nat.le_of_lt (Array.getElem?_eq_some_iff.1 hr).1)
    clear hr
    have cO := bO1.cell
    have fO := bO1.frozen
    have cX0 : W.cell? ⟨Bx, 0, none⟩ = some (.int .i64 x.tag) := by simp [World.cell?, bX]
    have cX1 : W.cell? ⟨Bx, 1, none⟩ = some (.string ⟨x.d.toArray⟩) := by simp [World.cell?, bX]
    have c1 := bR11.cell
    have f1 := bR11.frozen
    have c2 := bR21.cell
    have f2 := bR21.frozen
    by_cases he : x.e = 0
    · have HE : Hid (x.e = 0) := he
      have he' : ((x.e : Int) != 0) = false := by rw [he]; rfl
      clear he
      obtain ⟨v', W1, hrun, hown', hb', hs', hk'⟩ := run_append_field W W0.heap.size v (toF pre) ((x.tag : Int), ⟨x.d.toArray⟩) hrow ht hlW (by rw [toF_length]; omega)
      have HRUN : Hid _ := hrun
      clear hrun
      rw [← toF_snoc] at hown'
      have hl1 : (toF pre).length + 1 = (toF (pre ++ [x])).length := by rw [toF_length, toF_length, List.length_append]; rfl
      rw [hl1] at hown'
      have hs1 : W.heap.size ≤ W1.heap.size := hb'.size
      have bO2 : Boxed W1 (w.heap.size + 1 + 1) 22 v := spares_boxT hs' (by decide) bO1
      have cO2 := bO2.cell
      have fO2 := bO2.frozen
      have hpos : (toF (pre ++ [x])).length ≠ 0 := by rw [toF_length, List.length_append]; simp
      obtain ⟨a', n', c', hv'⟩ : ∃ a' n' c', v' = .slice (some a') n' c' := by
        rcases hown'.2 with ⟨_, h⟩ | ⟨g, cp, _, h, _⟩
        · exact absurd h hpos
        · exact ⟨_, _, _, h⟩
      have hne : ∀ (b : Nat) (c d : Value) (m : Nat × Nat), W.heap[b]? = some (Obj.cells #[c, d] 37 m) → b ≠ w.heap.size + 1 + 1 := by
        intro b c d m hb e
        subst e
        rw [show W.heap[w.heap.size + 1 + 1]? = _ from bO1] at hb
        cases hb
      have FIN : Hid (KeepsFrom W0.heap.size W (W1.setCell ⟨w.heap.size + 1 + 1, 0, none⟩ v') ∧ KpP w.heap.size W (W1.setCell ⟨w.heap.size + 1 + 1, 0, none⟩ v') ∧
          (((∃ v, Boxed (W1.setCell ⟨w.heap.size + 1 + 1, 0, none⟩ v') (w.heap.size + 1 + 1) 22 v ∧ (W1.setCell ⟨w.heap.size + 1 + 1, 0, none⟩ v').ownsRow W0.heap.size 37 2 v (toF (pre ++ [x])).length (fcells (toF (pre ++ [x]))) ∧ (v = .slice none 0 0 ↔ toF (pre ++ [x]) = [])) ∧
            (Boxed (W1.setCell ⟨w.heap.size + 1 + 1, 0, none⟩ v') w.heap.size 22 (.slice none 0 0) ∧ Boxed (W1.setCell ⟨w.heap.size + 1 + 1, 0, none⟩ v') (w.heap.size + 1) 25 (.int .i64 0))) ∧
          ((∀ y ∈ pre ++ [x], y.e = 0) ∧ Below w.heap.size w (W1.setCell ⟨w.heap.size + 1 + 1, 0, none⟩ v')))) := by
        refine ⟨((spares_othersT hs' hs1).trans (KeepsOthers.setCell _ _ _)).from _, ⟨(hb'.mono (by omega)).setCell (p := ⟨w.heap.size + 1 + 1, 0, none⟩) (by show w.heap.size ≤ w.heap.size + 1 + 1; omega) _, fun b c d m hb => set_other (hk' b c d m hb) (hne b c d m hb) _⟩,
          ⟨⟨⟨v', bO2.set _, ?_, ?_⟩, set_other (spares_boxT hs' (by decide) bR11) (by omega) _, set_other (spares_boxT hs' (by decide) bR21) (by omega) _⟩, ?_, (hB1.trans (hb'.mono (by omega))).setCell (p := ⟨w.heap.size + 1 + 1, 0, none⟩) (by show w.heap.size ≤ w.heap.size + 1 + 1; omega) _⟩⟩
        · refine hown'.kept (grownBy_setCell' W1 _ v') ?_
          rcases hown'.2 with ⟨h, _⟩ | ⟨g, cp, _, h, hg, _⟩
          · left; rw [h]; rfl
          · right; rw [h]; intro e; simp [Value.ownBlock] at e; omega
        · rw [hv']
          constructor
          · intro h; cases h
          · intro h; rw [h] at hpos; exact absurd rfl hpos
        · intro y hy
          rcases List.mem_append.1 hy with h | h
          · exact hz y h
          · simp at h; subst h; exact HE.out
      subst hv'
      clear hown' hrow hs' hb' hk' ht hl1 hpos
      gi_wp2_with (first
        | (gi_at_builtin; refine wpListIn_append_run (by rfl) (.tmp 14) (.tmp 16) 22 22 (by rfl) _ _ _ _ (by rfl) (by rfl) HRUN.out ?_)
        | fail)
      exact FIN.out
    · have HE : Hid (x.e ≠ 0) := he
      have he' : ((x.e : Int) != 0) = true := by simpa using he
      clear he
      have FIN : Hid (KeepsFrom W0.heap.size W ((W.setCell ⟨w.heap.size, 0, none⟩ (.slice none 0 0)).setCell ⟨w.heap.size + 1, 0, none⟩ (.int .i64 x.e)) ∧
          ((∃ pre' x', pre ++ [x] = pre' ++ [x'] ∧ (∀ y ∈ pre', y.e = 0) ∧ x'.e ≠ 0 ∧ Boxed ((W.setCell ⟨w.heap.size, 0, none⟩ (.slice none 0 0)).setCell ⟨w.heap.size + 1, 0, none⟩ (.int .i64 x.e)) w.heap.size 22 (.slice none 0 0) ∧
            Boxed ((W.setCell ⟨w.heap.size, 0, none⟩ (.slice none 0 0)).setCell ⟨w.heap.size + 1, 0, none⟩ (.int .i64 x.e)) (w.heap.size + 1) 25 (.int .i64 x'.e)) ∧ Below w.heap.size w ((W.setCell ⟨w.heap.size, 0, none⟩ (.slice none 0 0)).setCell ⟨w.heap.size + 1, 0, none⟩ (.int .i64 x.e)))) :=
        ⟨((KeepsOthers.setCell _ _ _).trans (KeepsOthers.setCell _ _ _)).from _, ⟨pre, x, rfl, hz, HE.out, set_other (bR11.set _) (by omega) _, Boxed.set _ (show Boxed _ _ _ _ from set_other bR21 (by omega) _)⟩,
          (hB1.setCell (p := ⟨w.heap.size, 0, none⟩) (Nat.le_refl _) _).setCell (p := ⟨w.heap.size + 1, 0, none⟩) (by show w.heap.size ≤ w.heap.size + 1; omega) _⟩
      gi_wp2
      exact ⟨FIN.out.1, ⟨rfl, FIN.out.2.1⟩, FIN.out.2.2⟩
  case done =>
    rintro D ys W hD rfl ⟨⟨⟨v, bO1, hrow, ht⟩, bR11, bR21⟩, hz, hB1⟩ hK
    obtain ⟨a', n', c', hv'⟩ : ∃ a' n' c', v = .slice a' n' c' := by
      rcases hrow.2 with ⟨h, _⟩ | ⟨g, cp, _, h, _⟩
      · exact ⟨_, _, _, h⟩
      · exact ⟨_, _, _, h⟩
    subst hv'
    have cO := bO1.cell
    have c1 := bR11.cell
    have f1 := bR11.frozen
    have c2 := bR21.cell
    have f2 := bR21.frozen
    have HRW : Hid (W.ownsRow W0.heap.size 37 2 (.slice a' n' c') (toF (parse (len + 1) 0 bs)).length (fcells (toF (parse (len + 1) 0 bs)))) := hrow
    clear hrow
    gi_wp2
    have hK' := ((KeepsOthers.setCell W ⟨w.heap.size, 0, none⟩ (.slice a' n' c')).trans (KeepsOthers.setCell _ ⟨w.heap.size + 1, 0, none⟩ (.int .i64 0))).same D _ hK rfl
    refine ⟨by simp, .inl ⟨_, _, rfl, run_takeDeferred hK', ?_⟩⟩
    have b1 : Boxed ((W.setCell ⟨w.heap.size, 0, none⟩ (.slice a' n' c')).setCell ⟨w.heap.size + 1, 0, none⟩ (.int .i64 0)) w.heap.size 22 (.slice a' n' c') := set_other (bR11.set _) (by omega) _
    have b2 : Boxed ((W.setCell ⟨w.heap.size, 0, none⟩ (.slice a' n' c')).setCell ⟨w.heap.size + 1, 0, none⟩ (.int .i64 0)) (w.heap.size + 1) 25 (.int .i64 0) := Boxed.set _ (show Boxed _ _ _ _ from set_other bR21 (by omega) _)
    have q1 := cell_kept b1.cell (grownBy_putObj' _ D (.deferred none)) (fun r e => by cases e; exact ⟨_, hK', rfl⟩)
    have q2 := cell_kept b2.cell (grownBy_putObj' _ D (.deferred none)) (fun r e => by cases e; exact ⟨_, hK', rfl⟩)
    have hoff : ∀ B', B' < W0.heap.size → Value.ownBlock (.slice a' n' c') ≠ some B' := by
      intro B' hlt e
      have := (HRW.out.lt B' e).1
      omega
    have hrow2 := (HRW.out.kept (grownBy_setCell' W w.heap.size (.slice a' n' c')) (.inr (hoff _ (by omega)))).kept (grownBy_setCell' _ (w.heap.size + 1) (.int .i64 0)) (.inr (hoff _ (by omega)))
    refine ⟨.tuple #[.slice a' n' c', .int .i64 0], ?_, .inl ⟨hz, _, rfl, own_lower (ownsRow_putObj hrow2 _ hK' rfl) (by omega), ((hB1.setCell (p := ⟨w.heap.size, 0, none⟩) (Nat.le_refl _) _).setCell (p := ⟨w.heap.size + 1, 0, none⟩) (by show w.heap.size ≤ w.heap.size + 1; omega) _).trans (belowK_b (w := w) (Nat.le_refl _) _ D _ _ (by omega) hK' rfl rfl)⟩⟩
    simp [results, Try.f11, go_sem, q1, q2]
  case stop =>
    rintro D c pre W hD hpre ⟨⟨rfl, pre', x, rfl, hz, hx, bR11, bR21⟩, hB1⟩ hK
    gi_wp2
    refine ⟨by simp, .inl ⟨_, _, rfl, run_takeDeferred hK, ?_⟩⟩
    have q1 := cell_kept bR11.cell (grownBy_putObj' _ D (.deferred none)) (fun r e => by cases e; exact ⟨_, hK, rfl⟩)
    have q2 := cell_kept bR21.cell (grownBy_putObj' _ D (.deferred none)) (fun r e => by cases e; exact ⟨_, hK, rfl⟩)
    refine ⟨.tuple #[.slice none 0 0, .int .i64 x.e], ?_, .inr ⟨pre', x, hpre, hz, hx, rfl, hB1.trans (belowK_b (w := w) (Nat.le_refl _) W D _ _ (by omega) hK rfl rfl)⟩⟩
    simp [results, Try.f11, go_sem, q1, q2]
end Go.Proofs.Ytmfopddmkaecaab
