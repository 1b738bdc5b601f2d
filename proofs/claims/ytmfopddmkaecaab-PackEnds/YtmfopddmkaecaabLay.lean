/- What pack.Lay answers: the bytes of a row's fields, or the first field's fault. -/
import Derived.Test.YtmfopddmkaecaabJudged
namespace Go.Proofs.Ytmfopddmkaecaab
open Go.RowKit Go.Shelf Nums

attribute [local go_sem] Oper.semAt_some

def outB (pre : List Jd) : List UInt8 := (pre.map fun x => fieldBytesI x.tag x.d.data.toList).flatten
theorem outB_snoc (pre : List Jd) (x : Jd) : outB (pre ++ [x]) = outB pre ++ fieldBytesI x.tag x.d.data.toList := by simp [outB]
theorem outB_length : ∀ (pre : List Jd), (∀ x ∈ pre, x.e = 0) → (outB pre).length ≤ pre.length * 65540
  | [], _ => by simp [outB]
  | x :: r, h => by
    have h1 := outB_length r (fun y hy => h y (List.mem_cons_of_mem _ hy))
    have h2 := x.ok (h x List.mem_cons_self)
    have e : outB (x :: r) = fieldBytesI x.tag x.d.data.toList ++ outB r := by simp [outB]
    rw [e, List.length_append, fieldBytesI_length]
    simp only [Array.length_toList, List.length_cons]
    have : x.d.data.size ≤ 65536 := h2
    omega

/-- A block of cells stays under the turn of a block that is none. -/
theorem cells_stay {W W' : World} {row : Option Nat} {b : Nat} {c : Array Value} {t : TypeId} {m : Nat × Nat} (h : W.heap[b]? = some (.cells c t m)) (hg : W.grownBy W' row) (hr : ∀ r, row = some r → ∃ o : Obj, W.heap[r]? = some o ∧ o.isCells = false) :
    W'.heap[b]? = some (.cells c t m) := by
  refine (hg.block b (Array.getElem?_eq_some_iff.1 h).1 ?_).trans h
  intro e
  obtain ⟨o, ho, hc⟩ := hr b e.symm
  rw [h] at ho; cases ho; cases hc

theorem spares_box {w w' : World} (h : Spares 5 w w') {b : Nat} {c : Array Value} {t : TypeId} {m : Nat × Nat} (ht : t ≠ 5) (hb : w.heap[b]? = some (.cells c t m)) : w'.heap[b]? = some (.cells c t m) :=
  h b _ hb (fun c' m' e => by cases e; exact ht rfl)

theorem spares_others {w w' : World} (h : Spares 5 w w') (hs : w.heap.size ≤ w'.heap.size) : KeepsOthers w w' := ⟨hs, fun k o hk ho => h k o hk (fun c m e => by subst e; cases ho)⟩

theorem set_other {W : World} {B B' : Nat} {c : Array Value} {t : TypeId} {m : Nat × Nat} (h : W.heap[B]? = some (.cells c t m)) (hne : B ≠ B') (v : Value) : (W.setCell ⟨B', 0, none⟩ v).heap[B]? = some (.cells c t m) :=
  (Below.heap_setCell W ⟨B', 0, none⟩ v B hne).trans h

set_option maxRecDepth 100000 in
set_option maxHeartbeats 4000000 in
theorem lay_in (n : Nat) (hn : 3 ≤ n) (a : Option Addr) (len cap : Nat) (fs : List (Int × ByteArray)) (w : World) (hR : FReads w.heap.size w a len cap fs) (hl : len ≤ 400) :
    CallsIn Fence.wide n Try.prog 8 #[.slice a len cap] w fun e W' =>
      ((∀ x ∈ judge 0 fs, x.e = 0) ∧ ∃ v, e = .returned (.tuple #[v, .int .i64 0]) ∧ W'.ownsRow w.heap.size 5 1 v (outB (judge 0 fs)).length (cellsOf (outB (judge 0 fs))) ∧ Below w.heap.size w W') ∨
      (∃ pre x, (pre ++ [x]) <+: judge 0 fs ∧ (∀ y ∈ pre, y.e = 0) ∧ x.e ≠ 0 ∧ e = .returned (.tuple #[.slice none 0 0, .int .i64 x.e]) ∧ Below w.heap.size w W') := by
  have h1 : 1 ≤ n := by omega
  refine callsIn_of_wp_marks Try.func8 rfl trivial ?_ rfl
  simp only [Try.ntmps8, List.size_toArray, List.length_cons, List.length_nil, Nat.reduceAdd, Nat.reduceSub, Array.replicate_succ, Array.replicate_zero, List.push_toArray, List.append_toArray, List.nil_append, List.cons_append]
  gi_wp2_with (refine ⟨trivial, ?_⟩; gi_at_call 16; refine (judged_in (n - 1) _ _ _ _).mono ?_; rintro e w' ⟨rfl, rfl⟩)
  have bR1 := (((Boxed.new w 24 (.slice none 0 0)).alloc (.cells #[.int .i64 0] 25)).alloc (.cells #[.slice none 0 0] 24)).alloc (.cells #[.slice a len cap] 22)
  have bR2 := ((Boxed.new (w.alloc (.cells #[.slice none 0 0] 24)) 25 (.int .i64 0)).alloc (.cells #[.slice none 0 0] 24)).alloc (.cells #[.slice a len cap] 22)
  have bO := (Boxed.new ((w.alloc (.cells #[.slice none 0 0] 24)).alloc (.cells #[.int .i64 0] 25)) 24 (.slice none 0 0)).alloc (.cells #[.slice a len cap] 22)
  have bA := Boxed.new (((w.alloc (.cells #[.slice none 0 0] 24)).alloc (.cells #[.int .i64 0] 25)).alloc (.cells #[.slice none 0 0] 24)) 22 (.slice a len cap)
  simp only [World.size_alloc] at bR2 bO bA
  have hB0 : Below w.heap.size w ((((w.alloc (.cells #[.slice none 0 0] 24)).alloc (.cells #[.int .i64 0] 25)).alloc (.cells #[.slice none 0 0] 24)).alloc (.cells #[.slice a len cap] 22)) :=
    ((((Below.refl _ w).alloc (Nat.le_refl _) _).alloc (by simp) _).alloc (by simp; omega) _).alloc (by simp; omega) _
  have hsz : ((((w.alloc (.cells #[.slice none 0 0] 24)).alloc (.cells #[.int .i64 0] 25)).alloc (.cells #[.slice none 0 0] 24)).alloc (.cells #[.slice a len cap] 22)).heap.size = w.heap.size + 4 := by simp
  obtain ⟨W0, hW0⟩ : ∃ W0, (((w.alloc (.cells #[.slice none 0 0] 24)).alloc (.cells #[.int .i64 0] 25)).alloc (.cells #[.slice none 0 0] 24)).alloc (.cells #[.slice a len cap] 22) = W0 := ⟨_, rfl⟩
  rw [hW0] at bR1 bR2 bO bA hB0 hsz ⊢
  clear hW0
  have hge : w.heap.size + 4 ≤ W0.heap.size := Nat.le_of_eq hsz.symm
  clear hsz
  refine wpIn_rangeFunc_ownH rfl h1 (gf := 22) (lb := #[.pointer (some ⟨w.heap.size + 1 + 1 + 1, 0, none⟩)]) rfl trivial (enters_of Try.func22 (by kernel_rfl) rfl)
    (judged_stops (n - 1) (by omega) (w.heap.size + 1 + 1 + 1) w.heap.size a len cap fs W0 (by omega) (by omega) bA.cell (hR.below hB0)) kpJ_t (kpJ_b (by omega)) (Below.refl _ _) (fun _ => rfl)
    (fun pre W => ((∃ v, Boxed W (w.heap.size + 1 + 1) 24 v ∧ W.ownsRow W0.heap.size 5 1 v (outB pre).length (cellsOf (outB pre)) ∧ True) ∧ (Boxed W w.heap.size 24 (.slice none 0 0) ∧ Boxed W (w.heap.size + 1) 25 (.int .i64 0))) ∧ ((∀ x ∈ pre, x.e = 0) ∧ Below w.heap.size w W))
    (fun c pre W => (c = .ret ∧ ∃ pre' x, pre = pre' ++ [x] ∧ (∀ y ∈ pre', y.e = 0) ∧ x.e ≠ 0 ∧ Boxed W w.heap.size 24 (.slice none 0 0) ∧ Boxed W (w.heap.size + 1) 25 (.int .i64 x.e)) ∧ Below w.heap.size w W)
    (OwnFrom.and (OwnFrom.and (Own.from (holdsRow_own W0.heap.size (w.heap.size + 1 + 1) 24 5 1 (fun pre => (outB pre).length) (fun pre => cellsOf (outB pre)) (fun _ _ => True)) _) (OwnFrom.and (Own.from (boxed_own _ _ _) _) (Own.from (boxed_own _ _ _) _))) (OwnFrom.and (ownFrom_pure _ _) (ownFrom_below (Nat.le_refl _) (by omega))))
    (fun c => OwnFrom.and (fun s X Y row hs hg hr => by
      obtain ⟨hc, pre', x, e1, e2, e3, b1, b2⟩ := hs
      exact ⟨hc, pre', x, e1, e2, e3, cells_stay b1 hg (fun r e => (hr r e).2), cells_stay b2 hg (fun r e => (hr r e).2)⟩) (ownFrom_below (Nat.le_refl _) (by omega)))
    ⟨⟨⟨_, bO, World.ownsRow_nil _ _ _ _, trivial⟩, bR1, bR2⟩, by simp, hB0⟩
    (fun x a' W => ∃ Bx, w.heap.size + 1 + 1 < Bx ∧ W.heap[Bx]? = some (.cells #[.int .i64 x.tag, .string x.d] 37 (0, 0)) ∧ a' = { tmps := #[.slice a len cap, undef, .pointer (some ⟨w.heap.size, 0, none⟩), .pointer (some ⟨w.heap.size + 1, 0, none⟩), .pointer (some ⟨w.heap.size + 1 + 1, 0, none⟩), .pointer (some ⟨Bx, 0, none⟩), .int .i64 x.e, .slice a len cap, .func (.func 22) #[] #[.pointer (some ⟨w.heap.size + 1 + 1 + 1, 0, none⟩)], .agg #[.int .i64 x.tag, .string x.d], .int .i64 x.e, undef, undef, undef, undef, undef, undef, undef], defers := [] })
    (fun x a' _ X Y row hs hg hr => by obtain ⟨Bx, h1, h2, h3⟩ := hs; exact ⟨Bx, h1, cells_stay h2 hg (fun r e => (hr r e).2), h3⟩)
    ?assign ?body ?done ?stop
  case assign =>
    rintro l pre x W K ⟨⟨⟨v, bO1, hrow, ht⟩, bR11, bR21⟩, hz, hB1⟩ hK
    dsimp only [encJ]
    gi_wp2
    refine hK _ _ ((KeepsOthers.alloc _ _).from _) ⟨(Below.refl _ W).alloc hB1.size _, fun b c m hb => (Below.heap_alloc W _ b (Array.getElem?_eq_some_iff.1 hb).1).trans hb⟩ ⟨⟨⟨v, bO1.alloc _, hrow.alloc _, ht⟩, bR11.alloc _, bR21.alloc _⟩, hz, hB1.alloc hB1.size _⟩ ⟨W.heap.size, bO1.lt, World.alloc_heap_new W _, rfl⟩
  case body =>
    rintro l pre x a' W hl0 ⟨r, hr⟩ ⟨⟨⟨v, bO1, hrow, ht⟩, bR11, bR21⟩, hz, hB1⟩ ⟨Bx, hBx, bX, rfl⟩ hlt
    have hsW := hB1.size
    have hlW : W0.heap.size ≤ W.heap.size := Nat.le_trans hl0 (Nat.le_of_lt (Array.getElem?_eq_some_iff.1 hr).1)
    clear hr
    have cO := bO1.cell
    have fO := bO1.frozen
    have cX0 : W.cell? ⟨Bx, 0, none⟩ = some (.int .i64 x.tag) := by simp [World.cell?, bX]
    have cX1 : W.cell? ⟨Bx, 1, none⟩ = some (.string x.d) := by simp [World.cell?, bX]
    have c1 := bR11.cell
    have f1 := bR11.frozen
    have c2 := bR21.cell
    have f2 := bR21.frozen
    by_cases he : x.e = 0
    · have HE : Hid (x.e = 0) := he
      have he' : (x.e != 0) = false := by rw [he]; rfl
      clear he
      have hd := x.ok HE.out
      have hol := outB_length pre hz
      gi_wp2
      refine ⟨trivial, fun h => (by cases h), ?_⟩
      refine (CallsIn.inRound l (callsIn_wide.2 (appendField_int v (outB pre) W0.heap.size x.tag x.d W hd (by omega) (by omega) hrow))).mono ?_
      rintro e W1 ⟨v', rfl, hown', hb', hs'⟩
      rw [← outB_snoc] at hown'
      have hs1 : W.heap.size ≤ W1.heap.size := hb'.size
      have bO2 : Boxed W1 (w.heap.size + 1 + 1) 24 v := spares_box hs' (by decide) bO1
      have cO2 := bO2.cell
      have fO2 := bO2.frozen
      obtain ⟨a', n', c', hv'⟩ : ∃ a' n' c', v' = .slice a' n' c' := by
        rcases hown'.2 with ⟨h, _⟩ | ⟨g, cp, _, h, _⟩
        · exact ⟨_, _, _, h⟩
        · exact ⟨_, _, _, h⟩
      have hne : ∀ (b : Nat) (c : Array Value) (m : Nat × Nat), W.heap[b]? = some (Obj.cells c 37 m) → b ≠ w.heap.size + 1 + 1 := by
        intro b c m hb e
        subst e
        rw [show W.heap[w.heap.size + 1 + 1]? = _ from bO1] at hb
        cases hb
      have FIN : Hid (KeepsFrom W0.heap.size W (W1.setCell ⟨w.heap.size + 1 + 1, 0, none⟩ v') ∧ KpJ w.heap.size W (W1.setCell ⟨w.heap.size + 1 + 1, 0, none⟩ v') ∧
          (((∃ v, Boxed (W1.setCell ⟨w.heap.size + 1 + 1, 0, none⟩ v') (w.heap.size + 1 + 1) 24 v ∧ (W1.setCell ⟨w.heap.size + 1 + 1, 0, none⟩ v').ownsRow W0.heap.size 5 1 v (outB (pre ++ [x])).length (cellsOf (outB (pre ++ [x]))) ∧ True) ∧
            (Boxed (W1.setCell ⟨w.heap.size + 1 + 1, 0, none⟩ v') w.heap.size 24 (.slice none 0 0) ∧ Boxed (W1.setCell ⟨w.heap.size + 1 + 1, 0, none⟩ v') (w.heap.size + 1) 25 (.int .i64 0))) ∧
          ((∀ y ∈ pre ++ [x], y.e = 0) ∧ Below w.heap.size w (W1.setCell ⟨w.heap.size + 1 + 1, 0, none⟩ v')))) := by
        refine ⟨((spares_others hs' hs1).trans (KeepsOthers.setCell _ _ _)).from _, ⟨(hb'.mono (by omega)).setCell (p := ⟨w.heap.size + 1 + 1, 0, none⟩) (by show w.heap.size ≤ w.heap.size + 1 + 1; omega) _, fun b c m hb => set_other (spares_box hs' (by decide) hb) (hne b c m hb) _⟩,
          ⟨⟨⟨v', bO2.set _, ?_, trivial⟩, set_other (spares_box hs' (by decide) bR11) (by omega) _, set_other (spares_box hs' (by decide) bR21) (by omega) _⟩, ?_, (hB1.trans (hb'.mono (by omega))).setCell (p := ⟨w.heap.size + 1 + 1, 0, none⟩) (by show w.heap.size ≤ w.heap.size + 1 + 1; omega) _⟩⟩
        · refine hown'.kept (grownBy_setCell' W1 _ v') ?_
          rcases hown'.2 with ⟨h, _⟩ | ⟨g, cp, _, h, hg, _⟩
          · left; rw [h]; rfl
          · right; rw [h]; intro e; simp [Value.ownBlock] at e; omega
        · intro y hy
          rcases List.mem_append.1 hy with h | h
          · exact hz y h
          · simp at h; subst h; exact HE.out
      subst hv'
      clear hown' hrow hs' hb'
      gi_wp2
      exact FIN.out
    · have HE : Hid (x.e ≠ 0) := he
      have he' : (x.e != 0) = true := by simpa using he
      clear he
      have FIN : Hid (KeepsFrom W0.heap.size W ((W.setCell ⟨w.heap.size, 0, none⟩ (.slice none 0 0)).setCell ⟨w.heap.size + 1, 0, none⟩ (.int .i64 x.e)) ∧
          ((∃ pre' x', pre ++ [x] = pre' ++ [x'] ∧ (∀ y ∈ pre', y.e = 0) ∧ x'.e ≠ 0 ∧ Boxed ((W.setCell ⟨w.heap.size, 0, none⟩ (.slice none 0 0)).setCell ⟨w.heap.size + 1, 0, none⟩ (.int .i64 x.e)) w.heap.size 24 (.slice none 0 0) ∧
            Boxed ((W.setCell ⟨w.heap.size, 0, none⟩ (.slice none 0 0)).setCell ⟨w.heap.size + 1, 0, none⟩ (.int .i64 x.e)) (w.heap.size + 1) 25 (.int .i64 x'.e)) ∧ Below w.heap.size w ((W.setCell ⟨w.heap.size, 0, none⟩ (.slice none 0 0)).setCell ⟨w.heap.size + 1, 0, none⟩ (.int .i64 x.e)))) :=
        ⟨((KeepsOthers.setCell _ _ _).trans (KeepsOthers.setCell _ _ _)).from _, ⟨pre, x, rfl, hz, HE.out, set_other (bR11.set _) (by omega) _, Boxed.set _ (show Boxed _ _ _ _ from set_other bR21 (by omega) _)⟩,
          (hB1.setCell (p := ⟨w.heap.size, 0, none⟩) (Nat.le_refl _) _).setCell (p := ⟨w.heap.size + 1, 0, none⟩) (by show w.heap.size ≤ w.heap.size + 1; omega) _⟩
      gi_wp2
      exact ⟨FIN.out.1, ⟨rfl, FIN.out.2.1⟩, FIN.out.2.2⟩
  case done =>
    rintro D ys W hD rfl ⟨⟨⟨v, bO1, hrow, ht⟩, bR11, bR21⟩, hz, hB1⟩ hK
    obtain ⟨a', n', c', hv'⟩ : ∃ a' n' c', v = .slice a' n' c' := by
      rcases hrow.2 with ⟨h, _⟩ | ⟨g, cp, _, h, _⟩
      · exact ⟨_, _, _, h⟩
      · exact ⟨_, _, _, h⟩
    subst hv'
    have cO := bO1.cell
    have c1 := bR11.cell
    have f1 := bR11.frozen
    have c2 := bR21.cell
    have f2 := bR21.frozen
    have HRW : Hid (W.ownsRow W0.heap.size 5 1 (.slice a' n' c') (outB (judge 0 fs)).length (cellsOf (outB (judge 0 fs)))) := hrow
    clear hrow
    gi_wp2
    have hK' := ((KeepsOthers.setCell W ⟨w.heap.size, 0, none⟩ (.slice a' n' c')).trans (KeepsOthers.setCell _ ⟨w.heap.size + 1, 0, none⟩ (.int .i64 0))).same D _ hK rfl
    refine ⟨by simp, .inl ⟨_, _, rfl, run_takeDeferred hK', ?_⟩⟩
    have b1 : Boxed ((W.setCell ⟨w.heap.size, 0, none⟩ (.slice a' n' c')).setCell ⟨w.heap.size + 1, 0, none⟩ (.int .i64 0)) w.heap.size 24 (.slice a' n' c') := set_other (bR11.set _) (by omega) _
    have b2 : Boxed ((W.setCell ⟨w.heap.size, 0, none⟩ (.slice a' n' c')).setCell ⟨w.heap.size + 1, 0, none⟩ (.int .i64 0)) (w.heap.size + 1) 25 (.int .i64 0) := Boxed.set _ (show Boxed _ _ _ _ from set_other bR21 (by omega) _)
    have q1 := cell_kept b1.cell (grownBy_putObj' _ D (.deferred none)) (fun r e => by cases e; exact ⟨_, hK', rfl⟩)
    have q2 := cell_kept b2.cell (grownBy_putObj' _ D (.deferred none)) (fun r e => by cases e; exact ⟨_, hK', rfl⟩)
    have hoff : ∀ B', B' < W0.heap.size → Value.ownBlock (.slice a' n' c') ≠ some B' := by
      intro B' hlt e
      have := (HRW.out.lt B' e).1
      omega
    have hrow2 := (HRW.out.kept (grownBy_setCell' W w.heap.size (.slice a' n' c')) (.inr (hoff _ (by omega)))).kept (grownBy_setCell' _ (w.heap.size + 1) (.int .i64 0)) (.inr (hoff _ (by omega)))
    refine ⟨.tuple #[.slice a' n' c', .int .i64 0], ?_, .inl ⟨hz, _, rfl, own_lower (ownsRow_putObj hrow2 _ hK' rfl) (by omega), ((hB1.setCell (p := ⟨w.heap.size, 0, none⟩) (Nat.le_refl _) _).setCell (p := ⟨w.heap.size + 1, 0, none⟩) (by show w.heap.size ≤ w.heap.size + 1; omega) _).trans (belowK_b (w := w) (Nat.le_refl _) _ D _ _ (by omega) hK' rfl rfl)⟩⟩
    simp [results, Try.f8, go_sem, q1, q2]
  case stop =>
    rintro D c pre W hD hpre ⟨⟨rfl, pre', x, rfl, hz, hx, bR11, bR21⟩, hB1⟩ hK
    gi_wp2
    refine ⟨by simp, .inl ⟨_, _, rfl, run_takeDeferred hK, ?_⟩⟩
    have q1 := cell_kept bR11.cell (grownBy_putObj' _ D (.deferred none)) (fun r e => by cases e; exact ⟨_, hK, rfl⟩)
    have q2 := cell_kept bR21.cell (grownBy_putObj' _ D (.deferred none)) (fun r e => by cases e; exact ⟨_, hK, rfl⟩)
    refine ⟨.tuple #[.slice none 0 0, .int .i64 x.e], ?_, .inr ⟨pre', x, hpre, hz, hx, rfl, hB1.trans (belowK_b (w := w) (Nat.le_refl _) W D _ _ (by omega) hK rfl rfl)⟩⟩
    simp [results, Try.f8, go_sem, q1, q2]
end Go.Proofs.Ytmfopddmkaecaab
