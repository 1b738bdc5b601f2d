/- Texts of our own that the row of AnchorsLast leans on, part 31. -/
import Derived.Test.YtjalebncfnekiaaDoorAnchorsLastJ25
import Derived.Test.YtjalebncfnekiaaDoorAnchorsLastJ27
import Derived.Test.YtjalebncfnekiaaDoorAnchorsLastJ30

/- HistoryHeads. -/
namespace Go.Proofs.YtjalebncfnekiaaDoor
open Go.RowKit Nums Sums
set_option linter.unusedVariables false
set_option linter.unusedSimpArgs false
set_option maxRecDepth 100000
/-- A log that came in and is not too big. -/
theorem inL_of {w : World} {a : Option Addr} {len cap : Nat} {l : List ItT} (h : IReads w a len cap l) (hc0 : a = none → cap = 0) (hm : ∀ x ∈ l, CmI x) (hb : bigL l = false) : InL w a len cap l := by
  obtain ⟨h1, h2⟩ := bigL_false hb
  exact ⟨h, hc0, fun x hx => (hm x hx).in (by have := h2 x hx; omega), by have := h.ln; omega⟩
end Go.Proofs.YtjalebncfnekiaaDoor

/- AnchorsLast. -/
namespace Go.Proofs.YtjalebncfnekiaaDoor
open Go.RowKit Nums Sums
set_option linter.unusedVariables false
set_option linter.unusedSimpArgs false
set_option maxRecDepth 100000
/-- Where the last one lies, as far as one has looked. -/
def AtL (l : List ItT) (r : Int) (k : Nat) (A : Int) : Prop := (A = -1 ∧ latA (l.take k) r = none) ∨ ∃ j, ∃ hj : j < l.length, A = (j : Int) ∧ j < k ∧ latA (l.take k) r = some l[j].e.h
theorem AtL.no {l : List ItT} {r : Int} {k : Nat} {A : Int} (h : AtL l r k A) (hk : k < l.length) (hn : isAn l[k] r = false) : AtL l r (k + 1) A := by
  have e := latA_take l r k hk
  rw [if_neg (by rw [hn]; decide)] at e
  rcases h with ⟨h1, h2⟩ | ⟨j, hj, h1, h2, h3⟩
  · exact .inl ⟨h1, e.trans h2⟩
  · exact .inr ⟨j, hj, h1, by omega, e.trans h3⟩
theorem atL_yes {l : List ItT} {r : Int} {k : Nat} (hk : k < l.length) (hn : isAn l[k] r = true) : AtL l r (k + 1) (k : Int) :=
  .inr ⟨k, hk, rfl, by omega, by rw [latA_take l r k hk, if_pos hn]⟩
/-- Where the first one above a size lies. -/
def FsL (l : List ItT) (r s : Int) (k : Nat) (F : Int) : Prop := (F = -1 ∧ ∀ y ∈ l.take k, abA r s y = false) ∨ ∃ j : Nat, F = (j : Int) ∧ j < k ∧ plcA l r s = some j
theorem FsL.no {l : List ItT} {r s : Int} {k : Nat} {F : Int} (h : FsL l r s k F) (hk : k < l.length) (hn : abA r s l[k] = false) : FsL l r s (k + 1) F := by
  rcases h with ⟨h1, h2⟩ | ⟨j, h1, h2, h3⟩
  · exact .inl ⟨h1, abA_take hk h2 hn⟩
  · exact .inr ⟨j, h1, by omega, h3⟩
theorem FsL.stay {l : List ItT} {r s : Int} {k : Nat} {F : Int} (h : FsL l r s k F) (h0 : 0 ≤ F) : FsL l r s (k + 1) F := by
  rcases h with ⟨h1, h2⟩ | ⟨j, h1, h2, h3⟩
  · omega
  · exact .inr ⟨j, h1, by omega, h3⟩
theorem FsL.yes {l : List ItT} {r s : Int} {k : Nat} {F : Int} (h : FsL l r s k F) (h0 : F < 0) (hk : k < l.length) (hn : abA r s l[k] = true) : FsL l r s (k + 1) (k : Int) := by
  rcases h with ⟨h1, h2⟩ | ⟨j, h1, h2, h3⟩
  · exact .inr ⟨k, rfl, by omega, plcA_yes k hk h2 hn⟩
  · omega
/-- The first cells of an entry's row, of an anchor. -/
theorem entry_an {w : World} {E : Array Value} {x : EnT} (HE : Hid (E = (ecells x).toArray)) (g : Nat) (t : TypeId) (f : Nat × Nat) (h : w.heap[g]? = some (.cells E t f)) : w.cell? ⟨g, 0, none⟩ = some (.int .i64 x.k) ∧ w.cell? ⟨g, 4, none⟩ = some (.int .i64 x.h.h.r) ∧ w.cell? ⟨g, 6, none⟩ = some (.int .i64 x.h.h.s) := by
  have hE := HE.out
  subst hE
  refine ⟨?_, ?_, ?_⟩ <;> (rw [cell_of_row _ _ _ _ _ f h]; rfl)
/-- What is held: the log, and the head. -/
structure HeldQ (w : World) (a : Option Addr) (len cap : Nat) (l : List ItT) (g7 : Nat) (R : Array Value) (V : World) : Prop where
  b : Below w.heap.size w V
  i : IReads V a len cap l
  g : V.heap[g7]? = some (.cells R 30 (0, 0))
theorem HeldQ.keep {w : World} {a : Option Addr} {len cap : Nat} {l : List ItT} {g7 : Nat} {R : Array Value} {V V' : World} (h : HeldQ w a len cap l g7 R V) (hb : Below V.heap.size V V') : HeldQ w a len cap l g7 R V' :=
  ⟨h.b.trans (hb.mono h.b.size), h.i.keep hb, (hb.block _ (heap_lt h.g)).trans h.g⟩
theorem HeldQ.drew {w : World} {a : Option Addr} {len cap : Nat} {l : List ItT} {g7 : Nat} {R : Array Value} {V : World} (h : HeldQ w a len cap l g7 R V) : HeldQ w a len cap l g7 R V.drew := h.keep (Below.refl _ _).drew
theorem yieldsIf_q {ops : Array Oper} {w : World} {a : Option Addr} {len cap : Nat} {l : List ItT} {g7 : Nat} {R : Array Value} {op : Oper} {c : Act} (hw : Region.wanted op (yielded ops c.tmps) = true) (hi : (Tryd.prog.info? 30).map (·.size) = some R.size) (ho : op.op = .load 30 (.tmp 7) := by rfl) (hx : c.eval (.tmp 7) = .pointer (some ⟨g7, 0, none⟩) := by rfl) : YieldsIf Tryd.prog ops (HeldQ w a len cap l g7 R) op (.agg R) c :=
  yieldsIf_mid hw 30 (.tmp 7) ho g7 0 hx R _ (fun V h => by have := range_row (l := R.toList) (W := V) (g := g7) (by simpa using h.g); exact this) Tryd.underlying30 rfl hi
set_option maxHeartbeats 16000000 in
theorem anchorsLast_of (hd : HeadC) (an : AnchorsC) (a : Option Addr) (len cap : Nat) (l : List ItT) (r s : Int) (w : World) (h : IReads w a len cap l) (hc0 : a = none → cap = 0) (hm : ∀ x ∈ l, CmI x) (ir : In64 r) (is : In64 s) (hT : TabH w) :
    Calls Tryd.prog 6 #[.slice a len cap, .int .i64 r, .int .i64 s] w fun x w' => x = .returned (.bool true) ∧ Below w.heap.size w w' := by
  have BG := hidk (refBig_any a len cap l w h (fun x hx => (hm x hx).e.t))
  obtain ⟨b, Hb⟩ : ∃ b, Hid (bigL l = b) := ⟨_, hidk rfl⟩
  rw [Hb.out] at BG
  cases b
  · have hin := inL_of h hc0 hm Hb.out
    have hle := hin.le
    have hmx : len ≤ 9223372036854775807 := by omega
    have hok := latS_ok (l := l) (r := r) h.ok
    obtain ⟨R, HR, HSR, H1R, N69⟩ := sign_row (latS l r) hok.1 hok.2
    obtain ⟨Z, HZ, HA, HBZ, H69⟩ := noughtsS
    obtain ⟨ZE, HZE, HAE, HBZE, H109⟩ := noughtsE
    have HZR : Hid (Z.size = R.size) := by show _ = _; rw [H69.out, N69.out]
    obtain ⟨y, Hy⟩ : ∃ y, Hid ((latA l r).isSome = y) := ⟨_, hidk rfl⟩
    obtain ⟨q, Hq⟩ : ∃ q : Int, Hid ((((plcA l r s).getD 0 : Nat) : Int) = q) := ⟨_, hidk rfl⟩
    obtain ⟨z, Hz⟩ : ∃ y, Hid ((plcA l r s).isSome = y) := ⟨_, hidk rfl⟩
    have L1 : Hid (∀ W, Below w.heap.size w W → Calls Tryd.prog 10 #[.slice a len cap, .int .i64 r] W fun e w' => e = .returned (.tuple #[.agg R, .bool y]) ∧ Below W.heap.size W w') := fun W hb => by rw [← Hy.out]; exact an.latest a len cap l r W (hin.keep hb) ir R HR
    have P1 : Hid (∀ W, Below w.heap.size w W → Calls Tryd.prog 12 #[.slice a len cap, .int .i64 r, .int .i64 s] W fun e w' => e = .returned (.tuple #[.int .i64 q, .bool z]) ∧ Below W.heap.size W w') := fun W hb => by rw [← Hq.out, ← Hz.out]; exact an.place a len cap l r s W (hin.keep hb) ir is
    have AD : Hid (∀ W, Below w.heap.size w W → Calls Tryd.prog 14 #[] W fun e w' => e = .returned (.bool true) ∧ Below W.heap.size W w') := fun W hb => admits_true hd an W (hT.keep hb)
    have EQS : Hid (∀ W, (binOp .eql 30 (.agg R) (.agg R)).run Tryd.prog W = .ok (.bool true) W) := fun W => eqSigned _ _ hok.1 hok.1 hok.2 hok.2 R R HR HR true (by simp) W
    have H := hidk h
    have HL := hidk h.ln
    clear hd an h hc0 hm ir is hT Hb hin HZ HBZ HZE HBZE N69 H69 hok
    go_enter Tryd.func6, Tryd.ntmps6
    go_wp2_with fail
    refine BG.out.mono ?_
    rintro x w1 ⟨rfl, rfl⟩
    go_wp2_with fail
    refine (L1.out _ (Below.refl _ _)).mono ?_
    rintro x v1 ⟨rfl, hb1⟩
    go_wp2_with (first
      | (show wpList _ _ _ ({ dst := some 7, op := _, type := _, pos := _, after := _, guard := _ } :: _) _ _; refine wpList_new_var rfl 30 rfl Z HA.out ?_; intro g7 u2 HM; have HG := hidk HM.out.row; try simp only [Act.put, List.setIfInBounds_toArray, List.set_cons_zero, List.set_cons_succ])
      | (refine wpList_set_var rfl 30 (.tmp 7) (.tmp 22) rfl g7 R rfl rfl 30 Z HG.out HSR.out HZR.out H1R.out ?_; intro v2 HW; have hbj : Below v1.heap.size v1 v2 := HW.out.below _ _ HM.out.below (by rw [HM.out.new]; exact Nat.le_refl _); have HG7 := hidk HW.out.row; have HB2 := hidk (hb1.trans (hbj.mono hb1.size)); clear hbj HM HG HW hb1; try simp only [Act.put, List.setIfInBounds_toArray, List.set_cons_zero, List.set_cons_succ])
      | fail)
    have HQ2 : Hid (HeldQ w a len cap l g7 R v2) := ⟨HB2.out, H.out.keep HB2.out, HG7.out⟩
    clear HB2 HG7 L1 BG
    go_loopw [9, 10, 11] (fun va vf vi wr => ∃ (k : Nat) (A F : Int), k ≤ len ∧ vi = .int .i64 k ∧ va = .int .i64 A ∧ vf = .int .i64 F ∧ Hid (AtL l r k A) ∧ Hid (FsL l r s k F) ∧ Hid (HeldQ w a len cap l g7 R wr)) (fun _ _ vi _ => len - (intOf vi).toNat)
    case atStart => exact ⟨0, -1, -1, by omega, rfl, rfl, rfl, .inl ⟨rfl, rfl⟩, .inl ⟨rfl, fun y hy => by simp at hy⟩, HQ2⟩
    case round =>
      obtain ⟨k, A, F, hk, rfl, rfl, rfl, HAT, HFS, HQ⟩ := hrel
      by_cases hlt : k < len
      · have hd : decide ((k : Int) < (len : Int)) = true := by rw [decide_eq_true_eq]; omega
        have hw1 := wrap_int ((k : Int) + 1) (by omega) (by omega)
        obtain ⟨g, o, rfl, hg⟩ := H.out.at (by omega)
        have hkl : k < l.length := by have := HL.out; omega
        obtain ⟨x, HX⟩ : ∃ x, Hid (x = l[k]) := ⟨_, hidk rfl⟩
        have hok : OkE x.e := by rw [HX.out]; exact H.out.ok _ (List.getElem_mem hkl)
        obtain ⟨E, HE, HSE, H1E, N109⟩ := entry_row x.e hok
        have HRE : Hid (wr.rangeAt g (o + 110 * k + 1) E.toList) := by
          show World.rangeAt _ _ _ _
          rw [HE.out, HX.out]
          have h0 := HQ.out.i.range k hkl
          simpa using range_entry h0
        have HZEE : Hid (ZE.size = E.size) := by show _ = _; rw [H109.out, N109.out]
        have ix := fun W => index_item W g o len cap k .i64 hlt
        obtain ⟨kk, hkk⟩ : ∃ k, x.e.k = k := ⟨_, rfl⟩
        obtain ⟨rr, hrr⟩ : ∃ k, x.e.h.h.r = k := ⟨_, rfl⟩
        obtain ⟨zz, hzz⟩ : ∃ k, x.e.h.h.s = k := ⟨_, rfl⟩
        have HCE : Hid (∀ (W : World) (b : Nat) (t : TypeId) (f : Nat × Nat), W.heap[b]? = some (.cells E t f) → W.cell? ⟨b, 0, none⟩ = some (.int .i64 kk) ∧ W.cell? ⟨b, 4, none⟩ = some (.int .i64 rr) ∧ W.cell? ⟨b, 6, none⟩ = some (.int .i64 zz)) := fun W b t f hh => by rw [← hkk, ← hrr, ← hzz]; exact entry_an HE b t f hh
        have hI := isAn_iff x r
        rw [hkk, hrr] at hI
        have HNO : Hid (¬ (kk = 2 ∧ rr = r) → AtL l r (k + 1) A ∧ FsL l r s (k + 1) F) := fun hn => by
          have e : isAn l[k] r = false := by rw [← HX.out, Bool.eq_false_iff]; intro hh; exact hn (hI.1 hh)
          exact ⟨HAT.out.no hkl e, HFS.out.no hkl (by unfold abA; rw [e]; rfl)⟩
        have HYA : Hid (kk = 2 → rr = r → AtL l r (k + 1) (k : Int)) := fun h1 h2 => atL_yes hkl (by rw [← HX.out]; exact hI.2 ⟨h1, h2⟩)
        have HYF : Hid (kk = 2 → rr = r → F < 0 → s < zz → FsL l r s (k + 1) (k : Int)) := fun h1 h2 h3 h4 => HFS.out.yes h3 hkl (by rw [← HX.out]; unfold abA; rw [hI.2 ⟨h1, h2⟩, hzz, decide_eq_true h4]; rfl)
        have HNF : Hid (¬ s < zz → FsL l r s (k + 1) F) := fun h4 => HFS.out.no hkl (by rw [← HX.out]; unfold abA; rw [hzz, decide_eq_false h4, Bool.and_false])
        have HSF : Hid (0 ≤ F → FsL l r s (k + 1) F) := fun h4 => HFS.out.stay h4
        clear HX hkl hok HE hI hkk hrr hzz N109 HAT HFS
        by_cases h1 : kk = 2
        · by_cases h2 : rr = r
          · by_cases h3 : F < 0
            · have d3 : decide (F < (0 : Int)) = true := decide_eq_true h3
              by_cases h4 : s < zz
              · have b1 : (kk == (2 : Int)) = true := by rw [beq_iff_eq]; exact h1
                have d1 : decide (kk = (2 : Int)) = true := decide_eq_true h1
                have b2 : (rr == r) = true := by rw [beq_iff_eq]; exact h2
                have d2 : decide (rr = r) = true := decide_eq_true h2
                have d4 : decide (s < zz) = true := decide_eq_true h4
                go_wp2_with (first
                  | (show wpList _ _ _ ({ dst := some 34, op := _, type := _, pos := _, after := _, guard := _ } :: _) _ _; refine wpList_mid_w (by rfl) 46 (.tmp 33) rfl g (o + 110 * k + 1) rfl E _ HRE.out Tryd.underlying46 rfl HSE.out ?_; try simp only [Act.put, List.setIfInBounds_toArray, List.set_cons_zero, List.set_cons_succ])
                  | (show wpList _ _ _ ({ dst := some 12, op := _, type := _, pos := _, after := _, guard := _ } :: _) _ _; refine wpList_new_var rfl 46 rfl ZE HAE.out ?_; intro g12 u3 HM; have HG := hidk HM.out.row; try simp only [Act.put, List.setIfInBounds_toArray, List.set_cons_zero, List.set_cons_succ])
                  | (refine wpList_set_var rfl 46 (.tmp 12) (.tmp 34) rfl g12 E rfl rfl 46 ZE HG.out HSE.out HZEE.out H1E.out ?_; intro v3 HW; obtain ⟨c0, c4, c6⟩ := HCE.out _ _ _ _ HW.out.row; have hbj : Below wr.heap.size wr v3 := HW.out.below _ _ HM.out.below (by rw [HM.out.new]; exact Nat.le_refl _); have HQ3 := hidk (HQ.out.keep hbj); clear hbj HM HG HW; try simp only [Act.put, List.setIfInBounds_toArray, List.set_cons_zero, List.set_cons_succ])
                  | fail)
                go_roundw
                case rel => exact ⟨k + 1, (k : Int), (k : Int), by omega, by go_num, rfl, rfl, HYA.out h1 h2, HYF.out h1 h2 h3 h4, HQ3⟩
                case measure => simp [intOf]; omega
              · have b1 : (kk == (2 : Int)) = true := by rw [beq_iff_eq]; exact h1
                have d1 : decide (kk = (2 : Int)) = true := decide_eq_true h1
                have b2 : (rr == r) = true := by rw [beq_iff_eq]; exact h2
                have d2 : decide (rr = r) = true := decide_eq_true h2
                have d4 : decide (s < zz) = false := decide_eq_false h4
                go_wp2_with (first
                  | (show wpList _ _ _ ({ dst := some 34, op := _, type := _, pos := _, after := _, guard := _ } :: _) _ _; refine wpList_mid_w (by rfl) 46 (.tmp 33) rfl g (o + 110 * k + 1) rfl E _ HRE.out Tryd.underlying46 rfl HSE.out ?_; try simp only [Act.put, List.setIfInBounds_toArray, List.set_cons_zero, List.set_cons_succ])
                  | (show wpList _ _ _ ({ dst := some 12, op := _, type := _, pos := _, after := _, guard := _ } :: _) _ _; refine wpList_new_var rfl 46 rfl ZE HAE.out ?_; intro g12 u3 HM; have HG := hidk HM.out.row; try simp only [Act.put, List.setIfInBounds_toArray, List.set_cons_zero, List.set_cons_succ])
                  | (refine wpList_set_var rfl 46 (.tmp 12) (.tmp 34) rfl g12 E rfl rfl 46 ZE HG.out HSE.out HZEE.out H1E.out ?_; intro v3 HW; obtain ⟨c0, c4, c6⟩ := HCE.out _ _ _ _ HW.out.row; have hbj : Below wr.heap.size wr v3 := HW.out.below _ _ HM.out.below (by rw [HM.out.new]; exact Nat.le_refl _); have HQ3 := hidk (HQ.out.keep hbj); clear hbj HM HG HW; try simp only [Act.put, List.setIfInBounds_toArray, List.set_cons_zero, List.set_cons_succ])
                  | fail)
                go_roundw
                case rel => exact ⟨k + 1, (k : Int), F, by omega, by go_num, rfl, rfl, HYA.out h1 h2, HNF.out h4, HQ3⟩
                case measure => simp [intOf]; omega
            · have b1 : (kk == (2 : Int)) = true := by rw [beq_iff_eq]; exact h1
              have d1 : decide (kk = (2 : Int)) = true := decide_eq_true h1
              have b2 : (rr == r) = true := by rw [beq_iff_eq]; exact h2
              have d2 : decide (rr = r) = true := decide_eq_true h2
              have d3 : decide (F < (0 : Int)) = false := decide_eq_false h3
              go_wp2_with (first
                | (show wpList _ _ _ ({ dst := some 34, op := _, type := _, pos := _, after := _, guard := _ } :: _) _ _; refine wpList_mid_w (by rfl) 46 (.tmp 33) rfl g (o + 110 * k + 1) rfl E _ HRE.out Tryd.underlying46 rfl HSE.out ?_; try simp only [Act.put, List.setIfInBounds_toArray, List.set_cons_zero, List.set_cons_succ])
                | (show wpList _ _ _ ({ dst := some 12, op := _, type := _, pos := _, after := _, guard := _ } :: _) _ _; refine wpList_new_var rfl 46 rfl ZE HAE.out ?_; intro g12 u3 HM; have HG := hidk HM.out.row; try simp only [Act.put, List.setIfInBounds_toArray, List.set_cons_zero, List.set_cons_succ])
                | (refine wpList_set_var rfl 46 (.tmp 12) (.tmp 34) rfl g12 E rfl rfl 46 ZE HG.out HSE.out HZEE.out H1E.out ?_; intro v3 HW; obtain ⟨c0, c4, c6⟩ := HCE.out _ _ _ _ HW.out.row; have hbj : Below wr.heap.size wr v3 := HW.out.below _ _ HM.out.below (by rw [HM.out.new]; exact Nat.le_refl _); have HQ3 := hidk (HQ.out.keep hbj); clear hbj HM HG HW; try simp only [Act.put, List.setIfInBounds_toArray, List.set_cons_zero, List.set_cons_succ])
                | fail)
              go_roundw
              case rel => exact ⟨k + 1, (k : Int), F, by omega, by go_num, rfl, rfl, HYA.out h1 h2, HSF.out (by omega), HQ3⟩
              case measure => simp [intOf]; omega
          · have b1 : (kk == (2 : Int)) = true := by rw [beq_iff_eq]; exact h1
            have d1 : decide (kk = (2 : Int)) = true := decide_eq_true h1
            have b2 : (rr == r) = false := by rw [beq_eq_false_iff_ne]; exact h2
            have d2 : decide (rr = r) = false := decide_eq_false h2
            go_wp2_with (first
              | (show wpList _ _ _ ({ dst := some 34, op := _, type := _, pos := _, after := _, guard := _ } :: _) _ _; refine wpList_mid_w (by rfl) 46 (.tmp 33) rfl g (o + 110 * k + 1) rfl E _ HRE.out Tryd.underlying46 rfl HSE.out ?_; try simp only [Act.put, List.setIfInBounds_toArray, List.set_cons_zero, List.set_cons_succ])
              | (show wpList _ _ _ ({ dst := some 12, op := _, type := _, pos := _, after := _, guard := _ } :: _) _ _; refine wpList_new_var rfl 46 rfl ZE HAE.out ?_; intro g12 u3 HM; have HG := hidk HM.out.row; try simp only [Act.put, List.setIfInBounds_toArray, List.set_cons_zero, List.set_cons_succ])
              | (refine wpList_set_var rfl 46 (.tmp 12) (.tmp 34) rfl g12 E rfl rfl 46 ZE HG.out HSE.out HZEE.out H1E.out ?_; intro v3 HW; obtain ⟨c0, c4, c6⟩ := HCE.out _ _ _ _ HW.out.row; have hbj : Below wr.heap.size wr v3 := HW.out.below _ _ HM.out.below (by rw [HM.out.new]; exact Nat.le_refl _); have HQ3 := hidk (HQ.out.keep hbj); clear hbj HM HG HW; try simp only [Act.put, List.setIfInBounds_toArray, List.set_cons_zero, List.set_cons_succ])
              | fail)
            go_roundw
            case rel => exact ⟨k + 1, A, F, by omega, by go_num, rfl, rfl, (HNO.out (fun h => h2 h.2)).1, (HNO.out (fun h => h2 h.2)).2, HQ3⟩
            case measure => simp [intOf]; omega
        · have b1 : (kk == (2 : Int)) = false := by rw [beq_eq_false_iff_ne]; exact h1
          have d1 : decide (kk = (2 : Int)) = false := decide_eq_false h1
          go_wp2_with (first
            | (show wpList _ _ _ ({ dst := some 34, op := _, type := _, pos := _, after := _, guard := _ } :: _) _ _; refine wpList_mid_w (by rfl) 46 (.tmp 33) rfl g (o + 110 * k + 1) rfl E _ HRE.out Tryd.underlying46 rfl HSE.out ?_; try simp only [Act.put, List.setIfInBounds_toArray, List.set_cons_zero, List.set_cons_succ])
            | (show wpList _ _ _ ({ dst := some 12, op := _, type := _, pos := _, after := _, guard := _ } :: _) _ _; refine wpList_new_var rfl 46 rfl ZE HAE.out ?_; intro g12 u3 HM; have HG := hidk HM.out.row; try simp only [Act.put, List.setIfInBounds_toArray, List.set_cons_zero, List.set_cons_succ])
            | (refine wpList_set_var rfl 46 (.tmp 12) (.tmp 34) rfl g12 E rfl rfl 46 ZE HG.out HSE.out HZEE.out H1E.out ?_; intro v3 HW; obtain ⟨c0, c4, c6⟩ := HCE.out _ _ _ _ HW.out.row; have hbj : Below wr.heap.size wr v3 := HW.out.below _ _ HM.out.below (by rw [HM.out.new]; exact Nat.le_refl _); have HQ3 := hidk (HQ.out.keep hbj); clear hbj HM HG HW; try simp only [Act.put, List.setIfInBounds_toArray, List.set_cons_zero, List.set_cons_succ])
            | fail)
          go_roundw
          case rel => exact ⟨k + 1, A, F, by omega, by go_num, rfl, rfl, (HNO.out (fun h => h1 h.1)).1, (HNO.out (fun h => h1 h.1)).2, HQ3⟩
          case measure => simp [intOf]; omega
      · obtain rfl : len = k := by omega
        have hd : decide ((len : Int) < (len : Int)) = false := by rw [decide_eq_false_iff_not]; omega
        have hall : l.take len = l := List.take_of_length_le (by have := HL.out; omega)
        have hAT := HAT.out
        have hFS := HFS.out
        unfold AtL at hAT
        unfold FsL at hFS
        rw [hall] at hAT hFS
        have eqs := EQS.out
        clear hall HAT HFS EQS HQ2
        rcases hAT with ⟨rfl, a2⟩ | ⟨j, hj, rfl, a2, a3⟩
        · obtain rfl : y = false := by rw [← Hy.out, a2]; rfl
          clear a2 Hy
          rcases hFS with ⟨rfl, f2⟩ | ⟨i, rfl, f2, f3⟩
          · have f3 := plcA_no f2
            obtain rfl : z = false := by rw [← Hz.out, f3]; rfl
            obtain rfl : q = 0 := by rw [← Hq.out, f3]; rfl
            clear f2 f3 Hz Hq
            go_wp2_with fail
            refine (P1.out _ HQ.out.b).mono ?_
            rintro x v4 ⟨rfl, hbj⟩
            have HQ4 := hidk (HQ.out.keep hbj)
            clear hbj HQ
            go_wp2_with fail
            refine wp_region_held_drew (S := (HeldQ w a len cap l g7 R)) (by kernel_rfl) HQ4.out.drew (fun hHeld => ?_)
            refine wpAnyH_take (i := 0) (oi := { dst := some 65, op := Op.move (Operand.tmp 8), type := 4, pos := "law.go:128", after := #[], guard := none }) (v := .bool false) rfl (by kernel_rfl) (by kernel_rfl) (by kernel_rfl) (fun _ _ _ h => h) (Or.inl ⟨by rfl, by intro W hSw; go_simp⟩) hHeld ?_
            try simp only [Act.put, List.setIfInBounds_toArray, List.set_cons_zero, List.set_cons_succ]
            refine wpAnyH_take (i := 1) (oi := { dst := some 66, op := Op.move (Operand.tmp 9), type := 3, pos := "law.go:128", after := #[], guard := none }) (v := .int .i64 (-1)) rfl (by kernel_rfl) (by kernel_rfl) (by kernel_rfl) (fun _ _ _ h => h) (Or.inl ⟨by rfl, by intro W hSw; go_simp⟩) hHeld ?_
            try simp only [Act.put, List.setIfInBounds_toArray, List.set_cons_zero, List.set_cons_succ]
            refine wpAnyH_take (i := 2) (oi := { dst := some 67, op := Op.binOp BinOp.geq 3 (Operand.tmp 66) (Operand.const (Value.int IntKind.i64 0)) 3, type := 4, pos := "law.go:128", after := #[{ on := 1, ground := Ground.data }], guard := none }) (v := .bool false) rfl (by kernel_rfl) (by kernel_rfl) (by kernel_rfl) (fun _ _ _ h => h) (Or.inl ⟨by rfl, by intro W hSw; go_simp⟩) hHeld ?_
            try simp only [Act.put, List.setIfInBounds_toArray, List.set_cons_zero, List.set_cons_succ]
            refine wpAnyH_take (i := 3) (oi := { dst := some 68, op := Op.binOp BinOp.eql 4 (Operand.tmp 65) (Operand.tmp 67) 4, type := 4, pos := "law.go:128", after := #[{ on := 0, ground := Ground.data }, { on := 2, ground := Ground.data }], guard := none }) (v := .bool true) rfl (by kernel_rfl) (by kernel_rfl) (by kernel_rfl) (fun _ _ _ h => h) (Or.inl ⟨by rfl, by intro W hSw; go_simp⟩) hHeld ?_
            try simp only [Act.put, List.setIfInBounds_toArray, List.set_cons_zero, List.set_cons_succ]
            refine wpAnyH_take (i := 4) (oi := { dst := some 69, op := Op.move (Operand.tmp 68), type := 4, pos := "law.go:128", after := #[{ on := 3, ground := Ground.data }], guard := none }) (v := .bool true) rfl (by kernel_rfl) (by kernel_rfl) (by kernel_rfl) (fun _ _ _ h => h) (Or.inl ⟨by rfl, by intro W hSw; go_simp⟩) hHeld ?_
            try simp only [Act.put, List.setIfInBounds_toArray, List.set_cons_zero, List.set_cons_succ]
            refine wpAnyH_take (i := 5) (oi := { dst := some 70, op := Op.move (Operand.tmp 8), type := 4, pos := "law.go:128", after := #[{ on := 4, ground := Ground.guard }], guard := some (4, true) }) (v := .bool false) rfl (by kernel_rfl) (by kernel_rfl) (by kernel_rfl) (fun _ _ _ h => h) (Or.inl ⟨by rfl, by intro W hSw; go_simp⟩) hHeld ?_
            try simp only [Act.put, List.setIfInBounds_toArray, List.set_cons_zero, List.set_cons_succ]
            refine wpAnyH_take (i := 6) (oi := { dst := some 71, op := Op.unOp UnOp.not 4 (Operand.tmp 70), type := 4, pos := "law.go:128", after := #[{ on := 5, ground := Ground.data }, { on := 4, ground := Ground.guard }], guard := some (4, true) }) (v := .bool true) rfl (by kernel_rfl) (by kernel_rfl) (by kernel_rfl) (fun _ _ _ h => h) (Or.inl ⟨by rfl, by intro W hSw; go_simp⟩) hHeld ?_
            try simp only [Act.put, List.setIfInBounds_toArray, List.set_cons_zero, List.set_cons_succ]
            refine wpAnyH_take (i := 7) (oi := { dst := some 72, op := Op.move (Operand.tmp 71), type := 4, pos := "law.go:128", after := #[{ on := 6, ground := Ground.data }, { on := 4, ground := Ground.chain }, { on := 4, ground := Ground.guard }], guard := some (4, true) }) (v := .bool true) rfl (by kernel_rfl) (by kernel_rfl) (by kernel_rfl) (fun _ _ _ h => h) (Or.inl ⟨by rfl, by intro W hSw; go_simp⟩) hHeld ?_
            try simp only [Act.put, List.setIfInBounds_toArray, List.set_cons_zero, List.set_cons_succ]
            refine wpAnyH_take (i := 8) (oi := { dst := some 73, op := Op.move (Operand.tmp 0), type := 22, pos := "law.go:128", after := #[{ on := 7, ground := Ground.guard }], guard := some (7, false) }) (v := undef) rfl (by kernel_rfl) (by kernel_rfl) (by kernel_rfl) (fun _ _ _ h => h) (Or.inr ⟨by rfl, rfl⟩) hHeld ?_
            try simp only [Act.put, List.setIfInBounds_toArray, List.set_cons_zero, List.set_cons_succ]
            refine wpAnyH_take (i := 9) (oi := { dst := some 74, op := Op.move (Operand.tmp 9), type := 3, pos := "law.go:128", after := #[{ on := 7, ground := Ground.guard }], guard := some (7, false) }) (v := undef) rfl (by kernel_rfl) (by kernel_rfl) (by kernel_rfl) (fun _ _ _ h => h) (Or.inr ⟨by rfl, rfl⟩) hHeld ?_
            try simp only [Act.put, List.setIfInBounds_toArray, List.set_cons_zero, List.set_cons_succ]
            refine wpAnyH_take (i := 10) (oi := { dst := some 75, op := Op.indexAddr 22 (Operand.tmp 73) (Operand.tmp 74), type := 0, pos := "law.go:128", after := #[{ on := 8, ground := Ground.data }, { on := 9, ground := Ground.data }, { on := 7, ground := Ground.guard }], guard := some (7, false) }) (v := undef) rfl (by kernel_rfl) (by kernel_rfl) (by kernel_rfl) (fun _ _ _ h => h) (Or.inr ⟨by rfl, rfl⟩) hHeld ?_
            try simp only [Act.put, List.setIfInBounds_toArray, List.set_cons_zero, List.set_cons_succ]
            refine wpAnyH_take (i := 11) (oi := { dst := some 76, op := Op.fieldAddr 48 (Operand.tmp 75) 1, type := 0, pos := "law.go:128", after := #[{ on := 10, ground := Ground.data }, { on := 7, ground := Ground.guard }], guard := some (7, false) }) (v := undef) rfl (by kernel_rfl) (by kernel_rfl) (by kernel_rfl) (fun _ _ _ h => h) (Or.inr ⟨by rfl, rfl⟩) hHeld ?_
            try simp only [Act.put, List.setIfInBounds_toArray, List.set_cons_zero, List.set_cons_succ]
            refine wpAnyH_take (i := 12) (oi := { dst := some 77, op := Op.fieldAddr 46 (Operand.tmp 76) 4, type := 0, pos := "law.go:128", after := #[{ on := 11, ground := Ground.data }, { on := 7, ground := Ground.guard }], guard := some (7, false) }) (v := undef) rfl (by kernel_rfl) (by kernel_rfl) (by kernel_rfl) (fun _ _ _ h => h) (Or.inr ⟨by rfl, rfl⟩) hHeld ?_
            try simp only [Act.put, List.setIfInBounds_toArray, List.set_cons_zero, List.set_cons_succ]
            refine wpAnyH_take (i := 13) (oi := { dst := some 78, op := Op.load 30 (Operand.tmp 77), type := 30, pos := "law.go:128", after := #[{ on := 12, ground := Ground.data }, { on := 7, ground := Ground.guard }], guard := some (7, false) }) (v := undef) rfl (by kernel_rfl) (by kernel_rfl) (by kernel_rfl) (fun _ _ _ h => h) (Or.inr ⟨by rfl, rfl⟩) hHeld ?_
            try simp only [Act.put, List.setIfInBounds_toArray, List.set_cons_zero, List.set_cons_succ]
            refine wpAnyH_take (i := 14) (oi := { dst := some 79, op := Op.load 30 (Operand.tmp 7), type := 30, pos := "law.go:128", after := #[{ on := 7, ground := Ground.guard }], guard := some (7, false) }) (v := undef) rfl (by kernel_rfl) (by kernel_rfl) (by kernel_rfl) (fun _ _ _ h => h) (Or.inr ⟨by rfl, rfl⟩) hHeld ?_
            try simp only [Act.put, List.setIfInBounds_toArray, List.set_cons_zero, List.set_cons_succ]
            refine wpAnyH_take (i := 15) (oi := { dst := some 80, op := Op.binOp BinOp.eql 30 (Operand.tmp 78) (Operand.tmp 79) 30, type := 4, pos := "law.go:128", after := #[{ on := 13, ground := Ground.data }, { on := 14, ground := Ground.data }, { on := 7, ground := Ground.guard }], guard := some (7, false) }) (v := undef) rfl (by kernel_rfl) (by kernel_rfl) (by kernel_rfl) (fun _ _ _ h => h) (Or.inr ⟨by rfl, rfl⟩) hHeld ?_
            try simp only [Act.put, List.setIfInBounds_toArray, List.set_cons_zero, List.set_cons_succ]
            refine wpAnyH_take (i := 16) (oi := { dst := some 81, op := Op.pick (Operand.tmp 72) (Operand.const (Value.bool true)) (Operand.tmp 80), type := 4, pos := "law.go:128", after := #[{ on := 7, ground := Ground.data }, { on := 15, ground := Ground.data }, { on := 4, ground := Ground.guard }], guard := some (4, true) }) (v := .bool true) rfl (by kernel_rfl) (by kernel_rfl) (by kernel_rfl) (fun _ _ _ h => h) (Or.inl ⟨by rfl, by intro W hSw; go_simp⟩) hHeld ?_
            try simp only [Act.put, List.setIfInBounds_toArray, List.set_cons_zero, List.set_cons_succ]
            refine wpAnyH_take (i := 17) (oi := { dst := some 82, op := Op.pick (Operand.tmp 69) (Operand.tmp 81) (Operand.const (Value.bool false)), type := 4, pos := "law.go:128", after := #[{ on := 4, ground := Ground.data }, { on := 16, ground := Ground.data }], guard := none }) (v := .bool true) rfl (by kernel_rfl) (by kernel_rfl) (by kernel_rfl) (fun _ _ _ h => h) (Or.inl ⟨by rfl, by intro W hSw; go_simp⟩) hHeld ?_
            try simp only [Act.put, List.setIfInBounds_toArray, List.set_cons_zero, List.set_cons_succ]
            refine wpAnyH_take (i := 18) (oi := { dst := some 15, op := Op.assign (Operand.tmp 82), type := 4, pos := "law.go:128", after := #[{ on := 17, ground := Ground.data }, { on := 7, ground := Ground.chain }, { on := 0, ground := Ground.phase }, { on := 1, ground := Ground.phase }, { on := 2, ground := Ground.phase }, { on := 3, ground := Ground.phase }, { on := 4, ground := Ground.phase }, { on := 5, ground := Ground.phase }, { on := 6, ground := Ground.phase }, { on := 7, ground := Ground.phase }, { on := 8, ground := Ground.phase }, { on := 9, ground := Ground.phase }, { on := 10, ground := Ground.phase }, { on := 11, ground := Ground.phase }, { on := 12, ground := Ground.phase }, { on := 13, ground := Ground.phase }, { on := 14, ground := Ground.phase }, { on := 15, ground := Ground.phase }, { on := 16, ground := Ground.phase }, { on := 17, ground := Ground.phase }], guard := none }) (v := .bool true) rfl (by kernel_rfl) (by kernel_rfl) (by kernel_rfl) (fun _ _ _ h => h) (Or.inl ⟨by rfl, by intro W hSw; go_simp⟩) hHeld ?_
            try simp only [Act.put, List.setIfInBounds_toArray, List.set_cons_zero, List.set_cons_succ]
            refine wpAnyH_done (by kernel_rfl) ?_ _
            have HQ5 := hidk hHeld
            clear hHeld
            go_wp2_with fail
            refine (AD.out _ HQ5.out.b).mono ?_
            rintro x v9 ⟨rfl, hb9⟩
            have HZ9 := hidk (HQ5.out.b.trans (hb9.mono HQ5.out.b.size))
            clear hb9
            go_wp2
            go_ret
            exact ⟨rfl, HZ9.out⟩
          · obtain rfl : z = true := by rw [← Hz.out, f3]; rfl
            obtain rfl : q = (i : Int) := by rw [← Hq.out, f3]; rfl
            have di : decide ((0 : Int) ≤ (i : Int)) = true := by rw [decide_eq_true_eq]; omega
            clear f2 f3 Hz Hq
            go_wp2_with fail
            refine (P1.out _ HQ.out.b).mono ?_
            rintro x v4 ⟨rfl, hbj⟩
            have HQ4 := hidk (HQ.out.keep hbj)
            clear hbj HQ
            go_wp2_with fail
            refine wp_region_held_drew (S := (HeldQ w a len cap l g7 R)) (by kernel_rfl) HQ4.out.drew (fun hHeld => ?_)
            refine wpAnyH_take (i := 0) (oi := { dst := some 65, op := Op.move (Operand.tmp 8), type := 4, pos := "law.go:128", after := #[], guard := none }) (v := .bool false) rfl (by kernel_rfl) (by kernel_rfl) (by kernel_rfl) (fun _ _ _ h => h) (Or.inl ⟨by rfl, by intro W hSw; go_simp⟩) hHeld ?_
            try simp only [Act.put, List.setIfInBounds_toArray, List.set_cons_zero, List.set_cons_succ]
            refine wpAnyH_take (i := 1) (oi := { dst := some 66, op := Op.move (Operand.tmp 9), type := 3, pos := "law.go:128", after := #[], guard := none }) (v := .int .i64 (-1)) rfl (by kernel_rfl) (by kernel_rfl) (by kernel_rfl) (fun _ _ _ h => h) (Or.inl ⟨by rfl, by intro W hSw; go_simp⟩) hHeld ?_
            try simp only [Act.put, List.setIfInBounds_toArray, List.set_cons_zero, List.set_cons_succ]
            refine wpAnyH_take (i := 2) (oi := { dst := some 67, op := Op.binOp BinOp.geq 3 (Operand.tmp 66) (Operand.const (Value.int IntKind.i64 0)) 3, type := 4, pos := "law.go:128", after := #[{ on := 1, ground := Ground.data }], guard := none }) (v := .bool false) rfl (by kernel_rfl) (by kernel_rfl) (by kernel_rfl) (fun _ _ _ h => h) (Or.inl ⟨by rfl, by intro W hSw; go_simp⟩) hHeld ?_
            try simp only [Act.put, List.setIfInBounds_toArray, List.set_cons_zero, List.set_cons_succ]
            refine wpAnyH_take (i := 3) (oi := { dst := some 68, op := Op.binOp BinOp.eql 4 (Operand.tmp 65) (Operand.tmp 67) 4, type := 4, pos := "law.go:128", after := #[{ on := 0, ground := Ground.data }, { on := 2, ground := Ground.data }], guard := none }) (v := .bool true) rfl (by kernel_rfl) (by kernel_rfl) (by kernel_rfl) (fun _ _ _ h => h) (Or.inl ⟨by rfl, by intro W hSw; go_simp⟩) hHeld ?_
            try simp only [Act.put, List.setIfInBounds_toArray, List.set_cons_zero, List.set_cons_succ]
            refine wpAnyH_take (i := 4) (oi := { dst := some 69, op := Op.move (Operand.tmp 68), type := 4, pos := "law.go:128", after := #[{ on := 3, ground := Ground.data }], guard := none }) (v := .bool true) rfl (by kernel_rfl) (by kernel_rfl) (by kernel_rfl) (fun _ _ _ h => h) (Or.inl ⟨by rfl, by intro W hSw; go_simp⟩) hHeld ?_
            try simp only [Act.put, List.setIfInBounds_toArray, List.set_cons_zero, List.set_cons_succ]
            refine wpAnyH_take (i := 5) (oi := { dst := some 70, op := Op.move (Operand.tmp 8), type := 4, pos := "law.go:128", after := #[{ on := 4, ground := Ground.guard }], guard := some (4, true) }) (v := .bool false) rfl (by kernel_rfl) (by kernel_rfl) (by kernel_rfl) (fun _ _ _ h => h) (Or.inl ⟨by rfl, by intro W hSw; go_simp⟩) hHeld ?_
            try simp only [Act.put, List.setIfInBounds_toArray, List.set_cons_zero, List.set_cons_succ]
            refine wpAnyH_take (i := 6) (oi := { dst := some 71, op := Op.unOp UnOp.not 4 (Operand.tmp 70), type := 4, pos := "law.go:128", after := #[{ on := 5, ground := Ground.data }, { on := 4, ground := Ground.guard }], guard := some (4, true) }) (v := .bool true) rfl (by kernel_rfl) (by kernel_rfl) (by kernel_rfl) (fun _ _ _ h => h) (Or.inl ⟨by rfl, by intro W hSw; go_simp⟩) hHeld ?_
            try simp only [Act.put, List.setIfInBounds_toArray, List.set_cons_zero, List.set_cons_succ]
            refine wpAnyH_take (i := 7) (oi := { dst := some 72, op := Op.move (Operand.tmp 71), type := 4, pos := "law.go:128", after := #[{ on := 6, ground := Ground.data }, { on := 4, ground := Ground.chain }, { on := 4, ground := Ground.guard }], guard := some (4, true) }) (v := .bool true) rfl (by kernel_rfl) (by kernel_rfl) (by kernel_rfl) (fun _ _ _ h => h) (Or.inl ⟨by rfl, by intro W hSw; go_simp⟩) hHeld ?_
            try simp only [Act.put, List.setIfInBounds_toArray, List.set_cons_zero, List.set_cons_succ]
            refine wpAnyH_take (i := 8) (oi := { dst := some 73, op := Op.move (Operand.tmp 0), type := 22, pos := "law.go:128", after := #[{ on := 7, ground := Ground.guard }], guard := some (7, false) }) (v := undef) rfl (by kernel_rfl) (by kernel_rfl) (by kernel_rfl) (fun _ _ _ h => h) (Or.inr ⟨by rfl, rfl⟩) hHeld ?_
            try simp only [Act.put, List.setIfInBounds_toArray, List.set_cons_zero, List.set_cons_succ]
            refine wpAnyH_take (i := 9) (oi := { dst := some 74, op := Op.move (Operand.tmp 9), type := 3, pos := "law.go:128", after := #[{ on := 7, ground := Ground.guard }], guard := some (7, false) }) (v := undef) rfl (by kernel_rfl) (by kernel_rfl) (by kernel_rfl) (fun _ _ _ h => h) (Or.inr ⟨by rfl, rfl⟩) hHeld ?_
            try simp only [Act.put, List.setIfInBounds_toArray, List.set_cons_zero, List.set_cons_succ]
            refine wpAnyH_take (i := 10) (oi := { dst := some 75, op := Op.indexAddr 22 (Operand.tmp 73) (Operand.tmp 74), type := 0, pos := "law.go:128", after := #[{ on := 8, ground := Ground.data }, { on := 9, ground := Ground.data }, { on := 7, ground := Ground.guard }], guard := some (7, false) }) (v := undef) rfl (by kernel_rfl) (by kernel_rfl) (by kernel_rfl) (fun _ _ _ h => h) (Or.inr ⟨by rfl, rfl⟩) hHeld ?_
            try simp only [Act.put, List.setIfInBounds_toArray, List.set_cons_zero, List.set_cons_succ]
            refine wpAnyH_take (i := 11) (oi := { dst := some 76, op := Op.fieldAddr 48 (Operand.tmp 75) 1, type := 0, pos := "law.go:128", after := #[{ on := 10, ground := Ground.data }, { on := 7, ground := Ground.guard }], guard := some (7, false) }) (v := undef) rfl (by kernel_rfl) (by kernel_rfl) (by kernel_rfl) (fun _ _ _ h => h) (Or.inr ⟨by rfl, rfl⟩) hHeld ?_
            try simp only [Act.put, List.setIfInBounds_toArray, List.set_cons_zero, List.set_cons_succ]
            refine wpAnyH_take (i := 12) (oi := { dst := some 77, op := Op.fieldAddr 46 (Operand.tmp 76) 4, type := 0, pos := "law.go:128", after := #[{ on := 11, ground := Ground.data }, { on := 7, ground := Ground.guard }], guard := some (7, false) }) (v := undef) rfl (by kernel_rfl) (by kernel_rfl) (by kernel_rfl) (fun _ _ _ h => h) (Or.inr ⟨by rfl, rfl⟩) hHeld ?_
            try simp only [Act.put, List.setIfInBounds_toArray, List.set_cons_zero, List.set_cons_succ]
            refine wpAnyH_take (i := 13) (oi := { dst := some 78, op := Op.load 30 (Operand.tmp 77), type := 30, pos := "law.go:128", after := #[{ on := 12, ground := Ground.data }, { on := 7, ground := Ground.guard }], guard := some (7, false) }) (v := undef) rfl (by kernel_rfl) (by kernel_rfl) (by kernel_rfl) (fun _ _ _ h => h) (Or.inr ⟨by rfl, rfl⟩) hHeld ?_
            try simp only [Act.put, List.setIfInBounds_toArray, List.set_cons_zero, List.set_cons_succ]
            refine wpAnyH_take (i := 14) (oi := { dst := some 79, op := Op.load 30 (Operand.tmp 7), type := 30, pos := "law.go:128", after := #[{ on := 7, ground := Ground.guard }], guard := some (7, false) }) (v := undef) rfl (by kernel_rfl) (by kernel_rfl) (by kernel_rfl) (fun _ _ _ h => h) (Or.inr ⟨by rfl, rfl⟩) hHeld ?_
            try simp only [Act.put, List.setIfInBounds_toArray, List.set_cons_zero, List.set_cons_succ]
            refine wpAnyH_take (i := 15) (oi := { dst := some 80, op := Op.binOp BinOp.eql 30 (Operand.tmp 78) (Operand.tmp 79) 30, type := 4, pos := "law.go:128", after := #[{ on := 13, ground := Ground.data }, { on := 14, ground := Ground.data }, { on := 7, ground := Ground.guard }], guard := some (7, false) }) (v := undef) rfl (by kernel_rfl) (by kernel_rfl) (by kernel_rfl) (fun _ _ _ h => h) (Or.inr ⟨by rfl, rfl⟩) hHeld ?_
            try simp only [Act.put, List.setIfInBounds_toArray, List.set_cons_zero, List.set_cons_succ]
            refine wpAnyH_take (i := 16) (oi := { dst := some 81, op := Op.pick (Operand.tmp 72) (Operand.const (Value.bool true)) (Operand.tmp 80), type := 4, pos := "law.go:128", after := #[{ on := 7, ground := Ground.data }, { on := 15, ground := Ground.data }, { on := 4, ground := Ground.guard }], guard := some (4, true) }) (v := .bool true) rfl (by kernel_rfl) (by kernel_rfl) (by kernel_rfl) (fun _ _ _ h => h) (Or.inl ⟨by rfl, by intro W hSw; go_simp⟩) hHeld ?_
            try simp only [Act.put, List.setIfInBounds_toArray, List.set_cons_zero, List.set_cons_succ]
            refine wpAnyH_take (i := 17) (oi := { dst := some 82, op := Op.pick (Operand.tmp 69) (Operand.tmp 81) (Operand.const (Value.bool false)), type := 4, pos := "law.go:128", after := #[{ on := 4, ground := Ground.data }, { on := 16, ground := Ground.data }], guard := none }) (v := .bool true) rfl (by kernel_rfl) (by kernel_rfl) (by kernel_rfl) (fun _ _ _ h => h) (Or.inl ⟨by rfl, by intro W hSw; go_simp⟩) hHeld ?_
            try simp only [Act.put, List.setIfInBounds_toArray, List.set_cons_zero, List.set_cons_succ]
            refine wpAnyH_take (i := 18) (oi := { dst := some 15, op := Op.assign (Operand.tmp 82), type := 4, pos := "law.go:128", after := #[{ on := 17, ground := Ground.data }, { on := 7, ground := Ground.chain }, { on := 0, ground := Ground.phase }, { on := 1, ground := Ground.phase }, { on := 2, ground := Ground.phase }, { on := 3, ground := Ground.phase }, { on := 4, ground := Ground.phase }, { on := 5, ground := Ground.phase }, { on := 6, ground := Ground.phase }, { on := 7, ground := Ground.phase }, { on := 8, ground := Ground.phase }, { on := 9, ground := Ground.phase }, { on := 10, ground := Ground.phase }, { on := 11, ground := Ground.phase }, { on := 12, ground := Ground.phase }, { on := 13, ground := Ground.phase }, { on := 14, ground := Ground.phase }, { on := 15, ground := Ground.phase }, { on := 16, ground := Ground.phase }, { on := 17, ground := Ground.phase }], guard := none }) (v := .bool true) rfl (by kernel_rfl) (by kernel_rfl) (by kernel_rfl) (fun _ _ _ h => h) (Or.inl ⟨by rfl, by intro W hSw; go_simp⟩) hHeld ?_
            try simp only [Act.put, List.setIfInBounds_toArray, List.set_cons_zero, List.set_cons_succ]
            refine wpAnyH_done (by kernel_rfl) ?_ _
            have HQ5 := hidk hHeld
            clear hHeld
            go_wp2_with fail
            refine (AD.out _ HQ5.out.b).mono ?_
            rintro x v9 ⟨rfl, hb9⟩
            have HZ9 := hidk (HQ5.out.b.trans (hb9.mono HQ5.out.b.size))
            clear hb9
            go_wp2
            go_ret
            exact ⟨rfl, HZ9.out⟩
        · obtain rfl : y = true := by rw [← Hy.out, a3]; rfl
          have dj : decide ((0 : Int) ≤ (j : Int)) = true := by rw [decide_eq_true_eq]; omega
          obtain ⟨g, o, rfl, hg⟩ := H.out.at (by omega)
          have ix := fun W => index_item W g o len cap j .i64 a2
          have HRJ : Hid (∀ V, HeldQ w (some ⟨g, o, none⟩) len cap l g7 R V → V.rangeAt g (o + 110 * j + 5) R.toList) := fun V hv => by
            have h0 := range_head (hv.i.range j hj)
            rw [HR.out]
            unfold latS
            rw [a3]
            simpa using h0
          clear a2 a3 Hy HR hj
          rcases hFS with ⟨rfl, f2⟩ | ⟨i, rfl, f2, f3⟩
          · have f3 := plcA_no f2
            obtain rfl : z = false := by rw [← Hz.out, f3]; rfl
            obtain rfl : q = 0 := by rw [← Hq.out, f3]; rfl
            clear f2 f3 Hz Hq
            go_wp2_with fail
            refine (P1.out _ HQ.out.b).mono ?_
            rintro x v4 ⟨rfl, hbj⟩
            have HQ4 := hidk (HQ.out.keep hbj)
            clear hbj HQ
            go_wp2_with fail
            refine wp_region_held_drew (S := (HeldQ w (some ⟨g, o, none⟩) len cap l g7 R)) (by kernel_rfl) HQ4.out.drew (fun hHeld => ?_)
            refine wpAnyH_take (i := 0) (oi := { dst := some 65, op := Op.move (Operand.tmp 8), type := 4, pos := "law.go:128", after := #[], guard := none }) (v := .bool true) rfl (by kernel_rfl) (by kernel_rfl) (by kernel_rfl) (fun _ _ _ h => h) (Or.inl ⟨by rfl, by intro W hSw; go_simp⟩) hHeld ?_
            try simp only [Act.put, List.setIfInBounds_toArray, List.set_cons_zero, List.set_cons_succ]
            refine wpAnyH_take (i := 1) (oi := { dst := some 66, op := Op.move (Operand.tmp 9), type := 3, pos := "law.go:128", after := #[], guard := none }) (v := .int .i64 j) rfl (by kernel_rfl) (by kernel_rfl) (by kernel_rfl) (fun _ _ _ h => h) (Or.inl ⟨by rfl, by intro W hSw; go_simp⟩) hHeld ?_
            try simp only [Act.put, List.setIfInBounds_toArray, List.set_cons_zero, List.set_cons_succ]
            refine wpAnyH_take (i := 2) (oi := { dst := some 67, op := Op.binOp BinOp.geq 3 (Operand.tmp 66) (Operand.const (Value.int IntKind.i64 0)) 3, type := 4, pos := "law.go:128", after := #[{ on := 1, ground := Ground.data }], guard := none }) (v := .bool true) rfl (by kernel_rfl) (by kernel_rfl) (by kernel_rfl) (fun _ _ _ h => h) (Or.inl ⟨by rfl, by intro W hSw; go_simp⟩) hHeld ?_
            try simp only [Act.put, List.setIfInBounds_toArray, List.set_cons_zero, List.set_cons_succ]
            refine wpAnyH_take (i := 3) (oi := { dst := some 68, op := Op.binOp BinOp.eql 4 (Operand.tmp 65) (Operand.tmp 67) 4, type := 4, pos := "law.go:128", after := #[{ on := 0, ground := Ground.data }, { on := 2, ground := Ground.data }], guard := none }) (v := .bool true) rfl (by kernel_rfl) (by kernel_rfl) (by kernel_rfl) (fun _ _ _ h => h) (Or.inl ⟨by rfl, by intro W hSw; go_simp⟩) hHeld ?_
            try simp only [Act.put, List.setIfInBounds_toArray, List.set_cons_zero, List.set_cons_succ]
            refine wpAnyH_take (i := 4) (oi := { dst := some 69, op := Op.move (Operand.tmp 68), type := 4, pos := "law.go:128", after := #[{ on := 3, ground := Ground.data }], guard := none }) (v := .bool true) rfl (by kernel_rfl) (by kernel_rfl) (by kernel_rfl) (fun _ _ _ h => h) (Or.inl ⟨by rfl, by intro W hSw; go_simp⟩) hHeld ?_
            try simp only [Act.put, List.setIfInBounds_toArray, List.set_cons_zero, List.set_cons_succ]
            refine wpAnyH_take (i := 5) (oi := { dst := some 70, op := Op.move (Operand.tmp 8), type := 4, pos := "law.go:128", after := #[{ on := 4, ground := Ground.guard }], guard := some (4, true) }) (v := .bool true) rfl (by kernel_rfl) (by kernel_rfl) (by kernel_rfl) (fun _ _ _ h => h) (Or.inl ⟨by rfl, by intro W hSw; go_simp⟩) hHeld ?_
            try simp only [Act.put, List.setIfInBounds_toArray, List.set_cons_zero, List.set_cons_succ]
            refine wpAnyH_take (i := 6) (oi := { dst := some 71, op := Op.unOp UnOp.not 4 (Operand.tmp 70), type := 4, pos := "law.go:128", after := #[{ on := 5, ground := Ground.data }, { on := 4, ground := Ground.guard }], guard := some (4, true) }) (v := .bool false) rfl (by kernel_rfl) (by kernel_rfl) (by kernel_rfl) (fun _ _ _ h => h) (Or.inl ⟨by rfl, by intro W hSw; go_simp⟩) hHeld ?_
            try simp only [Act.put, List.setIfInBounds_toArray, List.set_cons_zero, List.set_cons_succ]
            refine wpAnyH_take (i := 7) (oi := { dst := some 72, op := Op.move (Operand.tmp 71), type := 4, pos := "law.go:128", after := #[{ on := 6, ground := Ground.data }, { on := 4, ground := Ground.chain }, { on := 4, ground := Ground.guard }], guard := some (4, true) }) (v := .bool false) rfl (by kernel_rfl) (by kernel_rfl) (by kernel_rfl) (fun _ _ _ h => h) (Or.inl ⟨by rfl, by intro W hSw; go_simp⟩) hHeld ?_
            try simp only [Act.put, List.setIfInBounds_toArray, List.set_cons_zero, List.set_cons_succ]
            refine wpAnyH_take (i := 8) (oi := { dst := some 73, op := Op.move (Operand.tmp 0), type := 22, pos := "law.go:128", after := #[{ on := 7, ground := Ground.guard }], guard := some (7, false) }) (v := .slice (some ⟨g, o, none⟩) len cap) rfl (by kernel_rfl) (by kernel_rfl) (by kernel_rfl) (fun _ _ _ h => h) (Or.inl ⟨by rfl, by intro W hSw; go_simp⟩) hHeld ?_
            try simp only [Act.put, List.setIfInBounds_toArray, List.set_cons_zero, List.set_cons_succ]
            refine wpAnyH_take (i := 9) (oi := { dst := some 74, op := Op.move (Operand.tmp 9), type := 3, pos := "law.go:128", after := #[{ on := 7, ground := Ground.guard }], guard := some (7, false) }) (v := .int .i64 j) rfl (by kernel_rfl) (by kernel_rfl) (by kernel_rfl) (fun _ _ _ h => h) (Or.inl ⟨by rfl, by intro W hSw; go_simp⟩) hHeld ?_
            try simp only [Act.put, List.setIfInBounds_toArray, List.set_cons_zero, List.set_cons_succ]
            refine wpAnyH_take (i := 10) (oi := { dst := some 75, op := Op.indexAddr 22 (Operand.tmp 73) (Operand.tmp 74), type := 0, pos := "law.go:128", after := #[{ on := 8, ground := Ground.data }, { on := 9, ground := Ground.data }, { on := 7, ground := Ground.guard }], guard := some (7, false) }) (v := .pointer (some ⟨g, o + 110 * j, none⟩)) rfl (by kernel_rfl) (by kernel_rfl) (by kernel_rfl) (fun _ _ _ h => h) (Or.inl ⟨by rfl, by intro W hSw; have := ix W; go_simp⟩) hHeld ?_
            try simp only [Act.put, List.setIfInBounds_toArray, List.set_cons_zero, List.set_cons_succ]
            refine wpAnyH_take (i := 11) (oi := { dst := some 76, op := Op.fieldAddr 48 (Operand.tmp 75) 1, type := 0, pos := "law.go:128", after := #[{ on := 10, ground := Ground.data }, { on := 7, ground := Ground.guard }], guard := some (7, false) }) (v := .pointer (some ⟨g, o + 110 * j + 1, none⟩)) rfl (by kernel_rfl) (by kernel_rfl) (by kernel_rfl) (fun _ _ _ h => h) (Or.inl ⟨by rfl, by intro W hSw; go_simp⟩) hHeld ?_
            try simp only [Act.put, List.setIfInBounds_toArray, List.set_cons_zero, List.set_cons_succ]
            refine wpAnyH_take (i := 12) (oi := { dst := some 77, op := Op.fieldAddr 46 (Operand.tmp 76) 4, type := 0, pos := "law.go:128", after := #[{ on := 11, ground := Ground.data }, { on := 7, ground := Ground.guard }], guard := some (7, false) }) (v := .pointer (some ⟨g, o + 110 * j + 5, none⟩)) rfl (by kernel_rfl) (by kernel_rfl) (by kernel_rfl) (fun _ _ _ h => h) (Or.inl ⟨by rfl, by intro W hSw; go_simp⟩) hHeld ?_
            try simp only [Act.put, List.setIfInBounds_toArray, List.set_cons_zero, List.set_cons_succ]
            refine wpAnyH_take (i := 13) (oi := { dst := some 78, op := Op.load 30 (Operand.tmp 77), type := 30, pos := "law.go:128", after := #[{ on := 12, ground := Ground.data }, { on := 7, ground := Ground.guard }], guard := some (7, false) }) (v := .agg R) rfl (by kernel_rfl) (by kernel_rfl) (by kernel_rfl) (fun _ _ _ h => h) (yieldsIf_mid (by rfl) 30 (.tmp 77) rfl g (o + 110 * j + 5) rfl R _ HRJ.out Tryd.underlying30 rfl HSR.out) hHeld ?_
            try simp only [Act.put, List.setIfInBounds_toArray, List.set_cons_zero, List.set_cons_succ]
            refine wpAnyH_take (i := 14) (oi := { dst := some 79, op := Op.load 30 (Operand.tmp 7), type := 30, pos := "law.go:128", after := #[{ on := 7, ground := Ground.guard }], guard := some (7, false) }) (v := .agg R) rfl (by kernel_rfl) (by kernel_rfl) (by kernel_rfl) (fun _ _ _ h => h) (yieldsIf_q (by rfl) HSR.out) hHeld ?_
            try simp only [Act.put, List.setIfInBounds_toArray, List.set_cons_zero, List.set_cons_succ]
            refine wpAnyH_take (i := 15) (oi := { dst := some 80, op := Op.binOp BinOp.eql 30 (Operand.tmp 78) (Operand.tmp 79) 30, type := 4, pos := "law.go:128", after := #[{ on := 13, ground := Ground.data }, { on := 14, ground := Ground.data }, { on := 7, ground := Ground.guard }], guard := some (7, false) }) (v := .bool true) rfl (by kernel_rfl) (by kernel_rfl) (by kernel_rfl) (fun _ _ _ h => h) (Or.inl ⟨by rfl, by intro W hSw; have := eqs W; go_simp⟩) hHeld ?_
            try simp only [Act.put, List.setIfInBounds_toArray, List.set_cons_zero, List.set_cons_succ]
            refine wpAnyH_take (i := 16) (oi := { dst := some 81, op := Op.pick (Operand.tmp 72) (Operand.const (Value.bool true)) (Operand.tmp 80), type := 4, pos := "law.go:128", after := #[{ on := 7, ground := Ground.data }, { on := 15, ground := Ground.data }, { on := 4, ground := Ground.guard }], guard := some (4, true) }) (v := .bool true) rfl (by kernel_rfl) (by kernel_rfl) (by kernel_rfl) (fun _ _ _ h => h) (Or.inl ⟨by rfl, by intro W hSw; go_simp⟩) hHeld ?_
            try simp only [Act.put, List.setIfInBounds_toArray, List.set_cons_zero, List.set_cons_succ]
            refine wpAnyH_take (i := 17) (oi := { dst := some 82, op := Op.pick (Operand.tmp 69) (Operand.tmp 81) (Operand.const (Value.bool false)), type := 4, pos := "law.go:128", after := #[{ on := 4, ground := Ground.data }, { on := 16, ground := Ground.data }], guard := none }) (v := .bool true) rfl (by kernel_rfl) (by kernel_rfl) (by kernel_rfl) (fun _ _ _ h => h) (Or.inl ⟨by rfl, by intro W hSw; go_simp⟩) hHeld ?_
            try simp only [Act.put, List.setIfInBounds_toArray, List.set_cons_zero, List.set_cons_succ]
            refine wpAnyH_take (i := 18) (oi := { dst := some 15, op := Op.assign (Operand.tmp 82), type := 4, pos := "law.go:128", after := #[{ on := 17, ground := Ground.data }, { on := 7, ground := Ground.chain }, { on := 0, ground := Ground.phase }, { on := 1, ground := Ground.phase }, { on := 2, ground := Ground.phase }, { on := 3, ground := Ground.phase }, { on := 4, ground := Ground.phase }, { on := 5, ground := Ground.phase }, { on := 6, ground := Ground.phase }, { on := 7, ground := Ground.phase }, { on := 8, ground := Ground.phase }, { on := 9, ground := Ground.phase }, { on := 10, ground := Ground.phase }, { on := 11, ground := Ground.phase }, { on := 12, ground := Ground.phase }, { on := 13, ground := Ground.phase }, { on := 14, ground := Ground.phase }, { on := 15, ground := Ground.phase }, { on := 16, ground := Ground.phase }, { on := 17, ground := Ground.phase }], guard := none }) (v := .bool true) rfl (by kernel_rfl) (by kernel_rfl) (by kernel_rfl) (fun _ _ _ h => h) (Or.inl ⟨by rfl, by intro W hSw; go_simp⟩) hHeld ?_
            try simp only [Act.put, List.setIfInBounds_toArray, List.set_cons_zero, List.set_cons_succ]
            refine wpAnyH_done (by kernel_rfl) ?_ _
            have HQ5 := hidk hHeld
            clear hHeld
            go_wp2_with fail
            refine (AD.out _ HQ5.out.b).mono ?_
            rintro x v9 ⟨rfl, hb9⟩
            have HZ9 := hidk (HQ5.out.b.trans (hb9.mono HQ5.out.b.size))
            clear hb9
            go_wp2
            go_ret
            exact ⟨rfl, HZ9.out⟩
          · obtain rfl : z = true := by rw [← Hz.out, f3]; rfl
            obtain rfl : q = (i : Int) := by rw [← Hq.out, f3]; rfl
            have di : decide ((0 : Int) ≤ (i : Int)) = true := by rw [decide_eq_true_eq]; omega
            clear f2 f3 Hz Hq
            go_wp2_with fail
            refine (P1.out _ HQ.out.b).mono ?_
            rintro x v4 ⟨rfl, hbj⟩
            have HQ4 := hidk (HQ.out.keep hbj)
            clear hbj HQ
            go_wp2_with fail
            refine wp_region_held_drew (S := (HeldQ w (some ⟨g, o, none⟩) len cap l g7 R)) (by kernel_rfl) HQ4.out.drew (fun hHeld => ?_)
            refine wpAnyH_take (i := 0) (oi := { dst := some 65, op := Op.move (Operand.tmp 8), type := 4, pos := "law.go:128", after := #[], guard := none }) (v := .bool true) rfl (by kernel_rfl) (by kernel_rfl) (by kernel_rfl) (fun _ _ _ h => h) (Or.inl ⟨by rfl, by intro W hSw; go_simp⟩) hHeld ?_
            try simp only [Act.put, List.setIfInBounds_toArray, List.set_cons_zero, List.set_cons_succ]
            refine wpAnyH_take (i := 1) (oi := { dst := some 66, op := Op.move (Operand.tmp 9), type := 3, pos := "law.go:128", after := #[], guard := none }) (v := .int .i64 j) rfl (by kernel_rfl) (by kernel_rfl) (by kernel_rfl) (fun _ _ _ h => h) (Or.inl ⟨by rfl, by intro W hSw; go_simp⟩) hHeld ?_
            try simp only [Act.put, List.setIfInBounds_toArray, List.set_cons_zero, List.set_cons_succ]
            refine wpAnyH_take (i := 2) (oi := { dst := some 67, op := Op.binOp BinOp.geq 3 (Operand.tmp 66) (Operand.const (Value.int IntKind.i64 0)) 3, type := 4, pos := "law.go:128", after := #[{ on := 1, ground := Ground.data }], guard := none }) (v := .bool true) rfl (by kernel_rfl) (by kernel_rfl) (by kernel_rfl) (fun _ _ _ h => h) (Or.inl ⟨by rfl, by intro W hSw; go_simp⟩) hHeld ?_
            try simp only [Act.put, List.setIfInBounds_toArray, List.set_cons_zero, List.set_cons_succ]
            refine wpAnyH_take (i := 3) (oi := { dst := some 68, op := Op.binOp BinOp.eql 4 (Operand.tmp 65) (Operand.tmp 67) 4, type := 4, pos := "law.go:128", after := #[{ on := 0, ground := Ground.data }, { on := 2, ground := Ground.data }], guard := none }) (v := .bool true) rfl (by kernel_rfl) (by kernel_rfl) (by kernel_rfl) (fun _ _ _ h => h) (Or.inl ⟨by rfl, by intro W hSw; go_simp⟩) hHeld ?_
            try simp only [Act.put, List.setIfInBounds_toArray, List.set_cons_zero, List.set_cons_succ]
            refine wpAnyH_take (i := 4) (oi := { dst := some 69, op := Op.move (Operand.tmp 68), type := 4, pos := "law.go:128", after := #[{ on := 3, ground := Ground.data }], guard := none }) (v := .bool true) rfl (by kernel_rfl) (by kernel_rfl) (by kernel_rfl) (fun _ _ _ h => h) (Or.inl ⟨by rfl, by intro W hSw; go_simp⟩) hHeld ?_
            try simp only [Act.put, List.setIfInBounds_toArray, List.set_cons_zero, List.set_cons_succ]
            refine wpAnyH_take (i := 5) (oi := { dst := some 70, op := Op.move (Operand.tmp 8), type := 4, pos := "law.go:128", after := #[{ on := 4, ground := Ground.guard }], guard := some (4, true) }) (v := .bool true) rfl (by kernel_rfl) (by kernel_rfl) (by kernel_rfl) (fun _ _ _ h => h) (Or.inl ⟨by rfl, by intro W hSw; go_simp⟩) hHeld ?_
            try simp only [Act.put, List.setIfInBounds_toArray, List.set_cons_zero, List.set_cons_succ]
            refine wpAnyH_take (i := 6) (oi := { dst := some 71, op := Op.unOp UnOp.not 4 (Operand.tmp 70), type := 4, pos := "law.go:128", after := #[{ on := 5, ground := Ground.data }, { on := 4, ground := Ground.guard }], guard := some (4, true) }) (v := .bool false) rfl (by kernel_rfl) (by kernel_rfl) (by kernel_rfl) (fun _ _ _ h => h) (Or.inl ⟨by rfl, by intro W hSw; go_simp⟩) hHeld ?_
            try simp only [Act.put, List.setIfInBounds_toArray, List.set_cons_zero, List.set_cons_succ]
            refine wpAnyH_take (i := 7) (oi := { dst := some 72, op := Op.move (Operand.tmp 71), type := 4, pos := "law.go:128", after := #[{ on := 6, ground := Ground.data }, { on := 4, ground := Ground.chain }, { on := 4, ground := Ground.guard }], guard := some (4, true) }) (v := .bool false) rfl (by kernel_rfl) (by kernel_rfl) (by kernel_rfl) (fun _ _ _ h => h) (Or.inl ⟨by rfl, by intro W hSw; go_simp⟩) hHeld ?_
            try simp only [Act.put, List.setIfInBounds_toArray, List.set_cons_zero, List.set_cons_succ]
            refine wpAnyH_take (i := 8) (oi := { dst := some 73, op := Op.move (Operand.tmp 0), type := 22, pos := "law.go:128", after := #[{ on := 7, ground := Ground.guard }], guard := some (7, false) }) (v := .slice (some ⟨g, o, none⟩) len cap) rfl (by kernel_rfl) (by kernel_rfl) (by kernel_rfl) (fun _ _ _ h => h) (Or.inl ⟨by rfl, by intro W hSw; go_simp⟩) hHeld ?_
            try simp only [Act.put, List.setIfInBounds_toArray, List.set_cons_zero, List.set_cons_succ]
            refine wpAnyH_take (i := 9) (oi := { dst := some 74, op := Op.move (Operand.tmp 9), type := 3, pos := "law.go:128", after := #[{ on := 7, ground := Ground.guard }], guard := some (7, false) }) (v := .int .i64 j) rfl (by kernel_rfl) (by kernel_rfl) (by kernel_rfl) (fun _ _ _ h => h) (Or.inl ⟨by rfl, by intro W hSw; go_simp⟩) hHeld ?_
            try simp only [Act.put, List.setIfInBounds_toArray, List.set_cons_zero, List.set_cons_succ]
            refine wpAnyH_take (i := 10) (oi := { dst := some 75, op := Op.indexAddr 22 (Operand.tmp 73) (Operand.tmp 74), type := 0, pos := "law.go:128", after := #[{ on := 8, ground := Ground.data }, { on := 9, ground := Ground.data }, { on := 7, ground := Ground.guard }], guard := some (7, false) }) (v := .pointer (some ⟨g, o + 110 * j, none⟩)) rfl (by kernel_rfl) (by kernel_rfl) (by kernel_rfl) (fun _ _ _ h => h) (Or.inl ⟨by rfl, by intro W hSw; have := ix W; go_simp⟩) hHeld ?_
            try simp only [Act.put, List.setIfInBounds_toArray, List.set_cons_zero, List.set_cons_succ]
            refine wpAnyH_take (i := 11) (oi := { dst := some 76, op := Op.fieldAddr 48 (Operand.tmp 75) 1, type := 0, pos := "law.go:128", after := #[{ on := 10, ground := Ground.data }, { on := 7, ground := Ground.guard }], guard := some (7, false) }) (v := .pointer (some ⟨g, o + 110 * j + 1, none⟩)) rfl (by kernel_rfl) (by kernel_rfl) (by kernel_rfl) (fun _ _ _ h => h) (Or.inl ⟨by rfl, by intro W hSw; go_simp⟩) hHeld ?_
            try simp only [Act.put, List.setIfInBounds_toArray, List.set_cons_zero, List.set_cons_succ]
            refine wpAnyH_take (i := 12) (oi := { dst := some 77, op := Op.fieldAddr 46 (Operand.tmp 76) 4, type := 0, pos := "law.go:128", after := #[{ on := 11, ground := Ground.data }, { on := 7, ground := Ground.guard }], guard := some (7, false) }) (v := .pointer (some ⟨g, o + 110 * j + 5, none⟩)) rfl (by kernel_rfl) (by kernel_rfl) (by kernel_rfl) (fun _ _ _ h => h) (Or.inl ⟨by rfl, by intro W hSw; go_simp⟩) hHeld ?_
            try simp only [Act.put, List.setIfInBounds_toArray, List.set_cons_zero, List.set_cons_succ]
            refine wpAnyH_take (i := 13) (oi := { dst := some 78, op := Op.load 30 (Operand.tmp 77), type := 30, pos := "law.go:128", after := #[{ on := 12, ground := Ground.data }, { on := 7, ground := Ground.guard }], guard := some (7, false) }) (v := .agg R) rfl (by kernel_rfl) (by kernel_rfl) (by kernel_rfl) (fun _ _ _ h => h) (yieldsIf_mid (by rfl) 30 (.tmp 77) rfl g (o + 110 * j + 5) rfl R _ HRJ.out Tryd.underlying30 rfl HSR.out) hHeld ?_
            try simp only [Act.put, List.setIfInBounds_toArray, List.set_cons_zero, List.set_cons_succ]
            refine wpAnyH_take (i := 14) (oi := { dst := some 79, op := Op.load 30 (Operand.tmp 7), type := 30, pos := "law.go:128", after := #[{ on := 7, ground := Ground.guard }], guard := some (7, false) }) (v := .agg R) rfl (by kernel_rfl) (by kernel_rfl) (by kernel_rfl) (fun _ _ _ h => h) (yieldsIf_q (by rfl) HSR.out) hHeld ?_
            try simp only [Act.put, List.setIfInBounds_toArray, List.set_cons_zero, List.set_cons_succ]
            refine wpAnyH_take (i := 15) (oi := { dst := some 80, op := Op.binOp BinOp.eql 30 (Operand.tmp 78) (Operand.tmp 79) 30, type := 4, pos := "law.go:128", after := #[{ on := 13, ground := Ground.data }, { on := 14, ground := Ground.data }, { on := 7, ground := Ground.guard }], guard := some (7, false) }) (v := .bool true) rfl (by kernel_rfl) (by kernel_rfl) (by kernel_rfl) (fun _ _ _ h => h) (Or.inl ⟨by rfl, by intro W hSw; have := eqs W; go_simp⟩) hHeld ?_
            try simp only [Act.put, List.setIfInBounds_toArray, List.set_cons_zero, List.set_cons_succ]
            refine wpAnyH_take (i := 16) (oi := { dst := some 81, op := Op.pick (Operand.tmp 72) (Operand.const (Value.bool true)) (Operand.tmp 80), type := 4, pos := "law.go:128", after := #[{ on := 7, ground := Ground.data }, { on := 15, ground := Ground.data }, { on := 4, ground := Ground.guard }], guard := some (4, true) }) (v := .bool true) rfl (by kernel_rfl) (by kernel_rfl) (by kernel_rfl) (fun _ _ _ h => h) (Or.inl ⟨by rfl, by intro W hSw; go_simp⟩) hHeld ?_
            try simp only [Act.put, List.setIfInBounds_toArray, List.set_cons_zero, List.set_cons_succ]
            refine wpAnyH_take (i := 17) (oi := { dst := some 82, op := Op.pick (Operand.tmp 69) (Operand.tmp 81) (Operand.const (Value.bool false)), type := 4, pos := "law.go:128", after := #[{ on := 4, ground := Ground.data }, { on := 16, ground := Ground.data }], guard := none }) (v := .bool true) rfl (by kernel_rfl) (by kernel_rfl) (by kernel_rfl) (fun _ _ _ h => h) (Or.inl ⟨by rfl, by intro W hSw; go_simp⟩) hHeld ?_
            try simp only [Act.put, List.setIfInBounds_toArray, List.set_cons_zero, List.set_cons_succ]
            refine wpAnyH_take (i := 18) (oi := { dst := some 15, op := Op.assign (Operand.tmp 82), type := 4, pos := "law.go:128", after := #[{ on := 17, ground := Ground.data }, { on := 7, ground := Ground.chain }, { on := 0, ground := Ground.phase }, { on := 1, ground := Ground.phase }, { on := 2, ground := Ground.phase }, { on := 3, ground := Ground.phase }, { on := 4, ground := Ground.phase }, { on := 5, ground := Ground.phase }, { on := 6, ground := Ground.phase }, { on := 7, ground := Ground.phase }, { on := 8, ground := Ground.phase }, { on := 9, ground := Ground.phase }, { on := 10, ground := Ground.phase }, { on := 11, ground := Ground.phase }, { on := 12, ground := Ground.phase }, { on := 13, ground := Ground.phase }, { on := 14, ground := Ground.phase }, { on := 15, ground := Ground.phase }, { on := 16, ground := Ground.phase }, { on := 17, ground := Ground.phase }], guard := none }) (v := .bool true) rfl (by kernel_rfl) (by kernel_rfl) (by kernel_rfl) (fun _ _ _ h => h) (Or.inl ⟨by rfl, by intro W hSw; go_simp⟩) hHeld ?_
            try simp only [Act.put, List.setIfInBounds_toArray, List.set_cons_zero, List.set_cons_succ]
            refine wpAnyH_done (by kernel_rfl) ?_ _
            have HQ5 := hidk hHeld
            clear hHeld
            go_wp2_with fail
            refine (AD.out _ HQ5.out.b).mono ?_
            rintro x v9 ⟨rfl, hb9⟩
            have HZ9 := hidk (HQ5.out.b.trans (hb9.mono HQ5.out.b.size))
            clear hb9
            go_wp2
            go_ret
            exact ⟨rfl, HZ9.out⟩
  · clear hd an h hc0 hm ir is hT Hb
    go_enter Tryd.func6, Tryd.ntmps6
    go_wp2_with fail
    refine BG.out.mono ?_
    rintro x w1 ⟨rfl, rfl⟩
    go_wp2
    go_ret
    exact ⟨rfl, Below.refl _ _⟩
end Go.Proofs.YtjalebncfnekiaaDoor
