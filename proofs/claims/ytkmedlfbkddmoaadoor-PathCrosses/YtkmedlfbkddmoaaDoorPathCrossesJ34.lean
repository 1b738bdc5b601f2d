/- Texts of our own that the row of PathCrosses leans on, part 34. -/
import Derived.Test.YtkmedlfbkddmoaaDoorPathCrossesJ0
import Derived.Test.YtkmedlfbkddmoaaDoorPathCrossesJ15
import Derived.Test.YtkmedlfbkddmoaaDoorPathCrossesJ25
import Derived.Test.YtkmedlfbkddmoaaDoorPathCrossesJ30
import Derived.Test.YtkmedlfbkddmoaaDoorPathCrossesJ31
import Derived.Test.YtkmedlfbkddmoaaDoorPathCrossesJ33
import Derived.Deep.Slices
/- Steps that came in. -/
namespace Go.Proofs.YtkmedlfbkddmoaaDoor
open Go.RowKit Sums Nums Go.ChangeShapes
set_option linter.unusedVariables false
set_option linter.unusedSimpArgs false
set_option maxRecDepth 100000
variable {H : Type} {enc : TypeId × Value → H} {W : World} {fuel : Nat} {x : DataW H × List MemPlace}
structure CmV (W : World) (v : StV) : Prop where
  i : In64 v.i
  x : CmI v.x
  h : InS v.h
  p : LReads W v.a v.n v.c v.p
  n : v.a = none → v.c = 0
theorem CmV.ok {v : StV} (h : CmV W v) : OkV v := ⟨h.x.ok, h.h.h.d, h.h.g⟩
theorem CmV.keep {W' : World} {v : StV} (h : CmV W v) (hb : Below W.heap.size W W') : CmV W' v := ⟨h.i, h.x, h.h, h.p.keep hb, h.n⟩
end Go.Proofs.YtkmedlfbkddmoaaDoor
/- The document's Big of paths. -/
namespace Go.Proofs.YtkmedlfbkddmoaaDoor
open Go.RowKit Nums Sums
set_option linter.unusedVariables false
set_option linter.unusedSimpArgs false
set_option maxRecDepth 100000
structure HeldY (w : World) (K X Y : Array Value) (V : World) : Prop where
  b : Below w.heap.size w V
  k : V.heap[w.heap.size]? = some (.cells K 23 (0, 0))
  x : V.heap[w.heap.size + 1]? = some (.cells X 46 (0, 0))
  y : V.heap[w.heap.size + 1 + 1]? = some (.cells Y 46 (0, 0))
theorem HeldY.keep {w : World} {K X Y : Array Value} {V V' : World} (h : HeldY w K X Y V) (hb : Below V.heap.size V V') : HeldY w K X Y V' :=
  ⟨h.b.trans (hb.mono h.b.size), (hb.block _ (heap_lt h.k)).trans h.k, (hb.block _ (heap_lt h.x)).trans h.x, (hb.block _ (heap_lt h.y)).trans h.y⟩
theorem lit_two (v u : StV) (ok : OkV v) (oku : OkV u) (R T : Array Value) (HR : Hid (R = (stcells v).toArray)) (HT : Hid (T = (stcells u).toArray)) (W : World) : (Instr.buildSlice 50 2 #[(0, .agg R), (1, .agg T)]).run Tryd.prog W = .ok (.slice (some ⟨W.heap.size, 0, none⟩) 2 2) (W.alloc (.cells (stL [v, u]).toArray 46)) :=
  run_build_sts W 2 [v, u] (fun x hx => by rcases List.mem_cons.1 hx with hx | hx; rw [hx]; exact ok; rw [List.mem_singleton] at hx; rw [hx]; exact oku) rfl (by omega) (by omega) _ (by rw [HR.out, HT.out]; rfl)
theorem lit_three (v u t : StV) (ok : OkV v) (oku : OkV u) (okt : OkV t) (R T Q : Array Value) (HR : Hid (R = (stcells v).toArray)) (HT : Hid (T = (stcells u).toArray)) (HQ : Hid (Q = (stcells t).toArray)) (W : World) : (Instr.buildSlice 50 3 #[(0, .agg R), (1, .agg T), (2, .agg Q)]).run Tryd.prog W = .ok (.slice (some ⟨W.heap.size, 0, none⟩) 3 3) (W.alloc (.cells (stL [v, u, t]).toArray 46)) :=
  run_build_sts W 3 [v, u, t] (fun x hx => by rcases List.mem_cons.1 hx with hx | hx; rw [hx]; exact ok; rcases List.mem_cons.1 hx with hx | hx; rw [hx]; exact oku; rw [List.mem_singleton] at hx; rw [hx]; exact okt) rfl (by omega) (by omega) _ (by rw [HR.out, HT.out, HQ.out]; rfl)
theorem InP.three {W : World} {v u t : StV} (ok : OkV v) (oku : OkV u) (okt : OkV t) (iv : In64 v.i ∧ InI v.x ∧ InS v.h) (iu : In64 u.i ∧ InI u.x ∧ InS u.h) (it : In64 t.i ∧ InI t.x ∧ InS t.h) (pv : LReads W v.a v.n v.c v.p) (pu : LReads W u.a u.n u.c u.p) (pt : LReads W t.a t.n t.c t.p) (nv : v.a = none → v.c = 0) (nu : u.a = none → u.c = 0) (nt : t.a = none → t.c = 0) : InP (W.alloc (.cells (stL [v, u, t]).toArray 46)) (some ⟨W.heap.size, 0, none⟩) 3 3 [v, u, t] := by
  have all : ∀ (P : StV → Prop), P v → P u → P t → ∀ z ∈ [v, u, t], P z := fun P h1 h2 h3 z hz => by
    rcases List.mem_cons.1 hz with hz | hz
    · rw [hz]; exact h1
    · rcases List.mem_cons.1 hz with hz | hz
      · rw [hz]; exact h2
      · rw [List.mem_singleton] at hz; rw [hz]; exact h3
  exact InP.new (n := 3) rfl (by omega) (all _ ok oku okt) (all _ iv iu it) (all _ pv pu pt) (all _ nv nu nt) _ (hidk rfl)
theorem InP.two {W : World} {v t : StV} (ok : OkV v) (okt : OkV t) (iv : In64 v.i ∧ InI v.x ∧ InS v.h) (it : In64 t.i ∧ InI t.x ∧ InS t.h) (pv : LReads W v.a v.n v.c v.p) (pt : LReads W t.a t.n t.c t.p) (nv : v.a = none → v.c = 0) (nt : t.a = none → t.c = 0) : InP (W.alloc (.cells (stL [v, t]).toArray 46)) (some ⟨W.heap.size, 0, none⟩) 2 2 [v, t] := by
  have all : ∀ (P : StV → Prop), P v → P t → ∀ z ∈ [v, t], P z := fun P h1 h2 z hz => by
    rcases List.mem_cons.1 hz with hz | hz
    · rw [hz]; exact h1
    · rw [List.mem_singleton] at hz; rw [hz]; exact h2
  exact InP.new (n := 2) rfl (by omega) (all _ ok okt) (all _ iv it) (all _ pv pt) (all _ nv nt) _ (hidk rfl)
structure HeldC (w : World) (K S3 R1 R3 I : Array Value) (g19 g20 g24 g27 g28 gs : Nat) (v1 v2 v3 : StV) (V : World) : Prop where
  m : Held17 w K V
  s : V.heap[g19]? = some (.cells S3 33 (0, 0))
  r : V.heap[g20]? = some (.cells R1 46 (0, 0))
  q : V.heap[g24]? = some (.cells R3 46 (0, 0))
  i : V.heap[g27]? = some (.cells I 43 (0, 0))
  z : V.heap[g28]? = some (.cells S3 33 (0, 0))
  p : InP V (some ⟨gs, 0, none⟩) 3 3 [v1, v2, v3]
theorem HeldC.keep {w : World} {K S3 R1 R3 I : Array Value} {g19 g20 g24 g27 g28 gs : Nat} {v1 v2 v3 : StV} {V V' : World} (h : HeldC w K S3 R1 R3 I g19 g20 g24 g27 g28 gs v1 v2 v3 V) (hb : Below V.heap.size V V') : HeldC w K S3 R1 R3 I g19 g20 g24 g27 g28 gs v1 v2 v3 V' :=
  ⟨h.m.keep hb, (hb.block _ (heap_lt h.s)).trans h.s, (hb.block _ (heap_lt h.r)).trans h.r, (hb.block _ (heap_lt h.q)).trans h.q, (hb.block _ (heap_lt h.i)).trans h.i, (hb.block _ (heap_lt h.z)).trans h.z, h.p.keep hb⟩
set_option maxHeartbeats 32000000 in
theorem pathCrosses_of (hc : HistoryC) (hd : HeadC) (pc : PathC) (z0 : List UInt8) (a1 : Option Addr) (n1 c1 : Nat) (l1 : List ItT) (a2 : Option Addr) (n2 c2 : Nat) (l2 : List ItT) (a3 : Option Addr) (n3 c3 : Nat) (l3 : List ItT) (i j k : Int) (w : World) (K : Array Value) (HK : Hid (K = (cellsOf z0).toArray)) (w0 : z0.length = 32)
    (h1 : IReads w a1 n1 c1 l1) (hn1 : a1 = none → c1 = 0) (hm1 : ∀ x ∈ l1, CmI x) (h2 : IReads w a2 n2 c2 l2) (hn2 : a2 = none → c2 = 0) (hm2 : ∀ x ∈ l2, CmI x) (h3 : IReads w a3 n3 c3 l3) (hn3 : a3 = none → c3 = 0) (hm3 : ∀ x ∈ l3, CmI x) (i64 : In64 i) (j64 : In64 j) (k64 : In64 k) (hT : TabH w) :
    Calls Tryd.prog 4 #[.agg K, .slice a1 n1 c1, .slice a2 n2 c2, .slice a3 n3 c3, .int .i64 i, .int .i64 j, .int .i64 k] w fun e w' => e = .returned (.bool true) ∧ Below w.heap.size w w' := by
  have HSK : Hid ((Tryd.prog.info? 23).map (·.size) = some K.size) := by show _ = _; rw [sizeY, HK.out]; simp [cellsOf_length, w0]
  have H0 : Hid (Held17 w K (w.alloc (.cells K 23))) := ⟨(Below.refl _ _).alloc (Nat.le_refl _) _, heap_alloc_new w _⟩
  have mx1 : n1 ≤ 9223372036854775807 := by have := h1.mx; unfold maxLen at this; omega
  have mx2 : n2 ≤ 9223372036854775807 := by have := h2.mx; unfold maxLen at this; omega
  have mx3 : n3 ≤ 9223372036854775807 := by have := h3.mx; unfold maxLen at this; omega
  have PT : Hid (∀ W, Below w.heap.size w W → Calls Tryd.prog 10 #[] W fun e w' => e = .returned (.bool true) ∧ Below W.heap.size W w') := fun W hb => paths_true hc hd pc W (hT.keep hb)
  obtain ⟨b1, Hb1⟩ : ∃ b, Hid (bigL l1 = b) := ⟨_, hidk rfl⟩
  have BG1 : Hid (∀ W, Below w.heap.size w W → Calls Tryd.prog 7 #[.slice a1 n1 c1] W fun x w' => x = .returned (.bool b1) ∧ W = w') := fun W hb => by
    rw [← Hb1.out]
    exact refBig_any a1 n1 c1 l1 W (h1.keep hb) (fun x hx => (hm1 x hx).e.t)
  have CK1 : b1 = false → Hid (∀ W, Below w.heap.size w W → Calls Tryd.prog 13 #[.slice a1 n1 c1] W fun e w' => e = .returned (.int .i64 (chkE l1)) ∧ Below W.heap.size W w') := fun hb0 W hb => hc.check a1 n1 c1 l1 W ((inL_of14 h1 hn1 hm1 (Hb1.out.trans hb0)).keep hb)
  obtain ⟨b2, Hb2⟩ : ∃ b, Hid (bigL l2 = b) := ⟨_, hidk rfl⟩
  have BG2 : Hid (∀ W, Below w.heap.size w W → Calls Tryd.prog 7 #[.slice a2 n2 c2] W fun x w' => x = .returned (.bool b2) ∧ W = w') := fun W hb => by
    rw [← Hb2.out]
    exact refBig_any a2 n2 c2 l2 W (h2.keep hb) (fun x hx => (hm2 x hx).e.t)
  have CK2 : b2 = false → Hid (∀ W, Below w.heap.size w W → Calls Tryd.prog 13 #[.slice a2 n2 c2] W fun e w' => e = .returned (.int .i64 (chkE l2)) ∧ Below W.heap.size W w') := fun hb0 W hb => hc.check a2 n2 c2 l2 W ((inL_of14 h2 hn2 hm2 (Hb2.out.trans hb0)).keep hb)
  obtain ⟨b3, Hb3⟩ : ∃ b, Hid (bigL l3 = b) := ⟨_, hidk rfl⟩
  have BG3 : Hid (∀ W, Below w.heap.size w W → Calls Tryd.prog 7 #[.slice a3 n3 c3] W fun x w' => x = .returned (.bool b3) ∧ W = w') := fun W hb => by
    rw [← Hb3.out]
    exact refBig_any a3 n3 c3 l3 W (h3.keep hb) (fun x hx => (hm3 x hx).e.t)
  have CK3 : b3 = false → Hid (∀ W, Below w.heap.size w W → Calls Tryd.prog 13 #[.slice a3 n3 c3] W fun e w' => e = .returned (.int .i64 (chkE l3)) ∧ Below W.heap.size W w') := fun hb0 W hb => hc.check a3 n3 c3 l3 W ((inL_of14 h3 hn3 hm3 (Hb3.out.trans hb0)).keep hb)
  -- the way through
  have GO : Hid (b1 = false → b2 = false → b3 = false → 0 ≤ i → i < n1 → 0 ≤ j → j ≤ n2 → 0 ≤ k → k ≤ n3 → rightL l1 = true → rightL l2 = true → rightL l3 = true →
      ∃ (s1 s2 s3 : SgT) (S1 S2 S3 I : Array Value) (l22 l33 : List ItT) (P1 P2 P3 : StT) (V1 V2 V3 : Option Addr → Nat → StV),
        (∀ S ∈ [S1, S2, S3], Hid ((Tryd.prog.info? 33).map (·.size) = some S.size) ∧ Hid (S.all (·.oneCell') = true) ∧ Hid (S.size = 69)) ∧
        (Hid ((Tryd.prog.info? 43).map (·.size) = some I.size) ∧ Hid (I.all (·.oneCell') = true) ∧ Hid (I.size = 110)) ∧
        (∀ W, (binOp .eql 43 (.agg I) (.agg I)).run Tryd.prog W = .ok (.bool true) W) ∧ (∀ W, (binOp .eql 33 (.agg S3) (.agg S3)).run Tryd.prog W = .ok (.bool true) W) ∧
        Hid (∀ W, Below w.heap.size w W → Calls Tryd.prog 14 #[.agg K, .slice a1 n1 c1, .int .i64 1] W fun e w' => e = .returned (.agg S1) ∧ Below W.heap.size W w') ∧
        Hid (∀ W, Below w.heap.size w W → Calls Tryd.prog 15 #[.slice a2 n2 c2, .int .i64 j, .agg S1] W fun e w' => ∃ aa ca, e = .returned (.slice aa (n2 + 1) ca) ∧ InL w' aa (n2 + 1) ca l22 ∧ Below W.heap.size W w') ∧
        Hid (∀ W aa ca, Below w.heap.size w W → InL W aa (n2 + 1) ca l22 → Calls Tryd.prog 14 #[.agg K, .slice aa (n2 + 1) ca, .int .i64 2] W fun e w' => e = .returned (.agg S2) ∧ Below W.heap.size W w') ∧
        Hid (∀ W, Below w.heap.size w W → Calls Tryd.prog 15 #[.slice a3 n3 c3, .int .i64 k, .agg S2] W fun e w' => ∃ aa ca, e = .returned (.slice aa (n3 + 1) ca) ∧ InL w' aa (n3 + 1) ca l33 ∧ Below W.heap.size W w') ∧
        Hid (∀ W aa ca, Below w.heap.size w W → InL W aa (n3 + 1) ca l33 → Calls Tryd.prog 14 #[.agg K, .slice aa (n3 + 1) ca, .int .i64 3] W fun e w' => e = .returned (.agg S3) ∧ Below W.heap.size W w') ∧
        Hid (∀ W, Below w.heap.size w W → Calls Tryd.prog 11 #[.slice a1 n1 c1, .int .i64 i, .agg S1] W fun e w' => ∃ x cx, e = .returned (.tuple #[.agg (stcells (V1 x cx)).toArray, .int .i64 0]) ∧ LReads w' (V1 x cx).a (V1 x cx).n (V1 x cx).c (V1 x cx).p ∧ ((V1 x cx).a = none → (V1 x cx).c = 0) ∧ Below W.heap.size W w') ∧
        Hid (∀ W aa ca, Below w.heap.size w W → InL W aa (n2 + 1) ca l22 → Calls Tryd.prog 11 #[.slice aa (n2 + 1) ca, .int .i64 j, .agg S2] W fun e w' => ∃ x cx, e = .returned (.tuple #[.agg (stcells (V2 x cx)).toArray, .int .i64 0]) ∧ LReads w' (V2 x cx).a (V2 x cx).n (V2 x cx).c (V2 x cx).p ∧ ((V2 x cx).a = none → (V2 x cx).c = 0) ∧ Below W.heap.size W w') ∧
        Hid (∀ W aa ca, Below w.heap.size w W → InL W aa (n3 + 1) ca l33 → Calls Tryd.prog 11 #[.slice aa (n3 + 1) ca, .int .i64 k, .agg S3] W fun e w' => ∃ x cx, e = .returned (.tuple #[.agg (stcells (V3 x cx)).toArray, .int .i64 0]) ∧ LReads w' (V3 x cx).a (V3 x cx).n (V3 x cx).c (V3 x cx).p ∧ ((V3 x cx).a = none → (V3 x cx).c = 0) ∧ Below W.heap.size W w') ∧
        (∀ x cx, OkV (V1 x cx) ∧ In64 (V1 x cx).i ∧ InI (V1 x cx).x ∧ InS (V1 x cx).h) ∧ (∀ x cx, OkV (V2 x cx) ∧ In64 (V2 x cx).i ∧ InI (V2 x cx).x ∧ InS (V2 x cx).h) ∧ (∀ x cx, OkV (V3 x cx) ∧ In64 (V3 x cx).i ∧ InI (V3 x cx).x ∧ InS (V3 x cx).h) ∧
        Hid (∀ W g x1 y1 x2 y2 x3 y3, InP W (some ⟨g, 0, none⟩) 3 3 [V1 x1 y1, V2 x2 y2, V3 x3 y3] → Calls Tryd.prog 16 #[.slice (some ⟨g, 0, none⟩) 3 3] W fun e w' => e = .returned (.tuple #[.agg I, .agg S3, .int .i64 0]) ∧ Below W.heap.size W w') ∧
        Hid (∀ W g x1 y1 x2 y2 x3 y3, Below w.heap.size w W → InP W (some ⟨g, 0, none⟩) 3 3 [V1 x1 y1, V2 x2 y2, V3 x3 y3] → Calls Tryd.prog 12 #[.agg K, .slice (some ⟨g, 0, none⟩) 3 3] W fun e w' => e = .returned (.int .i64 0) ∧ Below W.heap.size W w') ∧
        Hid (∀ W g x1 y1 x3 y3, Below w.heap.size w W → InP W (some ⟨g, 0, none⟩) 2 2 [V1 x1 y1, V3 x3 y3] → Calls Tryd.prog 12 #[.agg K, .slice (some ⟨g, 0, none⟩) 2 2] W fun e w' => e = .returned (.int .i64 130) ∧ Below W.heap.size W w') ∧
        Hid (∃ g o m, a1 = some ⟨g, o, none⟩ ∧ i = (m : Nat) ∧ m < n1 ∧ g < w.heap.size ∧ w.rangeAt g (o + 110 * m) I.toList)) := fun e1 e2 e3 i0 i1 j0 j1 k0 k1 r1 r2 r3 => by
    have in1 := inL_of14 h1 hn1 hm1 (Hb1.out.trans e1)
    have in2 := inL_of14 h2 hn2 hm2 (Hb2.out.trans e2)
    have in3 := inL_of14 h3 hn3 hm3 (Hb3.out.trans e3)
    have q1 := h1.ln
    have q2 := h2.ln
    have q3 := h3.ln
    have b1' := (bigL_false (Hb1.out.trans e1)).1
    have b2' := (bigL_false (Hb2.out.trans e2)).1
    have b3' := (bigL_false (Hb3.out.trans e3)).1
    obtain ⟨m, hm⟩ : ∃ m : Nat, i = m := ⟨i.toNat, by omega⟩
    obtain ⟨jn, hj⟩ : ∃ m : Nat, j = m := ⟨j.toNat, by omega⟩
    obtain ⟨kn, hk⟩ : ∃ m : Nat, k = m := ⟨k.toNat, by omega⟩
    obtain ⟨s1, es1⟩ : ∃ s, s = sgK z0 l1 1 := ⟨_, rfl⟩
    obtain ⟨x1, x2, x3, x4⟩ := sgK_all z0 r1 (r := 1) (by omega)
    rw [← es1] at x1 x2 x3 x4
    obtain ⟨l22, el2⟩ : ∃ l, l = insL l2 jn s1 := ⟨_, rfl⟩
    have r22 : rightL l22 = true := by rw [el2]; exact right_ins r2 (by omega) (by omega) x2
    have n22 : l22.length = n2 + 1 := by rw [el2, insL_length _ _ _ (by omega), q2]
    obtain ⟨s2, es2⟩ : ∃ s, s = sgK z0 l22 2 := ⟨_, rfl⟩
    obtain ⟨y1, y2, y3, y4⟩ := sgK_all z0 r22 (r := 2) (by omega)
    rw [← es2] at y1 y2 y3 y4
    obtain ⟨l33, el3⟩ : ∃ l, l = insL l3 kn s2 := ⟨_, rfl⟩
    have r33 : rightL l33 = true := by rw [el3]; exact right_ins r3 (by omega) (by omega) y2
    have n33 : l33.length = n3 + 1 := by rw [el3, insL_length _ _ _ (by omega), q3]
    obtain ⟨s3, es3⟩ : ∃ s, s = sgK z0 l33 3 := ⟨_, rfl⟩
    obtain ⟨z1, z2, z3, z4⟩ := sgK_all z0 r33 (r := 3) (by omega)
    rw [← es3] at z1 z2 z3 z4
    obtain ⟨S1, HS1, HSS1, H1S1, N1⟩ := sign_row s1 x4.h.d x4.g
    obtain ⟨S2, HS2, HSS2, H1S2, N2⟩ := sign_row s2 y4.h.d y4.g
    obtain ⟨S3, HS3, HSS3, H1S3, N3⟩ := sign_row s3 z4.h.d z4.g
    have mk1 : mkE l1 i s1 = 0 := by rw [mk_head r1 ⟨by omega, Int.le_refl _⟩ x1 x2, if_pos (by omega)]
    have mk2 : mkE l22 j s2 = 0 := by rw [mk_head r22 ⟨by omega, Int.le_refl _⟩ y1 y2, if_pos (by omega)]
    have mk3 : mkE l33 k s3 = 0 := by rw [mk_head r33 ⟨by omega, Int.le_refl _⟩ z1 z2, if_pos (by omega)]
    have wr1 := made_step mk1 x3
    have wr2 := made_step mk2 y3
    have wr3 := made_step mk3 z3
    have t1 := mkT_eq mk1 (by omega)
    have t2 := mkT_eq mk2 (by omega)
    have t3 := mkT_eq mk3 (by omega)
    have it2 : (mkT l22 j s2).x = anI (insE l2 jn) s1 := by
      rw [t2]
      show l22[j.toNat] = _
      have := insL_at l2 jn s1 (by omega)
      rw [← el2, List.getElem?_eq_getElem (by omega)] at this
      have ej : j.toNat = jn := by omega
      simp only [ej]
      exact Option.some.inj this
    have it3 : (mkT l33 k s3).x = anI (insE l3 kn) s2 := by
      rw [t3]
      show l33[k.toNat] = _
      have := insL_at l3 kn s2 (by omega)
      rw [← el3, List.getElem?_eq_getElem (by omega)] at this
      have ej : k.toNat = kn := by omega
      simp only [ej]
      exact Option.some.inj this
    have hh1 : (mkT l1 i s1).h = s1 := by rw [t1]
    have hh2 : (mkT l22 j s2).h = s2 := by rw [t2]
    have hh3 : (mkT l33 k s3).h = s3 := by rw [t3]
    have p3 : pathE z0 [mkT l1 i s1, mkT l22 j s2, mkT l33 k s3] = 0 := path_three wr1 wr2 wr3 (by rw [it2]; rfl) (by rw [it2, hh1]; rfl) (by rw [it3]; rfl) (by rw [it3, hh2]; rfl)
    have p2 : pathE z0 [mkT l1 i s1, mkT l33 k s3] = 130 := path_skip wr1 wr3 (by
      rw [it3, hh1]
      show s2 ≠ s1
      intro e
      have e1 : s2.h.r = 2 := by rw [y1]; rfl
      have e2 : s1.h.r = 1 := by rw [x1]; rfl
      rw [e] at e1
      omega)
    have hml : m < l1.length := by omega
    obtain ⟨I, HI, HSI, H1I, NI⟩ := item_row l1[m] (h1.ok _ (List.getElem_mem hml))
    have ix1 : (mkT l1 i s1).x = l1[m] := by
      rw [t1]
      show l1[i.toNat] = _
      have ei : i.toNat = m := by omega
      simp only [ei]
    have ok22 : ∀ W aa ca, InL W aa (n2 + 1) ca l22 → ∀ x ∈ l22, InI x := fun W aa ca h => h.its
    have its22 : ∀ x ∈ l22, InI x := fun x hx => by
      rw [el2] at hx
      unfold insL at hx
      rcases List.mem_append.1 hx with hx | hx
      · exact in2.its x (List.mem_of_mem_take hx)
      · rcases List.mem_cons.1 hx with hx | hx
        · rw [hx]; exact anI_in14 (insE_bounds r2 (by omega)) x4
        · exact in2.its x (List.mem_of_mem_drop hx)
    have its33 : ∀ x ∈ l33, InI x := fun x hx => by
      rw [el3] at hx
      unfold insL at hx
      rcases List.mem_append.1 hx with hx | hx
      · exact in3.its x (List.mem_of_mem_take hx)
      · rcases List.mem_cons.1 hx with hx | hx
        · rw [hx]; exact anI_in14 (insE_bounds r3 (by omega)) y4
        · exact in3.its x (List.mem_of_mem_drop hx)
    refine ⟨s1, s2, s3, S1, S2, S3, I, l22, l33, mkT l1 i s1, mkT l22 j s2, mkT l33 k s3, mkV l1 i s1, mkV l22 j s2, mkV l33 k s3, ?_, ⟨HSI, H1I, NI⟩, fun W => eqItem _ _ (h1.ok _ (List.getElem_mem hml)) (h1.ok _ (List.getElem_mem hml)) I I HI HI true (by simp) W, fun W => eqSigned _ _ z4.h.d z4.h.d z4.g z4.g S3 S3 HS3 HS3 true (by simp) W, fun W hb => ?_, fun W hb => ?_, fun W aa ca hb hi => ?_, fun W hb => ?_, fun W aa ca hb hi => ?_, fun W hb => ?_, fun W aa ca hb hi => ?_, fun W aa ca hb hi => ?_, fun x cx => mkV_in x cx i64 in1.its x4, fun x cx => mkV_in x cx j64 its22 y4, fun x cx => mkV_in x cx k64 its33 z4, fun W g u1 v1 u2 v2 u3 v3 hi => ?_, fun W g u1 v1 u2 v2 u3 v3 hb hi => ?_, fun W g u1 v1 u3 v3 hb hi => ?_, ?_⟩
    · intro S hS
      rcases List.mem_cons.1 hS with e | hS
      · rw [e]; exact ⟨HSS1, H1S1, N1⟩
      · rcases List.mem_cons.1 hS with e | hS
        · rw [e]; exact ⟨HSS2, H1S2, N2⟩
        · rw [List.mem_singleton] at hS; rw [hS]; exact ⟨HSS3, H1S3, N3⟩
    · exact signedK_any hc hd z0 a1 n1 c1 l1 1 W K S1 HK (by show _ = _; rw [HS1.out, es1]) w0 (in1.keep hb) r1 (by omega) (hT.keep hb)
    · rw [hj, el2]
      exact with_any a2 n2 c2 l2 jn s1 W (in2.keep hb) r2 (by omega) (by omega) x4 S1 HS1
    · exact signedK_any hc hd z0 aa (n2 + 1) ca l22 2 W K S2 HK (by show _ = _; rw [HS2.out, es2]) w0 hi r22 (by omega) (hT.keep hb)
    · rw [hk, el3]
      exact with_any a3 n3 c3 l3 kn s2 W (in3.keep hb) r3 (by omega) (by omega) y4 S2 HS2
    · exact signedK_any hc hd z0 aa (n3 + 1) ca l33 3 W K S3 HK (by show _ = _; rw [HS3.out, es3]) w0 hi r33 (by omega) (hT.keep hb)
    · refine (pc.make a1 n1 c1 l1 i s1 W (in1.keep hb) i64 x4 S1 HS1 (hT.keep hb)).mono ?_
      rintro e w' ⟨x, cx, rfl, g1, g2, g3, g4⟩
      exact ⟨x, cx, by rw [mk1], g1, g2, g4⟩
    · refine (pc.make aa (n2 + 1) ca l22 j s2 W hi j64 y4 S2 HS2 (hT.keep hb)).mono ?_
      rintro e w' ⟨x, cx, rfl, g1, g2, g3, g4⟩
      exact ⟨x, cx, by rw [mk2], g1, g2, g4⟩
    · refine (pc.make aa (n3 + 1) ca l33 k s3 W hi k64 z4 S3 HS3 (hT.keep hb)).mono ?_
      rintro e w' ⟨x, cx, rfl, g1, g2, g3, g4⟩
      exact ⟨x, cx, by rw [mk3], g1, g2, g4⟩
    · refine pc.ends _ 3 3 _ W hi I S3 ?_ ?_
      · show _ = _
        rw [HI.out, ← ix1]
        rfl
      · show _ = _
        rw [HS3.out]
        conv => lhs; rw [← hh3]
        rfl
    · have := pc.verify z0 _ 3 3 _ W K HK w0 hi (hT.keep hb)
      rwa [show ([mkV l1 i s1 u1 v1, mkV l22 j s2 u2 v2, mkV l33 k s3 u3 v3] : List StV).map StV.t = [mkT l1 i s1, mkT l22 j s2, mkT l33 k s3] from rfl, p3] at this
    · have := pc.verify z0 _ 2 2 _ W K HK w0 hi (hT.keep hb)
      rwa [show ([mkV l1 i s1 u1 v1, mkV l33 k s3 u3 v3] : List StV).map StV.t = [mkT l1 i s1, mkT l33 k s3] from rfl, p2] at this
    · obtain ⟨g, o, ea, hg⟩ := h1.at (by omega)
      subst ea
      refine ⟨g, o, m, rfl, hm, by omega, hg, ?_⟩
      rw [HI.out]
      exact h1.range m hml
  have ck : ∀ l : List ItT, chkE l = 0 ∨ chkE l = 100 := fun l => by unfold chkE; split; exact .inl rfl; exact .inr rfl
  have cr : ∀ l : List ItT, chkE l = 0 → rightL l = true := fun l h => by
    by_cases hr : rightL l = true
    · exact hr
    · unfold chkE at h; rw [if_neg hr] at h; omega
  obtain ⟨d1, D1⟩ : ∃ d, Hid (chkE l1 = d) := ⟨_, hidk rfl⟩
  obtain ⟨d2, D2⟩ : ∃ d, Hid (chkE l2 = d) := ⟨_, hidk rfl⟩
  obtain ⟨d3, D3⟩ : ∃ d, Hid (chkE l3 = d) := ⟨_, hidk rfl⟩
  have HD1 : Hid (d1 = 0 → rightL l1 = true) := fun h => cr l1 (D1.out.trans h)
  have HD2 : Hid (d2 = 0 → rightL l2 = true) := fun h => cr l2 (D2.out.trans h)
  have HD3 : Hid (d3 = 0 → rightL l3 = true) := fun h => cr l3 (D3.out.trans h)
  rw [D1.out] at CK1
  rw [D2.out] at CK2
  rw [D3.out] at CK3
  have HC1 := hidk CK1
  have HC2 := hidk CK2
  have HC3 := hidk CK3
  obtain ⟨ZS, HZS, HAS, HBS, H69⟩ := noughtsS
  obtain ⟨ZI, HZI, HAI, HBI, H110⟩ := noughtsI
  obtain ⟨ZT, HZT, HAT, HBT, H181⟩ := noughtsSt
  clear CK1 CK2 CK3 D1 D2 D3 ck cr hc hd pc HK w0 h1 hn1 hm1 h2 hn2 hm2 h3 hn3 hm3 i64 j64 k64 hT Hb1 Hb2 Hb3 HZS HZI HZT HBS HBI HBT
  go_enter Tryd.func4, Tryd.ntmps4
  go_wp2_with fail
  refine (BG1.out _ H0.out.b).mono ?_
  rintro e w1 ⟨rfl, rfl⟩
  clear BG1
  cases b1
  case true =>
    clear GO HC1 HC2 HC3 HD1 HD2 HD3
    go_wp2_with fail
    refine (PT.out _ H0.out.b).mono ?_
    rintro e w9 ⟨rfl, hb9⟩
    have HB9 := hidk (H0.out.keep hb9).b
    clear hb9
    go_wp2
    go_ret
    exact ⟨rfl, HB9.out⟩
  go_wp2_with fail
  refine (BG2.out _ H0.out.b).mono ?_
  rintro e w1 ⟨rfl, rfl⟩
  clear BG2
  cases b2
  case true =>
    clear GO HC1 HC2 HC3 HD1 HD2 HD3
    go_wp2_with fail
    refine (PT.out _ H0.out.b).mono ?_
    rintro e w9 ⟨rfl, hb9⟩
    have HB9 := hidk (H0.out.keep hb9).b
    clear hb9
    go_wp2
    go_ret
    exact ⟨rfl, HB9.out⟩
  go_wp2_with fail
  refine (BG3.out _ H0.out.b).mono ?_
  rintro e w1 ⟨rfl, rfl⟩
  clear BG3
  cases b3
  case true =>
    clear GO HC1 HC2 HC3 HD1 HD2 HD3
    go_wp2_with fail
    refine (PT.out _ H0.out.b).mono ?_
    rintro e w9 ⟨rfl, hb9⟩
    have HB9 := hidk (H0.out.keep hb9).b
    clear hb9
    go_wp2
    go_ret
    exact ⟨rfl, HB9.out⟩
  by_cases hz : n1 = 0
  · subst hz
    clear GO HC1 HC2 HC3 HD1 HD2 HD3
    go_wp2_with fail
    refine (PT.out _ H0.out.b).mono ?_
    rintro e w9 ⟨rfl, hb9⟩
    have HB9 := hidk (H0.out.keep hb9).b
    clear hb9
    go_wp2
    go_ret
    exact ⟨rfl, HB9.out⟩
  have nz : ((n1 : Int) == 0) = false := by rw [beq_eq_false_iff_ne]; omega
  by_cases hi0 : i < 0
  · have dhi0 : decide (i < 0) = true := decide_eq_true hi0
    clear GO HC1 HC2 HC3 HD1 HD2 HD3
    go_wp2_with fail
    refine (PT.out _ H0.out.b).mono ?_
    rintro e w9 ⟨rfl, hb9⟩
    have HB9 := hidk (H0.out.keep hb9).b
    clear hb9
    go_wp2
    go_ret
    exact ⟨rfl, HB9.out⟩
  have dhi0 : decide (i < 0) = false := decide_eq_false hi0
  by_cases hi1 : (n1 : Int) ≤ i
  · have dhi1 : decide ((n1 : Int) ≤ i) = true := decide_eq_true hi1
    clear GO HC1 HC2 HC3 HD1 HD2 HD3
    go_wp2_with fail
    refine (PT.out _ H0.out.b).mono ?_
    rintro e w9 ⟨rfl, hb9⟩
    have HB9 := hidk (H0.out.keep hb9).b
    clear hb9
    go_wp2
    go_ret
    exact ⟨rfl, HB9.out⟩
  have dhi1 : decide ((n1 : Int) ≤ i) = false := decide_eq_false hi1
  by_cases hj0 : j < 0
  · have dhj0 : decide (j < 0) = true := decide_eq_true hj0
    clear GO HC1 HC2 HC3 HD1 HD2 HD3
    go_wp2_with fail
    refine (PT.out _ H0.out.b).mono ?_
    rintro e w9 ⟨rfl, hb9⟩
    have HB9 := hidk (H0.out.keep hb9).b
    clear hb9
    go_wp2
    go_ret
    exact ⟨rfl, HB9.out⟩
  have dhj0 : decide (j < 0) = false := decide_eq_false hj0
  by_cases hj1 : (n2 : Int) < j
  · have dhj1 : decide ((n2 : Int) < j) = true := decide_eq_true hj1
    clear GO HC1 HC2 HC3 HD1 HD2 HD3
    go_wp2_with fail
    refine (PT.out _ H0.out.b).mono ?_
    rintro e w9 ⟨rfl, hb9⟩
    have HB9 := hidk (H0.out.keep hb9).b
    clear hb9
    go_wp2
    go_ret
    exact ⟨rfl, HB9.out⟩
  have dhj1 : decide ((n2 : Int) < j) = false := decide_eq_false hj1
  by_cases hk0 : k < 0
  · have dhk0 : decide (k < 0) = true := decide_eq_true hk0
    clear GO HC1 HC2 HC3 HD1 HD2 HD3
    go_wp2_with fail
    refine (PT.out _ H0.out.b).mono ?_
    rintro e w9 ⟨rfl, hb9⟩
    have HB9 := hidk (H0.out.keep hb9).b
    clear hb9
    go_wp2
    go_ret
    exact ⟨rfl, HB9.out⟩
  have dhk0 : decide (k < 0) = false := decide_eq_false hk0
  by_cases hk1 : (n3 : Int) < k
  · have dhk1 : decide ((n3 : Int) < k) = true := decide_eq_true hk1
    clear GO HC1 HC2 HC3 HD1 HD2 HD3
    go_wp2_with fail
    refine (PT.out _ H0.out.b).mono ?_
    rintro e w9 ⟨rfl, hb9⟩
    have HB9 := hidk (H0.out.keep hb9).b
    clear hb9
    go_wp2
    go_ret
    exact ⟨rfl, HB9.out⟩
  have dhk1 : decide ((n3 : Int) < k) = false := decide_eq_false hk1
  have CC1 := hidk ((HC1.out (by trivial)).out _ H0.out.b)
  go_wp2_with fail
  refine CC1.out.mono ?_
  rintro e v1 ⟨rfl, hb1⟩
  have G1 := hidk (H0.out.keep hb1)
  clear hb1 CC1 HC1
  by_cases hd1 : d1 = 0
  case neg =>
    have nd : (d1 != 0) = true := by simp [hd1]
    clear GO HC2 HC3 HD1 HD2 HD3
    go_wp2_with fail
    refine (PT.out _ G1.out.b).mono ?_
    rintro e w9 ⟨rfl, hb9⟩
    have HB9 := hidk (G1.out.keep hb9).b
    clear hb9
    go_wp2
    go_ret
    exact ⟨rfl, HB9.out⟩
  have R1 := HD1.out hd1
  clear HD1
  subst hd1
  have CC2 := hidk ((HC2.out (by trivial)).out _ G1.out.b)
  go_wp2_with fail
  refine CC2.out.mono ?_
  rintro e v2 ⟨rfl, hb2⟩
  have G2 := hidk (G1.out.keep hb2)
  clear hb2 CC2 HC2
  by_cases hd2 : d2 = 0
  case neg =>
    have nd : (d2 != 0) = true := by simp [hd2]
    clear GO HC3 HD2 HD3
    go_wp2_with fail
    refine (PT.out _ G2.out.b).mono ?_
    rintro e w9 ⟨rfl, hb9⟩
    have HB9 := hidk (G2.out.keep hb9).b
    clear hb9
    go_wp2
    go_ret
    exact ⟨rfl, HB9.out⟩
  have R2 := HD2.out hd2
  clear HD2
  subst hd2
  have CC3 := hidk ((HC3.out (by trivial)).out _ G2.out.b)
  go_wp2_with fail
  refine CC3.out.mono ?_
  rintro e v3 ⟨rfl, hb3⟩
  have G3 := hidk (G2.out.keep hb3)
  clear hb3 CC3 HC3
  by_cases hd3 : d3 = 0
  case neg =>
    have nd : (d3 != 0) = true := by simp [hd3]
    clear GO HD3
    go_wp2_with fail
    refine (PT.out _ G3.out.b).mono ?_
    rintro e w9 ⟨rfl, hb9⟩
    have HB9 := hidk (G3.out.keep hb9).b
    clear hb9
    go_wp2
    go_ret
    exact ⟨rfl, HB9.out⟩
  have R3 := HD3.out hd3
  clear HD3
  subst hd3
  obtain ⟨s1, s2, s3, S1, S2, S3, I, l22, l33, P1, P2, P3, V1, V2, V3, HSa, ⟨HSI, H1I, N110⟩, eqi, eqs, SG1, WT2, SG2, WT3, SG3, MK1, MK2, MK3, OV1, OV2, OV3, EN3, VE3, VE2, RN⟩ := GO.out (by trivial) (by trivial) (by trivial) (by omega) (by omega) (by omega) (by omega) (by omega) (by omega) R1 R2 R3
  obtain ⟨HSS1, H1S1, N1⟩ := HSa S1 (by simp)
  obtain ⟨HSS2, H1S2, N2⟩ := HSa S2 (by simp)
  obtain ⟨HSS3, H1S3, N3⟩ := HSa S3 (by simp)
  have HZ1 : Hid (ZS.size = S1.size) := by show _ = _; rw [H69.out, N1.out]
  have HZ2 : Hid (ZS.size = S2.size) := by show _ = _; rw [H69.out, N2.out]
  have HZ3 : Hid (ZS.size = S3.size) := by show _ = _; rw [H69.out, N3.out]
  have HZII : Hid (ZI.size = I.size) := by show _ = _; rw [H110.out, N110.out]
  have HOV1 := hidk OV1
  have HOV2 := hidk OV2
  have HOV3 := hidk OV3
  have HRN := hidk RN.out
  clear HSa GO R1 R2 R3 hi0 hi1 hj0 hj1 hk0 hk1 nz dhi0 dhi1 dhj0 dhj1 dhk0 dhk1 hz N1 N2 N3 OV1 OV2 OV3 RN H0
  go_wp2_with (first
    | ((with_reducible show aD 91 _ _ _ _ _ _ _ _ _ _ _); refine wpList_load_row_w (by rfl) 23 (.tmp 7) rfl w.heap.size rfl 23 K (0, 0) _ G3.out.k Tryd.underlying23 rfl HSK.out ?_; try simp only [Act.put, pS1, pS2, pS3])
    | fail)
  refine (SG1.out _ G3.out.b).mono ?_
  rintro e x1 ⟨rfl, hx1⟩
  have H_1 := hidk (G3.out.keep hx1)
  clear hx1 G3 SG1 G1 G2
  go_wp2_with (first
    | ((with_reducible show aD 15 _ _ _ _ _ _ _ _ _ _ _); refine wpList_new_var rfl 33 rfl ZS HAS.out ?_; intro g15 x2 HM15; have HN15 := hidk HM15.out.row; try simp only [Act.put, pS1, pS2, pS3])
    | (refine wpList_set_var rfl 33 (.tmp 15) (.tmp 93) rfl g15 S1 rfl rfl 33 ZS HN15.out HSS1.out HZ1.out H1S1.out ?_; intro x3 HW15; have hb15 : Below x1.heap.size x1 x3 := HW15.out.below _ _ HM15.out.below (by rw [HM15.out.new]; exact Nat.le_refl _); have H_2 := hidk (H_1.out.keep hb15); have RS15_2 := hidk HW15.out.row; clear hb15; try simp only [Act.put, pS1, pS2, pS3])
    | ((with_reducible show aD 96 _ _ _ _ _ _ _ _ _ _ _); refine wpList_load_row_w (by rfl) 33 (.tmp 15) rfl g15 rfl 33 S1 (0, 0) _ RS15_2.out Tryd.underlying33 rfl HSS1.out ?_; try simp only [Act.put, pS1, pS2, pS3])
    | fail)
  clear HM15 HN15 HW15 H_1
  refine (WT2.out _ H_2.out.b).mono ?_
  rintro e x4 ⟨aa, ca, rfl, hin, hx4⟩
  have H_3 := hidk (H_2.out.keep hx4)
  have RS15_3 := hidk ((hx4.block _ (heap_lt RS15_2.out)).trans RS15_2.out)
  have IN16_0 := hidk hin
  clear hin
  clear hx4 H_2 RS15_2 WT2
  go_wp2_with (first
    | ((with_reducible show aD 98 _ _ _ _ _ _ _ _ _ _ _); refine wpList_load_row_w (by rfl) 23 (.tmp 7) rfl w.heap.size rfl 23 K (0, 0) _ H_3.out.k Tryd.underlying23 rfl HSK.out ?_; try simp only [Act.put, pS1, pS2, pS3])
    | fail)
  refine (SG2.out _ _ _ H_3.out.b IN16_0.out).mono ?_
  rintro e x5 ⟨rfl, hx5⟩
  have H_4 := hidk (H_3.out.keep hx5)
  have RS15_4 := hidk ((hx5.block _ (heap_lt RS15_3.out)).trans RS15_3.out)
  have IN16_4 := hidk (IN16_0.out.keep hx5)
  clear hx5 H_3 RS15_3 IN16_0 SG2
  go_wp2_with (first
    | ((with_reducible show aD 17 _ _ _ _ _ _ _ _ _ _ _); refine wpList_new_var rfl 33 rfl ZS HAS.out ?_; intro g17 x6 HM17; have HN17 := hidk HM17.out.row; try simp only [Act.put, pS1, pS2, pS3])
    | (refine wpList_set_var rfl 33 (.tmp 17) (.tmp 100) rfl g17 S2 rfl rfl 33 ZS HN17.out HSS2.out HZ2.out H1S2.out ?_; intro x7 HW17; have hb17 : Below x5.heap.size x5 x7 := HW17.out.below _ _ HM17.out.below (by rw [HM17.out.new]; exact Nat.le_refl _); have H_5 := hidk (H_4.out.keep hb17); have RS15_5 := hidk ((hb17.block _ (heap_lt RS15_4.out)).trans RS15_4.out); have IN16_5 := hidk (IN16_4.out.keep hb17); have RS17_5 := hidk HW17.out.row; clear hb17; try simp only [Act.put, pS1, pS2, pS3])
    | ((with_reducible show aD 103 _ _ _ _ _ _ _ _ _ _ _); refine wpList_load_row_w (by rfl) 33 (.tmp 17) rfl g17 rfl 33 S2 (0, 0) _ RS17_5.out Tryd.underlying33 rfl HSS2.out ?_; try simp only [Act.put, pS1, pS2, pS3])
    | fail)
  clear HM17 HN17 HW17 H_4 RS15_4 IN16_4
  refine (WT3.out _ H_5.out.b).mono ?_
  rintro e x8 ⟨ab, cb, rfl, hin, hx8⟩
  have H_6 := hidk (H_5.out.keep hx8)
  have RS15_6 := hidk ((hx8.block _ (heap_lt RS15_5.out)).trans RS15_5.out)
  have IN16_6 := hidk (IN16_5.out.keep hx8)
  have RS17_6 := hidk ((hx8.block _ (heap_lt RS17_5.out)).trans RS17_5.out)
  have IN18_0 := hidk hin
  clear hin
  clear hx8 H_5 RS15_5 IN16_5 RS17_5 WT3
  go_wp2_with (first
    | ((with_reducible show aD 105 _ _ _ _ _ _ _ _ _ _ _); refine wpList_load_row_w (by rfl) 23 (.tmp 7) rfl w.heap.size rfl 23 K (0, 0) _ H_6.out.k Tryd.underlying23 rfl HSK.out ?_; try simp only [Act.put, pS1, pS2, pS3])
    | fail)
  refine (SG3.out _ _ _ H_6.out.b IN18_0.out).mono ?_
  rintro e x9 ⟨rfl, hx9⟩
  have H_7 := hidk (H_6.out.keep hx9)
  have RS15_7 := hidk ((hx9.block _ (heap_lt RS15_6.out)).trans RS15_6.out)
  have IN16_7 := hidk (IN16_6.out.keep hx9)
  have RS17_7 := hidk ((hx9.block _ (heap_lt RS17_6.out)).trans RS17_6.out)
  have IN18_7 := hidk (IN18_0.out.keep hx9)
  clear hx9 H_6 RS15_6 IN16_6 RS17_6 IN18_0 SG3
  go_wp2_with (first
    | ((with_reducible show aD 19 _ _ _ _ _ _ _ _ _ _ _); refine wpList_new_var rfl 33 rfl ZS HAS.out ?_; intro g19 x10 HM19; have HN19 := hidk HM19.out.row; try simp only [Act.put, pS1, pS2, pS3])
    | (refine wpList_set_var rfl 33 (.tmp 19) (.tmp 107) rfl g19 S3 rfl rfl 33 ZS HN19.out HSS3.out HZ3.out H1S3.out ?_; intro x11 HW19; have hb19 : Below x9.heap.size x9 x11 := HW19.out.below _ _ HM19.out.below (by rw [HM19.out.new]; exact Nat.le_refl _); have H_8 := hidk (H_7.out.keep hb19); have RS15_8 := hidk ((hb19.block _ (heap_lt RS15_7.out)).trans RS15_7.out); have IN16_8 := hidk (IN16_7.out.keep hb19); have RS17_8 := hidk ((hb19.block _ (heap_lt RS17_7.out)).trans RS17_7.out); have IN18_8 := hidk (IN18_7.out.keep hb19); have RS19_8 := hidk HW19.out.row; clear hb19; try simp only [Act.put, pS1, pS2, pS3])
    | ((with_reducible show aD 111 _ _ _ _ _ _ _ _ _ _ _); refine wpList_load_row_w (by rfl) 33 (.tmp 15) rfl g15 rfl 33 S1 (0, 0) _ RS15_8.out Tryd.underlying33 rfl HSS1.out ?_; try simp only [Act.put, pS1, pS2, pS3])
    | fail)
  clear HM19 HN19 HW19 H_7 RS15_7 IN16_7 RS17_7 IN18_7
  refine (MK1.out _ H_8.out.b).mono ?_
  rintro e y1 ⟨p1, c1_, rfl, hp, hn, hy1⟩
  have H_9 := hidk (H_8.out.keep hy1)
  have RS15_9 := hidk ((hy1.block _ (heap_lt RS15_8.out)).trans RS15_8.out)
  have IN16_9 := hidk (IN16_8.out.keep hy1)
  have RS17_9 := hidk ((hy1.block _ (heap_lt RS17_8.out)).trans RS17_8.out)
  have IN18_9 := hidk (IN18_8.out.keep hy1)
  have RS19_9 := hidk ((hy1.block _ (heap_lt RS19_8.out)).trans RS19_8.out)
  have LP1_0 := hidk hp
  have LN1 := hidk hn
  clear hp hn
  obtain ⟨R1, HR1, HSR1, H1R1, NR1⟩ := step_row (V1 p1 c1_) (HOV1.out _ _).1
  have HZR1 : Hid (ZT.size = R1.size) := by show _ = _; rw [H181.out, NR1.out]
  rw [← HR1.out]
  clear hy1 H_8 RS15_8 IN16_8 RS17_8 IN18_8 RS19_8 MK1 NR1
  go_wp2_with (first
    | ((with_reducible show aD 20 _ _ _ _ _ _ _ _ _ _ _); refine wpList_new_var rfl 46 rfl ZT HAT.out ?_; intro g20 y1a HM20; have HN20 := hidk HM20.out.row; try simp only [Act.put, pS1, pS2, pS3])
    | (refine wpList_set_var rfl 46 (.tmp 20) (.tmp 113) rfl g20 R1 rfl rfl 46 ZT HN20.out HSR1.out HZR1.out H1R1.out ?_; intro y1b HW20; have hb20 : Below y1.heap.size y1 y1b := HW20.out.below _ _ HM20.out.below (by rw [HM20.out.new]; exact Nat.le_refl _); have H_10 := hidk (H_9.out.keep hb20); have RS15_10 := hidk ((hb20.block _ (heap_lt RS15_9.out)).trans RS15_9.out); have IN16_10 := hidk (IN16_9.out.keep hb20); have RS17_10 := hidk ((hb20.block _ (heap_lt RS17_9.out)).trans RS17_9.out); have IN18_10 := hidk (IN18_9.out.keep hb20); have RS19_10 := hidk ((hb20.block _ (heap_lt RS19_9.out)).trans RS19_9.out); have LP1_10 := hidk (LP1_0.out.keep hb20); have RR20_10 := hidk HW20.out.row; clear hb20; try simp only [Act.put, pS1, pS2, pS3])
    | ((with_reducible show aD 118 _ _ _ _ _ _ _ _ _ _ _); refine wpList_load_row_w (by rfl) 33 (.tmp 17) rfl g17 rfl 33 S2 (0, 0) _ RS17_10.out Tryd.underlying33 rfl HSS2.out ?_; try simp only [Act.put, pS1, pS2, pS3])
    | fail)
  clear HM20 HN20 HW20 H_9 RS15_9 IN16_9 RS17_9 IN18_9 RS19_9 LP1_0
  refine (MK2.out _ _ _ H_10.out.b IN16_10.out).mono ?_
  rintro e y2 ⟨p2, c2_, rfl, hp, hn, hy2⟩
  have H_11 := hidk (H_10.out.keep hy2)
  have RS15_11 := hidk ((hy2.block _ (heap_lt RS15_10.out)).trans RS15_10.out)
  have IN16_11 := hidk (IN16_10.out.keep hy2)
  have RS17_11 := hidk ((hy2.block _ (heap_lt RS17_10.out)).trans RS17_10.out)
  have IN18_11 := hidk (IN18_10.out.keep hy2)
  have RS19_11 := hidk ((hy2.block _ (heap_lt RS19_10.out)).trans RS19_10.out)
  have LP1_11 := hidk (LP1_10.out.keep hy2)
  have RR20_11 := hidk ((hy2.block _ (heap_lt RR20_10.out)).trans RR20_10.out)
  have LP2_0 := hidk hp
  have LN2 := hidk hn
  clear hp hn
  obtain ⟨R2, HR2, HSR2, H1R2, NR2⟩ := step_row (V2 p2 c2_) (HOV2.out _ _).1
  have HZR2 : Hid (ZT.size = R2.size) := by show _ = _; rw [H181.out, NR2.out]
  rw [← HR2.out]
  clear hy2 H_10 RS15_10 IN16_10 RS17_10 IN18_10 RS19_10 LP1_10 RR20_10 MK2 NR2
  go_wp2_with (first
    | ((with_reducible show aD 22 _ _ _ _ _ _ _ _ _ _ _); refine wpList_new_var rfl 46 rfl ZT HAT.out ?_; intro g22 y2a HM22; have HN22 := hidk HM22.out.row; try simp only [Act.put, pS1, pS2, pS3])
    | (refine wpList_set_var rfl 46 (.tmp 22) (.tmp 120) rfl g22 R2 rfl rfl 46 ZT HN22.out HSR2.out HZR2.out H1R2.out ?_; intro y2b HW22; have hb22 : Below y2.heap.size y2 y2b := HW22.out.below _ _ HM22.out.below (by rw [HM22.out.new]; exact Nat.le_refl _); have H_12 := hidk (H_11.out.keep hb22); have RS15_12 := hidk ((hb22.block _ (heap_lt RS15_11.out)).trans RS15_11.out); have IN16_12 := hidk (IN16_11.out.keep hb22); have RS17_12 := hidk ((hb22.block _ (heap_lt RS17_11.out)).trans RS17_11.out); have IN18_12 := hidk (IN18_11.out.keep hb22); have RS19_12 := hidk ((hb22.block _ (heap_lt RS19_11.out)).trans RS19_11.out); have LP1_12 := hidk (LP1_11.out.keep hb22); have RR20_12 := hidk ((hb22.block _ (heap_lt RR20_11.out)).trans RR20_11.out); have LP2_12 := hidk (LP2_0.out.keep hb22); have RR22_12 := hidk HW22.out.row; clear hb22; try simp only [Act.put, pS1, pS2, pS3])
    | ((with_reducible show aD 125 _ _ _ _ _ _ _ _ _ _ _); refine wpList_load_row_w (by rfl) 33 (.tmp 19) rfl g19 rfl 33 S3 (0, 0) _ RS19_12.out Tryd.underlying33 rfl HSS3.out ?_; try simp only [Act.put, pS1, pS2, pS3])
    | fail)
  clear HM22 HN22 HW22 H_11 RS15_11 IN16_11 RS17_11 IN18_11 RS19_11 LP1_11 RR20_11 LP2_0
  refine (MK3.out _ _ _ H_12.out.b IN18_12.out).mono ?_
  rintro e y3 ⟨p3, c3_, rfl, hp, hn, hy3⟩
  have H_13 := hidk (H_12.out.keep hy3)
  have RS15_13 := hidk ((hy3.block _ (heap_lt RS15_12.out)).trans RS15_12.out)
  have IN16_13 := hidk (IN16_12.out.keep hy3)
  have RS17_13 := hidk ((hy3.block _ (heap_lt RS17_12.out)).trans RS17_12.out)
  have IN18_13 := hidk (IN18_12.out.keep hy3)
  have RS19_13 := hidk ((hy3.block _ (heap_lt RS19_12.out)).trans RS19_12.out)
  have LP1_13 := hidk (LP1_12.out.keep hy3)
  have RR20_13 := hidk ((hy3.block _ (heap_lt RR20_12.out)).trans RR20_12.out)
  have LP2_13 := hidk (LP2_12.out.keep hy3)
  have RR22_13 := hidk ((hy3.block _ (heap_lt RR22_12.out)).trans RR22_12.out)
  have LP3_0 := hidk hp
  have LN3 := hidk hn
  clear hp hn
  obtain ⟨R3, HR3, HSR3, H1R3, NR3⟩ := step_row (V3 p3 c3_) (HOV3.out _ _).1
  have HZR3 : Hid (ZT.size = R3.size) := by show _ = _; rw [H181.out, NR3.out]
  rw [← HR3.out]
  clear hy3 H_12 RS15_12 IN16_12 RS17_12 IN18_12 RS19_12 LP1_12 RR20_12 LP2_12 RR22_12 MK3 NR3
  go_wp2_with (first
    | ((with_reducible show aD 24 _ _ _ _ _ _ _ _ _ _ _); refine wpList_new_var rfl 46 rfl ZT HAT.out ?_; intro g24 y3a HM24; have HN24 := hidk HM24.out.row; try simp only [Act.put, pS1, pS2, pS3])
    | (refine wpList_set_var rfl 46 (.tmp 24) (.tmp 127) rfl g24 R3 rfl rfl 46 ZT HN24.out HSR3.out HZR3.out H1R3.out ?_; intro y3b HW24; have hb24 : Below y3.heap.size y3 y3b := HW24.out.below _ _ HM24.out.below (by rw [HM24.out.new]; exact Nat.le_refl _); have H_14 := hidk (H_13.out.keep hb24); have RS15_14 := hidk ((hb24.block _ (heap_lt RS15_13.out)).trans RS15_13.out); have IN16_14 := hidk (IN16_13.out.keep hb24); have RS17_14 := hidk ((hb24.block _ (heap_lt RS17_13.out)).trans RS17_13.out); have IN18_14 := hidk (IN18_13.out.keep hb24); have RS19_14 := hidk ((hb24.block _ (heap_lt RS19_13.out)).trans RS19_13.out); have LP1_14 := hidk (LP1_13.out.keep hb24); have RR20_14 := hidk ((hb24.block _ (heap_lt RR20_13.out)).trans RR20_13.out); have LP2_14 := hidk (LP2_13.out.keep hb24); have RR22_14 := hidk ((hb24.block _ (heap_lt RR22_13.out)).trans RR22_13.out); have LP3_14 := hidk (LP3_0.out.keep hb24); have RR24_14 := hidk HW24.out.row; clear hb24; try simp only [Act.put, pS1, pS2, pS3])
    | ((with_reducible show aD 129 _ _ _ _ _ _ _ _ _ _ _); refine wpList_load_row_w (by rfl) 46 (.tmp 20) rfl g20 rfl 46 R1 (0, 0) _ RR20_14.out Tryd.underlying46 rfl HSR1.out ?_; try simp only [Act.put, pS1, pS2, pS3])
    | ((with_reducible show aD 130 _ _ _ _ _ _ _ _ _ _ _); refine wpList_load_row_w (by rfl) 46 (.tmp 22) rfl g22 rfl 46 R2 (0, 0) _ RR22_14.out Tryd.underlying46 rfl HSR2.out ?_; try simp only [Act.put, pS1, pS2, pS3])
    | ((with_reducible show aD 131 _ _ _ _ _ _ _ _ _ _ _); refine wpList_load_row_w (by rfl) 46 (.tmp 24) rfl g24 rfl 46 R3 (0, 0) _ RR24_14.out Tryd.underlying46 rfl HSR3.out ?_; try simp only [Act.put, pS1, pS2, pS3])
    | ((with_reducible show aD 132 _ _ _ _ _ _ _ _ _ _ _); have hL := lit_three (V1 p1 c1_) (V2 p2 c2_) (V3 p3 c3_) (HOV1.out _ _).1 (HOV2.out _ _).1 (HOV3.out _ _).1 R1 R2 R3 HR1 HR2 HR3 y3b; refine wpList_build_run rfl 50 3 _ rfl #[(0, .agg R1), (1, .agg R2), (2, .agg R3)] rfl _ _ hL ?_; clear hL; try simp only [Act.put, pS1, pS2, pS3])
    | fail)
  clear HM24 HN24 HW24 H_13 RS15_13 IN16_13 RS17_13 IN18_13 RS19_13 LP1_13 RR20_13 LP2_13 RR22_13 LP3_0
  have hin3 : InP (y3b.alloc (.cells (stL [V1 p1 c1_, V2 p2 c2_, V3 p3 c3_]).toArray 46)) (some ⟨y3b.heap.size, 0, none⟩) 3 3 [V1 p1 c1_, V2 p2 c2_, V3 p3 c3_] := InP.three (HOV1.out _ _).1 (HOV2.out _ _).1 (HOV3.out _ _).1 (HOV1.out _ _).2 (HOV2.out _ _).2 (HOV3.out _ _).2 LP1_14.out LP2_14.out LP3_14.out LN1.out LN2.out LN3.out
  have hbl : Below y3b.heap.size y3b (y3b.alloc (.cells (stL [V1 p1 c1_, V2 p2 c2_, V3 p3 c3_]).toArray 46)) := (Below.refl _ _).alloc (Nat.le_refl _) _
  have H_15 := hidk (H_14.out.keep hbl)
  have RS15_15 := hidk ((hbl.block _ (heap_lt RS15_14.out)).trans RS15_14.out)
  have IN16_15 := hidk (IN16_14.out.keep hbl)
  have RS17_15 := hidk ((hbl.block _ (heap_lt RS17_14.out)).trans RS17_14.out)
  have IN18_15 := hidk (IN18_14.out.keep hbl)
  have RS19_15 := hidk ((hbl.block _ (heap_lt RS19_14.out)).trans RS19_14.out)
  have LP1_15 := hidk (LP1_14.out.keep hbl)
  have RR20_15 := hidk ((hbl.block _ (heap_lt RR20_14.out)).trans RR20_14.out)
  have LP2_15 := hidk (LP2_14.out.keep hbl)
  have RR22_15 := hidk ((hbl.block _ (heap_lt RR22_14.out)).trans RR22_14.out)
  have LP3_15 := hidk (LP3_14.out.keep hbl)
  have RR24_15 := hidk ((hbl.block _ (heap_lt RR24_14.out)).trans RR24_14.out)
  have IN26_0 := hidk hin3
  obtain ⟨gs, HGS⟩ : ∃ g, Hid (y3b.heap.size = g) := ⟨_, hidk rfl⟩
  obtain ⟨u1, HU1⟩ : ∃ v, Hid (y3b.alloc (.cells (stL [V1 p1 c1_, V2 p2 c2_, V3 p3 c3_]).toArray 46) = v) := ⟨_, hidk rfl⟩
  clear hbl hin3 H_14 RS15_14 IN16_14 RS17_14 IN18_14 RS19_14 LP1_14 RR20_14 LP2_14 RR22_14 LP3_14 RR24_14
  rw [HGS.out, HU1.out] at IN26_0
  clear RS15_15
  clear IN16_15
  clear RS17_15
  clear IN18_15
  clear LP1_15
  clear LP2_15
  clear RR22_15
  clear LP3_15
  rw [HU1.out] at H_15
  rw [HU1.out] at RS19_15
  rw [HU1.out] at RR20_15
  rw [HU1.out] at RR24_15
  rw [HGS.out, HU1.out]
  clear HGS HU1
  refine (EN3.out _ _ _ _ _ _ _ _ IN26_0.out).mono ?_
  rintro e u2 ⟨rfl, hu2⟩
  have H_16 := hidk (H_15.out.keep hu2)
  have RS19_16 := hidk ((hu2.block _ (heap_lt RS19_15.out)).trans RS19_15.out)
  have RR20_16 := hidk ((hu2.block _ (heap_lt RR20_15.out)).trans RR20_15.out)
  have RR24_16 := hidk ((hu2.block _ (heap_lt RR24_15.out)).trans RR24_15.out)
  have IN26_16 := hidk (IN26_0.out.keep hu2)
  clear hu2 H_15 RS19_15 RR20_15 RR24_15 IN26_0 EN3
  go_wp2_with (first
    | ((with_reducible show aD 27 _ _ _ _ _ _ _ _ _ _ _); refine wpList_new_var rfl 43 rfl ZI HAI.out ?_; intro g27 u3 HM27; skip; try simp only [Act.put, pS1, pS2, pS3])
    | ((with_reducible show aD 28 _ _ _ _ _ _ _ _ _ _ _); refine wpList_new_var rfl 33 rfl ZS HAS.out ?_; intro g28 u4 HM28; have hq2 : Below u2.heap.size u2 u4 := HM27.out.below.trans (HM28.out.below.mono HM27.out.below.size); have HR27 := hidk ((HM28.out.below.block _ (heap_lt HM27.out.row)).trans HM27.out.row); have HR28 := hidk HM28.out.row; have ne : g27 ≠ g28 := (by have := heap_lt HM27.out.row; rw [HM28.out.new]; omega); have l27 : u2.heap.size ≤ g27 := (by rw [HM27.out.new]; exact Nat.le_refl _); have l28 : u2.heap.size ≤ g28 := (by rw [HM28.out.new]; exact HM27.out.below.size); have HB4 := hidk hq2; clear hq2; try simp only [Act.put, pS1, pS2, pS3])
    | (refine wpList_set_var rfl 43 (.tmp 27) (.tmp 136) rfl g27 I rfl rfl 43 ZI HR27.out HSI.out HZII.out H1I.out ?_; intro u5 HW27; have HR27b := hidk HW27.out.row; have HR28b := hidk ((HW27.out.other _ ne.symm).trans HR28.out); have HB5 := hidk (HW27.out.below _ _ HB4.out l27); try simp only [Act.put, pS1, pS2, pS3])
    | (refine wpList_set_var rfl 33 (.tmp 28) (.tmp 137) rfl g28 S3 rfl rfl 33 ZS HR28b.out HSS3.out HZ3.out H1S3.out ?_; intro u6 HW28; have hb6 := HW28.out.below _ _ HB5.out l28; have HC6 : Hid (HeldC w K S3 R1 R3 I g19 g20 g24 g27 g28 gs (V1 p1 c1_) (V2 p2 c2_) (V3 p3 c3_) u6) := ⟨H_16.out.keep hb6, (hb6.block _ (heap_lt RS19_16.out)).trans RS19_16.out, (hb6.block _ (heap_lt RR20_16.out)).trans RR20_16.out, (hb6.block _ (heap_lt RR24_16.out)).trans RR24_16.out, (HW28.out.other _ ne).trans HR27b.out, HW28.out.row, IN26_16.out.keep hb6⟩; clear hb6; try simp only [Act.put, pS1, pS2, pS3])
    | fail)
  clear HM27 HM28 HW27 HW28 HR27 HR28 HR27b HR28b HB4 HB5 l27 l28 ne H_16 RS19_16 RR20_16 RR24_16 IN26_16
  obtain ⟨g, o, m, ea, hm, hmn, hg, rn⟩ := HRN.out
  subst ea
  subst hm
  have HIR : Hid (∀ V, Below w.heap.size w V → V.rangeAt g (o + 110 * m) I.toList) := fun V hb => range_below rn hb hg
  have ic : ∀ W, (Instr.indexAt 24 (.slice (some ⟨g, o, none⟩) n1 c1) (.int .i64 (m : Int))).run Tryd.prog W = .ok (.pointer (some ⟨g, o + 110 * m, none⟩)) W := fun W => index_item W g o n1 c1 m .i64 hmn
  clear HRN rn hg
  refine wp_region_held_drew (S := (HeldC w K S3 R1 R3 I g19 g20 g24 g27 g28 gs (V1 p1 c1_) (V2 p2 c2_) (V3 p3 c3_))) (by kernel_rfl) (HC6.out.keep (Below.refl _ _).drew) (fun hHeld => ?_)
  refine wpAnyH_ready (rs := [0]) (by kernel_rfl) (by simp) ?_
  refine (AllReadyH.cons (o := { dst := some 139, op := .call { callee := .value (.func 10), args := #[], argTypes := #[] }, type := 4, pos := "law.go:100", after := #[], guard := none }) rfl (fun K hK => ?_) AllReadyH.nil)
  go_simp
  refine (PT.out _ hHeld.m.b).mono ?_
  rintro e w0 ⟨rfl, hb0⟩
  go_wp2_with fail
  refine hK.out _ _ (hHeld.keep hb0) (fun hHeld => ?_)
  clear hK K
  try simp only [Act.put, pS1, pS2, pS3]
  refine zX 1 (.bool true) rfl hHeld ?_
  try simp only [Act.put, pS1, pS2, pS3]
  refine zX 2 (.int .i64 0) rfl hHeld ?_
  try simp only [Act.put, pS1, pS2, pS3]
  refine zX 3 (.bool true) rfl hHeld ?_
  try simp only [Act.put, pS1, pS2, pS3]
  refine zX 4 (.bool true) rfl hHeld ?_
  try simp only [Act.put, pS1, pS2, pS3]
  refine zX 5 (.bool true) rfl hHeld ?_
  try simp only [Act.put, pS1, pS2, pS3]
  refine zX 6 (.int .i64 0) rfl hHeld ?_
  try simp only [Act.put, pS1, pS2, pS3]
  refine zX 7 (.bool true) rfl hHeld ?_
  try simp only [Act.put, pS1, pS2, pS3]
  refine zX 8 (.bool true) rfl hHeld ?_
  try simp only [Act.put, pS1, pS2, pS3]
  refine zX 9 (.bool true) rfl hHeld ?_
  try simp only [Act.put, pS1, pS2, pS3]
  refine zX 10 (.int .i64 0) rfl hHeld ?_
  try simp only [Act.put, pS1, pS2, pS3]
  refine zX 11 (.bool true) rfl hHeld ?_
  try simp only [Act.put, pS1, pS2, pS3]
  refine zX 12 (.bool true) rfl hHeld ?_
  try simp only [Act.put, pS1, pS2, pS3]
  refine zX 13 (.bool true) rfl hHeld ?_
  try simp only [Act.put, pS1, pS2, pS3]
  refine zW 14 (.agg K) rfl (yieldsIf_mid (by rfl) 23 (.tmp 7) rfl w.heap.size 0 rfl K _ (fun V hv => range_row (l := K.toList) (W := V) (g := w.heap.size) (by simpa using hv.m.k)) Tryd.underlying23 rfl HSK.out) hHeld ?_
  try simp only [Act.put, pS1, pS2, pS3]
  refine zX 15 (.slice (some ⟨gs, 0, none⟩) 3 3) rfl hHeld ?_
  try simp only [Act.put, pS1, pS2, pS3]
  refine wpAnyH_ready (rs := [16]) (by kernel_rfl) (by simp) ?_
  refine (AllReadyH.cons (o := { dst := some 155, op := .call { callee := .value (.func 12), args := #[.tmp 153, .tmp 154], argTypes := #[23, 50] }, type := 29, pos := "law.go:100", after := #[zD 14, zD 15, zC 13, zG 13], guard := some (13, true) }) rfl (fun K hK => ?_) AllReadyH.nil)
  go_simp
  refine (VE3.out _ _ _ _ _ _ _ _ hHeld.m.b hHeld.p).mono ?_
  rintro e w16 ⟨rfl, hb16⟩
  go_wp2_with fail
  refine hK.out _ _ (hHeld.keep hb16) (fun hHeld => ?_)
  clear hK K
  try simp only [Act.put, pS1, pS2, pS3]
  refine zX 17 (.bool true) rfl hHeld ?_
  try simp only [Act.put, pS1, pS2, pS3]
  refine zX 18 (.bool true) rfl hHeld ?_
  try simp only [Act.put, pS1, pS2, pS3]
  refine zX 19 (.bool true) rfl hHeld ?_
  try simp only [Act.put, pS1, pS2, pS3]
  refine zX 20 (.int .i64 0) rfl hHeld ?_
  try simp only [Act.put, pS1, pS2, pS3]
  refine zX 21 (.bool true) rfl hHeld ?_
  try simp only [Act.put, pS1, pS2, pS3]
  refine zX 22 (.bool true) rfl hHeld ?_
  try simp only [Act.put, pS1, pS2, pS3]
  refine zX 23 (.bool true) rfl hHeld ?_
  try simp only [Act.put, pS1, pS2, pS3]
  refine zW 24 (.agg I) rfl (yieldsIf_mid (by rfl) 43 (.tmp 27) rfl g27 0 rfl I _ (fun V hv => range_row (l := I.toList) (W := V) (g := g27) (by simpa using hv.i)) Tryd.underlying43 rfl HSI.out) hHeld ?_
  try simp only [Act.put, pS1, pS2, pS3]
  refine zX 25 (.slice (some ⟨g, o, none⟩) n1 c1) rfl hHeld ?_
  try simp only [Act.put, pS1, pS2, pS3]
  refine zX 26 (.int .i64 (m : Int)) rfl hHeld ?_
  try simp only [Act.put, pS1, pS2, pS3]
  refine zW 27 (.pointer (some ⟨g, o + 110 * m, none⟩)) rfl (Or.inl ⟨by rfl, by intro W hSw; have := ic W; go_simp⟩) hHeld ?_
  try simp only [Act.put, pS1, pS2, pS3]
  refine zW 28 (.agg I) rfl (yieldsIf_mid (by rfl) 43 (.tmp 166) rfl g (o + 110 * m) rfl I _ (fun V hv => HIR.out V hv.m.b) Tryd.underlying43 rfl HSI.out) hHeld ?_
  try simp only [Act.put, pS1, pS2, pS3]
  refine zW 29 (.bool true) rfl (Or.inl ⟨by rfl, by intro W hSw; have := eqi W; go_simp⟩) hHeld ?_
  try simp only [Act.put, pS1, pS2, pS3]
  refine zX 30 (.bool true) rfl hHeld ?_
  try simp only [Act.put, pS1, pS2, pS3]
  refine zX 31 (.bool true) rfl hHeld ?_
  try simp only [Act.put, pS1, pS2, pS3]
  refine zW 32 (.agg S3) rfl (yieldsIf_mid (by rfl) 33 (.tmp 28) rfl g28 0 rfl S3 _ (fun V hv => range_row (l := S3.toList) (W := V) (g := g28) (by simpa using hv.z)) Tryd.underlying33 rfl HSS3.out) hHeld ?_
  try simp only [Act.put, pS1, pS2, pS3]
  refine zW 33 (.agg S3) rfl (yieldsIf_mid (by rfl) 33 (.tmp 19) rfl g19 0 rfl S3 _ (fun V hv => range_row (l := S3.toList) (W := V) (g := g19) (by simpa using hv.s)) Tryd.underlying33 rfl HSS3.out) hHeld ?_
  try simp only [Act.put, pS1, pS2, pS3]
  refine zW 34 (.bool true) rfl (Or.inl ⟨by rfl, by intro W hSw; have := eqs W; go_simp⟩) hHeld ?_
  try simp only [Act.put, pS1, pS2, pS3]
  refine zX 35 (.bool true) rfl hHeld ?_
  try simp only [Act.put, pS1, pS2, pS3]
  refine zX 36 (.bool true) rfl hHeld ?_
  try simp only [Act.put, pS1, pS2, pS3]
  refine zW 37 (.agg K) rfl (yieldsIf_mid (by rfl) 23 (.tmp 7) rfl w.heap.size 0 rfl K _ (fun V hv => range_row (l := K.toList) (W := V) (g := w.heap.size) (by simpa using hv.m.k)) Tryd.underlying23 rfl HSK.out) hHeld ?_
  try simp only [Act.put, pS1, pS2, pS3]
  refine zW 38 (.agg R1) rfl (yieldsIf_mid (by rfl) 46 (.tmp 20) rfl g20 0 rfl R1 _ (fun V hv => range_row (l := R1.toList) (W := V) (g := g20) (by simpa using hv.r)) Tryd.underlying46 rfl HSR1.out) hHeld ?_
  try simp only [Act.put, pS1, pS2, pS3]
  refine zW 39 (.agg R3) rfl (yieldsIf_mid (by rfl) 46 (.tmp 24) rfl g24 0 rfl R3 _ (fun V hv => range_row (l := R3.toList) (W := V) (g := g24) (by simpa using hv.q)) Tryd.underlying46 rfl HSR3.out) hHeld ?_
  try simp only [Act.put, pS1, pS2, pS3]
  refine wpAnyH_ready (rs := [40]) (by kernel_rfl) (by simp) ?_
  refine (AllReadyH.cons (o := { dst := some 179, op := .buildSlice 50 2 #[(0, .tmp 177), (1, .tmp 178)], type := 50, pos := "law.go:100", after := #[zD 38, zD 39, zG 36], guard := some (36, true) }) rfl (fun K hK => ?_) AllReadyH.nil)
  have hL2 := lit_two (V1 p1 c1_) (V3 p3 c3_) (HOV1.out _ _).1 (HOV3.out _ _).1 R1 R3 HR1 HR3 (w16)
  have HIN2 := hidk (InP.two (W := w16) (HOV1.out p1 c1_).1 (HOV3.out p3 c3_).1 (HOV1.out _ _).2 (HOV3.out _ _).2 (hHeld.p.prf _ (by simp)) (hHeld.p.prf _ (by simp)) LN1.out LN3.out)
  refine step_build_run (by rfl) 50 2 _ rfl #[(0, .agg R1), (1, .agg R3)] rfl _ _ hL2 ?_
  refine hK.out _ _ (hHeld.keep ((Below.refl _ _).alloc (Nat.le_refl _) _)) (fun hHeld => ?_)
  clear hK K
  try simp only [Act.put, pS1, pS2, pS3]
  refine wpAnyH_ready (rs := [41]) (by kernel_rfl) (by simp) ?_
  refine (AllReadyH.cons (o := { dst := some 180, op := .call { callee := .value (.func 12), args := #[.tmp 176, .tmp 179], argTypes := #[23, 50] }, type := 29, pos := "law.go:100", after := #[zD 37, zD 40, zC 36, zG 36], guard := some (36, true) }) rfl (fun K hK => ?_) AllReadyH.nil)
  go_simp
  refine (VE2.out _ _ _ _ _ _ hHeld.m.b HIN2.out).mono ?_
  rintro e w41 ⟨rfl, hb41⟩
  go_wp2_with fail
  refine hK.out _ _ (hHeld.keep hb41) (fun hHeld => ?_)
  clear hK K
  try simp only [Act.put, pS1, pS2, pS3]
  refine zX 42 (.bool true) rfl hHeld ?_
  try simp only [Act.put, pS1, pS2, pS3]
  refine zX 43 (.bool true) rfl hHeld ?_
  try simp only [Act.put, pS1, pS2, pS3]
  refine zX 44 (.bool true) rfl hHeld ?_
  try simp only [Act.put, pS1, pS2, pS3]
  refine wpAnyH_done (by kernel_rfl) ?_ _
  have HX := hidk hHeld.m.b
  clear hHeld
  go_wp2
  go_ret
  exact ⟨rfl, HX.out⟩
theorem pathCrosses_in (hc : HistoryC) (hd : HeadC) (pc : PathC) (z0 : List UInt8) (a1 : Option Addr) (len1 cap1 : Nat) (z1 : List ItT) (a2 : Option Addr) (len2 cap2 : Nat) (z2 : List ItT) (a3 : Option Addr) (len3 cap3 : Nat) (z3 : List ItT) (a4 a5 a6 : Int) (w : World) (w0 : z0.length = 32) (w1 : IReads w a1 len1 cap1 z1) (n1 : a1 = none → cap1 = 0) (m1 : ∀ x ∈ z1, CmI x) (w2 : IReads w a2 len2 cap2 z2) (n2 : a2 = none → cap2 = 0) (m2 : ∀ x ∈ z2, CmI x) (w3 : IReads w a3 len3 cap3 z3) (n3 : a3 = none → cap3 = 0) (m3 : ∀ x ∈ z3, CmI x) (w4 : In64 a4) (w5 : In64 a5) (w6 : In64 a6) (hT : TabH w) :
    Calls Tryd.prog 4 #[.agg (cellsOf z0).toArray, .slice a1 len1 cap1, .slice a2 len2 cap2, .slice a3 len3 cap3, .int .i64 a4, .int .i64 a5, .int .i64 a6] w fun e w' => e = .returned (.bool true) ∧ Below w.heap.size w w' :=
  pathCrosses_of hc hd pc z0 a1 len1 cap1 z1 a2 len2 cap2 z2 a3 len3 cap3 z3 a4 a5 a6 w _ (hidk rfl) w0 w1 n1 m1 w2 n2 m2 w3 n3 m3 w4 w5 w6 hT
end Go.Proofs.YtkmedlfbkddmoaaDoor
