/- Texts of our own that the row of PathMakes leans on, part 29. -/
import Derived.Test.YtkmedlfbkddmoaaGreatDoorPathMakesJ0
import Derived.Test.YtkmedlfbkddmoaaGreatDoorPathMakesJ11
import Derived.Test.YtkmedlfbkddmoaaGreatDoorPathMakesJ12
import Derived.Test.YtkmedlfbkddmoaaGreatDoorPathMakesJ20
import Derived.Test.YtkmedlfbkddmoaaGreatDoorPathMakesJ22
import Derived.Test.YtkmedlfbkddmoaaGreatDoorPathMakesJ24
import Derived.Test.YtkmedlfbkddmoaaGreatDoorPathMakesJ25
import Derived.Test.YtkmedlfbkddmoaaGreatDoorPathMakesJ28
/- HistoryHeads. -/
namespace Go.Proofs.YtkmedlfbkddmoaaGreatDoor
open Go.RowKit Nums Sums
set_option linter.unusedVariables false
set_option linter.unusedSimpArgs false
set_option maxRecDepth 100000
theorem inc_finds11 (l : List (List UInt8)) (i : Nat) (hi : i < l.length) (hl : l.length ≤ 100000) : P5.incE (root l) (l.length : Nat) i l[i] (incl l i) = 0 := by
  rw [P5.incE_in (root l) l.length i l[i] (incl l i) (by omega) hl hi, P5.mkR_incl l.length l i rfl hi]
  simp
theorem incE11_inv {l : List ItT} {n i : Int} (h : incE11 l n i = 0) : sizeX l n = 0 ∧ 0 ≤ i ∧ i < n := by
  unfold incE11 at h
  by_cases hs : sizeX l n = 0
  · rw [if_pos hs] at h
    by_cases hi : 0 ≤ i ∧ i < n
    · exact ⟨hs, hi⟩
    · rw [if_neg hi] at h; omega
  · rw [if_neg hs] at h; exact absurd h hs
theorem leavesL_length (l : List ItT) : (leavesL l).length = l.length := by unfold leavesL; rw [List.length_map]
theorem found_inc {l : List ItT} {n i : Int} (h : incE11 l n i = 0) (hi : i.toNat < l.length) (hl : l.length ≤ 100000) : P5.incE (rootO l n) n i (leafO l[i.toNat]) (incL11 l n i) = 0 := by
  obtain ⟨h1, h2, h3⟩ := incE11_inv h
  obtain ⟨hr, h4, h5⟩ := sizeX_vals l n h1
  obtain ⟨N, rfl⟩ : ∃ N : Nat, n = N := ⟨n.toNat, by omega⟩
  obtain ⟨k, rfl⟩ : ∃ k : Nat, i = k := ⟨i.toNat, by omega⟩
  have hN : (leavesL (l.take N)).length = N := by rw [leavesL_length, List.length_take]; omega
  have e1 : rootO l N = root (leavesL (l.take N)) := by unfold rootO; rw [if_pos h1, Int.toNat_natCast]
  have e2 : incL11 l N k = incl (leavesL (l.take N)) k := by unfold incL11; rw [if_pos h, Int.toNat_natCast, Int.toNat_natCast]
  have hk : k < (leavesL (l.take N)).length := by omega
  have e3' : (leavesL (l.take N))[k]? = some (leafO l[(k : Int).toNat]) := by
    unfold leavesL
    rw [List.getElem?_map, List.getElem?_take_of_lt (by omega), List.getElem?_eq_getElem (show k < l.length by omega)]
    simp only [Int.toNat_natCast, Option.map_some, Option.some.injEq]
    unfold leafO
    rw [if_pos (right_item hr (List.getElem_mem _))]
  have e3 : (leavesL (l.take N))[k] = leafO l[(k : Int).toNat] := Option.some.inj ((List.getElem?_eq_getElem hk).symm.trans e3')
  have := inc_finds11 (leavesL (l.take N)) k hk (by omega)
  rw [e3, hN] at this
  rw [e1, e2]
  exact this
structure HeldP (w : World) (P : List (List UInt8)) (pa : Option Addr) (pl pc : Nat) (Q : List (List UInt8)) (qa : Option Addr) (ql qc : Nat) (V : World) : Prop where
  b : Below w.heap.size w V
  p : LReads V pa pl pc P
  q : LReads V qa ql qc Q
theorem HeldP.keep {w : World} {P : List (List UInt8)} {pa : Option Addr} {pl pc : Nat} {Q : List (List UInt8)} {qa : Option Addr} {ql qc : Nat} {V V' : World} (h : HeldP w P pa pl pc Q qa ql qc V) (hb : Below V.heap.size V V') : HeldP w P pa pl pc Q qa ql qc V' :=
  ⟨h.b.trans (hb.mono h.b.size), h.p.keep hb, h.q.keep hb⟩
end Go.Proofs.YtkmedlfbkddmoaaGreatDoor
/- Ways from an item to another region's head, as the document defines them (chapter 14). -/
namespace Go.Proofs.YtkmedlfbkddmoaaGreatDoor
open Nums Sums
set_option linter.unusedVariables false
set_option maxRecDepth 100000
structure StT where
  i : Int
  x : ItT
  p : List (List UInt8)
  h : SgT
def zeroT : StT := ⟨0, zeroI, [], zeroS⟩
def mkE (l : List ItT) (i : Int) (s : SgT) : Int :=
  if sizeX l s.h.s = 0 ∧ rootO l s.h.s = s.h.d ∧ mayS s = true then (if incE11 l s.h.s i = 0 then 0 else 131) else 130
def mkT (l : List ItT) (i : Int) (s : SgT) : StT := if mkE l i s = 0 then ⟨i, l.getD i.toNat zeroI, incL11 l s.h.s i, s⟩ else zeroT
theorem mkE_ok {l : List ItT} {i : Int} {s : SgT} (h : mkE l i s = 0) : sizeX l s.h.s = 0 ∧ rootO l s.h.s = s.h.d ∧ mayS s = true ∧ incE11 l s.h.s i = 0 := by
  unfold mkE at h
  by_cases h1 : sizeX l s.h.s = 0 ∧ rootO l s.h.s = s.h.d ∧ mayS s = true
  · rw [if_pos h1] at h
    by_cases h2 : incE11 l s.h.s i = 0
    · exact ⟨h1.1, h1.2.1, h1.2.2, h2⟩
    · rw [if_neg h2] at h; omega
  · rw [if_neg h1] at h; omega
def wrgE (master : List UInt8) (x : StT) : Int :=
  if verE master x.h = 0 then (if rightI x.x = true then P5.incE x.h.h.d x.h.h.s x.i (leafI x.x) x.p else 130) else verE master x.h
theorem wrgE_of {master : List UInt8} {x : StT} (h1 : verE master x.h = 0) (h2 : rightI x.x = true) (h3 : P5.incE x.h.h.d x.h.h.s x.i (leafI x.x) x.p = 0) : wrgE master x = 0 := by
  unfold wrgE
  rw [if_pos h1, if_pos h2]
  exact h3
def linkB (o : Option SgT) (x : StT) : Bool := match o with | none => true | some s => decide (x.x.e.k = 2) && eqSB x.x.e.h s
def wayE (master : List UInt8) : Option SgT → List StT → Int
  | _, [] => 0
  | o, x :: t => if wrgE master x = 0 then (if linkB o x = true then wayE master (some x.h) t else 130) else wrgE master x
def pathE (master : List UInt8) (p : List StT) : Int := if 1 ≤ p.length ∧ p.length ≤ 5 then wayE master none p else 130
theorem wayE_cons {master : List UInt8} {o : Option SgT} {x : StT} {t : List StT} : wayE master o (x :: t) = 0 ↔ wrgE master x = 0 ∧ linkB o x = true ∧ wayE master (some x.h) t = 0 := by
  rw [wayE]
  by_cases h1 : wrgE master x = 0
  · rw [if_pos h1]
    by_cases h2 : linkB o x = true
    · rw [if_pos h2]; exact ⟨fun h => ⟨h1, h2, h⟩, fun h => h.2.2⟩
    · rw [if_neg h2]; exact ⟨fun h => by omega, fun h => absurd h.2.1 h2⟩
  · rw [if_neg h1]; exact ⟨fun h => absurd h h1, fun h => absurd h.1 h1⟩
theorem pathE_ok {master : List UInt8} {p : List StT} (h : pathE master p = 0) : 1 ≤ p.length ∧ p.length ≤ 5 ∧ wayE master none p = 0 := by
  unfold pathE at h
  by_cases h1 : 1 ≤ p.length ∧ p.length ≤ 5
  · rw [if_pos h1] at h; exact ⟨h1.1, h1.2, h⟩
  · rw [if_neg h1] at h; omega
theorem pathE_of {master : List UInt8} {p : List StT} (h1 : 1 ≤ p.length ∧ p.length ≤ 5) (h2 : wayE master none p = 0) : pathE master p = 0 := by
  unfold pathE
  rw [if_pos h1]
  exact h2
theorem path_one {master : List UInt8} {x : StT} : pathE master [x] = 0 ↔ wrgE master x = 0 := by
  constructor
  · intro h
    obtain ⟨_, _, c⟩ := pathE_ok h
    exact (wayE_cons.1 c).1
  · intro h
    exact pathE_of ⟨by show 1 ≤ 1; omega, by show 1 ≤ 5; omega⟩ (wayE_cons.2 ⟨h, rfl, rfl⟩)
theorem made_step {master : List UInt8} {l : List ItT} {i : Int} {s : SgT} (h : mkE l i s = 0) (hv : verE master s = 0) : wrgE master (mkT l i s) = 0 := by
  obtain ⟨h1, h2, h3, h4⟩ := mkE_ok h
  obtain ⟨q1, q2, q3⟩ := incE11_inv h4
  obtain ⟨hr, q4, q5⟩ := sizeX_vals l s.h.s h1
  have hl := ((rightL_iff l).1 hr).1
  have hi : i.toNat < l.length := by omega
  have e : mkT l i s = ⟨i, l[i.toNat], incL11 l s.h.s i, s⟩ := by
    unfold mkT
    rw [if_pos h, List.getD_eq_getElem?_getD, List.getElem?_eq_getElem hi]
    rfl
  have hri : rightI l[i.toNat] = true := right_item hr (List.getElem_mem hi)
  rw [e]
  refine wrgE_of hv hri ?_
  have := found_inc h4 hi (by omega)
  rw [h2] at this
  unfold leafO at this
  rw [if_pos hri] at this
  exact this
end Go.Proofs.YtkmedlfbkddmoaaGreatDoor
/- Steps, and slices of steps in memory. -/
namespace Go.Proofs.YtkmedlfbkddmoaaGreatDoor
open Go.RowKit Nums Sums
set_option linter.unusedVariables false
set_option linter.unusedSimpArgs false
set_option maxRecDepth 100000
structure StV where
  i : Int
  x : ItT
  a : Option Addr
  n : Nat
  c : Nat
  h : SgT
  p : List (List UInt8)
def StV.t (v : StV) : StT := ⟨v.i, v.x, v.p, v.h⟩
def stcells (v : StV) : List Value := [.int .i64 v.i] ++ icells v.x ++ [.slice v.a v.n v.c] ++ scells v.h
structure OkV (v : StV) : Prop where
  x : OkE v.x.e
  d : v.h.h.d.length = 32
  g : v.h.g.length = 32
theorem stcells_length (v : StV) (ok : OkV v) : (stcells v).length = 181 := by
  unfold stcells
  simp only [List.length_append, List.length_singleton, icells_length _ ok.x, scells_length _ ok.d ok.g]
def zeroV : StV := ⟨0, zeroI, none, 0, 0, zeroS, []⟩
theorem st_i (v : StV) : (stcells v)[0]? = some (.int .i64 v.i) := rfl
theorem st_p (v : StV) (ok : OkV v) : (stcells v)[111]? = some (.slice v.a v.n v.c) := by
  unfold stcells
  rw [List.append_assoc, List.getElem?_append_right (by simp [icells_length _ ok.x]), List.length_append, icells_length _ ok.x]
  rfl
theorem range_stx {w : World} {g o : Nat} {v : StV} (h : w.rangeAt g o (stcells v)) : w.rangeAt g (o + 1) (icells v.x) := fun j u hj => by
  have := h (j + 1) u (by
    unfold stcells
    rw [List.append_assoc, List.append_assoc, List.singleton_append, List.getElem?_cons_succ, List.getElem?_append_left (List.getElem?_eq_some_iff.1 hj).1]
    exact hj)
  rw [← this]
  congr 2
  omega
theorem range_sth {w : World} {g o : Nat} {v : StV} (ok : OkV v) (h : w.rangeAt g o (stcells v)) : w.rangeAt g (o + 112) (scells v.h) := fun j u hj => by
  have := h (112 + j) u (by
    unfold stcells
    rw [List.getElem?_append_right (by simp [icells_length _ ok.x])]
    simpa [icells_length _ ok.x] using hj)
  rw [← this]
  congr 2
  omega
theorem range_stp {w : World} {g o : Nat} {v : StV} (ok : OkV v) (h : w.rangeAt g o (stcells v)) : w.cell? ⟨g, o + 111, none⟩ = some (.slice v.a v.n v.c) := h 111 _ (st_p v ok)
structure SReads (w : World) (a : Option Addr) (len cap : Nat) (l : List StV) : Prop where
  ln : l.length = len
  cp : len ≤ cap
  mx : len ≤ maxLen
  ok : ∀ x ∈ l, OkV x
  lies : len = 0 ∨ ∃ g o, a = some ⟨g, o, none⟩ ∧ ∀ (i : Nat) (h : i < l.length), w.rangeAt g (o + 181 * i) (stcells l[i])
theorem SReads.at {w : World} {a : Option Addr} {len cap : Nat} {l : List StV} (h : SReads w a len cap l) (h0 : 0 < len) : ∃ g o, a = some ⟨g, o, none⟩ ∧ g < w.heap.size := by
  rcases h.lies with h5 | ⟨g, o, ha, hl⟩
  · omega
  · have h1 := h.ln
    refine ⟨g, o, ha, range_lt (hl 0 (by omega)) ?_⟩
    rw [stcells_length _ (h.ok _ (List.getElem_mem (by omega)))]
    omega
theorem SReads.below {w w' : World} {a : Option Addr} {len cap B : Nat} {l : List StV} (h : SReads w a len cap l) (hb : Below B w w') (hB : ∀ g o, a = some ⟨g, o, none⟩ → 0 < len → g < B) : SReads w' a len cap l := by
  refine ⟨h.ln, h.cp, h.mx, h.ok, ?_⟩
  by_cases h0 : len = 0
  · exact .inl h0
  · rcases h.lies with h5 | ⟨g, o, ha, hl⟩
    · exact .inl h5
    · exact .inr ⟨g, o, ha, fun i hi => range_below (hl i hi) hb (hB g o ha (by omega))⟩
theorem SReads.keep {w w' : World} {a : Option Addr} {len cap : Nat} {l : List StV} (h : SReads w a len cap l) (hb : Below w.heap.size w w') : SReads w' a len cap l := by
  refine h.below hb fun g o ha h0 => ?_
  obtain ⟨g', o', ha', hl⟩ := h.at h0
  rw [ha] at ha'
  cases ha'
  exact hl
theorem SReads.range {w : World} {g o len cap : Nat} {l : List StV} (h : SReads w (some ⟨g, o, none⟩) len cap l) (i : Nat) (hi : i < l.length) : w.rangeAt g (o + 181 * i) (stcells l[i]) := by
  have h1 := h.ln
  rcases h.lies with h5 | ⟨g', o', ha, hl⟩
  · omega
  · cases ha
    exact hl i hi
theorem SReads.cell {w : World} {g o len cap : Nat} {l : List StV} (h : SReads w (some ⟨g, o, none⟩) len cap l) (i : Nat) (hi : i < l.length) (j : Nat) (v : Value) (hj : (stcells l[i])[j]? = some v) : w.cell? ⟨g, o + 181 * i + j, none⟩ = some v := h.range i hi j v hj
theorem SReads.take {w : World} {a : Option Addr} {len cap : Nat} {l : List StV} (h : SReads w a len cap l) (k : Nat) (hk : k ≤ len) : SReads w a k cap (l.take k) := by
  have h1 := h.ln
  have h2 := h.cp
  have h3 := h.mx
  refine ⟨by rw [List.length_take]; omega, by omega, by omega, fun x hx => h.ok x (List.mem_of_mem_take hx), ?_⟩
  rcases h.lies with h5 | ⟨g, o, ha, hl⟩
  · exact .inl (by omega)
  · refine .inr ⟨g, o, ha, fun i hi => ?_⟩
    rw [List.length_take] at hi
    rw [List.getElem_take]
    exact hl i (by omega)
theorem sreads_none (w : World) : SReads w none 0 0 [] := ⟨rfl, Nat.le_refl _, Nat.zero_le _, (fun x hx => by cases hx), .inl rfl⟩
theorem sizeOfSt (w : World) : (sizeOf 40).run Tryz.prog w = .ok 181 w := by
  have hz : (Tryz.prog.info? 40).map (·.size) = some 181 := by kernel_rfl
  cases hq : Tryz.prog.info? 40 with
  | none => simp [hq] at hz
  | some i => simp [hq] at hz; simp [sizeOf, typeInfo, hq, hz]
theorem index_st (W : World) (g o len cap i : Nat) (k : IntKind) (hi : i < len) : (Instr.indexAt 49 (.slice (some ⟨g, o, none⟩) len cap) (.int k i)).run Tryz.prog W = .ok (.pointer (some ⟨g, o + 181 * i, none⟩)) W := by
  simp [Instr.indexAt, asIntOf, run_underlying Tryz.underlying49, sizeOfSt, hi]
  rw [add_plain, Nat.mul_comm]
def stL (l : List StV) : List Value := l.flatMap stcells
theorem stL_nil : stL [] = [] := rfl
theorem stL_cons (x : StV) (l : List StV) : stL (x :: l) = stcells x ++ stL l := by unfold stL; rw [List.flatMap_cons]
theorem stL_length : ∀ (l : List StV), (∀ x ∈ l, OkV x) → (stL l).length = l.length * 181
  | [], _ => rfl
  | x :: l, h => by
    rw [stL_cons, List.length_append, stcells_length _ (h x (by simp)), stL_length l fun y hy => h y (by simp [hy]), List.length_cons]
    omega
theorem stL_at : ∀ (l : List StV), (∀ x ∈ l, OkV x) → ∀ (i : Nat) (hi : i < l.length) (j : Nat) (v : Value), (stcells l[i])[j]? = some v → (stL l)[181 * i + j]? = some v
  | [], _, i, hi, _, _, _ => by cases hi
  | x :: l, h, i, hi, j, v, hj => by
    have hx := stcells_length _ (h x (by simp))
    rw [stL_cons]
    cases i with
    | zero =>
      have hj' : (stcells x)[j]? = some v := hj
      have : j < (stcells x).length := (List.getElem?_eq_some_iff.1 hj').1
      rw [List.getElem?_append_left (by omega)]
      simpa using hj'
    | succ i =>
      rw [List.getElem?_append_right (by omega), hx]
      have := stL_at l (fun y hy => h y (by simp [hy])) i (by simpa using hi) j v (by simpa using hj)
      rw [← this]
      congr 1
      omega
theorem stL_back : ∀ (l : List StV), (∀ x ∈ l, OkV x) → ∀ (j : Nat) (v : Value), (stL l)[j]? = some v → ∃ i, ∃ hi : i < l.length, ∃ k, j = 181 * i + k ∧ (stcells l[i])[k]? = some v
  | [], _, j, v, hj => by simp [stL_nil] at hj
  | x :: l, h, j, v, hj => by
    have hx := stcells_length _ (h x (by simp))
    rw [stL_cons] at hj
    by_cases hlt : j < 181
    · rw [List.getElem?_append_left (by omega)] at hj
      exact ⟨0, by simp, j, by omega, hj⟩
    · rw [List.getElem?_append_right (by omega), hx] at hj
      obtain ⟨i, hi, k, e, hk⟩ := stL_back l (fun y hy => h y (by simp [hy])) _ v hj
      exact ⟨i + 1, by simpa using hi, k, by omega, by simpa using hk⟩
theorem stcells_one (x : StV) : ∀ v ∈ stcells x, v.oneCell' = true := by
  intro v hv
  unfold stcells at hv
  rcases List.mem_append.1 hv with hv | hv
  · rcases List.mem_append.1 hv with hv | hv
    · rcases List.mem_append.1 hv with hv | hv
      · rw [List.mem_singleton] at hv; rw [hv]; rfl
      · exact icells_one _ v hv
    · rw [List.mem_singleton] at hv; rw [hv]; rfl
  · have h := one_cellsS x.h
    rw [List.all_toArray, List.all_eq_true] at h
    exact h v hv
theorem SReads.puts {w : World} {ad : Addr} {len cap : Nat} {l : List StV} (h : SReads w (some ad) len cap l) : ∀ j u, (stL l)[j]? = some u → w.cell? (ad.add j) = some u := fun j u hj => by
  obtain ⟨i, hi, k, rfl, hk⟩ := stL_back l h.ok j u hj
  have h1 := h.ln
  rcases h.lies with h5 | ⟨g, o, ha, hl⟩
  · omega
  · cases ha
    rw [add_plain, ← Nat.add_assoc]
    exact hl i hi k u hk
theorem infoSt : (Tryz.prog.info? 40).map (fun i => (i.zero, i.size, i.bytes)) = some (some (.agg (stcells zeroV).toArray), 181, 352) := by kernel_rfl
theorem SReads.own {w : World} {B n : Nat} {v : Value} {l : List StV} (h : w.ownsRow B 40 181 v n (stL l)) (hok : ∀ x ∈ l, OkV x) : ∃ a cap, v = .slice a n cap ∧ SReads w a n cap l ∧ (a = none → cap = 0) ∧ (∀ g o, a = some ⟨g, o, none⟩ → B ≤ g ∧ v.ownBlock = some g) := by
  have hl : l.length = n := by have := h.1; rw [stL_length l hok] at this; omega
  rcases h.2 with ⟨rfl, h0⟩ | ⟨g, cap, cur, rfl, hb, hg, hc, hm, hs, ht⟩
  · subst h0
    exact ⟨none, 0, rfl, ⟨hl, Nat.le_refl _, Nat.zero_le _, hok, .inl rfl⟩, fun _ => rfl, fun g o e => by cases e⟩
  · refine ⟨some ⟨g, 0, none⟩, cap, rfl, ⟨hl, hc, by omega, hok, .inr ⟨g, 0, rfl, fun i hi j v hj => ?_⟩⟩, (fun e => by cases e), fun g' o' e => by cases e; exact ⟨hb, rfl⟩⟩
    have := h.cells (g := g) rfl _ _ (stL_at l hok i hi j v hj)
    rw [add_plain] at this
    rw [Nat.zero_add]
    simpa using this
structure InP (w : World) (a : Option Addr) (len cap : Nat) (l : List StV) : Prop where
  rd : SReads w a len cap l
  nil : a = none → cap = 0
  its : ∀ v ∈ l, In64 v.i ∧ InI v.x ∧ InS v.h
  prf : ∀ v ∈ l, LReads w v.a v.n v.c v.p
  pnil : ∀ v ∈ l, v.a = none → v.c = 0
  le : len ≤ 100
theorem InP.keep {w w' : World} {a : Option Addr} {len cap : Nat} {l : List StV} (h : InP w a len cap l) (hb : Below w.heap.size w w') : InP w' a len cap l :=
  ⟨h.rd.keep hb, h.nil, h.its, fun v hv => (h.prf v hv).keep hb, h.pnil, h.le⟩
def RoomP (B : Nat) (x : Option Addr) (m : Nat) (W : World) : Prop := m = 0 ∨ ∃ gp, x = some ⟨gp, 0, none⟩ ∧ B ≤ gp ∧ W.there gp 0 (32 * m)
theorem RoomP.own {w : World} {B : Nat} {x : Option Addr} {cx m : Nat} {xs : List Value} (h : w.ownsRow B 24 32 (.slice x m cx) m xs) : RoomP B x m w := by
  rcases h.2 with ⟨_, h0⟩ | ⟨g, cap, cur, hv, hb, hg, hc, hm, hs, ht⟩
  · exact .inl h0
  · cases hv
    refine .inr ⟨g, rfl, hb, fun j hj => ?_⟩
    rw [Nat.zero_add]
    have hjc : j < cur.size := by rw [hs]; omega
    refine ⟨?_, ?_⟩
    · rw [cell_of_row w g j cur 24 (0, 0) hg, Array.getElem?_eq_getElem hjc]
      rfl
    · simp [World.frozen?, hg]
def mkV (l : List ItT) (i : Int) (s : SgT) (x : Option Addr) (cx : Nat) : StV := ⟨(mkT l i s).i, (mkT l i s).x, x, (mkT l i s).p.length, cx, (mkT l i s).h, (mkT l i s).p⟩
def endE (l : List StV) : Int := if 1 ≤ l.length ∧ l.length ≤ 5 then 0 else 130
def endX (l : List StV) : ItT := if 1 ≤ l.length ∧ l.length ≤ 5 then (l.headD zeroV).x else zeroI
def endS (l : List StV) : SgT := if 1 ≤ l.length ∧ l.length ≤ 5 then (l.getLastD zeroV).h else zeroS
structure PathC : Prop where
  make : ∀ (a : Option Addr) (len cap : Nat) (l : List ItT) (i : Int) (s : SgT) (w : World) (h : InL w a len cap l) (hi : In64 i) (hs : InS s) (S : Array Value) (HS : Hid (S = (scells s).toArray)) (hT : TabH w),
    Calls Tryz.prog 7 #[.slice a len cap, .int .i64 i, .agg S] w fun e w' => ∃ x cx, e = .returned (.tuple #[.agg (stcells (mkV l i s x cx)).toArray, .int .i64 (mkE l i s)]) ∧ LReads w' x (mkT l i s).p.length cx (mkT l i s).p ∧ (x = none → cx = 0) ∧ RoomP w.heap.size x (mkT l i s).p.length w' ∧ Below w.heap.size w w'
  verify : ∀ (master : List UInt8) (a : Option Addr) (len cap : Nat) (l : List StV) (w : World) (M : Array Value) (HM : Hid (M = (cellsOf master).toArray)) (hm : master.length = 32) (h : InP w a len cap l) (hT : TabH w),
    Calls Tryz.prog 14 #[.agg M, .slice a len cap] w fun e w' => e = .returned (.int .i64 (pathE master (l.map StV.t))) ∧ Below w.heap.size w w'
  ends : ∀ (a : Option Addr) (len cap : Nat) (l : List StV) (w : World) (h : InP w a len cap l) (X S : Array Value) (HX : Hid (X = (icells (endX l)).toArray)) (HS : Hid (S = (scells (endS l)).toArray)),
    Calls Tryz.prog 15 #[.slice a len cap] w fun e w' => e = .returned (.tuple #[.agg X, .agg S, .int .i64 (endE l)]) ∧ Below w.heap.size w w'
def FrR (B : Nat) (x : Option Addr) (n : Nat) : Prop := ∀ g o, x = some ⟨g, o, none⟩ → 0 < n → B ≤ g
set_option maxHeartbeats 4000000 in
theorem behindN_any (a : Option Addr) (len cap : Nat) (l : List (List UInt8)) (d : List UInt8) (w : World) (hR : LReads w a len cap l) (hl : len ≤ 100000) (hd : d.length = 32) (D : Array Value) (HD : Hid (D = (cellsOf d).toArray)) :
    Calls Tryz.prog 63 #[.slice a len cap, .agg D] w fun e w' => ∃ x cx, e = .returned (.slice x (len + 1) cx) ∧ LReads w' x (len + 1) cx (l ++ [d]) ∧ Below w.heap.size w w' ∧ FrR w.heap.size x (len + 1) := by
  have hb0 : Below w.heap.size w (w.alloc (.cells D 24)) := (Below.refl _ _).alloc (Nat.le_refl _) _
  obtain ⟨v1, w1, hr1, ho1, hb1⟩ := append_any (w.alloc (.cells D 24)) (w.heap.size + 1) (.slice none 0 0) [] l (World.ownsRow_nil _ _ _ _) a len cap (hR.keep hb0) (by simp) (by simp; omega)
  rw [List.nil_append] at ho1
  have hg1 : w1.heap[w.heap.size]? = some (.cells D 24 (0, 0)) := (hb1.block _ (by omega)).trans (heap_alloc_new w _)
  have hs1 : w.heap.size + 1 ≤ w1.heap.size := by have := hb1.size; simpa using this
  have hb2 : Below w1.heap.size w1 (w1.alloc (.cells D 24)) := (Below.refl _ _).alloc (Nat.le_refl _) _
  have hnew : LReads (w1.alloc (.cells D 24)) (some ⟨w1.heap.size, 0, none⟩) 1 1 [d] := by
    refine ⟨rfl, .one hd, Nat.le_refl _, by unfold maxLen; omega, .inr ⟨_, _, rfl, fun i hi => ?_⟩⟩
    rw [Nat.zero_add, cell_of_row _ _ i _ 24 (0, 0) (heap_alloc_new w1 _), HD.out]
    simp only [List.flatten_cons, List.flatten_nil, List.append_nil] at hi ⊢
    simp [cellsOf_at _ i hi]
  obtain ⟨v2, w2, hr2, ho2, hb3⟩ := append_any (w1.alloc (.cells D 24)) (w.heap.size + 1) v1 l [d] (own_below ho1 hb2) (some ⟨w1.heap.size, 0, none⟩) 1 1 hnew (by simp; omega) (by have := hR.1; omega)
  obtain ⟨x, cx, rfl, hx, hfr⟩ := LReads.own ho2 (hR.2.1.append (.one hd))
  have hl2 : (l ++ [d]).length = len + 1 := by rw [List.length_append, hR.1]; rfl
  rw [hl2] at hx hr2
  have HF : Hid (LReads w2 x (len + 1) cx (l ++ [d]) ∧ Below w.heap.size w w2 ∧ FrR w.heap.size x (len + 1)) := by
    refine ⟨hx, ((hb0.trans (hb1.mono (by omega))).trans (hb2.mono (by omega))).trans (hb3.mono (by omega)), fun g o e h0 => by have := hfr g o e; omega⟩
  have HB := hidk (build_one w1 d hd D HD)
  have HR1 := hidk hr1
  have HR2 := hidk hr2
  have HG1 := hidk hg1
  have HSD : Hid ((Tryz.prog.info? 24).map (·.size) = some D.size) := by show _ = _; rw [size23, HD.out]; simp [cellsOf_length, hd]
  clear hR hb0 hr1 ho1 hb1 hg1 hs1 hb2 hnew hr2 ho2 hb3 hx hl2 hfr
  go_enter Tryz.func63, Tryz.ntmps63
  go_wp2_with (first
    | (refine wpList_append_runD rfl (.tmp 6) (.tmp 7) 38 38 rfl _ _ _ w1 rfl rfl HR1.out ?_; try simp only [Act.put, pS1, pS2, pS3])
    | (refine wpList_load_row rfl 24 (.tmp 3) rfl w.heap.size rfl 24 D (0, 0) _ HG1.out Tryz.underlying24 rfl HSD.out ?_; try simp only [Act.put, pS1, pS2, pS3])
    | (refine wpList_build_run rfl 38 1 _ rfl #[(0, .agg D)] rfl _ _ HB.out ?_; try simp only [Act.put, pS1, pS2, pS3])
    | (refine wpList_append_runD rfl (.tmp 9) (.tmp 11) 38 38 rfl _ _ _ w2 rfl rfl HR2.out ?_; try simp only [Act.put, pS1, pS2, pS3])
    | fail)
  go_ret
  exact ⟨x, cx, rfl, HF.out⟩
set_option maxHeartbeats 4000000 in
theorem refInclN_any (n : Nat) (a : Option Addr) (len cap i : Nat) (l : List (List UInt8)) (w : World) (hn : len = n) (hR : LReads w a len cap l) (hi : i < len) (hl : len ≤ 100000) (hK : Table 0 w) :
    Calls Tryz.prog 39 #[.slice a len cap, .int .i64 i] w fun e w' => ∃ x cx, e = .returned (.slice x (incl l i).length cx) ∧ LReads w' x (incl l i).length cx (incl l i) ∧ Below w.heap.size w w' ∧ FrR w.heap.size x (incl l i).length := by
  have ih : ∀ m, m < n → ∀ (a : Option Addr) (len cap i : Nat) (l : List (List UInt8)) (w : World) (hn : len = m) (hR : LReads w a len cap l) (hi : i < len) (hl : len ≤ 100000) (hK : Table 0 w), Calls Tryz.prog 39 #[.slice a len cap, .int .i64 i] w fun e w' => ∃ x cx, e = .returned (.slice x (incl l i).length cx) ∧ LReads w' x (incl l i).length cx (incl l i) ∧ Below w.heap.size w w' := fun m _ a len cap i l w h1 h2 h3 h4 h5 => refIncl_any m a len cap i l w h1 h2 h3 h4 h5
  focus
    subst hn
    have hlen := hR.1
    have hmx : len ≤ 9223372036854775807 := by omega
    obtain ⟨g, o, rfl, hg⟩ := hR.at (by omega)
    by_cases h1 : len = 1
    · rw [incl_one l i (by omega)]
      subst h1
      have HL : Hid (LReads w none 0 0 []) := ⟨rfl, (fun d hd => by cases hd), Nat.le_refl _, Nat.zero_le _, .inl rfl⟩
      clear hK hR ih hlen
      go_enter Tryz.func39, Tryz.ntmps39
      go_wp2
      go_ret
      exact ⟨none, 0, rfl, HL.out, Below.refl _ _, fun g o e => by cases e⟩
    · have h2 : 2 ≤ len := by omega
      obtain ⟨k, hk⟩ : ∃ k, k = split len := ⟨_, rfl⟩
      have hkl := split_lt len h2
      have hkp := split_pos len h2
      rw [← hk] at hkl hkp
      have hcl := hR.2.2.1
      have S : Hid (∀ W, Calls Tryz.prog 61 #[.int .i64 len] W fun e w' => e = .returned (.int .i64 k) ∧ W = w') := fun W => by
        have := refSplit_any (len : Int) W (by omega)
        rw [Int.toNat_natCast, ← hk] at this
        exact this
      have sl := fun W => slice_left W g o len cap k (by omega)
      have sr := fun W => slice_right W g o len cap k (by omega) hcl (by omega)
      by_cases hik : i < k
      · have hdl : decide ((i : Int) < (k : Int)) = true := by rw [decide_eq_true_eq]; omega
        have HE : Hid (incl l i = incl (l.take k) i ++ [root (l.drop k)]) := by
          show _ = _
          rw [incl_left l i (by omega) (by rw [hlen, ← hk]; exact hik), hlen, ← hk]
        have IH : Hid (∀ W, Below w.heap.size w W → Calls Tryz.prog 39 #[.slice (some ⟨g, o, none⟩) k cap, .int .i64 i] W fun e w' => ∃ x cx, e = .returned (.slice x (incl (l.take k) i).length cx) ∧ LReads w' x (incl (l.take k) i).length cx (incl (l.take k) i) ∧ Below W.heap.size W w') := fun W hb => by
          exact ih k hkl _ k cap i (l.take k) W rfl ((hR.keep hb).take k (by omega)) (by omega) (by omega) (hK.keep hb)
        obtain ⟨D, HD⟩ : ∃ D, Hid (D = (cellsOf (root (l.drop k))).toArray) := ⟨_, (rfl : (cellsOf (root (l.drop k))).toArray = _)⟩
        have hdd : (root (l.drop k)).length = 32 := root_length sumD_length _ (hR.2.1.drop k)
        have RR : Hid (∀ W, Below w.heap.size w W → Calls Tryz.prog 35 #[.slice (some ⟨g, o + 32 * k, none⟩) (len - k) (cap - k)] W fun e w' => e = .returned (.agg D) ∧ Below W.heap.size W w') := fun W hb =>
          refRoot_any _ _ _ _ (l.drop k) W rfl ((hR.keep hb).drop k (by omega)) (hK.keep hb) D HD
        have hsh := incl_len (l.take k) i (by simp only [List.length_take, List.length_drop]; omega)
        simp only [List.length_take, List.length_drop] at hsh
        generalize incl (l.take k) i = acc at HE IH hsh
        have hal : acc.length ≤ 100000 := by omega
        have BH : Hid (∀ W x cx, LReads W x acc.length cx acc → Calls Tryz.prog 63 #[.slice x acc.length cx, .agg D] W fun e w' => ∃ y cy, e = .returned (.slice y (acc.length + 1) cy) ∧ LReads w' y (acc.length + 1) cy (acc ++ [root (l.drop k)]) ∧ Below W.heap.size W w' ∧ FrR W.heap.size y (acc.length + 1)) := fun W x cx hx => behindN_any x acc.length cx acc _ W hx hal hdd D HD
        rw [HE.out]
        generalize root (l.drop k) = rt at BH
        obtain ⟨m, HM⟩ : ∃ m, Hid (m = acc.length) := ⟨_, (rfl : acc.length = _)⟩
        rw [← HM.out] at IH BH
        have HM2 : Hid ((acc ++ [rt]).length = m + 1) := by show _ = _; rw [List.length_append, HM.out]; rfl
        rw [HM2.out]
        clear hK hR ih hlen hk HE HD hsh hal hdd
        go_enter Tryz.func39, Tryz.ntmps39
        go_wp2_with fail
        refine (S.out _).mono ?_
        rintro e w1 ⟨rfl, rfl⟩
        clear S
        go_wp2
        refine wp_region_held_drew (S := (fun _ => True)) (by kernel_rfl) trivial (fun hHeld => ?_)
        refine zW 0 (.slice (some ⟨g, o, none⟩) len cap) rfl (Or.inl ⟨by rfl, by intro w hSw; go_simp⟩) hHeld ?_
        try simp only [Act.put, pS1, pS2, pS3]
        refine zW 1 (.int .i64 k) rfl (Or.inl ⟨by rfl, by intro w hSw; go_simp⟩) hHeld ?_
        try simp only [Act.put, pS1, pS2, pS3]
        refine zW 2 (.slice (some ⟨g, o, none⟩) k cap) rfl (Or.inl ⟨by rfl, by intro W hSw; have := sl W; go_simp⟩) hHeld ?_
        try simp only [Act.put, pS1, pS2, pS3]
        refine zW 3 (.int .i64 i) rfl (Or.inl ⟨by rfl, by intro w hSw; go_simp⟩) hHeld ?_
        try simp only [Act.put, pS1, pS2, pS3]
        refine zW 5 (.slice (some ⟨g, o, none⟩) len cap) rfl (Or.inl ⟨by rfl, by intro w hSw; go_simp⟩) hHeld ?_
        try simp only [Act.put, pS1, pS2, pS3]
        refine zW 6 (.int .i64 k) rfl (Or.inl ⟨by rfl, by intro w hSw; go_simp⟩) hHeld ?_
        try simp only [Act.put, pS1, pS2, pS3]
        refine zW 7 (.slice (some ⟨g, o + 32 * k, none⟩) (len - k) (cap - k)) rfl (Or.inl ⟨by rfl, by intro W hSw; have := sr W; go_simp⟩) hHeld ?_
        try simp only [Act.put, pS1, pS2, pS3]
        refine wpAnyH_ready (rs := [4]) (by kernel_rfl) (by simp) ?_
        refine AllReadyH.cons (o := { dst := some 19, op := .call { callee := .value (.func 39), args := #[.tmp 17, .tmp 18], argTypes := #[38, 3] }, type := 38, pos := "ref.go:48", after := #[zD 2, zD 3], guard := none }) rfl (fun K hK => ?_) AllReadyH.nil
        go_simp
        refine (IH.out _ (Below.refl _ _).drew).mono ?_
        rintro e w4 ⟨x, cx, rfl, hx, hb4⟩
        have H4 : Hid (LReads w4 x m cx acc ∧ Below w.heap.size w w4) := ⟨hx, (Below.refl _ _).drew.trans hb4⟩
        clear hx hb4
        go_wp2_with fail
        refine hK.out _ _ trivial (fun hHeld => ?_)
        clear hK K
        try simp only [Act.put, pS1, pS2, pS3]
        refine wpAnyH_ready (rs := [8]) (by kernel_rfl) (by simp) ?_
        refine AllReadyH.cons (o := { dst := some 23, op := .call { callee := .value (.func 35), args := #[.tmp 22], argTypes := #[38] }, type := 24, pos := "ref.go:48", after := #[zD 7, zC 4], guard := none }) rfl (fun K hK => ?_) AllReadyH.nil
        go_simp
        refine (RR.out _ H4.out.2).mono ?_
        rintro e w8 ⟨rfl, hb8⟩
        have H8 : Hid (LReads w8 x m cx acc ∧ Below w.heap.size w w8) := ⟨H4.out.1.keep hb8, H4.out.2.trans (hb8.mono H4.out.2.size)⟩
        clear hb8
        go_wp2_with fail
        refine hK.out _ _ trivial (fun hHeld => ?_)
        clear hK K
        try simp only [Act.put, pS1, pS2, pS3]
        refine wpAnyH_ready (rs := [9]) (by kernel_rfl) (by simp) ?_
        refine AllReadyH.cons (o := { dst := some 24, op := .call { callee := .value (.func 63), args := #[.tmp 19, .tmp 23], argTypes := #[38, 24] }, type := 38, pos := "ref.go:48", after := #[zD 4, zD 8, zC 8], guard := none }) rfl (fun K hK => ?_) AllReadyH.nil
        go_simp
        refine (BH.out _ _ _ H8.out.1).mono ?_
        rintro e w9 ⟨y, cy, rfl, hy, hb9, hf9⟩
        have H9 : Hid (LReads w9 y (m + 1) cy (acc ++ [rt]) ∧ Below w.heap.size w w9 ∧ FrR w.heap.size y (m + 1)) := ⟨hy, H8.out.2.trans (hb9.mono H8.out.2.size), fun g o e h0 => Nat.le_trans H8.out.2.size (hf9 g o e h0)⟩
        clear hy hb9 hf9
        go_wp2_with fail
        refine hK.out _ _ trivial (fun hHeld => ?_)
        clear hK K
        try simp only [Act.put, pS1, pS2, pS3]
        refine zW 10 (.slice y (m + 1) cy) rfl (Or.inl ⟨by rfl, by intro w hSw; go_simp⟩) hHeld ?_
        try simp only [Act.put, pS1, pS2, pS3]
        refine wpAnyH_done (by kernel_rfl) ?_ _
        go_wp2
        go_ret
        exact ⟨y, cy, rfl, H9.out⟩
      · have hdl : decide ((i : Int) < (k : Int)) = false := by rw [decide_eq_false_iff_not]; omega
        have hw := wrap_int ((i : Int) - (k : Int)) (by omega) (by omega)
        have HE : Hid (incl l i = incl (l.drop k) (i - k) ++ [root (l.take k)]) := by
          show _ = _
          rw [incl_right l i (by omega) (by rw [hlen, ← hk]; omega), hlen, ← hk]
        have IH : Hid (∀ W, Below w.heap.size w W → Calls Tryz.prog 39 #[.slice (some ⟨g, o + 32 * k, none⟩) (len - k) (cap - k), .int .i64 ((i : Int) - (k : Int))] W fun e w' => ∃ x cx, e = .returned (.slice x (incl (l.drop k) (i - k)).length cx) ∧ LReads w' x (incl (l.drop k) (i - k)).length cx (incl (l.drop k) (i - k)) ∧ Below W.heap.size W w') := fun W hb => by
          rw [show ((i : Int) - (k : Int)) = ((i - k : Nat) : Int) by omega]
          exact ih (len - k) (by omega) _ (len - k) (cap - k) (i - k) (l.drop k) W rfl ((hR.keep hb).drop k (by omega)) (by omega) (by omega) (hK.keep hb)
        obtain ⟨D, HD⟩ : ∃ D, Hid (D = (cellsOf (root (l.take k))).toArray) := ⟨_, (rfl : (cellsOf (root (l.take k))).toArray = _)⟩
        have hdd : (root (l.take k)).length = 32 := root_length sumD_length _ (hR.2.1.take k)
        have RR : Hid (∀ W, Below w.heap.size w W → Calls Tryz.prog 35 #[.slice (some ⟨g, o, none⟩) k cap] W fun e w' => e = .returned (.agg D) ∧ Below W.heap.size W w') := fun W hb =>
          refRoot_any _ _ _ _ (l.take k) W rfl ((hR.keep hb).take k (by omega)) (hK.keep hb) D HD
        have hsh := incl_len (l.drop k) (i - k) (by simp only [List.length_take, List.length_drop]; omega)
        simp only [List.length_take, List.length_drop] at hsh
        generalize incl (l.drop k) (i - k) = acc at HE IH hsh
        have hal : acc.length ≤ 100000 := by omega
        have BH : Hid (∀ W x cx, LReads W x acc.length cx acc → Calls Tryz.prog 63 #[.slice x acc.length cx, .agg D] W fun e w' => ∃ y cy, e = .returned (.slice y (acc.length + 1) cy) ∧ LReads w' y (acc.length + 1) cy (acc ++ [root (l.take k)]) ∧ Below W.heap.size W w' ∧ FrR W.heap.size y (acc.length + 1)) := fun W x cx hx => behindN_any x acc.length cx acc _ W hx hal hdd D HD
        rw [HE.out]
        generalize root (l.take k) = rt at BH
        obtain ⟨m, HM⟩ : ∃ m, Hid (m = acc.length) := ⟨_, (rfl : acc.length = _)⟩
        rw [← HM.out] at IH BH
        have HM2 : Hid ((acc ++ [rt]).length = m + 1) := by show _ = _; rw [List.length_append, HM.out]; rfl
        rw [HM2.out]
        clear hK hR ih hlen hk HE HD hsh hal hdd
        go_enter Tryz.func39, Tryz.ntmps39
        go_wp2_with fail
        refine (S.out _).mono ?_
        rintro e w1 ⟨rfl, rfl⟩
        clear S
        go_wp2
        refine wp_region_held_drew (S := (fun _ => True)) (by kernel_rfl) trivial (fun hHeld => ?_)
        refine zW 0 (.slice (some ⟨g, o, none⟩) len cap) rfl (Or.inl ⟨by rfl, by intro w hSw; go_simp⟩) hHeld ?_
        try simp only [Act.put, pS1, pS2, pS3]
        refine zW 1 (.int .i64 k) rfl (Or.inl ⟨by rfl, by intro w hSw; go_simp⟩) hHeld ?_
        try simp only [Act.put, pS1, pS2, pS3]
        refine zW 2 (.slice (some ⟨g, o + 32 * k, none⟩) (len - k) (cap - k)) rfl (Or.inl ⟨by rfl, by intro W hSw; have := sr W; go_simp⟩) hHeld ?_
        try simp only [Act.put, pS1, pS2, pS3]
        refine zW 3 (.int .i64 i) rfl (Or.inl ⟨by rfl, by intro w hSw; go_simp⟩) hHeld ?_
        try simp only [Act.put, pS1, pS2, pS3]
        refine zW 4 (.int .i64 k) rfl (Or.inl ⟨by rfl, by intro w hSw; go_simp⟩) hHeld ?_
        try simp only [Act.put, pS1, pS2, pS3]
        refine zW 5 (.int .i64 ((i : Int) - (k : Int))) rfl (Or.inl ⟨by rfl, by intro w hSw; go_simp⟩) hHeld ?_
        try simp only [Act.put, pS1, pS2, pS3]
        refine zW 7 (.slice (some ⟨g, o, none⟩) len cap) rfl (Or.inl ⟨by rfl, by intro w hSw; go_simp⟩) hHeld ?_
        try simp only [Act.put, pS1, pS2, pS3]
        refine zW 8 (.int .i64 k) rfl (Or.inl ⟨by rfl, by intro w hSw; go_simp⟩) hHeld ?_
        try simp only [Act.put, pS1, pS2, pS3]
        refine zW 9 (.slice (some ⟨g, o, none⟩) k cap) rfl (Or.inl ⟨by rfl, by intro W hSw; have := sl W; go_simp⟩) hHeld ?_
        try simp only [Act.put, pS1, pS2, pS3]
        refine wpAnyH_ready (rs := [6]) (by kernel_rfl) (by simp) ?_
        refine AllReadyH.cons (o := { dst := some 31, op := .call { callee := .value (.func 39), args := #[.tmp 27, .tmp 30], argTypes := #[38, 3] }, type := 38, pos := "ref.go:50", after := #[zD 2, zD 5], guard := none }) rfl (fun K hK => ?_) AllReadyH.nil
        go_simp
        refine (IH.out _ (Below.refl _ _).drew).mono ?_
        rintro e w4 ⟨x, cx, rfl, hx, hb4⟩
        have H4 : Hid (LReads w4 x m cx acc ∧ Below w.heap.size w w4) := ⟨hx, (Below.refl _ _).drew.trans hb4⟩
        clear hx hb4
        go_wp2_with fail
        refine hK.out _ _ trivial (fun hHeld => ?_)
        clear hK K
        try simp only [Act.put, pS1, pS2, pS3]
        refine wpAnyH_ready (rs := [10]) (by kernel_rfl) (by simp) ?_
        refine AllReadyH.cons (o := { dst := some 35, op := .call { callee := .value (.func 35), args := #[.tmp 34], argTypes := #[38] }, type := 24, pos := "ref.go:50", after := #[zD 9, zC 6], guard := none }) rfl (fun K hK => ?_) AllReadyH.nil
        go_simp
        refine (RR.out _ H4.out.2).mono ?_
        rintro e w8 ⟨rfl, hb8⟩
        have H8 : Hid (LReads w8 x m cx acc ∧ Below w.heap.size w w8) := ⟨H4.out.1.keep hb8, H4.out.2.trans (hb8.mono H4.out.2.size)⟩
        clear hb8
        go_wp2_with fail
        refine hK.out _ _ trivial (fun hHeld => ?_)
        clear hK K
        try simp only [Act.put, pS1, pS2, pS3]
        refine wpAnyH_ready (rs := [11]) (by kernel_rfl) (by simp) ?_
        refine AllReadyH.cons (o := { dst := some 36, op := .call { callee := .value (.func 63), args := #[.tmp 31, .tmp 35], argTypes := #[38, 24] }, type := 38, pos := "ref.go:50", after := #[zD 6, zD 10, zC 10], guard := none }) rfl (fun K hK => ?_) AllReadyH.nil
        go_simp
        refine (BH.out _ _ _ H8.out.1).mono ?_
        rintro e w9 ⟨y, cy, rfl, hy, hb9, hf9⟩
        have H9 : Hid (LReads w9 y (m + 1) cy (acc ++ [rt]) ∧ Below w.heap.size w w9 ∧ FrR w.heap.size y (m + 1)) := ⟨hy, H8.out.2.trans (hb9.mono H8.out.2.size), fun g o e h0 => Nat.le_trans H8.out.2.size (hf9 g o e h0)⟩
        clear hy hb9 hf9
        go_wp2_with fail
        refine hK.out _ _ trivial (fun hHeld => ?_)
        clear hK K
        try simp only [Act.put, pS1, pS2, pS3]
        refine zW 12 (.slice y (m + 1) cy) rfl (Or.inl ⟨by rfl, by intro w hSw; go_simp⟩) hHeld ?_
        try simp only [Act.put, pS1, pS2, pS3]
        refine wpAnyH_done (by kernel_rfl) ?_ _
        go_wp2
        go_ret
        exact ⟨y, cy, rfl, H9.out⟩
theorem incE11_inv14 {l : List ItT} {n i : Int} (h : incE11 l n i = 0) : sizeX l n = 0 ∧ 0 ≤ i ∧ i < n := by
  unfold incE11 at h
  by_cases hs : sizeX l n = 0
  · rw [if_pos hs] at h
    by_cases hi : 0 ≤ i ∧ i < n
    · exact ⟨hs, hi⟩
    · rw [if_neg hi] at h; omega
  · rw [if_neg hs] at h; exact absurd h hs
set_option maxHeartbeats 4000000 in
theorem refInclusionN (a : Option Addr) (len cap : Nat) (l : List ItT) (n i : Int) (w : World) (h : IReads w a len cap l) (hK : Table 0 w) (hE : incE11 l n i = 0) :
    Calls Tryz.prog 22 #[.slice a len cap, .int .i64 n, .int .i64 i] w fun e w' => ∃ x cx, e = .returned (.tuple #[.slice x (incL11 l n i).length cx, .int .i64 0]) ∧ LReads w' x (incL11 l n i).length cx (incL11 l n i) ∧ Below w.heap.size w w' ∧ FrR w.heap.size x (incL11 l n i).length := by
  have HC : Hid (Calls Tryz.prog 34 #[.slice a len cap, .int .i64 n] w fun e w' => e = .returned (.int .i64 (sizeX l n)) ∧ Below w.heap.size w w') := refSize_any a len cap l n w h
  obtain ⟨hs, hi⟩ := incE11_inv14 hE
  obtain ⟨hr, hn0, hn1⟩ := sizeX_ok hs
  have hrl := right_len hr
  rw [hs] at HC
  obtain ⟨e1, e2⟩ := incE11_ok hs hi
  rw [e2]
  obtain ⟨a', HI, HLV⟩ := leaves_first h n hs hK
  obtain ⟨P, HP⟩ : ∃ P, Hid (P = incl (leavesL (l.take n.toNat)) i.toNat) := ⟨_, hidk rfl⟩
  rw [← HP.out]
  have HRT : Hid (∀ W x cx, Below w.heap.size w W → LReads W x n.toNat cx (leavesL (l.take n.toNat)) → Calls Tryz.prog 39 #[.slice x n.toNat cx, .int .i64 i] W fun e w' => ∃ x cx, e = .returned (.slice x P.length cx) ∧ LReads w' x P.length cx P ∧ Below W.heap.size W w' ∧ FrR W.heap.size x P.length) := fun W x cx hb hx => by
    rw [HP.out]
    have := refInclN_any n.toNat x n.toNat cx i.toNat _ W rfl hx (by omega) (by omega) (hK.keep hb)
    rwa [Int.toNat_of_nonneg hi.1] at this
  have ix := HI.out
  have d1 : decide (i < 0) = false := decide_eq_false (by omega)
  have d2 : decide (n ≤ i) = false := decide_eq_false (by omega)
  clear h hK HP e1 e2 hs hr hn0 hn1 hrl hE
  go_enter Tryz.func22, Tryz.ntmps22
  go_wp2_with fail
  refine HC.out.mono ?_
  rintro e w2 ⟨rfl, hb2⟩
  have HB2 := hidk hb2
  clear hb2
  go_wp2_with fail
  refine (HLV.out _ HB2.out).mono ?_
  rintro e w3 ⟨x, cx, rfl, hx, hb3⟩
  have HB3 := hidk (HB2.out.trans (hb3.mono HB2.out.size))
  have HR := hidk (HRT.out w3 x cx HB3.out hx)
  clear hb3 hx
  go_wp2_with fail
  refine HR.out.mono ?_
  rintro e w4 ⟨y, cy, rfl, hy, hb4, hf⟩
  have HB4 := hidk (HB3.out.trans (hb4.mono HB3.out.size))
  have HY := hidk hy
  have HFR : Hid (FrR w.heap.size y P.length) := fun g o e h0 => Nat.le_trans HB3.out.size (hf g o e h0)
  clear hb4 hy hf
  go_wp2_with fail
  go_ret2
  exact ⟨y, cy, rfl, HY.out, HB4.out, HFR.out⟩
theorem fill_sts (ds : List (List Value)) : ∀ (k : Nat) (cs : Array Value) (pre old : List Value), cs.toList = pre ++ old → pre.length = k * 181 → (∀ d ∈ ds, d.length = 181) → old.length = ds.length * 181 →
    Instr.fill (fun i => some (i * 181, 181)) cs ((ds.zipIdx k).map fun x => (x.2, Value.agg x.1.toArray)) = some (pre ++ ds.flatten).toArray := by
  induction ds with
  | nil =>
    intro k cs pre old h hp hd ho
    have : old = [] := List.eq_nil_of_length_eq_zero (by simpa using ho)
    subst this
    simp only [List.zipIdx_nil, List.map_nil, Instr.fill, List.flatten_nil, ← h]
  | cons d ds ih =>
    intro k cs pre old h hp hd ho
    have h32 := hd d (List.mem_cons_self ..)
    simp only [List.length_cons] at ho
    have hcs : cs.size = k * 181 + old.length := by rw [← Array.length_toList, h, List.length_append, hp]
    rw [List.zipIdx_cons, List.map_cons]
    unfold Instr.fill
    have hsz : (Value.agg d.toArray).cells.size = 181 := by show d.toArray.size = 181; simp [h32]
    simp only [hsz]
    rw [if_neg (by simp; omega)]
    refine (ih (k + 1) _ (pre ++ d) (old.drop 181) ?_ (by simp; omega) (fun x hx => hd x (List.mem_cons_of_mem _ hx)) (by simp; omega)).trans (by simp)
    have := fold_setD d 0 (k * 181) cs pre (old.take 181) (old.drop 181) (by rw [h, List.append_assoc, List.take_append_drop]) (by omega) (by simp; omega)
    rw [← this, ← Array.foldl_toList]
    congr 2
    simp [Value.cells]
theorem run_build_sts (w : World) (n : Nat) (l : List StV) (hd : ∀ x ∈ l, OkV x) (hn : l.length = n) (h1 : 0 < n) (h2 : n ≤ 100) (parts : Array (Nat × Value)) (hp : parts.toList = ((l.map stcells).zipIdx 0).map fun x => (x.2, Value.agg x.1.toArray)) :
    (Instr.buildSlice 49 n parts).run Tryz.prog w = .ok (.slice (some ⟨w.heap.size, 0, none⟩) n n) (w.alloc (.cells (stL l).toArray 40)) := by
  obtain ⟨ie, hie, hz, hs, hy⟩ := info_parts infoSt
  refine run_buildSlice w 49 40 n parts _ ie _ Tryz.underlying49 hie hz (by rw [hs]; omega) (by rw [hs]; omega) ?_
  rw [hs, hp]
  have e : (l.map stcells).flatten = stL l := by unfold stL; rw [List.flatMap_def]
  generalize hcs : Array.map _ (Array.range (n * 181)) = cs
  have hcz : cs.size = n * 181 := by rw [← hcs]; simp
  rw [fill_sts (l.map stcells) 0 cs [] cs.toList rfl rfl (fun d h => by
    obtain ⟨x, hx, rfl⟩ := List.mem_map.1 h
    exact stcells_length x (hd x hx)) (by simp [hcz, hn]), e]
  rfl
theorem SReads.new (W : World) (l : List StV) (n : Nat) (hn : l.length = n) (hd : ∀ x ∈ l, OkV x) (h1 : n ≤ 100) (L : Array Value) (HL : Hid (L = (stL l).toArray)) : SReads (W.alloc (.cells L 40)) (some ⟨W.heap.size, 0, none⟩) n n l := by
  refine ⟨hn, Nat.le_refl _, by unfold maxLen; omega, hd, .inr ⟨_, _, rfl, fun i hi j v hj => ?_⟩⟩
  have := stL_at l hd i hi j v hj
  rw [cell_of_row _ _ _ _ 40 (0, 0) (heap_alloc_new W _), HL.out, Nat.zero_add]
  simpa using this
theorem sizeSt : (Tryz.prog.info? 40).map (·.size) = some 181 := by kernel_rfl
theorem infoSt0 : (Tryz.prog.info? 40).map (fun i => (i.zero, i.size)) = some (some (.agg (stcells zeroV).toArray), (stcells zeroV).toArray.size) := by kernel_rfl
theorem builtSt0 : Tryz.prog.built 40 [] = some (stcells zeroV).toArray := by kernel_rfl
theorem zeroV_ok : OkV zeroV := ⟨zeroE_ok, rfl, rfl⟩
theorem step_row (v : StV) (ok : OkV v) : ∃ C : Array Value, Hid (C = (stcells v).toArray) ∧ Hid ((Tryz.prog.info? 40).map (·.size) = some C.size) ∧ Hid (C.all (·.oneCell') = true) ∧ Hid (C.size = 181) := by
  have hn : (stcells v).toArray.size = 181 := by simp [stcells_length v ok]
  refine ⟨(stcells v).toArray, hidk rfl, ?_, ?_, hn⟩
  · show _ = _
    rw [sizeSt, hn]
  · show _ = _
    rw [List.all_toArray, List.all_eq_true]
    exact fun u hu => stcells_one v u hu
theorem noughtsSt : ∃ Z : Array Value, Hid (Z = (stcells zeroV).toArray) ∧ Hid ((Tryz.prog.info? 40).map (fun i => (i.zero, i.size)) = some (some (.agg Z), Z.size)) ∧ Hid (Tryz.prog.built 40 [] = some Z) ∧ Hid (Z.size = 181) :=
  ⟨(stcells zeroV).toArray, hidk rfl, infoSt0, builtSt0, by show _ = _; simp [stcells_length zeroV zeroV_ok]⟩
theorem range_ish {w : World} {g o : Nat} {x : ItT} (h : w.rangeAt g o (icells x)) : w.rangeAt g (o + 5) (scells x.e.h) := fun j v hj => by
  have hl := (List.getElem?_eq_some_iff.1 hj).1
  have := range_entry h (4 + j) v (by
    unfold ecells
    rw [List.append_assoc, List.getElem?_append_right (by simp), List.getElem?_append_left (by simpa using hl)]
    simpa using hj)
  rw [← this]
  congr 2
  omega
theorem builtSt (v : StV) (ok : OkV v) (X S R : Array Value) (HX : Hid (X = (icells v.x).toArray)) (HS : Hid (S = (scells v.h).toArray)) (HR : Hid (R = (stcells v).toArray)) : Tryz.prog.built 40 [(0, .int .i64 v.i), (1, .agg X), (2, .slice v.a v.n v.c), (3, .agg S)] = some R := by
  have hi := infoSt0
  cases hq : Tryz.prog.info? 40 with
  | none => rw [hq] at hi; cases hi
  | some i =>
    rw [hq] at hi
    simp only [Option.map_some, Option.some.injEq, Prod.mk.injEq] at hi
    have h3 : (Tryz.prog.info? 3).map (·.size) = some 1 := by kernel_rfl
    have hL : (Tryz.prog.info? 38).map (·.size) = some 1 := by kernel_rfl
    have hI := sizeI
    have hS := sizeS
    cases hq3 : Tryz.prog.info? 3 with
    | none => rw [hq3] at h3; cases h3
    | some i3 =>
    cases hqL : Tryz.prog.info? 38 with
    | none => rw [hqL] at hL; cases hL
    | some iL =>
    cases hqI : Tryz.prog.info? 37 with
    | none => rw [hqI] at hI; cases hI
    | some iI =>
    cases hqS : Tryz.prog.info? 28 with
    | none => rw [hqS] at hS; cases hS
    | some iS =>
    rw [hq3] at h3
    rw [hqL] at hL
    rw [hqI] at hI
    rw [hqS] at hS
    simp only [Option.map_some, Option.some.injEq] at h3 hL hI hS
    unfold Program.built
    simp only [hq, Tryz.underlying40, hi.1, List.mapM_cons, List.mapM_nil, hq3, hqL, hqI, hqS, h3, hL, hI, hS, Option.map_some, Option.bind_eq_bind, Option.bind_some, Option.pure_def]
    show Instr.fill _ (stcells zeroV).toArray _ = some R
    have h110 : X.size = 110 := by rw [HX.out]; simp [icells_length _ ok.x]
    have h69 : S.size = 69 := by rw [HS.out]; simp [scells_length _ ok.d ok.g]
    have z110 : (icells zeroI).length = 110 := icells_length _ zeroE_ok
    have z69 : (scells zeroS).length = 69 := scells_length _ rfl rfl
    have x110 : X.toList.length = 110 := by simpa using h110
    refine (fill_val _ 0 0 1 (.int .i64 v.i) #[.int .i64 v.i] _ [] [.int .i64 0] (icells zeroI ++ [.slice none 0 0] ++ scells zeroS) _ rfl rfl rfl (by simp [stcells, zeroV]) rfl rfl).trans ?_
    refine (fill_val _ 1 1 110 (.agg X) X _ [.int .i64 v.i] (icells zeroI) ([.slice none 0 0] ++ scells zeroS) _ rfl rfl h110 (by simp) rfl z110).trans ?_
    refine (fill_val _ 2 111 1 (.slice v.a v.n v.c) #[.slice v.a v.n v.c] _ ([.int .i64 v.i] ++ X.toList) [.slice none 0 0] (scells zeroS) _ rfl rfl rfl (by simp) (by simp [x110]) rfl).trans ?_
    refine (fill_val _ 3 112 69 (.agg S) S _ ([.int .i64 v.i] ++ X.toList ++ [.slice v.a v.n v.c]) (scells zeroS) [] _ rfl rfl h69 (by simp) (by simp [x110]) z69).trans ?_
    simp only [Instr.fill, List.append_nil, Option.some.injEq]
    rw [HR.out, HX.out, HS.out]
    simp [stcells]
set_option maxHeartbeats 4000000 in
theorem pRight (a : Option Addr) (len cap : Nat) (w : World) (hl : len ≤ 100) :
    Calls Tryz.prog 26 #[.slice a len cap] w fun e w' => e = .returned (.bool (decide (1 ≤ len ∧ len ≤ 5))) ∧ w = w' := by
  by_cases h0 : 1 ≤ len
  · by_cases h5 : len ≤ 5
    · have e : decide (1 ≤ len ∧ len ≤ 5) = true := decide_eq_true ⟨h0, h5⟩
      rw [e]
      clear e
      go_enter Tryz.func26, Tryz.ntmps26
      go_wp2
      go_ret
      exact ⟨by show Ending.returned (.bool (decide ((len : Int) ≤ 5))) = _; rw [decide_eq_true (by omega)], rfl⟩
    · have e : decide (1 ≤ len ∧ len ≤ 5) = false := decide_eq_false (fun h => h5 h.2)
      rw [e]
      clear e
      go_enter Tryz.func26, Tryz.ntmps26
      go_wp2
      go_ret
      exact ⟨by show Ending.returned (.bool (decide ((len : Int) ≤ 5))) = _; rw [decide_eq_false (by omega)], rfl⟩
  · obtain rfl : len = 0 := by omega
    have e : decide (1 ≤ 0 ∧ 0 ≤ 5) = false := by decide
    rw [e]
    clear e h0
    go_enter Tryz.func26, Tryz.ntmps26
    go_wp2
    go_ret
    exact ⟨rfl, rfl⟩
set_option maxHeartbeats 4000000 in
theorem pAnchor (x : ItT) (s : SgT) (ok : OkE x.e) (hd : s.h.d.length = 32) (hg : s.g.length = 32) (w : World) (X S : Array Value) (HX : Hid (X = (icells x).toArray)) (HS : Hid (S = (scells s).toArray)) :
    Calls Tryz.prog 28 #[.agg X, .agg S] w fun e w' => e = .returned (.bool (decide (x.e.k = 2) && eqSB x.e.h s)) ∧ Below w.heap.size w w' := by
  have h1 : (w.alloc (.cells X 37)).heap.size = w.heap.size + 1 := by show (w.heap.push _).size = _; simp
  have HB : Hid (Below w.heap.size w ((w.alloc (.cells X 37)).alloc (.cells S 28))) := ((Below.refl _ _).alloc (Nat.le_refl _) _).alloc (by omega) _
  have HGX := hidk (heap_keep (o' := .cells S 28) (heap_alloc_new w (.cells X 37)))
  have HGS : Hid (((w.alloc (.cells X 37)).alloc (.cells S 28)).heap[w.heap.size + 1]? = some (.cells S 28 (0, 0))) := by
    have := heap_alloc_new (w.alloc (.cells X 37)) (.cells S 28)
    rw [h1] at this
    exact this
  obtain ⟨T, HT, HST, H1T, N69⟩ := sign_row x.e.h ok.h ok.g
  have HSS : Hid ((Tryz.prog.info? 28).map (·.size) = some S.size) := by show _ = _; rw [sizeS, HS.out]; simp [scells_length _ hd hg]
  have HRG : Hid (((w.alloc (.cells X 37)).alloc (.cells S 28)).rangeAt w.heap.size 5 T.toList) := by
    have h0 := range_row (l := icells x) (W := (w.alloc (.cells X 37)).alloc (.cells S 28)) (g := w.heap.size) (t := 37) (fr := (0, 0)) (by rw [← HX.out]; exact HGX.out)
    have := range_ish h0
    show World.rangeAt _ _ _ _
    rw [HT.out]
    simpa using this
  have HCK : Hid (((w.alloc (.cells X 37)).alloc (.cells S 28)).cell? ⟨w.heap.size, 1, none⟩ = some (.int .i64 x.e.k)) := by
    show _ = _
    rw [cell_of_row _ _ _ _ 37 (0, 0) HGX.out, HX.out]
    rfl
  obtain ⟨c, Hc⟩ : ∃ c, Hid (eqSB x.e.h s = c) := ⟨_, hidk rfl⟩
  have EQ : ∀ W, (binOp .eql 28 (.agg T) (.agg S)).run Tryz.prog W = .ok (.bool c) W := fun W => eqSigned _ _ ok.h hd ok.g hg T S HT HS c (by rw [← Hc.out, eqSB_iff]) W
  rw [Hc.out]
  obtain ⟨k, Hk⟩ : ∃ k, Hid (x.e.k = k) := ⟨_, hidk rfl⟩
  rw [Hk.out] at HCK ⊢
  have hck := HCK.out
  clear HX HS HT ok hd hg N69 Hc Hk h1
  by_cases h2 : k = 2
  · subst h2
    have e : (decide ((2 : Int) = 2) && c) = c := by simp
    rw [e]
    clear e
    go_enter Tryz.func28, Tryz.ntmps28
    go_wp2_with (first
      | ((with_reducible show aD 12 _ _ _ _ _ _ _ _ _ _ _); refine wpList_mid_w (by rfl) 28 (.tmp 11) rfl w.heap.size 5 rfl T _ HRG.out Tryz.underlying28 rfl HST.out ?_; try simp only [Act.put, pS1, pS2, pS3])
      | ((with_reducible show aD 13 _ _ _ _ _ _ _ _ _ _ _); refine wpList_load_row_w (by rfl) 28 (.tmp 3) rfl (w.heap.size + 1) rfl 28 S (0, 0) _ HGS.out Tryz.underlying28 rfl HSS.out ?_; try simp only [Act.put, pS1, pS2, pS3])
      | fail)
    go_ret
    exact ⟨rfl, HB.out⟩
  · have e : (decide (k = 2) && c) = false := by simp [h2]
    have b2 : (k == 2) = false := by simp [h2]
    rw [e]
    clear e h2
    go_enter Tryz.func28, Tryz.ntmps28
    go_wp2_with (first
      | ((with_reducible show aD 12 _ _ _ _ _ _ _ _ _ _ _); refine wpList_mid_w (by rfl) 28 (.tmp 11) rfl w.heap.size 5 rfl T _ HRG.out Tryz.underlying28 rfl HST.out ?_; try simp only [Act.put, pS1, pS2, pS3])
      | ((with_reducible show aD 13 _ _ _ _ _ _ _ _ _ _ _); refine wpList_load_row_w (by rfl) 28 (.tmp 3) rfl (w.heap.size + 1) rfl 28 S (0, 0) _ HGS.out Tryz.underlying28 rfl HSS.out ?_; try simp only [Act.put, pS1, pS2, pS3])
      | fail)
    go_ret
    exact ⟨rfl, HB.out⟩
theorem s_row {W : World} {g : Nat} {s : SgT} {X : Array Value} (HX : Hid (X = (scells s).toArray)) (h : W.heap[g]? = some (.cells X 28 (0, 0))) : W.rangeAt g 0 (scells s) := range_row (l := scells s) (W := W) (g := g) (t := 28) (fr := (0, 0)) (by rw [← HX.out]; exact h)
theorem st_row {W : World} {g : Nat} {v : StV} {X : Array Value} (HX : Hid (X = (stcells v).toArray)) (h : W.heap[g]? = some (.cells X 40 (0, 0))) : W.rangeAt g 0 (stcells v) := range_row (l := stcells v) (W := W) (g := g) (t := 40) (fr := (0, 0)) (by rw [← HX.out]; exact h)
theorem range_shP {w : World} {g o : Nat} {s : SgT} (h : w.rangeAt g o (scells s)) : w.rangeAt g o (hcells s.h) := fun j v hj => h j v (by
  unfold scells
  rw [List.append_assoc, List.getElem?_append_left (List.getElem?_eq_some_iff.1 hj).1]
  exact hj)
theorem hd_rowP {W : World} {g : Nat} {h : HdT} (hd : h.d.length = 32) {X : Array Value} (HX : Hid (X = (hcells h).toArray)) (hh : W.heap[g]? = some (.cells X 26 (0, 0))) : HRow W g 0 h :=
  hrow_of hd (range_row (l := hcells h) (W := W) (g := g) (t := 26) (fr := (0, 0)) (by rw [← HX.out]; exact hh))
def hofB (l : List ItT) (s : SgT) : Bool := decide (sizeX l s.h.s = 0) && (decide (rootO l s.h.s = s.h.d) && mayS s)
theorem rootO_len (l : List ItT) (n : Int) : (rootO l n).length = 32 := by
  unfold rootO
  split
  · exact root_length sumD_length _ (leaves_digs _)
  · rfl
set_option maxHeartbeats 8000000 in
theorem pHeadOf (hc : HistoryC) (hd : HeadC) (a : Option Addr) (len cap : Nat) (l : List ItT) (s : SgT) (w : World) (h : InL w a len cap l) (hs : InS s) (S : Array Value) (HS : Hid (S = (scells s).toArray)) (hT : TabH w) :
    Calls Tryz.prog 18 #[.slice a len cap, .agg S] w fun e w' => e = .returned (.bool (hofB l s)) ∧ Below w.heap.size w w' := by
  have HB0 : Hid (Below w.heap.size w (w.alloc (.cells S 28))) := (Below.refl _ _).alloc (Nat.le_refl _) _
  have HG0 := hidk (heap_alloc_new w (.cells S 28))
  have HSS : Hid ((Tryz.prog.info? 28).map (·.size) = some S.size) := by show _ = _; rw [sizeS, HS.out]; simp [scells_length _ hs.h.d hs.g]
  obtain ⟨D, HD, HSD, H1D, N32⟩ := dig_row' (rootO l s.h.s) (rootO_len _ _)
  obtain ⟨E, HE, HSE, H1E, M32⟩ := dig_row' s.h.d hs.h.d
  obtain ⟨Z, HZ, HA, HSZ, H1Z, Z32⟩ := noughts27
  have HZD : Hid (Z.size = D.size) := by show _ = _; rw [Z32.out, N32.out]
  obtain ⟨cd, hcd⟩ : ∃ b, (!decide (rootO l s.h.s = s.h.d)) = b := ⟨_, rfl⟩
  have nqd : ∀ W, (binOp .neq 24 (.agg D) (.agg E)).run Tryz.prog W = .ok (.bool cd) W := fun W => neqDigV _ _ (rootO_len _ _) hs.h.d D E HD HE cd hcd W
  obtain ⟨z, Hz⟩ : ∃ z, Hid (sizeX l s.h.s = z) := ⟨_, hidk rfl⟩
  obtain ⟨n, Hn⟩ : ∃ n, Hid (s.h.s = n) := ⟨_, hidk rfl⟩
  obtain ⟨mb, Hm⟩ : ∃ b, Hid (mayS s = b) := ⟨_, hidk rfl⟩
  have HX : Hid ((decide (z = 0) && (!cd && mb)) = hofB l s) := by
    show _ = _
    unfold hofB
    rw [← hcd, ← Hz.out, ← Hm.out, Bool.not_not]
  have RT : Hid (∀ W, Below w.heap.size w W → Calls Tryz.prog 30 #[.slice a len cap, .int .i64 n] W fun e w' => e = .returned (.tuple #[.agg D, .int .i64 z]) ∧ Below W.heap.size W w') := fun W hb => by
    have := hc.root a len cap l s.h.s W (h.keep hb) hs.h.s D HD (hT.keep hb)
    rwa [Hz.out, Hn.out] at this
  have PS : Hid (∀ W, Calls Tryz.prog 31 #[.agg S] W fun e w' => (∃ px pn pc, e = .returned (.tuple #[.slice px pn pc, .int .i64 (if mb = true then 0 else 70)])) ∧ Below W.heap.size W w') := fun W => by
    refine (hd.putS s hs W S HS).mono ?_
    rintro e w' ⟨⟨x, c, he, _⟩, hb⟩
    refine ⟨⟨x, (putSB s).length, c, ?_⟩, hb⟩
    rw [he]
    unfold putSE
    rw [Hm.out]
  have HCL : Hid (∀ (V : World), V.heap[w.heap.size]? = some (.cells S 28 (0, 0)) → V.cell? ⟨w.heap.size, 2, none⟩ = some (.int .i64 n) ∧ V.rangeAt w.heap.size 3 E.toList) := fun V hv => by
    have r0 := s_row HS hv
    refine ⟨?_, ?_⟩
    · have := r0 2 (.int .i64 s.h.s) rfl
      rw [Hn.out] at this
      simpa using this
    · have r1 := range_shP r0
      intro j v hj
      rw [HE.out] at hj
      have := r1 (3 + j) v (by
        unfold hcells
        rw [List.append_assoc, List.getElem?_append_right (by simp), List.getElem?_append_left (by simpa using (List.getElem?_eq_some_iff.1 hj).1)]
        simpa using hj)
      simpa using this
  have HSE2 := HSE
  clear hc hd h hs hT HS HD HE HZ hcd Hz Hn Hm N32 M32 HSE H1E Z32
  obtain ⟨hn0, _⟩ := HCL.out _ HG0.out
  go_enter Tryz.func18, Tryz.ntmps18
  go_wp2_with fail
  refine (RT.out _ HB0.out).mono ?_
  rintro e w1 ⟨rfl, hb1⟩
  have HB1 := hidk (HB0.out.trans (hb1.mono HB0.out.size))
  have HG1 := hidk ((hb1.block _ (heap_lt HG0.out)).trans HG0.out)
  clear hb1 HB0 HG0 RT hn0
  by_cases hz : z = 0
  · subst hz
    cases cd
    · have HX2 : Hid (mb = hofB l s) := by have := HX.out; show _ = _; simpa using this
      clear HX
      go_wp2_with (first
        | ((with_reducible show aD 5 _ _ _ _ _ _ _ _ _ _ _); refine wpList_new_var rfl 24 rfl Z HA.out ?_; intro g5 w2 HM5; have HN5 := hidk HM5.out.row; try simp only [Act.put, pS1, pS2, pS3])
        | (refine wpList_set_var rfl 24 (.tmp 5) (.tmp 13) rfl g5 D rfl rfl 24 Z HN5.out HSD.out HZD.out H1D.out ?_; intro w3 HW5; have hb5 : Below w1.heap.size w1 w3 := HW5.out.below _ _ HM5.out.below (by rw [HM5.out.new]; exact Nat.le_refl _); have HB3 := hidk (HB1.out.trans (hb5.mono HB1.out.size)); have HG3 := hidk ((hb5.block _ (heap_lt HG1.out)).trans HG1.out); obtain ⟨hn3, hr3⟩ := HCL.out _ HG3.out; have HR3 := hidk hr3; have HD3 := hidk HW5.out.row; clear hb5 hr3; try simp only [Act.put, pS1, pS2, pS3])
        | ((with_reducible show aD 18 _ _ _ _ _ _ _ _ _ _ _); refine wpList_load_row_w (by rfl) 24 (.tmp 5) rfl g5 rfl 24 D (0, 0) _ HD3.out Tryz.underlying24 rfl HSD.out ?_; try simp only [Act.put, pS1, pS2, pS3])
        | ((with_reducible show aD 21 _ _ _ _ _ _ _ _ _ _ _); refine wpList_mid_w (by rfl) 24 (.tmp 20) rfl w.heap.size 3 rfl E _ HR3.out Tryz.underlying24 rfl HSE2.out ?_; try simp only [Act.put, pS1, pS2, pS3])
        | ((with_reducible show aD 25 _ _ _ _ _ _ _ _ _ _ _); refine wpList_load_row_w (by rfl) 28 (.tmp 3) rfl w.heap.size rfl 28 S (0, 0) _ HG3.out Tryz.underlying28 rfl HSS.out ?_; try simp only [Act.put, pS1, pS2, pS3])
        | fail)
      refine (PS.out _).mono ?_
      rintro e w4 ⟨⟨px, pn, pc, rfl⟩, hb4⟩
      have HB4 := hidk (HB3.out.trans (hb4.mono HB3.out.size))
      clear hb4 PS
      cases mb
      · go_wp2
        go_ret
        exact ⟨by rw [← HX2.out]; rfl, HB4.out⟩
      · go_wp2
        go_ret
        exact ⟨by rw [← HX2.out]; rfl, HB4.out⟩
    · have HX2 : Hid (false = hofB l s) := by have := HX.out; show _ = _; simpa using this
      clear HX
      go_wp2_with (first
        | ((with_reducible show aD 5 _ _ _ _ _ _ _ _ _ _ _); refine wpList_new_var rfl 24 rfl Z HA.out ?_; intro g5 w2 HM5; have HN5 := hidk HM5.out.row; try simp only [Act.put, pS1, pS2, pS3])
        | (refine wpList_set_var rfl 24 (.tmp 5) (.tmp 13) rfl g5 D rfl rfl 24 Z HN5.out HSD.out HZD.out H1D.out ?_; intro w3 HW5; have hb5 : Below w1.heap.size w1 w3 := HW5.out.below _ _ HM5.out.below (by rw [HM5.out.new]; exact Nat.le_refl _); have HB3 := hidk (HB1.out.trans (hb5.mono HB1.out.size)); have HG3 := hidk ((hb5.block _ (heap_lt HG1.out)).trans HG1.out); obtain ⟨hn3, hr3⟩ := HCL.out _ HG3.out; have HR3 := hidk hr3; have HD3 := hidk HW5.out.row; clear hb5 hr3; try simp only [Act.put, pS1, pS2, pS3])
        | ((with_reducible show aD 18 _ _ _ _ _ _ _ _ _ _ _); refine wpList_load_row_w (by rfl) 24 (.tmp 5) rfl g5 rfl 24 D (0, 0) _ HD3.out Tryz.underlying24 rfl HSD.out ?_; try simp only [Act.put, pS1, pS2, pS3])
        | ((with_reducible show aD 21 _ _ _ _ _ _ _ _ _ _ _); refine wpList_mid_w (by rfl) 24 (.tmp 20) rfl w.heap.size 3 rfl E _ HR3.out Tryz.underlying24 rfl HSE2.out ?_; try simp only [Act.put, pS1, pS2, pS3])
        | ((with_reducible show aD 25 _ _ _ _ _ _ _ _ _ _ _); refine wpList_load_row_w (by rfl) 28 (.tmp 3) rfl w.heap.size rfl 28 S (0, 0) _ HG3.out Tryz.underlying28 rfl HSS.out ?_; try simp only [Act.put, pS1, pS2, pS3])
        | fail)
      go_ret
      exact ⟨by rw [← HX2.out]; rfl, HB3.out⟩
  · have HX2 : Hid (false = hofB l s) := by have := HX.out; show _ = _; simpa [hz] using this
    have bz : (z != 0) = true := by simp [hz]
    clear HX hz
    go_wp2_with (first
      | ((with_reducible show aD 5 _ _ _ _ _ _ _ _ _ _ _); refine wpList_new_var rfl 24 rfl Z HA.out ?_; intro g5 w2 HM5; have HN5 := hidk HM5.out.row; try simp only [Act.put, pS1, pS2, pS3])
      | (refine wpList_set_var rfl 24 (.tmp 5) (.tmp 13) rfl g5 D rfl rfl 24 Z HN5.out HSD.out HZD.out H1D.out ?_; intro w3 HW5; have hb5 : Below w1.heap.size w1 w3 := HW5.out.below _ _ HM5.out.below (by rw [HM5.out.new]; exact Nat.le_refl _); have HB3 := hidk (HB1.out.trans (hb5.mono HB1.out.size)); have HG3 := hidk ((hb5.block _ (heap_lt HG1.out)).trans HG1.out); obtain ⟨hn3, hr3⟩ := HCL.out _ HG3.out; have HR3 := hidk hr3; have HD3 := hidk HW5.out.row; clear hb5 hr3; try simp only [Act.put, pS1, pS2, pS3])
      | ((with_reducible show aD 18 _ _ _ _ _ _ _ _ _ _ _); refine wpList_load_row_w (by rfl) 24 (.tmp 5) rfl g5 rfl 24 D (0, 0) _ HD3.out Tryz.underlying24 rfl HSD.out ?_; try simp only [Act.put, pS1, pS2, pS3])
      | ((with_reducible show aD 21 _ _ _ _ _ _ _ _ _ _ _); refine wpList_mid_w (by rfl) 24 (.tmp 20) rfl w.heap.size 3 rfl E _ HR3.out Tryz.underlying24 rfl HSE2.out ?_; try simp only [Act.put, pS1, pS2, pS3])
      | ((with_reducible show aD 25 _ _ _ _ _ _ _ _ _ _ _); refine wpList_load_row_w (by rfl) 28 (.tmp 3) rfl w.heap.size rfl 28 S (0, 0) _ HG3.out Tryz.underlying28 rfl HSS.out ?_; try simp only [Act.put, pS1, pS2, pS3])
      | fail)
    go_ret
    exact ⟨by rw [← HX2.out]; rfl, HB3.out⟩
def stE (master : List UInt8) (x : StT) : Int :=
  if verE master x.h = 0 then (if rightI x.x = true then P5.incE x.h.h.d x.h.h.s x.i (leafI x.x) x.p else 60) else verE master x.h
structure HeldV (w : World) (K X : Array Value) (V : World) : Prop where
  b : Below w.heap.size w V
  k : V.heap[w.heap.size]? = some (.cells K 48 (0, 0))
  x : V.heap[w.heap.size + 1]? = some (.cells X 40 (0, 0))
theorem HeldV.keep {w : World} {K X : Array Value} {V V' : World} (h : HeldV w K X V) (hb : Below V.heap.size V V') : HeldV w K X V' :=
  ⟨h.b.trans (hb.mono h.b.size), (hb.block _ (heap_lt h.k)).trans h.k, (hb.block _ (heap_lt h.x)).trans h.x⟩
theorem heldV (w : World) (K X : Array Value) : HeldV w K X ((w.alloc (.cells K 48)).alloc (.cells X 40)) := by
  have h1 : (w.alloc (.cells K 48)).heap.size = w.heap.size + 1 := by show (w.heap.push _).size = _; simp
  refine ⟨((Below.refl _ _).alloc (Nat.le_refl _) _).alloc (by omega) _, heap_keep (heap_alloc_new w _), ?_⟩
  have := heap_alloc_new (w.alloc (.cells K 48)) (.cells X 40)
  rw [h1] at this
  exact this
set_option maxHeartbeats 8000000 in
theorem pStands (hd : HeadC) (en : EntryC) (ck : P5.CheckC) (master : List UInt8) (v : StV) (w : World) (hi : In64 v.i) (hx : InI v.x) (hs : InS v.h) (hp : LReads w v.a v.n v.c v.p) (hm : master.length = 32) (K X : Array Value) (HK : Hid (K = (cellsOf master).toArray)) (HX : Hid (X = (stcells v).toArray)) (hT : TabH w) :
    Calls Tryz.prog 27 #[.agg K, .agg X] w fun e w' => e = .returned (.int .i64 (stE master v.t)) ∧ Below w.heap.size w w' := by
  have ok : OkV v := ⟨hx.e.ok, hs.h.d, hs.g⟩
  have H0 := hidk (heldV w K X)
  have HSK : Hid ((Tryz.prog.info? 48).map (·.size) = some K.size) := by show _ = _; rw [sizeY, HK.out]; simp [cellsOf_length, hm]
  obtain ⟨S, HS, HSS, H1S, N69⟩ := sign_row v.h ok.d ok.g
  obtain ⟨I, HI, HSI, H1I, N110⟩ := item_row v.x ok.x
  obtain ⟨C, HC, HSC, H1C, N36⟩ := head_row5 v.h.h ok.d
  obtain ⟨D, HD, HSD, H1D, N32⟩ := dig_row' v.h.h.d ok.d
  have lfl : (leafO v.x).length = 32 := by
    unfold leafO
    split
    · exact sumD_length _
    · rfl
  obtain ⟨L, HL, HSL, H1L, M32⟩ := dig_row' (leafO v.x) lfl
  obtain ⟨ZD, HZD, HAD, HSZ, H1Z, Z32⟩ := noughts27
  obtain ⟨ZH, HZH, HAH, HBH, H36⟩ := noughtsH
  have HZL : Hid (ZD.size = L.size) := by show _ = _; rw [Z32.out, M32.out]
  have HZC : Hid (ZH.size = C.size) := by show _ = _; rw [H36.out, N36.out]
  obtain ⟨vv, Hv⟩ : ∃ k, Hid (verE master v.h = k) := ⟨_, hidk rfl⟩
  obtain ⟨rb, Hr⟩ : ∃ k, Hid (rightI v.x = k) := ⟨_, hidk rfl⟩
  obtain ⟨ic, Hc⟩ : ∃ k, Hid (P5.incE v.h.h.d v.h.h.s v.i (leafO v.x) v.p = k) := ⟨_, hidk rfl⟩
  have HEQ : Hid ((if vv = 0 then (if rb = true then ic else 60) else vv) = stE master v.t) := by
    show _ = _
    unfold stE StV.t
    rw [Hv.out]
    by_cases h0 : vv = 0
    · rw [if_pos h0, if_pos h0]
      cases rb
      · rw [if_neg (by decide), Hr.out, if_neg (by decide)]
      · rw [if_pos rfl, Hr.out, if_pos rfl, ← Hc.out]
        unfold leafO
        rw [if_pos Hr.out]
    · rw [if_neg h0, if_neg h0]
  obtain ⟨pa, Hpa⟩ : ∃ k, Hid (v.a = k) := ⟨_, hidk rfl⟩
  obtain ⟨pn, Hpn⟩ : ∃ k, Hid (v.n = k) := ⟨_, hidk rfl⟩
  obtain ⟨pc, Hpc⟩ : ∃ k, Hid (v.c = k) := ⟨_, hidk rfl⟩
  obtain ⟨ix, Hix⟩ : ∃ k, Hid (v.i = k) := ⟨_, hidk rfl⟩
  obtain ⟨sz, Hsz⟩ : ∃ k, Hid (v.h.h.s = k) := ⟨_, hidk rfl⟩
  have VE : Hid (∀ W, Below w.heap.size w W → Calls Tryz.prog 42 #[.agg K, .agg S] W fun e w' => e = .returned (.int .i64 vv) ∧ Below W.heap.size W w') := fun W hb => by rw [← Hv.out]; exact hd.verify master v.h W K S HK HS hm hs (hT.keep hb)
  have LF : Hid (∀ W, Below w.heap.size w W → Calls Tryz.prog 43 #[.agg I] W fun e w' => e = .returned (.tuple #[.agg L, .int .i64 (if rb = true then 0 else 60)]) ∧ Below W.heap.size W w') := fun W hb => by
    have := en.leaf v.x hx W I L HI (hT.keep hb) HL
    unfold iE at this
    rwa [Hr.out] at this
  have IC : Hid (∀ W, Below w.heap.size w W → Calls Tryz.prog 44 #[.agg D, .int .i64 sz, .int .i64 ix, .agg L, .slice pa pn pc] W fun e w' => e = .returned (.int .i64 ic) ∧ Below W.heap.size W w') := fun W hb => by
    have := ck.included v.h.h.d v.h.h.s v.i (leafO v.x) v.p v.a v.n v.c W D L HD HL ok.d lfl (by have := hs.h.s; unfold In64 at this; omega) (by have := hi; unfold In64 at this; omega) (hp.keep hb) (hT.keep hb)
    rwa [Hc.out, Hpa.out, Hpn.out, Hpc.out, Hix.out, Hsz.out] at this
  have HCX : Hid (∀ (V : World), V.heap[w.heap.size + 1]? = some (.cells X 40 (0, 0)) → V.rangeAt (w.heap.size + 1) 112 S.toList ∧ V.rangeAt (w.heap.size + 1) 1 I.toList ∧ V.rangeAt (w.heap.size + 1) 112 C.toList ∧ V.cell? ⟨w.heap.size + 1, 0, none⟩ = some (.int .i64 ix) ∧ V.cell? ⟨w.heap.size + 1, 111, none⟩ = some (.slice pa pn pc)) := fun V hv => by
    have r0 := st_row HX hv
    refine ⟨?_, ?_, ?_, ?_, ?_⟩
    · have := range_sth ok r0
      rw [HS.out]
      simpa using this
    · have := range_stx r0
      rw [HI.out]
      simpa using this
    · have := range_shP (range_sth ok r0)
      rw [HC.out]
      simpa using this
    · have := r0 0 _ (st_i v)
      rw [Hix.out] at this
      simpa using this
    · have := range_stp ok r0
      rw [Hpa.out, Hpn.out, Hpc.out] at this
      simpa using this
  have HCC : Hid (∀ (V : World) (g : Nat), V.heap[g]? = some (.cells C 26 (0, 0)) → V.cell? ⟨g, 2, none⟩ = some (.int .i64 sz) ∧ V.rangeAt g 3 D.toList) := fun V g hv => by
    have ra := hd_rowP ok.d HC hv
    exact ⟨by rw [← Hsz.out]; simpa using ra.s, by rw [HD.out]; simpa using ra.d⟩
  clear hd en ck hi hx hs hp hm HK HX hT HS HI HC HD HL HZD HZH HBH N69 N110 N36 N32 M32 Z32 H36 ok lfl Hv Hr Hc Hpa Hpn Hpc Hix Hsz HSZ H1Z H1S H1I H1D
  obtain ⟨rs0, _, _, _, _⟩ := HCX.out _ H0.out.x
  have HR0 := hidk rs0
  clear rs0
  go_enter Tryz.func27, Tryz.ntmps27
  go_wp2_with (first
    | ((with_reducible show aD 9 _ _ _ _ _ _ _ _ _ _ _); refine wpList_load_row_w (by rfl) 48 (.tmp 2) rfl w.heap.size rfl 48 K (0, 0) _ H0.out.k Tryz.underlying48 rfl HSK.out ?_; try simp only [Act.put, pS1, pS2, pS3])
    | ((with_reducible show aD 11 _ _ _ _ _ _ _ _ _ _ _); refine wpList_mid_w (by rfl) 28 (.tmp 10) rfl (w.heap.size + 1) 112 rfl S _ HR0.out Tryz.underlying28 rfl HSS.out ?_; try simp only [Act.put, pS1, pS2, pS3])
    | fail)
  refine (VE.out _ H0.out.b).mono ?_
  rintro e w1 ⟨rfl, hb1⟩
  have H1 := hidk (H0.out.keep hb1)
  clear hb1 H0 HR0 VE
  by_cases hv0 : vv = 0
  · subst hv0
    obtain ⟨_, ri1, _, _, _⟩ := HCX.out _ H1.out.x
    have HR1 := hidk ri1
    clear ri1
    go_wp2_with (first
      | ((with_reducible show aD 18 _ _ _ _ _ _ _ _ _ _ _); refine wpList_mid_w (by rfl) 37 (.tmp 17) rfl (w.heap.size + 1) 1 rfl I _ HR1.out Tryz.underlying37 rfl HSI.out ?_; try simp only [Act.put, pS1, pS2, pS3])
      | fail)
    refine (LF.out _ H1.out.b).mono ?_
    rintro e w2 ⟨rfl, hb2⟩
    have H2 := hidk (H1.out.keep hb2)
    clear hb2 H1 HR1 LF
    cases rb
    · have HE2 : Hid (60 = stE master v.t) := HEQ.out
      clear HEQ
      go_wp2_with (first
        | ((with_reducible show aD 6 _ _ _ _ _ _ _ _ _ _ _); refine wpList_new_var rfl 24 rfl ZD HAD.out ?_; intro g6 w3 HM6; have HN6 := hidk HM6.out.row; try simp only [Act.put, pS1, pS2, pS3])
        | (refine wpList_set_var rfl 24 (.tmp 6) (.tmp 20) rfl g6 L rfl rfl 24 ZD HN6.out HSL.out HZL.out H1L.out ?_; intro w4 HW6; have hb6 : Below w2.heap.size w2 w4 := HW6.out.below _ _ HM6.out.below (by rw [HM6.out.new]; exact Nat.le_refl _); have H4 := hidk (H2.out.keep hb6); have HL4 := hidk HW6.out.row; clear hb6; try simp only [Act.put, pS1, pS2, pS3])
        | fail)
      go_ret
      exact ⟨by rw [← HE2.out]; rfl, H4.out.b⟩
    · have HE2 : Hid (ic = stE master v.t) := HEQ.out
      clear HEQ
      obtain ⟨_, _, rc2, _, _⟩ := HCX.out _ H2.out.x
      clear rc2
      go_wp2_with (first
        | ((with_reducible show aD 6 _ _ _ _ _ _ _ _ _ _ _); refine wpList_new_var rfl 24 rfl ZD HAD.out ?_; intro g6 w3 HM6; have HN6 := hidk HM6.out.row; try simp only [Act.put, pS1, pS2, pS3])
        | (refine wpList_set_var rfl 24 (.tmp 6) (.tmp 20) rfl g6 L rfl rfl 24 ZD HN6.out HSL.out HZL.out H1L.out ?_; intro w4 HW6; have hb6 : Below w2.heap.size w2 w4 := HW6.out.below _ _ HM6.out.below (by rw [HM6.out.new]; exact Nat.le_refl _); have H4 := hidk (H2.out.keep hb6); have HL4 := hidk HW6.out.row; clear hb6; try simp only [Act.put, pS1, pS2, pS3])
        | ((with_reducible show aD 27 _ _ _ _ _ _ _ _ _ _ _); refine wpList_mid_w (by rfl) 26 (.tmp 26) rfl (w.heap.size + 1) 112 rfl C _ (HCX.out _ H4.out.x).2.2.1 Tryz.underlying26 rfl HSC.out ?_; try simp only [Act.put, pS1, pS2, pS3])
        | ((with_reducible show aD 8 _ _ _ _ _ _ _ _ _ _ _); refine wpList_new_var rfl 26 rfl ZH HAH.out ?_; intro g8 w5 HM8; have HN8 := hidk HM8.out.row; try simp only [Act.put, pS1, pS2, pS3])
        | (refine wpList_set_var rfl 26 (.tmp 8) (.tmp 27) rfl g8 C rfl rfl 26 ZH HN8.out HSC.out HZC.out H1C.out ?_; intro w6 HW8; have hb8 : Below w4.heap.size w4 w6 := HW8.out.below _ _ HM8.out.below (by rw [HM8.out.new]; exact Nat.le_refl _); have H6 := hidk (H4.out.keep hb8); have HL6 := hidk ((hb8.block _ (heap_lt HL4.out)).trans HL4.out); obtain ⟨cs6, rd6⟩ := HCC.out _ _ HW8.out.row; obtain ⟨_, _, _, ci6, cp6⟩ := HCX.out _ H6.out.x; have HRD := hidk rd6; clear hb8 rd6; try simp only [Act.put, pS1, pS2, pS3])
        | ((with_reducible show aD 29 _ _ _ _ _ _ _ _ _ _ _); refine wpList_mid_w (by rfl) 24 (.tmp 28) rfl g8 3 rfl D _ HRD.out Tryz.underlying24 rfl HSD.out ?_; try simp only [Act.put, pS1, pS2, pS3])
        | ((with_reducible show aD 34 _ _ _ _ _ _ _ _ _ _ _); refine wpList_load_row_w (by rfl) 24 (.tmp 6) rfl g6 rfl 24 L (0, 0) _ HL6.out Tryz.underlying24 rfl HSL.out ?_; try simp only [Act.put, pS1, pS2, pS3])
        | fail)
      refine (IC.out _ H6.out.b).mono ?_
      rintro e w7 ⟨rfl, hb7⟩
      have HB7 := hidk (H6.out.keep hb7).b
      clear hb7
      go_wp2
      go_ret
      exact ⟨by rw [← HE2.out]; rfl, HB7.out⟩
  · have bz : (vv != 0) = true := by simp [hv0]
    have HE2 : Hid (vv = stE master v.t) := by have := HEQ.out; rwa [if_neg hv0] at this
    clear HEQ hv0
    go_wp2
    go_ret
    exact ⟨by rw [← HE2.out]; rfl, H1.out.b⟩
end Go.Proofs.YtkmedlfbkddmoaaGreatDoor
/- Heads of one log that grows (chapter 13). -/
namespace Go.Proofs.YtkmedlfbkddmoaaGreatDoor
open Nums Sums
set_option linter.unusedVariables false
set_option maxRecDepth 100000
def sgG (l : List ItT) (n r node t : Int) : SgT := signO zeroK (headX l n r 1 t) node
theorem headG {l : List ItT} {n r t : Int} (hl : rightL l = true) (hn : 0 ≤ n ∧ n ≤ l.length) (hr : 1 ≤ r ∧ r ≤ 5) (ht : 0 ≤ t ∧ t ≤ 10) : hdE l n r 1 t = 0 ∧ hdO l n r 1 t = headX l n r 1 t := by
  have hs : sizeX l n = 0 := by unfold sizeX; rw [if_neg (by rw [hl]; decide), if_neg (by omega)]
  have h2 := ((rightL_iff l).1 hl).1
  have hh : rightH (headX l n r 1 t) = true := (rightH_iff _).2 ⟨hr.1, hr.2, by show (1 : Int) ≤ 1; decide, by show (1 : Int) ≤ 900000000; decide, hn.1, by show n ≤ 100000; omega, ht.1, by show t ≤ 900000000; omega⟩
  have e : hdE l n r 1 t = 0 := by unfold hdE; rw [if_pos hs, if_pos hh]
  exact ⟨e, by unfold hdO; rw [if_pos e]⟩
theorem rightG {l : List ItT} {n r t : Int} (hl : rightL l = true) (hn : 0 ≤ n ∧ n ≤ l.length) (hr : 1 ≤ r ∧ r ≤ 5) (ht : 0 ≤ t ∧ t ≤ 10) : rightH (headX l n r 1 t) = true := by
  have h2 := ((rightL_iff l).1 hl).1
  exact (rightH_iff _).2 ⟨hr.1, hr.2, by show (1 : Int) ≤ 1; decide, by show (1 : Int) ≤ 900000000; decide, hn.1, by show n ≤ 100000; omega, ht.1, by show t ≤ 900000000; omega⟩
theorem signsG {l : List ItT} {n r node t : Int} (hl : rightL l = true) (hn : 0 ≤ n ∧ n ≤ l.length) (hr : 1 ≤ r ∧ r ≤ 5) (hd : 1 ≤ node ∧ node ≤ 3) (ht : 0 ≤ t ∧ t ≤ 10) : signsO (headX l n r 1 t) node = true := by
  unfold signsO
  rw [rightG hl hn hr ht]
  simp only [Bool.true_and, decide_eq_true_eq, Bool.and_eq_true]
  omega
theorem sgG_eq {l : List ItT} {n r node t : Int} (hl : rightL l = true) (hn : 0 ≤ n ∧ n ≤ l.length) (hr : 1 ≤ r ∧ r ≤ 5) (hd : 1 ≤ node ∧ node ≤ 3) (ht : 0 ≤ t ∧ t ≤ 10) : sgG l n r node t = ⟨headX l n r 1 t, node, tagD zeroK (headX l n r 1 t) node⟩ := by
  unfold sgG signO
  rw [if_pos (signsG hl hn hr hd ht)]
theorem sgG_may {l : List ItT} {n r node t : Int} (hl : rightL l = true) (hn : 0 ≤ n ∧ n ≤ l.length) (hr : 1 ≤ r ∧ r ≤ 5) (hd : 1 ≤ node ∧ node ≤ 3) (ht : 0 ≤ t ∧ t ≤ 10) : mayS (sgG l n r node t) = true := by
  rw [sgG_eq hl hn hr hd ht, mayS_iff]
  exact ⟨rightG hl hn hr ht, hd.1, hd.2⟩
theorem sgG_ver {l : List ItT} {n r node t : Int} (hl : rightL l = true) (hn : 0 ≤ n ∧ n ≤ l.length) (hr : 1 ≤ r ∧ r ≤ 5) (hd : 1 ≤ node ∧ node ≤ 3) (ht : 0 ≤ t ∧ t ≤ 10) : verE zeroK (sgG l n r node t) = 0 := by
  unfold verE
  rw [if_pos (sgG_may hl hn hr hd ht), if_pos]
  rw [sgG_eq hl hn hr hd ht]
structure GrO (l all : List ItT) (r epoch last : Int) (k : Nat) : Prop where
  right : rightL all = true
  len : all.length ≤ 60 + k
  low : lowB all epoch = false
  zn : 0 ≤ last ∧ last ≤ l.length
  lat : (latA all r = none ∧ last = 0) ∨ ∃ s, latA all r = some s ∧ s.h.e = 1 ∧ s.h.s = last ∧ s.h.d = rootO l last
theorem rootO_zero {l : List ItT} (hl : rightL l = true) : rootO l 0 = sumD [] := by
  have hs : sizeX l 0 = 0 := by unfold sizeX; rw [if_neg (by rw [hl]; decide), if_neg (by omega)]
  unfold rootO
  rw [if_pos hs]
  exact root_none _ rfl
theorem GrO.start {l other : List ItT} {r epoch : Int} (hl : rightL l = true) (ho : rightL other = true) (hlen : other.length ≤ 60) (hlow : lowB other epoch = false) (hn : latA other r = none) : GrO l other r epoch 0 0 :=
  ⟨ho, by omega, hlow, by omega, .inl ⟨hn, rfl⟩⟩
theorem GrO.more {l all : List ItT} {r epoch last : Int} {k : Nat} (h : GrO l all r epoch last k) : GrO l all r epoch last (k + 1) := ⟨h.right, by have := h.len; omega, h.low, h.zn, h.lat⟩
theorem GrO.last {l all : List ItT} {r epoch last : Int} {k : Nat} (hl : rightL l = true) (h : GrO l all r epoch last k) : (lastH (latA all r)).e ≤ 1 ∧ (lastH (latA all r)).s = last ∧ (lastH (latA all r)).d = rootO l last := by
  rcases h.lat with ⟨h1, h2⟩ | ⟨s, h1, h2, h3, h4⟩
  · rw [h1, h2, rootO_zero hl]
    exact ⟨by show (0 : Int) ≤ 1; decide, rfl, rfl⟩
  · rw [h1]
    exact ⟨by show s.h.e ≤ 1; omega, h3, h4⟩
theorem mk_head {l : List ItT} {s : SgT} {n r e t : Int} (hl : rightL l = true) (hn : 0 ≤ n ∧ n ≤ l.length) (hh : s.h = headX l n r e t) (hm : mayS s = true) (i : Int) : mkE l i s = if 0 ≤ i ∧ i < n then 0 else 131 := by
  have hs : sizeX l n = 0 := by unfold sizeX; rw [if_neg (by rw [hl]; decide), if_neg (by omega)]
  have e1 : s.h.s = n := by rw [hh]; rfl
  have e2 : rootO l n = s.h.d := by rw [hh]; unfold rootO; rw [if_pos hs]; rfl
  unfold mkE
  rw [e1, if_pos ⟨hs, e2, hm⟩]
  unfold incE11
  rw [if_pos hs]
  by_cases h : 0 ≤ i ∧ i < n
  · rw [if_pos h, if_pos h]; rfl
  · rw [if_neg h, if_neg h]; rfl
theorem mk_item {l : List ItT} {i : Int} {s : SgT} (h : mkE l i s = 0) : 0 ≤ i ∧ i < s.h.s ∧ i.toNat < l.length ∧ l.length ≤ 2000 := by
  obtain ⟨h1, h2, h3, h4⟩ := mkE_ok h
  obtain ⟨q1, q2, q3⟩ := incE11_inv h4
  obtain ⟨hr, q4, q5⟩ := sizeX_vals l s.h.s h1
  have hl := ((rightL_iff l).1 hr).1
  exact ⟨q2, q3, by omega, hl⟩
theorem mkT_eq {l : List ItT} {i : Int} {s : SgT} (h : mkE l i s = 0) (hi : i.toNat < l.length) : mkT l i s = ⟨i, l[i.toNat], incL11 l s.h.s i, s⟩ := by
  unfold mkT
  rw [if_pos h, List.getD_eq_getElem?_getD, List.getElem?_eq_getElem hi]
  rfl
theorem linkB_none (x : StT) : linkB none x = true := rfl
theorem linkB_some (s : SgT) (x : StT) : linkB (some s) x = (decide (x.x.e.k = 2) && eqSB x.x.e.h s) := rfl
theorem path_twice {master : List UInt8} {x : StT} (h : wrgE master x = 0) (hk : x.x.e.k ≠ 2) : pathE master [x, x] = 130 := by
  unfold pathE
  rw [if_pos ⟨by show 1 ≤ 2; omega, by show 2 ≤ 5; omega⟩, wayE, if_pos h, if_pos (linkB_none x), wayE, if_pos h, if_neg]
  rw [linkB_some, decide_eq_false hk, Bool.false_and]
  decide
theorem path_nil (master : List UInt8) : pathE master [] = 130 := by unfold pathE; rw [if_neg (by show ¬ (1 ≤ 0 ∧ _); omega)]
def onl : List ItT := [userI 1 1]
theorem onl_right : rightL onl = true := by decide
def sgO : SgT := sgG onl 1 1 1 0
theorem onl_len : (0 : Int) ≤ 1 ∧ (1 : Int) ≤ onl.length := by show (0 : Int) ≤ 1 ∧ (1 : Int) ≤ ((1 : Nat) : Int); omega
theorem sgO_h : sgO.h = headX onl 1 1 1 0 := by
  unfold sgO
  rw [sgG_eq onl_right onl_len (by omega) (by omega) (by omega)]
theorem sgO_may : mayS sgO = true := sgG_may onl_right onl_len (by omega) (by omega) (by omega)
theorem sgO_ver : verE zeroK sgO = 0 := sgG_ver onl_right onl_len (by omega) (by omega) (by omega)
theorem sgO_digs : sgO.h.d.length = 32 ∧ sgO.g.length = 32 := by
  unfold sgO
  rw [sgG_eq onl_right onl_len (by omega) (by omega) (by omega)]
  exact ⟨headX_digs, tagD_length sumD_length _ _ _⟩
theorem sgO_in : InS sgO := may_in sgO_may sgO_digs.1 sgO_digs.2
theorem only_head : hdE onl 1 1 1 0 = 0 ∧ hdO onl 1 1 1 0 = headX onl 1 1 1 0 := headG onl_right onl_len (by omega) (by omega)
theorem only_signs : signsO (headX onl 1 1 1 0) 1 = true := signsG onl_right onl_len (by omega) (by omega) (by omega)
theorem only_mk (i : Int) : mkE onl i sgO = if 0 ≤ i ∧ i < 1 then 0 else 131 := mk_head onl_right onl_len sgO_h sgO_may i
theorem only_mk0 : mkE onl 0 sgO = 0 := by rw [only_mk]; rfl
theorem only_mk1 : mkE onl 1 sgO = 131 := by rw [only_mk]; rfl
theorem none_mk : mkE [] 0 sgO = 130 := by
  unfold mkE
  rw [if_neg]
  rintro ⟨h, _⟩
  rw [sgO_h] at h
  revert h
  show ¬ sizeX [] 1 = 0
  decide
theorem only_step : mkT onl 0 sgO = ⟨0, userI 1 1, incL11 onl 1 0, sgO⟩ := by
  have := mkT_eq only_mk0 (by show 0 < 1; omega)
  rw [this, sgO_h]
  rfl
theorem only_wrg : wrgE zeroK (mkT onl 0 sgO) = 0 := made_step only_mk0 sgO_ver
theorem only_one : pathE zeroK [mkT onl 0 sgO] = 0 := path_one.2 only_wrg
theorem only_two : pathE zeroK [mkT onl 0 sgO, mkT onl 0 sgO] = 130 := path_twice only_wrg (by rw [only_step]; show (1 : Int) ≠ 2; decide)
end Go.Proofs.YtkmedlfbkddmoaaGreatDoor
/- The program's Make; what history.Inclusion hands out is new. -/
namespace Go.Proofs.YtkmedlfbkddmoaaGreatDoor
open Go.RowKit Nums Sums
set_option linter.unusedVariables false
set_option linter.unusedSimpArgs false
set_option maxRecDepth 100000
theorem LReads.same14 {w w' : World} {a : Option Addr} {len cap : Nat} {l : List (List UInt8)} (h : LReads w a len cap l) (hs : ∀ g o, a = some ⟨g, o, none⟩ → 0 < len → w'.heap[g]? = w.heap[g]?) : LReads w' a len cap l := by
  obtain ⟨h1, h2, h3, h4, h5⟩ := h
  refine ⟨h1, h2, h3, h4, ?_⟩
  by_cases h0 : len = 0
  · exact .inl h0
  · rcases h5 with h5 | ⟨g, o, ha, hl⟩
    · exact .inl h5
    · refine .inr ⟨g, o, ha, fun i hi => ?_⟩
      exact (World.cell?_of_block (a := ⟨g, o + i, none⟩) (hs g o ha (by omega))).trans (hl i hi)
theorem yieldsIf_buildP {P : Program} {ops : Array Oper} {S : World → Prop} {o : Oper} {a : Act} (hw : Region.wanted o (yielded ops a.tmps) = true) (t : TypeId) (parts : Array (Nat × Operand)) (ho : o.op = .build t parts) (vals : Array (Nat × Value)) (hv : (parts.toList.map fun p => (p.1, a.eval p.2)) = vals.toList)
    (cs : Array Value) (hb : P.built t vals.toList = some cs) : YieldsIf P ops S o (.agg cs) a :=
  .inl ⟨hw, fun w _ => by
    have hv' : (parts.map fun (i, x) => (i, a.eval x)) = vals := by
      apply Array.ext'
      rw [Array.toList_map, ← hv]
    subst hv'
    unfold execOp
    simp only [ho, Sem.run_bind, run_build w t _ cs hb, Result.andThen_ok]
    rfl⟩
theorem inclN (a : Option Addr) (len cap : Nat) (l : List (List UInt8)) (i : Nat) (w : World) (hR : LReads w a len cap l) (hi : i < len) (hl : len ≤ 100000) (hK : Table 1 w) :
    Calls Tryz.prog 33 #[.slice a len cap, .int .i64 i] w fun e w' => ∃ x cx, e = .returned (.tuple #[.slice x (incl l i).length cx, .int .i64 0]) ∧ LReads w' x (incl l i).length cx (incl l i) ∧ (x = none → cx = 0) ∧ RoomP w.heap.size x (incl l i).length w' ∧ Below w.heap.size w w' := by
  refine (inclusion_in a len cap l i w hR hi hl hK).mono ?_
  rintro e w' ⟨v, rfl, ho, hb⟩
  obtain ⟨x, cx, rfl, hx, _⟩ := LReads.own ho (incl_digs sumD_length _ l i rfl hR.2.1)
  refine ⟨x, cx, rfl, hx, ?_, RoomP.own ho, hb⟩
  rintro rfl
  rcases ho.2 with ⟨hv, _⟩ | ⟨g, cap, cur, hv, _⟩
  · injection hv
  · injection hv with h1 _ _
    cases h1
theorem RoomP.mono {B B' : Nat} {x : Option Addr} {m : Nat} {W : World} (h : RoomP B x m W) (hb : B' ≤ B) : RoomP B' x m W := by
  rcases h with h | ⟨g, e, h1, h2⟩
  · exact .inl h
  · exact .inr ⟨g, e, Nat.le_trans hb h1, h2⟩
set_option maxHeartbeats 8000000 in
theorem hInclN (ck : EntryC) (a : Option Addr) (len cap : Nat) (l : List ItT) (n i : Int) (w : World) (h : InL w a len cap l) (hT : TabH w) (hI : incE11 l n i = 0) :
    Calls Tryz.prog 19 #[.slice a len cap, .int .i64 n, .int .i64 i] w fun e w' => ∃ x cx, e = .returned (.tuple #[.slice x (incL11 l n i).length cx, .int .i64 0]) ∧ LReads w' x (incL11 l n i).length cx (incL11 l n i) ∧ (x = none → cx = 0) ∧ RoomP w.heap.size x (incL11 l n i).length w' ∧ Below w.heap.size w w' := by
  obtain ⟨hs, hi⟩ := incE11_inv hI
  have HC := hidk (hFirst_ok ck a len cap l n w h hs hT)
  have hvl := sizeX_vals l n hs
  have hln := h.rd.ln
  have hle := h.le
  obtain ⟨e1, e2⟩ := incE11_ok hs hi
  obtain ⟨k, hk⟩ : ∃ k : Nat, i = k := ⟨i.toNat, by omega⟩
  subst hk
  rw [Int.toNat_natCast] at e2
  rw [e2]
  have HT : Hid (∀ W x cx, Below w.heap.size w W → LReads W x n.toNat cx (leavesL (l.take n.toNat)) → Calls Tryz.prog 33 #[.slice x n.toNat cx, .int .i64 (k : Int)] W fun e w' => ∃ x cx, e = .returned (.tuple #[.slice x (incl (leavesL (l.take n.toNat)) k).length cx, .int .i64 0]) ∧ LReads w' x (incl (leavesL (l.take n.toNat)) k).length cx (incl (leavesL (l.take n.toNat)) k) ∧ (x = none → cx = 0) ∧ RoomP W.heap.size x (incl (leavesL (l.take n.toNat)) k).length w' ∧ Below W.heap.size W w') := fun W x cx hb hx => inclN x n.toNat cx _ k W hx (by omega) (by omega) (hT.keep hb)
  clear h hT hs hi e1 e2 hvl ck hI
  go_enter Tryz.func19, Tryz.ntmps19
  go_wp2_with fail
  refine HC.out.mono ?_
  rintro e w1 ⟨⟨x, cx, rfl, hx⟩, hb1⟩
  have HR := hidk (HT.out w1 x cx hb1 hx)
  have HB1 := hidk hb1
  clear hx hb1
  go_wp2_with fail
  refine HR.out.mono ?_
  rintro e w2 ⟨y, cy, rfl, hy, hn, hr, hb2⟩
  have HY := hidk hy
  have HN := hidk hn
  have HRM := hidk (hr.mono HB1.out.size)
  have HB2 := hidk (HB1.out.trans (hb2.mono HB1.out.size))
  clear hy hb2 hn hr
  go_wp2
  go_ret2
  exact ⟨y, cy, rfl, HY.out, HN.out, HRM.out, HB2.out⟩
theorem mkE_130 {l : List ItT} {i : Int} {s : SgT} (h : hofB l s = false) : mkE l i s = 130 := by
  unfold mkE
  rw [if_neg]
  rintro ⟨h1, h2, h3⟩
  unfold hofB at h
  rw [decide_eq_true h1, decide_eq_true h2, h3] at h
  cases h
theorem hof_iff {l : List ItT} {s : SgT} (h : hofB l s = true) : sizeX l s.h.s = 0 ∧ rootO l s.h.s = s.h.d ∧ mayS s = true := by
  unfold hofB at h
  simp only [Bool.and_eq_true, decide_eq_true_eq] at h
  exact ⟨h.1, h.2.1, h.2.2⟩
theorem mkE_131 {l : List ItT} {i : Int} {s : SgT} (h : hofB l s = true) (hi : ¬ (0 ≤ i ∧ i < s.h.s)) : mkE l i s = 131 := by
  unfold mkE
  rw [if_pos (hof_iff h), if_neg]
  intro h4
  exact hi (incE11_inv h4).2
theorem mkE_0 {l : List ItT} {i : Int} {s : SgT} (h : hofB l s = true) (hi : 0 ≤ i ∧ i < s.h.s) : mkE l i s = 0 ∧ incE11 l s.h.s i = 0 := by
  have h1 := (hof_iff h).1
  have h2 : incE11 l s.h.s i = 0 := by unfold incE11; rw [if_pos h1, if_pos hi]
  exact ⟨by unfold mkE; rw [if_pos (hof_iff h), if_pos h2], h2⟩
theorem mkV_no {l : List ItT} {i : Int} {s : SgT} (h : mkE l i s ≠ 0) : mkV l i s none 0 = zeroV ∧ (mkT l i s).p = [] := by
  have e : mkT l i s = zeroT := by unfold mkT; rw [if_neg h]
  unfold mkV
  rw [e]
  exact ⟨rfl, rfl⟩
structure HeldM (w : World) (S Z : Array Value) (g6 : Nat) (V : World) : Prop where
  b : Below w.heap.size w V
  s : V.heap[w.heap.size]? = some (.cells S 28 (0, 0))
  z : V.heap[g6]? = some (.cells Z 40 (0, 0))
  n : w.heap.size < g6
theorem HeldM.keep {w : World} {S Z : Array Value} {g6 : Nat} {V V' : World} (h : HeldM w S Z g6 V) (hb : Below V.heap.size V V') : HeldM w S Z g6 V' :=
  ⟨h.b.trans (hb.mono h.b.size), (hb.block _ (heap_lt h.s)).trans h.s, (hb.block _ (heap_lt h.z)).trans h.z, h.n⟩
structure HeldL (w : World) (S Z I : Array Value) (g6 g o : Nat) (x : Option Addr) (n cx : Nat) (P : List (List UInt8)) (V : World) : Prop where
  b : Below w.heap.size w V
  s : V.heap[w.heap.size]? = some (.cells S 28 (0, 0))
  z : ∃ Y : Array Value, V.heap[g6]? = some (.cells Y 40 (0, 0)) ∧ Y.size = Z.size
  lt : w.heap.size < g6
  gl : g < w.heap.size
  i : V.rangeAt g o I.toList
  p : LReads V x n cx P
  r : RoomP w.heap.size x n V
theorem RoomP.kept {B : Nat} {x : Option Addr} {m : Nat} {W W' : World} (h : RoomP B x m W) (hs : ∀ g, x = some ⟨g, 0, none⟩ → 0 < m → W'.heap[g]? = W.heap[g]?) : RoomP B x m W' := by
  by_cases h0 : m = 0
  · exact .inl h0
  · rcases h with h | ⟨g, e, h1, h2⟩
    · exact .inl h
    · refine .inr ⟨g, e, h1, fun j hj => ?_⟩
      have hb := hs g e (by omega)
      obtain ⟨q1, q2⟩ := h2 j hj
      refine ⟨?_, ?_⟩
      · rw [World.cell?_of_block (a := ⟨g, 0 + j, none⟩) hb]; exact q1
      · unfold World.frozen? at q2 ⊢
        rw [hb]; exact q2
theorem HeldL.wrote {w : World} {S Z I : Array Value} {g6 g o : Nat} {x : Option Addr} {n cx : Nat} {P : List (List UInt8)} {V V' : World} {R : Array Value} (h : HeldL w S Z I g6 g o x n cx P V) (hw : Wrote g6 R 40 V V') (hR : Z.size = R.size) (hx : ∀ q o, x = some ⟨q, o, none⟩ → 0 < n → g6 < q) : HeldL w S Z I g6 g o x n cx P V' where
  b := hw.below _ _ h.b (Nat.le_of_lt h.lt)
  s := (hw.other _ (Nat.ne_of_lt h.lt)).trans h.s
  z := ⟨R, hw.row, hR.symm⟩
  lt := h.lt
  gl := h.gl
  i := fun j v hj => (World.cell?_of_block (a := ⟨g, o + j, none⟩) (hw.other g (by have := h.lt; have := h.gl; omega))).trans (h.i j v hj)
  p := h.p.same14 fun q oo e h0 => hw.other q (by have := hx q oo e h0; omega)
  r := h.r.kept fun q e h0 => hw.other q (by have := hx q 0 e h0; omega)
set_option maxHeartbeats 16000000 in
theorem pMake (hc : HistoryC) (en : EntryC) (hd : HeadC) (a : Option Addr) (len cap : Nat) (l : List ItT) (i : Int) (s : SgT) (w : World) (h : InL w a len cap l) (hi : In64 i) (hs : InS s) (S : Array Value) (HS : Hid (S = (scells s).toArray)) (hT : TabH w) :
    Calls Tryz.prog 7 #[.slice a len cap, .int .i64 i, .agg S] w fun e w' => ∃ x cx, e = .returned (.tuple #[.agg (stcells (mkV l i s x cx)).toArray, .int .i64 (mkE l i s)]) ∧ LReads w' x (mkT l i s).p.length cx (mkT l i s).p ∧ (x = none → cx = 0) ∧ RoomP w.heap.size x (mkT l i s).p.length w' ∧ Below w.heap.size w w' := by
  obtain ⟨Z, HZ, HA, HBZ, Z181⟩ := noughtsSt
  have HSZ : Hid ((Tryz.prog.info? 40).map (·.size) = some Z.size) := by show _ = _; rw [sizeSt, Z181.out]
  have H1Z : Hid (Z.all (·.oneCell') = true) := by show _ = _; rw [HZ.out, List.all_toArray, List.all_eq_true]; exact fun u hu => stcells_one _ u hu
  have HSS : Hid ((Tryz.prog.info? 28).map (·.size) = some S.size) := by show _ = _; rw [sizeS, HS.out]; simp [scells_length _ hs.h.d hs.g]
  have HB0 : Hid (Below w.heap.size w (w.alloc (.cells S 28))) := (Below.refl _ _).alloc (Nat.le_refl _) _
  have HG0 := hidk (heap_alloc_new w (.cells S 28))
  obtain ⟨b, Hb⟩ : ∃ b, Hid (hofB l s = b) := ⟨_, hidk rfl⟩
  obtain ⟨sz, Hsz⟩ : ∃ k, Hid (s.h.s = k) := ⟨_, hidk rfl⟩
  have HO : Hid (∀ W, Below w.heap.size w W → Calls Tryz.prog 18 #[.slice a len cap, .agg S] W fun e w' => e = .returned (.bool b) ∧ Below W.heap.size W w') := fun W hb => by rw [← Hb.out]; exact pHeadOf hc hd a len cap l s W (h.keep hb) hs S HS (hT.keep hb)
  have HCL : Hid (∀ (V : World), V.heap[w.heap.size]? = some (.cells S 28 (0, 0)) → V.cell? ⟨w.heap.size, 2, none⟩ = some (.int .i64 sz)) := fun V hv => by
    have := s_row HS hv 2 (.int .i64 s.h.s) rfl
    rw [Hsz.out] at this
    simpa using this
  have NO : ∀ (E : Int), mkE l i s = E → E ≠ 0 → Hid (∀ (T : World), Below w.heap.size w T → ∃ x cx, Ending.returned (.tuple #[.agg Z, .int .i64 E]) = .returned (.tuple #[.agg (stcells (mkV l i s x cx)).toArray, .int .i64 (mkE l i s)]) ∧ LReads T x (mkT l i s).p.length cx (mkT l i s).p ∧ (x = none → cx = 0) ∧ RoomP w.heap.size x (mkT l i s).p.length T ∧ Below w.heap.size w T) := fun E hE h0 T hb => by
    obtain ⟨e1, e2⟩ := mkV_no (by rw [hE]; exact h0)
    refine ⟨none, 0, ?_, ?_, fun _ => rfl, .inl (by rw [e2]; rfl), hb⟩
    · rw [e1, hE, HZ.out]
    · rw [e2]
      exact ⟨rfl, (fun d hd => by cases hd), Nat.le_refl _, Nat.zero_le _, .inl rfl⟩
  by_cases hb : b = true
  · subst hb
    by_cases hi2 : 0 ≤ i ∧ i < s.h.s
    · obtain ⟨em, ei⟩ := mkE_0 Hb.out hi2
      obtain ⟨q0, q1, q2, q3⟩ := mk_item em
      have et := mkT_eq em q2
      have hln := h.rd.ln
      have hle := h.le
      obtain ⟨k, hk⟩ : ∃ k : Nat, i = k := ⟨i.toNat, by omega⟩
      subst hk
      rw [Int.toNat_natCast] at q2
      simp only [Int.toNat_natCast] at et
      obtain ⟨I, HI, HSI, H1I, N110⟩ := item_row l[k] (h.rd.ok _ (List.getElem_mem q2))
      obtain ⟨P, HP⟩ : ∃ P, Hid (incL11 l s.h.s k = P) := ⟨_, hidk rfl⟩
      rw [HP.out] at et
      have IN : Hid (∀ W, Below w.heap.size w W → Calls Tryz.prog 19 #[.slice a len cap, .int .i64 sz, .int .i64 (k : Int)] W fun e w' => ∃ x cx, e = .returned (.tuple #[.slice x P.length cx, .int .i64 0]) ∧ LReads w' x P.length cx P ∧ (x = none → cx = 0) ∧ RoomP W.heap.size x P.length w' ∧ Below W.heap.size W w') := fun W hb => by
        have := hInclN en a len cap l s.h.s k W (h.keep hb) (hT.keep hb) ei
        rwa [HP.out, Hsz.out] at this
      have hR : 0 < len := by omega
      obtain ⟨g, o, rfl, hg⟩ := h.rd.at hR
      have HIT : Hid (w.rangeAt g (o + 110 * k) I.toList) := by
        have := h.rd.range k q2
        show World.rangeAt _ _ _ _
        rw [HI.out]
        exact this
      have okl : OkE l[k].e := h.rd.ok _ (List.getElem_mem q2)
      have BR : Hid (∀ x cx, ∃ R : Array Value, Hid (R = (stcells (mkV l k s x cx)).toArray) ∧ Hid ((Tryz.prog.info? 40).map (·.size) = some R.size) ∧ Hid (Z.size = R.size) ∧ Hid (R.all (·.oneCell') = true) ∧ Hid (Tryz.prog.built 40 [(0, .int .i64 k), (1, .agg I), (2, .slice x P.length cx), (3, .agg S)] = some R)) := fun x cx => by
        have ev : mkV l k s x cx = ⟨k, l[k], x, P.length, cx, s, P⟩ := by unfold mkV; rw [et]
        have ok : OkV (mkV l k s x cx) := by rw [ev]; exact ⟨okl, hs.h.d, hs.g⟩
        obtain ⟨R, HR, HSR, H1R, N181⟩ := step_row _ ok
        refine ⟨R, HR, HSR, by show _ = _; rw [Z181.out, N181.out], H1R, ?_⟩
        have := builtSt (mkV l k s x cx) ok I S R (by rw [ev]; exact HI) (by rw [ev]; exact HS) HR
        rw [ev] at this
        exact this
      have hkl : k < len := by omega
      have ic : ∀ W, (Instr.indexAt 22 (.slice (some ⟨g, o, none⟩) len cap) (.int .i64 (k : Int))).run Tryz.prog W = .ok (.pointer (some ⟨g, o + 110 * k, none⟩)) W := fun W => index_item W g o len cap k .i64 hkl
      have hks : (k : Int) < sz := by rw [← Hsz.out]; exact q1
      have DN : Hid (∀ x cx R (V : World), Hid (R = (stcells (mkV l k s x cx)).toArray) → LReads V x P.length cx P → (x = none → cx = 0) → RoomP w.heap.size x P.length V → Below w.heap.size w V → ∃ x cx, Ending.returned (.tuple #[.agg R, .int .i64 0]) = .returned (.tuple #[.agg (stcells (mkV l k s x cx)).toArray, .int .i64 (mkE l k s)]) ∧ LReads V x (mkT l k s).p.length cx (mkT l k s).p ∧ (x = none → cx = 0) ∧ RoomP w.heap.size x (mkT l k s).p.length V ∧ Below w.heap.size w V) := fun x cx R V hR h1 h2 h3 h4 => by
        rw [em, et, hR.out]
        exact ⟨x, cx, rfl, h1, h2, h3, h4⟩
      clear hc en hd hs HS hT HZ HBZ Z181 N110 em ei et HP HI H1I hi NO okl h hi2 q1 q0 q3 hln hle Hb Hsz q2
      go_enter Tryz.func7, Tryz.ntmps7
      go_wp2_with (first
        | ((with_reducible show aD 6 _ _ _ _ _ _ _ _ _ _ _); refine wpList_new_var rfl 40 rfl Z HA.out ?_; intro g6 w1 HM6; have hM : HeldM w S Z g6 w1 := ⟨HB0.out.trans (HM6.out.below.mono HB0.out.size), (HM6.out.below.block _ (heap_lt HG0.out)).trans HG0.out, HM6.out.row, by rw [HM6.out.new]; exact heap_lt HG0.out⟩; have H1 := hidk hM; clear hM; try simp only [Act.put, pS1, pS2, pS3])
        | ((with_reducible show aD 11 _ _ _ _ _ _ _ _ _ _ _); refine wpList_load_row_w (by rfl) 28 (.tmp 5) rfl w.heap.size rfl 28 S (0, 0) _ H1.out.s Tryz.underlying28 rfl HSS.out ?_; try simp only [Act.put, pS1, pS2, pS3])
        | fail)
      clear HM6 HG0 HB0
      refine (HO.out _ H1.out.b).mono ?_
      rintro e w2 ⟨rfl, hb2⟩
      have H2 := hidk (H1.out.keep hb2)
      clear hb2 H1 HO
      have hcl := HCL.out _ H2.out.s
      have IN2 := hidk (IN.out _ H2.out.b)
      clear IN
      go_wp2_with fail
      refine IN2.out.mono ?_
      rintro e w3 ⟨x, cx, rfl, hp, hn, hr, hb3⟩
      obtain ⟨R, HR, HSR, HZR, H1R, HBR⟩ := BR.out x cx
      have HN := hidk hn
      have HX : Hid (∀ q, x = some ⟨q, 0, none⟩ → 0 < P.length → g6 < q) := fun q e h0 => by
        rcases hr with hr | ⟨gp, e2, h1, _⟩
        · omega
        · rw [e] at e2
          cases e2
          have := heap_lt H2.out.z
          omega
      have HX2 : Hid (∀ q o, x = some ⟨q, o, none⟩ → 0 < P.length → g6 < q) := fun q o e h0 => by
        rcases hr with hr | ⟨gp, e2, h1, _⟩
        · omega
        · rw [e] at e2
          cases e2
          have := heap_lt H2.out.z
          omega
      have H3 : Hid (HeldL w S Z I g6 g (o + 110 * k) x P.length cx P w3) := ⟨(H2.out.keep hb3).b, (H2.out.keep hb3).s, ⟨Z, (H2.out.keep hb3).z, rfl⟩, H2.out.n, hg, fun j v hj => by
        have hbb := H2.out.b.trans (hb3.mono H2.out.b.size)
        rw [hbb.cell (p := ⟨g, o + 110 * k + j, none⟩) hg]
        exact HIT.out j v hj, hp, hr.mono H2.out.b.size⟩
      clear hb3 hp hn hr H2 IN2 HCL hcl BR
      go_wp2_with fail
      refine wp_region_held_drew (S := (HeldL w S Z I g6 g (o + 110 * k) x P.length cx P)) (by kernel_rfl) ⟨H3.out.b.drew, H3.out.s, H3.out.z, H3.out.lt, H3.out.gl, H3.out.i, H3.out.p.keep (Below.refl _ _).drew, H3.out.r⟩ (fun hHeld => ?_)
      refine zX 0 (.int .i64 (k : Int)) rfl hHeld ?_
      try simp only [Act.put, pS1, pS2, pS3]
      refine zX 1 (.slice (some ⟨g, o, none⟩) len cap) rfl hHeld ?_
      try simp only [Act.put, pS1, pS2, pS3]
      refine zX 2 (.int .i64 (k : Int)) rfl hHeld ?_
      try simp only [Act.put, pS1, pS2, pS3]
      refine zW 3 (.pointer (some ⟨g, o + 110 * k, none⟩)) rfl (Or.inl ⟨by rfl, by intro W hSw; have := ic W; go_simp⟩) hHeld ?_
      try simp only [Act.put, pS1, pS2, pS3]
      refine zW 4 (.agg I) rfl (yieldsIf_mid (by rfl) 37 (.tmp 37) rfl g (o + 110 * k) rfl I _ (fun V hv => hv.i) Tryz.underlying37 rfl HSI.out) hHeld ?_
      try simp only [Act.put, pS1, pS2, pS3]
      refine zX 5 (.slice x P.length cx) rfl hHeld ?_
      try simp only [Act.put, pS1, pS2, pS3]
      refine zW 6 (.agg S) rfl (yieldsIf_mid (by rfl) 28 (.tmp 5) rfl w.heap.size 0 rfl S _ (fun V hv => range_row (l := S.toList) (W := V) (g := w.heap.size) (by simpa using hv.s)) Tryz.underlying28 rfl HSS.out) hHeld ?_
      try simp only [Act.put, pS1, pS2, pS3]
      refine zW 7 (.agg R) rfl (yieldsIf_buildP (by rfl) 40 _ rfl #[(0, .int .i64 k), (1, .agg I), (2, .slice x P.length cx), (3, .agg S)] rfl R HBR.out) hHeld ?_
      try simp only [Act.put, pS1, pS2, pS3]
      refine wpAnyH_ready (rs := [8]) (by kernel_rfl) (by simp) ?_
      refine (AllReadyH.cons (o := { dst := none, op := .store 40 (.tmp 6) (.tmp 41), type := 0, pos := "path.go:22", after := #[zD 7, zP 0, zP 1, zP 2, zP 3, zP 4, zP 5, zP 6, zP 7], guard := none }) rfl (fun K hK => ?_) AllReadyH.nil)
      obtain ⟨Y, hY1, hY2⟩ := hHeld.z
      have HYR := hidk (hY2.trans HZR.out)
      refine step_set_var (by rfl) 40 (.tmp 6) (.tmp 41) rfl g6 R rfl rfl 40 Y hY1 HSR.out HYR.out H1R.out ?_
      intro w8 HW
      have HL8 := hHeld.wrote HW.out HZR.out HX2.out
      have H8 := hidk (DN.out x cx R w8 HR HL8.p HN.out HL8.r HL8.b)
      have HR8 := hidk HW.out.row
      refine hK.out _ _ HL8 (fun hHeld => ?_)
      clear hK K
      try simp only [Act.put, pS1, pS2, pS3]
      refine zX 9 (.int .i64 0) rfl hHeld ?_
      try simp only [Act.put, pS1, pS2, pS3]
      refine wpAnyH_done (by kernel_rfl) ?_ _
      go_wp2
      refine bodyPost_ret (v := .tuple #[.agg R, .int .i64 0]) ?_ rfl H8.out
      exact results_row_tmp (p := 6) (q := 7) (ty := 40) rfl _ _ g6 40 R (0, 0) _ rfl HR8.out Tryz.underlying40 rfl HSR.out
    · have HN := NO 131 (mkE_131 Hb.out hi2) (by decide)
      have hsz2 : ¬ (0 ≤ i ∧ i < sz) := by rw [← Hsz.out]; exact hi2
      clear hc en hd hs HS hT HZ Z181 hi NO h Hb Hsz hi2
      by_cases hlo : i < 0
      · have dl : decide (i < 0) = true := decide_eq_true hlo
        go_enter Tryz.func7, Tryz.ntmps7
        go_wp2_with (first
          | ((with_reducible show aD 6 _ _ _ _ _ _ _ _ _ _ _); refine wpList_new_var rfl 40 rfl Z HA.out ?_; intro g6 w1 HM6; have hM : HeldM w S Z g6 w1 := ⟨HB0.out.trans (HM6.out.below.mono HB0.out.size), (HM6.out.below.block _ (heap_lt HG0.out)).trans HG0.out, HM6.out.row, by rw [HM6.out.new]; exact heap_lt HG0.out⟩; have H1 := hidk hM; clear hM; try simp only [Act.put, pS1, pS2, pS3])
          | ((with_reducible show aD 11 _ _ _ _ _ _ _ _ _ _ _); refine wpList_load_row_w (by rfl) 28 (.tmp 5) rfl w.heap.size rfl 28 S (0, 0) _ H1.out.s Tryz.underlying28 rfl HSS.out ?_; try simp only [Act.put, pS1, pS2, pS3])
          | fail)
        clear HM6 HG0 HB0
        refine (HO.out _ H1.out.b).mono ?_
        rintro e w2 ⟨rfl, hb2⟩
        have H2 := hidk (H1.out.keep hb2)
        clear hb2 H1 HO
        have hcl := HCL.out _ H2.out.s
        have HZG := hidk H2.out.z
        go_wp2_with (first
          | ((with_reducible show aD 24 _ _ _ _ _ _ _ _ _ _ _); refine wpList_build_none rfl 40 rfl Z HBZ.out ?_; try simp only [Act.put, pS1, pS2, pS3])
          | (refine wpList_set_var rfl 40 (.tmp 6) (.tmp 24) rfl g6 Z rfl rfl 40 Z HZG.out HSZ.out rfl H1Z.out ?_; intro w3 HW; have HB3 := hidk (HW.out.below _ _ H2.out.b (Nat.le_of_lt H2.out.n)); try simp only [Act.put, pS1, pS2, pS3])
          | fail)
        refine bodyPost_ret (v := .tuple #[.agg Z, .int .i64 131]) ?_ rfl (HN.out _ HB3.out)
        exact results_row_tmp (p := 6) (q := 7) (ty := 40) rfl _ _ g6 40 Z (0, 0) _ rfl HW.out.row Tryz.underlying40 rfl HSZ.out
      · have dl : decide (i < 0) = false := decide_eq_false hlo
        have hge : sz ≤ i := by omega
        have dg : decide (sz ≤ i) = true := decide_eq_true hge
        go_enter Tryz.func7, Tryz.ntmps7
        go_wp2_with (first
          | ((with_reducible show aD 6 _ _ _ _ _ _ _ _ _ _ _); refine wpList_new_var rfl 40 rfl Z HA.out ?_; intro g6 w1 HM6; have hM : HeldM w S Z g6 w1 := ⟨HB0.out.trans (HM6.out.below.mono HB0.out.size), (HM6.out.below.block _ (heap_lt HG0.out)).trans HG0.out, HM6.out.row, by rw [HM6.out.new]; exact heap_lt HG0.out⟩; have H1 := hidk hM; clear hM; try simp only [Act.put, pS1, pS2, pS3])
          | ((with_reducible show aD 11 _ _ _ _ _ _ _ _ _ _ _); refine wpList_load_row_w (by rfl) 28 (.tmp 5) rfl w.heap.size rfl 28 S (0, 0) _ H1.out.s Tryz.underlying28 rfl HSS.out ?_; try simp only [Act.put, pS1, pS2, pS3])
          | fail)
        clear HM6 HG0 HB0
        refine (HO.out _ H1.out.b).mono ?_
        rintro e w2 ⟨rfl, hb2⟩
        have H2 := hidk (H1.out.keep hb2)
        clear hb2 H1 HO
        have hcl := HCL.out _ H2.out.s
        have HZG := hidk H2.out.z
        go_wp2_with (first
          | ((with_reducible show aD 24 _ _ _ _ _ _ _ _ _ _ _); refine wpList_build_none rfl 40 rfl Z HBZ.out ?_; try simp only [Act.put, pS1, pS2, pS3])
          | (refine wpList_set_var rfl 40 (.tmp 6) (.tmp 24) rfl g6 Z rfl rfl 40 Z HZG.out HSZ.out rfl H1Z.out ?_; intro w3 HW; have HB3 := hidk (HW.out.below _ _ H2.out.b (Nat.le_of_lt H2.out.n)); try simp only [Act.put, pS1, pS2, pS3])
          | fail)
        refine bodyPost_ret (v := .tuple #[.agg Z, .int .i64 131]) ?_ rfl (HN.out _ HB3.out)
        exact results_row_tmp (p := 6) (q := 7) (ty := 40) rfl _ _ g6 40 Z (0, 0) _ rfl HW.out.row Tryz.underlying40 rfl HSZ.out
  · have hb0 : b = false := by simpa using hb
    subst hb0
    have HN := NO 130 (mkE_130 Hb.out) (by decide)
    clear hc en hd hs HS hT HZ Z181 hi NO h Hb Hsz hb
    go_enter Tryz.func7, Tryz.ntmps7
    go_wp2_with (first
      | ((with_reducible show aD 6 _ _ _ _ _ _ _ _ _ _ _); refine wpList_new_var rfl 40 rfl Z HA.out ?_; intro g6 w1 HM6; have hM : HeldM w S Z g6 w1 := ⟨HB0.out.trans (HM6.out.below.mono HB0.out.size), (HM6.out.below.block _ (heap_lt HG0.out)).trans HG0.out, HM6.out.row, by rw [HM6.out.new]; exact heap_lt HG0.out⟩; have H1 := hidk hM; clear hM; try simp only [Act.put, pS1, pS2, pS3])
      | ((with_reducible show aD 11 _ _ _ _ _ _ _ _ _ _ _); refine wpList_load_row_w (by rfl) 28 (.tmp 5) rfl w.heap.size rfl 28 S (0, 0) _ H1.out.s Tryz.underlying28 rfl HSS.out ?_; try simp only [Act.put, pS1, pS2, pS3])
      | fail)
    clear HM6 HG0 HB0
    refine (HO.out _ H1.out.b).mono ?_
    rintro e w2 ⟨rfl, hb2⟩
    have H2 := hidk (H1.out.keep hb2)
    clear hb2 H1 HO
    have hcl := HCL.out _ H2.out.s
    have HZG := hidk H2.out.z
    go_wp2_with (first
      | ((with_reducible show aD 14 _ _ _ _ _ _ _ _ _ _ _); refine wpList_build_none rfl 40 rfl Z HBZ.out ?_; try simp only [Act.put, pS1, pS2, pS3])
      | (refine wpList_set_var rfl 40 (.tmp 6) (.tmp 14) rfl g6 Z rfl rfl 40 Z HZG.out HSZ.out rfl H1Z.out ?_; intro w3 HW; have HB3 := hidk (HW.out.below _ _ H2.out.b (Nat.le_of_lt H2.out.n)); try simp only [Act.put, pS1, pS2, pS3])
      | fail)
    refine bodyPost_ret (v := .tuple #[.agg Z, .int .i64 130]) ?_ rfl (HN.out _ HB3.out)
    exact results_row_tmp (p := 6) (q := 7) (ty := 40) rfl _ _ g6 40 Z (0, 0) _ rfl HW.out.row Tryz.underlying40 rfl HSZ.out
structure HeldN (w : World) (S Z I : Array Value) (g6 g o : Nat) (x : Option Addr) (n cx : Nat) (P : List (List UInt8)) (V : World) : Prop where
  b : Below w.heap.size w V
  s : V.heap[w.heap.size]? = some (.cells S 28 (0, 0))
  z : ∃ Y : Array Value, V.heap[g6]? = some (.cells Y 40 (0, 0)) ∧ Y.size = Z.size
  lt : w.heap.size < g6
  gl : g < w.heap.size
  i : V.rangeAt g o I.toList
  p : LReads V x n cx P
theorem HeldN.wrote {w : World} {S Z I : Array Value} {g6 g o : Nat} {x : Option Addr} {n cx : Nat} {P : List (List UInt8)} {V V' : World} {R : Array Value} (h : HeldN w S Z I g6 g o x n cx P V) (hw : Wrote g6 R 40 V V') (hR : Z.size = R.size) (hx : ∀ q o, x = some ⟨q, o, none⟩ → 0 < n → g6 < q) : HeldN w S Z I g6 g o x n cx P V' where
  b := hw.below _ _ h.b (Nat.le_of_lt h.lt)
  s := (hw.other _ (Nat.ne_of_lt h.lt)).trans h.s
  z := ⟨R, hw.row, hR.symm⟩
  lt := h.lt
  gl := h.gl
  i := fun j v hj => (World.cell?_of_block (a := ⟨g, o + j, none⟩) (hw.other g (by have := h.lt; have := h.gl; omega))).trans (h.i j v hj)
  p := h.p.same14 fun q oo e h0 => hw.other q (by have := hx q oo e h0; omega)
set_option maxHeartbeats 16000000 in
theorem rMake (a : Option Addr) (len cap : Nat) (l : List ItT) (i : Int) (s : SgT) (w : World) (h : IReads w a len cap l) (hle : len ≤ 1000) (hs : InS s) (S : Array Value) (HS : Hid (S = (scells s).toArray)) (hT : Table 0 w) :
    Calls Tryz.prog 8 #[.slice a len cap, .int .i64 i, .agg S] w fun e w' => ∃ x cx, e = .returned (.tuple #[.agg (stcells (mkV l i s x cx)).toArray, .int .i64 (mkE l i s)]) ∧ LReads w' x (mkT l i s).p.length cx (mkT l i s).p ∧ Below w.heap.size w w' := by
  obtain ⟨Z, HZ, HA, HBZ, Z181⟩ := noughtsSt
  have HSZ : Hid ((Tryz.prog.info? 40).map (·.size) = some Z.size) := by show _ = _; rw [sizeSt, Z181.out]
  have H1Z : Hid (Z.all (·.oneCell') = true) := by show _ = _; rw [HZ.out, List.all_toArray, List.all_eq_true]; exact fun u hu => stcells_one _ u hu
  have HSS : Hid ((Tryz.prog.info? 28).map (·.size) = some S.size) := by show _ = _; rw [sizeS, HS.out]; simp [scells_length _ hs.h.d hs.g]
  obtain ⟨D, HD, HSD, H1D, N32⟩ := dig_row' (rootO l s.h.s) (rootO_len _ _)
  obtain ⟨E, HE, HSE, H1E, M32⟩ := dig_row' s.h.d hs.h.d
  obtain ⟨ZD, HZD, HAD, HSZD, H1ZD, Z32⟩ := noughts27
  have HZDD : Hid (ZD.size = D.size) := by show _ = _; rw [Z32.out, N32.out]
  obtain ⟨cd, hcd⟩ : ∃ b, (!decide (rootO l s.h.s = s.h.d)) = b := ⟨_, rfl⟩
  have nqd : ∀ W, (binOp .neq 24 (.agg D) (.agg E)).run Tryz.prog W = .ok (.bool cd) W := fun W => neqDigV _ _ (rootO_len _ _) hs.h.d D E HD HE cd hcd W
  obtain ⟨z, Hz⟩ : ∃ z, Hid (sizeX l s.h.s = z) := ⟨_, hidk rfl⟩
  obtain ⟨sz, Hsz⟩ : ∃ k, Hid (s.h.s = k) := ⟨_, hidk rfl⟩
  obtain ⟨mb, Hm⟩ : ∃ b, Hid (mayS s = b) := ⟨_, hidk rfl⟩
  have HHO : Hid ((decide (z = 0) && (!cd && mb)) = hofB l s) := by
    show _ = _
    unfold hofB
    rw [← hcd, ← Hz.out, ← Hm.out, Bool.not_not]
  have HB0 : Hid (Below w.heap.size w (w.alloc (.cells S 28))) := (Below.refl _ _).alloc (Nat.le_refl _) _
  have HG0 := hidk (heap_alloc_new w (.cells S 28))
  have RT : Hid (∀ W, Below w.heap.size w W → Calls Tryz.prog 20 #[.slice a len cap, .int .i64 sz] W fun e w' => e = .returned (.tuple #[.agg D, .int .i64 z]) ∧ Below W.heap.size W w') := fun W hb => by
    have := refRootL_any a len cap l s.h.s W (h.keep hb) (hT.keep hb) D HD
    rwa [Hz.out, Hsz.out] at this
  have MY : Hid (∀ W, Calls Tryz.prog 21 #[.agg S] W fun e w' => e = .returned (.bool mb) ∧ Below W.heap.size W w') := fun W => by rw [← Hm.out]; exact refMay_any s hs.h.d W S HS
  have HCL : Hid (∀ (V : World), V.heap[w.heap.size]? = some (.cells S 28 (0, 0)) → V.cell? ⟨w.heap.size, 2, none⟩ = some (.int .i64 sz) ∧ V.rangeAt w.heap.size 3 E.toList) := fun V hv => by
    have r0 := s_row HS hv
    refine ⟨?_, ?_⟩
    · have := r0 2 (.int .i64 s.h.s) rfl
      rw [Hsz.out] at this
      simpa using this
    · have r1 := range_shP r0
      intro j v hj
      rw [HE.out] at hj
      have := r1 (3 + j) v (by
        unfold hcells
        rw [List.append_assoc, List.getElem?_append_right (by simp), List.getElem?_append_left (by simpa using (List.getElem?_eq_some_iff.1 hj).1)]
        simpa using hj)
      simpa using this
  have NO : ∀ (E : Int), mkE l i s = E → E ≠ 0 → Hid (∀ (T : World), Below w.heap.size w T → ∃ x cx, Ending.returned (.tuple #[.agg Z, .int .i64 E]) = .returned (.tuple #[.agg (stcells (mkV l i s x cx)).toArray, .int .i64 (mkE l i s)]) ∧ LReads T x (mkT l i s).p.length cx (mkT l i s).p ∧ Below w.heap.size w T) := fun E hE h0 T hb => by
    obtain ⟨e1, e2⟩ := mkV_no (by rw [hE]; exact h0)
    refine ⟨none, 0, ?_, ?_, hb⟩
    · rw [e1, hE, HZ.out]
    · rw [e2]
      exact ⟨rfl, (fun d hd => by cases hd), Nat.le_refl _, Nat.zero_le _, .inl rfl⟩
  have hm3 : hofB l s = true ∨ hofB l s = false := by cases hofB l s; exact .inr rfl; exact .inl rfl
  have N130 : hofB l s = false → Hid (∀ (T : World), Below w.heap.size w T → ∃ x cx, Ending.returned (.tuple #[.agg Z, .int .i64 130]) = .returned (.tuple #[.agg (stcells (mkV l i s x cx)).toArray, .int .i64 (mkE l i s)]) ∧ LReads T x (mkT l i s).p.length cx (mkT l i s).p ∧ Below w.heap.size w T) := fun hh => NO 130 (mkE_130 hh) (by decide)
  obtain ⟨ei, Hei⟩ : ∃ k, Hid (incE11 l s.h.s i = k) := ⟨_, hidk rfl⟩
  have IN : Hid (ei ≠ 0 → ∀ W, Below w.heap.size w W → Calls Tryz.prog 22 #[.slice a len cap, .int .i64 sz, .int .i64 i] W fun e w' => ∃ x n cx, e = .returned (.tuple #[.slice x n cx, .int .i64 ei]) ∧ Below W.heap.size W w') := fun _ W hb => by
    refine (refInclusionL_any a len cap l s.h.s i W (h.keep hb) (hT.keep hb)).mono ?_ |> fun q => by rwa [Hsz.out] at q
    rintro e w' ⟨x, cx, rfl, _, hb'⟩
    exact ⟨x, _, cx, by rw [Hei.out], hb'⟩
  have N131 : hofB l s = true → ei ≠ 0 → Hid (∀ (T : World), Below w.heap.size w T → ∃ x cx, Ending.returned (.tuple #[.agg Z, .int .i64 131]) = .returned (.tuple #[.agg (stcells (mkV l i s x cx)).toArray, .int .i64 (mkE l i s)]) ∧ LReads T x (mkT l i s).p.length cx (mkT l i s).p ∧ Below w.heap.size w T) := fun hh he => by
    refine NO 131 (mkE_131 hh fun hi => he ?_) (by decide)
    rw [← Hei.out]
    exact (mkE_0 hh hi).2
  -- what is made
  have OK : Hid (hofB l s = true → ei = 0 → ∃ (k g o : Nat) (I : Array Value) (P : List (List UInt8)), i = (k : Int) ∧ a = some ⟨g, o, none⟩ ∧ k < len ∧ g < w.heap.size ∧ Hid ((Tryz.prog.info? 37).map (·.size) = some I.size) ∧ Hid (w.rangeAt g (o + 110 * k) I.toList) ∧
      Hid (∀ W, Below w.heap.size w W → Calls Tryz.prog 22 #[.slice a len cap, .int .i64 sz, .int .i64 i] W fun e w' => ∃ x cx, e = .returned (.tuple #[.slice x P.length cx, .int .i64 0]) ∧ LReads w' x P.length cx P ∧ Below W.heap.size W w' ∧ FrR W.heap.size x P.length) ∧
      Hid (∀ x cx, ∃ R : Array Value, Hid (R = (stcells (mkV l i s x cx)).toArray) ∧ Hid ((Tryz.prog.info? 40).map (·.size) = some R.size) ∧ Hid (Z.size = R.size) ∧ Hid (R.all (·.oneCell') = true) ∧ Hid (Tryz.prog.built 40 [(0, .int .i64 i), (1, .agg I), (2, .slice x P.length cx), (3, .agg S)] = some R)) ∧
      Hid (∀ x cx R (V : World), Hid (R = (stcells (mkV l i s x cx)).toArray) → LReads V x P.length cx P → Below w.heap.size w V → ∃ x cx, Ending.returned (.tuple #[.agg R, .int .i64 0]) = .returned (.tuple #[.agg (stcells (mkV l i s x cx)).toArray, .int .i64 (mkE l i s)]) ∧ LReads V x (mkT l i s).p.length cx (mkT l i s).p ∧ Below w.heap.size w V)) := fun hh he => by
    have hie : incE11 l s.h.s i = 0 := Hei.out.trans he
    obtain ⟨_, hi0, hi1⟩ := incE11_inv14 hie
    obtain ⟨em, _⟩ := mkE_0 hh ⟨hi0, hi1⟩
    obtain ⟨q0, q1, q2, q3⟩ := mk_item em
    have et := mkT_eq em q2
    have hln := h.ln
    obtain ⟨k, hk⟩ : ∃ k : Nat, i = k := ⟨i.toNat, by omega⟩
    subst hk
    rw [Int.toNat_natCast] at q2
    simp only [Int.toNat_natCast] at et
    obtain ⟨I, HI, HSI, H1I, N110⟩ := item_row l[k] (h.ok _ (List.getElem_mem q2))
    obtain ⟨P, HP⟩ : ∃ P, Hid (incL11 l s.h.s k = P) := ⟨_, hidk rfl⟩
    rw [HP.out] at et
    obtain ⟨g, o, rfl, hg⟩ := h.at (by omega)
    have okl : OkE l[k].e := h.ok _ (List.getElem_mem q2)
    refine ⟨k, g, o, I, P, rfl, rfl, by omega, hg, HSI, ?_, fun W hb => ?_, fun x cx => ?_, fun x cx R V hR h1 h4 => ?_⟩
    · show World.rangeAt _ _ _ _
      rw [HI.out]
      exact h.range k q2
    · have := refInclusionN _ len cap l s.h.s k W (h.keep hb) (hT.keep hb) hie
      rwa [HP.out, Hsz.out] at this
    · have ev : mkV l k s x cx = ⟨k, l[k], x, P.length, cx, s, P⟩ := by unfold mkV; rw [et]
      have ok : OkV (mkV l k s x cx) := by rw [ev]; exact ⟨okl, hs.h.d, hs.g⟩
      obtain ⟨R, HR, HSR, H1R, N181⟩ := step_row _ ok
      refine ⟨R, HR, HSR, by show _ = _; rw [Z181.out, N181.out], H1R, ?_⟩
      have := builtSt (mkV l k s x cx) ok I S R (by rw [ev]; exact HI) (by rw [ev]; exact HS) HR
      rw [ev] at this
      exact this
    · rw [em, et, hR.out]
      exact ⟨x, cx, rfl, h1, h4⟩
  have HN130 := hidk N130
  have HN131 := hidk N131
  clear h hs HS hT HD HE HZD hcd Hz Hsz Hm N32 M32 Z32 HSZD H1ZD H1E HZ Z181 NO N130 N131 Hei hm3
  obtain ⟨hc0, _⟩ := HCL.out _ HG0.out
  go_enter Tryz.func8, Tryz.ntmps8
  go_wp2_with (first
    | ((with_reducible show aD 6 _ _ _ _ _ _ _ _ _ _ _); refine wpList_new_var rfl 40 rfl Z HA.out ?_; intro g6 w1 HM6; have hM : HeldM w S Z g6 w1 := ⟨HB0.out.trans (HM6.out.below.mono HB0.out.size), (HM6.out.below.block _ (heap_lt HG0.out)).trans HG0.out, HM6.out.row, by rw [HM6.out.new]; exact heap_lt HG0.out⟩; have H1 := hidk hM; clear hM; obtain ⟨hc1, _⟩ := HCL.out _ H1.out.s; try simp only [Act.put, pS1, pS2, pS3])
    | fail)
  clear HM6 HG0 HB0 hc0
  refine (RT.out _ H1.out.b).mono ?_
  rintro e w2 ⟨rfl, hb2⟩
  have H2 := hidk (H1.out.keep hb2)
  clear hb2 H1 RT hc1
  by_cases hz : z = 0
  · subst hz
    cases cd
    · have HHO2 : Hid (mb = hofB l s) := by have := HHO.out; show _ = _; simpa using this
      clear HHO
      go_wp2_with (first
        | ((with_reducible show aD 8 _ _ _ _ _ _ _ _ _ _ _); refine wpList_new_var rfl 24 rfl ZD HAD.out ?_; intro g8 w3 HM8; have HN8 := hidk HM8.out.row; try simp only [Act.put, pS1, pS2, pS3])
        | (refine wpList_set_var rfl 24 (.tmp 8) (.tmp 17) rfl g8 D rfl rfl 24 ZD HN8.out HSD.out HZDD.out H1D.out ?_; intro w4 HW8; have hb8 : Below w2.heap.size w2 w4 := HW8.out.below _ _ HM8.out.below (by rw [HM8.out.new]; exact Nat.le_refl _); have H4 := hidk (H2.out.keep hb8); have HD4 := hidk HW8.out.row; obtain ⟨hc4, hr4⟩ := HCL.out _ H4.out.s; have HR4 := hidk hr4; have HZG := hidk H4.out.z; clear hb8 hr4; try simp only [Act.put, pS1, pS2, pS3])
        | ((with_reducible show aD 22 _ _ _ _ _ _ _ _ _ _ _); refine wpList_load_row_w (by rfl) 24 (.tmp 8) rfl g8 rfl 24 D (0, 0) _ HD4.out Tryz.underlying24 rfl HSD.out ?_; try simp only [Act.put, pS1, pS2, pS3])
        | ((with_reducible show aD 25 _ _ _ _ _ _ _ _ _ _ _); refine wpList_mid_w (by rfl) 24 (.tmp 24) rfl w.heap.size 3 rfl E _ HR4.out Tryz.underlying24 rfl HSE.out ?_; try simp only [Act.put, pS1, pS2, pS3])
        | ((with_reducible show aD 29 _ _ _ _ _ _ _ _ _ _ _); refine wpList_load_row_w (by rfl) 28 (.tmp 5) rfl w.heap.size rfl 28 S (0, 0) _ H4.out.s Tryz.underlying28 rfl HSS.out ?_; try simp only [Act.put, pS1, pS2, pS3])
        | fail)
      refine (MY.out _).mono ?_
      rintro e w5 ⟨rfl, hb5⟩
      have H5 := hidk (H4.out.keep hb5)
      clear hb5 MY HM8 HN8 HW8 HD4 HR4 HZG hc4 H4 H2
      cases mb
      · have HNN := HN130.out HHO2.out.symm
        have HZG5 := hidk H5.out.z
        clear HN130 HN131 OK IN HHO2
        go_wp2_with (first
          | ((with_reducible show aD 33 _ _ _ _ _ _ _ _ _ _ _); refine wpList_build_none rfl 40 rfl Z HBZ.out ?_; try simp only [Act.put, pS1, pS2, pS3])
          | (refine wpList_set_var rfl 40 (.tmp 6) (.tmp 33) rfl g6 Z rfl rfl 40 Z HZG5.out HSZ.out rfl H1Z.out ?_; intro w9 HW; have HB9 := hidk (HW.out.below _ _ H5.out.b (Nat.le_of_lt H5.out.n)); try simp only [Act.put, pS1, pS2, pS3])
          | fail)
        refine bodyPost_ret (v := .tuple #[.agg Z, .int .i64 130]) ?_ rfl (HNN.out _ HB9.out)
        exact results_row_tmp (p := 6) (q := 7) (ty := 40) rfl _ _ g6 40 Z (0, 0) _ rfl HW.out.row Tryz.underlying40 rfl HSZ.out
      · obtain ⟨hc5, _⟩ := HCL.out _ H5.out.s
        by_cases hei : ei = 0
        · obtain ⟨k, g, o, I, P, hk, ha, hkl, hg, HSI, HIT, INN, BR, DN⟩ := OK.out HHO2.out.symm hei
          subst hk
          subst ha
          have ic : ∀ W, (Instr.indexAt 22 (.slice (some ⟨g, o, none⟩) len cap) (.int .i64 (k : Int))).run Tryz.prog W = .ok (.pointer (some ⟨g, o + 110 * k, none⟩)) W := fun W => index_item W g o len cap k .i64 hkl
          have HGL : Hid (g < w.heap.size) := hg
          have IN2 := hidk (INN.out _ H5.out.b)
          clear OK HN130 HN131 IN INN HHO2 hei hg
          go_wp2_with fail
          refine IN2.out.mono ?_
          rintro e w6 ⟨x, cx, rfl, hp, hb6, hf⟩
          obtain ⟨R, HR, HSR, HZR, H1R, HBR⟩ := BR.out x cx
          have HX2 : Hid (∀ q o, x = some ⟨q, o, none⟩ → 0 < P.length → g6 < q) := fun q o e h0 => Nat.lt_of_lt_of_le (heap_lt H5.out.z) (hf q o e h0)
          have H6 : Hid (HeldN w S Z I g6 g (o + 110 * k) x P.length cx P w6) := ⟨(H5.out.keep hb6).b, (H5.out.keep hb6).s, ⟨Z, (H5.out.keep hb6).z, rfl⟩, H5.out.n, HGL.out, range_below HIT.out (H5.out.b.trans (hb6.mono H5.out.b.size)) HGL.out, hp⟩
          clear hb6 hp hf H5 IN2 hc5 BR HGL HCL
          go_wp2_with fail
          refine wp_region_held_drew (S := (HeldN w S Z I g6 g (o + 110 * k) x P.length cx P)) (by kernel_rfl) ⟨H6.out.b.drew, H6.out.s, H6.out.z, H6.out.lt, H6.out.gl, H6.out.i, H6.out.p.keep (Below.refl _ _).drew⟩ (fun hHeld => ?_)
          refine zX 0 (.int .i64 (k : Int)) rfl hHeld ?_
          try simp only [Act.put, pS1, pS2, pS3]
          refine zX 1 (.slice (some ⟨g, o, none⟩) len cap) rfl hHeld ?_
          try simp only [Act.put, pS1, pS2, pS3]
          refine zX 2 (.int .i64 (k : Int)) rfl hHeld ?_
          try simp only [Act.put, pS1, pS2, pS3]
          refine zW 3 (.pointer (some ⟨g, o + 110 * k, none⟩)) rfl (Or.inl ⟨by rfl, by intro W hSw; have := ic W; go_simp⟩) hHeld ?_
          try simp only [Act.put, pS1, pS2, pS3]
          refine zW 4 (.agg I) rfl (yieldsIf_mid (by rfl) 37 (.tmp 49) rfl g (o + 110 * k) rfl I _ (fun V hv => hv.i) Tryz.underlying37 rfl HSI.out) hHeld ?_
          try simp only [Act.put, pS1, pS2, pS3]
          refine zX 5 (.slice x P.length cx) rfl hHeld ?_
          try simp only [Act.put, pS1, pS2, pS3]
          refine zW 6 (.agg S) rfl (yieldsIf_mid (by rfl) 28 (.tmp 5) rfl w.heap.size 0 rfl S _ (fun V hv => range_row (l := S.toList) (W := V) (g := w.heap.size) (by simpa using hv.s)) Tryz.underlying28 rfl HSS.out) hHeld ?_
          try simp only [Act.put, pS1, pS2, pS3]
          refine zW 7 (.agg R) rfl (yieldsIf_buildP (by rfl) 40 _ rfl #[(0, .int .i64 k), (1, .agg I), (2, .slice x P.length cx), (3, .agg S)] rfl R HBR.out) hHeld ?_
          try simp only [Act.put, pS1, pS2, pS3]
          refine wpAnyH_ready (rs := [8]) (by kernel_rfl) (by simp) ?_
          refine (AllReadyH.cons (o := { dst := none, op := .store 40 (.tmp 6) (.tmp 53), type := 0, pos := "ref.go:23", after := #[zD 7, zP 0, zP 1, zP 2, zP 3, zP 4, zP 5, zP 6, zP 7], guard := none }) rfl (fun K hK => ?_) AllReadyH.nil)
          obtain ⟨Y, hY1, hY2⟩ := hHeld.z
          have HYR := hidk (hY2.trans HZR.out)
          refine step_set_var (by rfl) 40 (.tmp 6) (.tmp 53) rfl g6 R rfl rfl 40 Y hY1 HSR.out HYR.out H1R.out ?_
          intro w8 HW
          have HL8 := hHeld.wrote HW.out HZR.out HX2.out
          have H8 := hidk (DN.out x cx R w8 HR HL8.p HL8.b)
          have HR8 := hidk HW.out.row
          refine hK.out _ _ HL8 (fun hHeld => ?_)
          clear hK K
          try simp only [Act.put, pS1, pS2, pS3]
          refine zX 9 (.int .i64 0) rfl hHeld ?_
          try simp only [Act.put, pS1, pS2, pS3]
          refine wpAnyH_done (by kernel_rfl) ?_ _
          go_wp2
          refine bodyPost_ret (v := .tuple #[.agg R, .int .i64 0]) ?_ rfl H8.out
          exact results_row_tmp (p := 6) (q := 7) (ty := 40) rfl _ _ g6 40 R (0, 0) _ rfl HR8.out Tryz.underlying40 rfl HSR.out
        · have HNN := HN131.out HHO2.out.symm hei
          have IN2 := hidk (IN.out hei _ H5.out.b)
          have be : (ei != 0) = true := by simp [hei]
          clear OK HN130 HN131 IN HHO2 hei
          go_wp2_with fail
          refine IN2.out.mono ?_
          rintro e w6 ⟨x, n, cx, rfl, hb6⟩
          have H6 := hidk (H5.out.keep hb6)
          have HZG6 := hidk H6.out.z
          clear hb6 H5 IN2 hc5
          go_wp2_with (first
            | ((with_reducible show aD 45 _ _ _ _ _ _ _ _ _ _ _); refine wpList_build_none rfl 40 rfl Z HBZ.out ?_; try simp only [Act.put, pS1, pS2, pS3])
            | (refine wpList_set_var rfl 40 (.tmp 6) (.tmp 45) rfl g6 Z rfl rfl 40 Z HZG6.out HSZ.out rfl H1Z.out ?_; intro w9 HW; have HB9 := hidk (HW.out.below _ _ H6.out.b (Nat.le_of_lt H6.out.n)); try simp only [Act.put, pS1, pS2, pS3])
            | fail)
          refine bodyPost_ret (v := .tuple #[.agg Z, .int .i64 131]) ?_ rfl (HNN.out _ HB9.out)
          exact results_row_tmp (p := 6) (q := 7) (ty := 40) rfl _ _ g6 40 Z (0, 0) _ rfl HW.out.row Tryz.underlying40 rfl HSZ.out
    · have HHO2 : Hid (false = hofB l s) := by have := HHO.out; show _ = _; simpa using this
      have HNN := HN130.out HHO2.out.symm
      clear HHO HHO2 HN130 HN131 OK IN
      go_wp2_with (first
        | ((with_reducible show aD 8 _ _ _ _ _ _ _ _ _ _ _); refine wpList_new_var rfl 24 rfl ZD HAD.out ?_; intro g8 w3 HM8; have HN8 := hidk HM8.out.row; try simp only [Act.put, pS1, pS2, pS3])
        | (refine wpList_set_var rfl 24 (.tmp 8) (.tmp 17) rfl g8 D rfl rfl 24 ZD HN8.out HSD.out HZDD.out H1D.out ?_; intro w4 HW8; have hb8 : Below w2.heap.size w2 w4 := HW8.out.below _ _ HM8.out.below (by rw [HM8.out.new]; exact Nat.le_refl _); have H4 := hidk (H2.out.keep hb8); have HD4 := hidk HW8.out.row; obtain ⟨hc4, hr4⟩ := HCL.out _ H4.out.s; have HR4 := hidk hr4; have HZG := hidk H4.out.z; clear hb8 hr4; try simp only [Act.put, pS1, pS2, pS3])
        | ((with_reducible show aD 22 _ _ _ _ _ _ _ _ _ _ _); refine wpList_load_row_w (by rfl) 24 (.tmp 8) rfl g8 rfl 24 D (0, 0) _ HD4.out Tryz.underlying24 rfl HSD.out ?_; try simp only [Act.put, pS1, pS2, pS3])
        | ((with_reducible show aD 25 _ _ _ _ _ _ _ _ _ _ _); refine wpList_mid_w (by rfl) 24 (.tmp 24) rfl w.heap.size 3 rfl E _ HR4.out Tryz.underlying24 rfl HSE.out ?_; try simp only [Act.put, pS1, pS2, pS3])
        | ((with_reducible show aD 29 _ _ _ _ _ _ _ _ _ _ _); refine wpList_load_row_w (by rfl) 28 (.tmp 5) rfl w.heap.size rfl 28 S (0, 0) _ H4.out.s Tryz.underlying28 rfl HSS.out ?_; try simp only [Act.put, pS1, pS2, pS3])
        | ((with_reducible show aD 33 _ _ _ _ _ _ _ _ _ _ _); refine wpList_build_none rfl 40 rfl Z HBZ.out ?_; try simp only [Act.put, pS1, pS2, pS3])
        | (refine wpList_set_var rfl 40 (.tmp 6) (.tmp 33) rfl g6 Z rfl rfl 40 Z HZG.out HSZ.out rfl H1Z.out ?_; intro w9 HW; have HB9 := hidk (HW.out.below _ _ H4.out.b (Nat.le_of_lt H4.out.n)); try simp only [Act.put, pS1, pS2, pS3])
        | fail)
      refine bodyPost_ret (v := .tuple #[.agg Z, .int .i64 130]) ?_ rfl (HNN.out _ HB9.out)
      exact results_row_tmp (p := 6) (q := 7) (ty := 40) rfl _ _ g6 40 Z (0, 0) _ rfl HW.out.row Tryz.underlying40 rfl HSZ.out
  · have HHO2 : Hid (false = hofB l s) := by have := HHO.out; show _ = _; simpa [hz] using this
    have bz : (z != 0) = true := by simp [hz]
    have HNN := HN130.out HHO2.out.symm
    clear HHO HHO2 HN130 HN131 OK IN hz
    go_wp2_with (first
      | ((with_reducible show aD 8 _ _ _ _ _ _ _ _ _ _ _); refine wpList_new_var rfl 24 rfl ZD HAD.out ?_; intro g8 w3 HM8; have HN8 := hidk HM8.out.row; try simp only [Act.put, pS1, pS2, pS3])
      | (refine wpList_set_var rfl 24 (.tmp 8) (.tmp 17) rfl g8 D rfl rfl 24 ZD HN8.out HSD.out HZDD.out H1D.out ?_; intro w4 HW8; have hb8 : Below w2.heap.size w2 w4 := HW8.out.below _ _ HM8.out.below (by rw [HM8.out.new]; exact Nat.le_refl _); have H4 := hidk (H2.out.keep hb8); have HD4 := hidk HW8.out.row; obtain ⟨hc4, hr4⟩ := HCL.out _ H4.out.s; have HR4 := hidk hr4; have HZG := hidk H4.out.z; clear hb8 hr4; try simp only [Act.put, pS1, pS2, pS3])
      | ((with_reducible show aD 22 _ _ _ _ _ _ _ _ _ _ _); refine wpList_load_row_w (by rfl) 24 (.tmp 8) rfl g8 rfl 24 D (0, 0) _ HD4.out Tryz.underlying24 rfl HSD.out ?_; try simp only [Act.put, pS1, pS2, pS3])
      | ((with_reducible show aD 25 _ _ _ _ _ _ _ _ _ _ _); refine wpList_mid_w (by rfl) 24 (.tmp 24) rfl w.heap.size 3 rfl E _ HR4.out Tryz.underlying24 rfl HSE.out ?_; try simp only [Act.put, pS1, pS2, pS3])
      | ((with_reducible show aD 29 _ _ _ _ _ _ _ _ _ _ _); refine wpList_load_row_w (by rfl) 28 (.tmp 5) rfl w.heap.size rfl 28 S (0, 0) _ H4.out.s Tryz.underlying28 rfl HSS.out ?_; try simp only [Act.put, pS1, pS2, pS3])
      | ((with_reducible show aD 33 _ _ _ _ _ _ _ _ _ _ _); refine wpList_build_none rfl 40 rfl Z HBZ.out ?_; try simp only [Act.put, pS1, pS2, pS3])
      | (refine wpList_set_var rfl 40 (.tmp 6) (.tmp 33) rfl g6 Z rfl rfl 40 Z HZG.out HSZ.out rfl H1Z.out ?_; intro w9 HW; have HB9 := hidk (HW.out.below _ _ H4.out.b (Nat.le_of_lt H4.out.n)); try simp only [Act.put, pS1, pS2, pS3])
      | fail)
    refine bodyPost_ret (v := .tuple #[.agg Z, .int .i64 130]) ?_ rfl (HNN.out _ HB9.out)
    exact results_row_tmp (p := 6) (q := 7) (ty := 40) rfl _ _ g6 40 Z (0, 0) _ rfl HW.out.row Tryz.underlying40 rfl HSZ.out
structure HeldO (w : World) (S : Array Value) (gl g5 g1 : Nat) (V : World) : Prop where
  b : Below w.heap.size w V
  i : InL V (some ⟨gl, 0, none⟩) 1 1 onl
  s : V.heap[g5]? = some (.cells S 28 (0, 0))
  z : ∃ Y : Array Value, V.heap[g1]? = some (.cells Y 28 (0, 0)) ∧ Y.size = 69
  l : w.heap.size ≤ g1
  nl : g1 < gl
theorem HeldO.keep {w : World} {S : Array Value} {gl g5 g1 : Nat} {V V' : World} (h : HeldO w S gl g5 g1 V) (hb : Below V.heap.size V V') : HeldO w S gl g5 g1 V' where
  b := h.b.trans (hb.mono h.b.size)
  i := h.i.keep hb
  s := (hb.block _ (heap_lt h.s)).trans h.s
  z := by obtain ⟨Y, h1, h2⟩ := h.z; exact ⟨Y, (hb.block _ (heap_lt h1)).trans h1, h2⟩
  l := h.l
  nl := h.nl
theorem InL.same14 {W W' : World} {gl o : Nat} {len cap : Nat} {l : List ItT} (h : InL W (some ⟨gl, o, none⟩) len cap l) (hb : W'.heap[gl]? = W.heap[gl]?) : InL W' (some ⟨gl, o, none⟩) len cap l := by
  refine ⟨⟨h.rd.ln, h.rd.cp, h.rd.mx, h.rd.ok, ?_⟩, h.nil, h.its, h.le⟩
  rcases h.rd.lies with h5 | ⟨g', o', ha, hl⟩
  · exact .inl h5
  · cases ha
    exact .inr ⟨gl, o, rfl, fun i hi j v hj => (World.cell?_of_block (a := ⟨gl, o + 110 * i + j, none⟩) hb).trans (hl i hi j v hj)⟩
theorem userI_inI : InI (userI 1 1) := userI_in 1 1 (by unfold In64; decide) (by unfold In64; decide)
set_option maxHeartbeats 16000000 in
theorem only_any (hc : HistoryC) (hd : HeadC) (w : World) (hT : TabH w) (S : Array Value) (HS : Hid (S = (scells sgO).toArray)) :
    Calls Tryz.prog 24 #[] w fun e w' => ∃ gl, e = .returned (.tuple #[.slice (some ⟨gl, 0, none⟩) 1 1, .agg S]) ∧ InL w' (some ⟨gl, 0, none⟩) 1 1 onl ∧ Below w.heap.size w w' := by
  have i64 : ∀ z : Int, 0 ≤ z → z ≤ 10 → In64 z := fun z h0 h1 => by unfold In64; omega
  have N69 : Hid (S.size = 69) := by show _ = _; rw [HS.out]; simp [scells_length _ sgO_digs.1 sgO_digs.2]
  have HSS : Hid ((Tryz.prog.info? 28).map (·.size) = some S.size) := by show _ = _; rw [sizeS, N69.out]
  have H1S : Hid (S.all (·.oneCell') = true) := by show _ = _; rw [HS.out]; exact one_cellsS _
  obtain ⟨Z, HZ, HA, HBZ, H69⟩ := noughtsS
  obtain ⟨ZH, HZH, HAH, HBH, H36⟩ := noughtsH
  obtain ⟨H, HH, HSH, H1H, N36⟩ := head_row5 (headX onl 1 1 1 0) headX_digs
  have HZS : Hid (Z.size = S.size) := by show _ = _; rw [H69.out, N69.out]
  have HZHH : Hid (ZH.size = H.size) := by show _ = _; rw [H36.out, N36.out]
  obtain ⟨U, HU, HSU, H1U, H109⟩ := entry_row (userI 1 1).e (userI_ok 1 1)
  obtain ⟨X, HX, SX, OX, NX⟩ := item_row (userI 1 1) (userI_ok 1 1)
  have HB1 : Hid (Tryz.prog.built 35 [(0, .int .i64 1), (1, .int .i64 1), (2, .int .i64 1)] = some U) := by show _ = _; rw [HU.out]; exact builtUI 1 1
  have HB2 : Hid (Tryz.prog.built 37 [(0, .int .i64 1), (1, .agg U)] = some X) := builtI (userI 1 1) (userI_ok 1 1) U X HU HX
  have okL : ∀ x ∈ onl, OkE x.e := by intro x hx; obtain rfl : x = userI 1 1 := (by simpa [onl] using hx); exact userI_ok 1 1
  have inL : ∀ x ∈ onl, InI x := by intro x hx; obtain rfl : x = userI 1 1 := (by simpa [onl] using hx); exact userI_inI
  have eX : X = (icL onl).toArray := by rw [HX.out]; unfold onl; rw [icL_cons, icL_nil, List.append_nil]
  have B1 : Hid (∀ W : World, (Instr.buildSlice 22 1 #[(0, .agg X)]).run Tryz.prog W = .ok (.slice (some ⟨W.heap.size, 0, none⟩) 1 1) (W.alloc (.cells X 37))) := fun W => by
    rw [run_build_items W 1 onl okL rfl (by omega) (by omega) _ (by rw [HX.out]; rfl), eX]
  have L1 : Hid (∀ W : World, InL (W.alloc (.cells X 37)) (some ⟨W.heap.size, 0, none⟩) 1 1 onl) := fun W => ⟨IReads.new W onl 1 rfl okL (by omega) X eX, (fun e => by cases e), inL, by omega⟩
  obtain ⟨K, HK⟩ : ∃ K : Array Value, Hid (K = (cellsOf zeroK).toArray) := ⟨_, hidk rfl⟩
  have HKB : Hid (Tryz.prog.built 48 [] = some K) := by show _ = _; rw [HK.out]; exact builtKey
  have HHD : Hid (∀ W g, InL W (some ⟨g, 0, none⟩) 1 1 onl → TabH W → Calls Tryz.prog 40 #[.slice (some ⟨g, 0, none⟩) 1 1, .int .i64 1, .int .i64 1, .int .i64 1, .int .i64 0] W fun x w' => x = .returned (.tuple #[.agg H, .int .i64 0]) ∧ Below W.heap.size W w') := fun W g h ht => by
    have := hc.head _ 1 1 onl 1 1 1 0 W h (i64 1 (by omega) (by omega)) (i64 1 (by omega) (by omega)) (i64 1 (by omega) (by omega)) (i64 0 (by omega) (by omega)) H (by show _ = _; rw [HH.out, only_head.2]) ht
    rwa [only_head.1] at this
  have HSG : Hid (∀ W, TabH W → Calls Tryz.prog 41 #[.agg K, .agg H, .int .i64 1] W fun x w' => x = .returned (.tuple #[.agg S, .int .i64 0]) ∧ Below W.heap.size W w') := fun W ht => by
    have := hd.sign zeroK (headX onl 1 1 1 0) 1 W K H S HK HH rfl (right_in (rightG onl_right onl_len (by omega) (by omega)) headX_digs) (i64 1 (by omega) (by omega)) ht HS
    have e : signE (headX onl 1 1 1 0) 1 = 0 := by unfold signE; rw [if_pos only_signs]
    rwa [e] at this
  have HT := hidk hT
  clear hc hd hT HS HZ HZH HBH HBZ HH HU HX HK i64 okL inL eX H36 N36 H109 NX
  go_enter Tryz.func24, Tryz.ntmps24
  go_wp2_with (first
    | ((with_reducible show aD 1 _ _ _ _ _ _ _ _ _ _ _); refine wpList_new_var rfl 28 rfl Z HA.out ?_; intro g1 w1 HM1; have HG1 := hidk HM1.out.row; have HBa := hidk HM1.out.below; have l1 : w.heap.size ≤ g1 := (by rw [HM1.out.new]; exact Nat.le_refl _); try simp only [Act.put, pS1, pS2, pS3])
    | ((with_reducible show aD 7 _ _ _ _ _ _ _ _ _ _ _); refine wpList_build_some rfl 35 _ rfl [(0, .int .i64 1), (1, .int .i64 1), (2, .int .i64 1)] rfl U HB1.out ?_; try simp only [Act.put, pS1, pS2, pS3])
    | ((with_reducible show aD 8 _ _ _ _ _ _ _ _ _ _ _); refine wpList_build_some rfl 37 _ rfl [(0, .int .i64 1), (1, .agg U)] rfl X HB2.out ?_; try simp only [Act.put, pS1, pS2, pS3])
    | ((with_reducible show aD 9 _ _ _ _ _ _ _ _ _ _ _); refine wpList_build_run rfl 22 1 _ rfl #[(0, .agg X)] rfl _ _ (B1.out _) ?_; have HI := hidk (L1.out w1); try simp only [Act.put, pS1, pS2, pS3])
    | fail)
  have hbl : Below w1.heap.size w1 (w1.alloc (.cells X 37)) := (Below.refl _ _).alloc (Nat.le_refl _) _
  have HBb := hidk (HBa.out.trans (hbl.mono HBa.out.size))
  have HGb := hidk ((hbl.block _ (heap_lt HG1.out)).trans HG1.out)
  have hgl : g1 < w1.heap.size := heap_lt HG1.out
  obtain ⟨gl, HGL⟩ : ∃ gl, Hid (w1.heap.size = gl) := ⟨_, hidk rfl⟩
  obtain ⟨w2, HW2⟩ : ∃ v, Hid (w1.alloc (.cells X 37) = v) := ⟨_, hidk rfl⟩
  rw [HGL.out] at hgl
  rw [HGL.out, HW2.out] at HI
  rw [HW2.out] at HBb HGb
  rw [HGL.out, HW2.out]
  clear hbl HBa HG1 HM1 HGL HW2 B1 L1 HB1 HB2
  refine (HHD.out _ _ HI.out (HT.out.keep HBb.out)).mono ?_
  rintro e w3 ⟨rfl, hb3⟩
  have HI3 := hidk (HI.out.keep hb3)
  have HB3 := hidk (HBb.out.trans (hb3.mono HBb.out.size))
  have HG3 := hidk ((hb3.block _ (heap_lt HGb.out)).trans HGb.out)
  clear hb3 HI HBb HGb HHD
  go_wp2_with (first
    | ((with_reducible show aD 3 _ _ _ _ _ _ _ _ _ _ _); refine wpList_new_var rfl 26 rfl ZH HAH.out ?_; intro g3 w4 HM3; have HN3 := hidk HM3.out.row; try simp only [Act.put, pS1, pS2, pS3])
    | (refine wpList_set_var rfl 26 (.tmp 3) (.tmp 13) rfl g3 H rfl rfl 26 ZH HN3.out HSH.out HZHH.out H1H.out ?_; intro w5 HW3; have hb5 : Below w3.heap.size w3 w5 := HW3.out.below _ _ HM3.out.below (by rw [HM3.out.new]; exact Nat.le_refl _); have HI5 := hidk (HI3.out.keep hb5); have HB5 := hidk (HB3.out.trans (hb5.mono HB3.out.size)); have HG5 := hidk ((hb5.block _ (heap_lt HG3.out)).trans HG3.out); have HH5 := hidk HW3.out.row; clear hb5; try simp only [Act.put, pS1, pS2, pS3])
    | ((with_reducible show aD 16 _ _ _ _ _ _ _ _ _ _ _); refine wpList_build_none rfl 48 rfl K HKB.out ?_; try simp only [Act.put, pS1, pS2, pS3])
    | ((with_reducible show aD 17 _ _ _ _ _ _ _ _ _ _ _); refine wpList_load_row_w (by rfl) 26 (.tmp 3) rfl g3 rfl 26 H (0, 0) _ HH5.out Tryz.underlying26 rfl HSH.out ?_; try simp only [Act.put, pS1, pS2, pS3])
    | fail)
  refine (HSG.out _ (HT.out.keep HB5.out)).mono ?_
  rintro e w6 ⟨rfl, hb6⟩
  have HI6 := hidk (HI5.out.keep hb6)
  have HB6 := hidk (HB5.out.trans (hb6.mono HB5.out.size))
  have HG6 := hidk ((hb6.block _ (heap_lt HG5.out)).trans HG5.out)
  clear hb6 HI3 HB3 HG3 HI5 HB5 HG5 HH5 HM3 HW3 HN3 HSG HT
  go_wp2_with (first
    | ((with_reducible show aD 5 _ _ _ _ _ _ _ _ _ _ _); refine wpList_new_var rfl 28 rfl Z HA.out ?_; intro g5 w7 HM5; have HN5 := hidk HM5.out.row; try simp only [Act.put, pS1, pS2, pS3])
    | (refine wpList_set_var rfl 28 (.tmp 5) (.tmp 19) rfl g5 S rfl rfl 28 Z HN5.out HSS.out HZS.out H1S.out ?_; intro w8 HW5; have hb8 : Below w6.heap.size w6 w8 := HW5.out.below _ _ HM5.out.below (by rw [HM5.out.new]; exact Nat.le_refl _); have H8 : Hid (HeldO w S gl g5 g1 w8) := ⟨HB6.out.trans (hb8.mono HB6.out.size), HI6.out.keep hb8, HW5.out.row, ⟨Z, (hb8.block _ (heap_lt HG6.out)).trans HG6.out, H69.out⟩, l1, hgl⟩; clear hb8; try simp only [Act.put, pS1, pS2, pS3])
    | fail)
  clear HM5 HN5 HW5 HI6 HB6 HG6
  refine wp_region_held_drew (S := (HeldO w S gl g5 g1)) (by kernel_rfl) (H8.out.keep (Below.refl _ _).drew) (fun hHeld => ?_)
  refine zX 0 (.slice (some ⟨gl, 0, none⟩) 1 1) rfl hHeld ?_
  try simp only [Act.put, pS1, pS2, pS3]
  refine zW 1 (.agg S) rfl (yieldsIf_mid (by rfl) 28 (.tmp 5) rfl g5 0 rfl S _ (fun V hv => range_row (l := S.toList) (W := V) (g := g5) (by simpa using hv.s)) Tryz.underlying28 rfl HSS.out) hHeld ?_
  try simp only [Act.put, pS1, pS2, pS3]
  refine zX 2 (.slice (some ⟨gl, 0, none⟩) 1 1) rfl hHeld ?_
  try simp only [Act.put, pS1, pS2, pS3]
  refine wpAnyH_ready (rs := [3]) (by kernel_rfl) (by simp) ?_
  refine (AllReadyH.cons (o := { dst := none, op := .store 28 (.tmp 1) (.tmp 22), type := 0, pos := "law.go:21", after := #[zD 1, zC 2, zP 0, zP 1, zP 2], guard := none }) rfl (fun K hK => ?_) AllReadyH.nil)
  obtain ⟨Y, hY1, hY2⟩ := hHeld.z
  have HYS := hidk (hY2.trans N69.out.symm)
  refine step_set_var (by rfl) 28 (.tmp 1) (.tmp 22) rfl g1 S rfl rfl 28 Y hY1 HSS.out HYS.out H1S.out ?_
  intro w9 HW
  have HR9 := hidk HW.out.row
  have hI9 : InL w9 (some ⟨gl, 0, none⟩) 1 1 onl := hHeld.i.same14 (HW.out.other _ (by have := hHeld.nl; omega))
  have H9 := hidk (And.intro hI9 (HW.out.below _ _ hHeld.b hHeld.l))
  refine hK.out _ _ ⟨HW.out.below _ _ hHeld.b hHeld.l, hI9, (by rcases Nat.decEq g5 g1 with h | h; exact (HW.out.other _ h).trans hHeld.s; rw [h]; exact HW.out.row), ⟨S, HW.out.row, N69.out⟩, hHeld.l, hHeld.nl⟩ (fun hHeld => ?_)
  clear hK K
  try simp only [Act.put, pS1, pS2, pS3]
  refine wpAnyH_done (by kernel_rfl) ?_ _
  go_wp2
  refine bodyPost_ret (v := .tuple #[.slice (some ⟨gl, 0, none⟩) 1 1, .agg S]) ?_ rfl ⟨gl, rfl, H9.out⟩
  exact results_tmp_row (p := 1) (q := 0) (ty := 28) rfl _ _ g1 28 S (0, 0) _ rfl HR9.out Tryz.underlying28 rfl HSS.out
theorem InP.new {W : World} {l : List StV} {n : Nat} (hn : l.length = n) (h1 : n ≤ 100) (ok : ∀ v ∈ l, OkV v) (its : ∀ v ∈ l, In64 v.i ∧ InI v.x ∧ InS v.h) (prf : ∀ v ∈ l, LReads W v.a v.n v.c v.p) (pn : ∀ v ∈ l, v.a = none → v.c = 0) (L : Array Value) (HL : Hid (L = (stL l).toArray)) : InP (W.alloc (.cells L 40)) (some ⟨W.heap.size, 0, none⟩) n n l :=
  ⟨SReads.new W l n hn ok h1 L HL, (fun e => by cases e), its, fun v hv => (prf v hv).keep ((Below.refl _ _).alloc (Nat.le_refl _) _), pn, h1⟩
theorem inp_none (W : World) : InP W none 0 0 [] := ⟨sreads_none W, (fun _ => rfl), (fun v hv => by cases hv), (fun v hv => by cases hv), (fun v hv => by cases hv), by omega⟩
theorem inl_none (W : World) : InL W none 0 0 [] := ⟨ireads_none W, (fun _ => rfl), (fun x hx => by cases hx), by omega⟩
theorem mkV_in {l : List ItT} {i : Int} {s : SgT} (x : Option Addr) (cx : Nat) (hi : In64 i) (hl : ∀ y ∈ l, InI y) (hs : InS s) : OkV (mkV l i s x cx) ∧ In64 (mkV l i s x cx).i ∧ InI (mkV l i s x cx).x ∧ InS (mkV l i s x cx).h := by
  by_cases h : mkE l i s = 0
  · obtain ⟨q1, q2, q3, q4⟩ := mk_item h
    have e := mkT_eq h q3
    have hx := hl _ (List.getElem_mem q3)
    unfold mkV
    rw [e]
    exact ⟨⟨hx.e.ok, hs.h.d, hs.g⟩, hi, hx, hs⟩
  · have e : mkT l i s = zeroT := by unfold mkT; rw [if_neg h]
    unfold mkV
    rw [e]
    exact ⟨⟨zeroE_ok, rfl, rfl⟩, (by show In64 0; unfold In64; decide), zeroI_inI, zeroS_in⟩
structure Held14 (w : World) (S R : Array Value) (gl g2 g3 : Nat) (x : Option Addr) (n cx : Nat) (P : List (List UInt8)) (V : World) : Prop where
  b : Below w.heap.size w V
  t : TabH V
  i : InL V (some ⟨gl, 0, none⟩) 1 1 onl
  s : V.heap[g2]? = some (.cells S 28 (0, 0))
  r : V.heap[g3]? = some (.cells R 40 (0, 0))
  p : LReads V x n cx P
theorem Held14.keep {w : World} {S R : Array Value} {gl g2 g3 : Nat} {x : Option Addr} {n cx : Nat} {P : List (List UInt8)} {V V' : World} (h : Held14 w S R gl g2 g3 x n cx P V) (hb : Below V.heap.size V V') : Held14 w S R gl g2 g3 x n cx P V' :=
  ⟨h.b.trans (hb.mono h.b.size), h.t.keep hb, h.i.keep hb, (hb.block _ (heap_lt h.s)).trans h.s, (hb.block _ (heap_lt h.r)).trans h.r, h.p.keep hb⟩
structure Held15 (w : World) (S R I : Array Value) (gl g2 g3 g9 g10 : Nat) (x : Option Addr) (n cx : Nat) (P : List (List UInt8)) (V : World) : Prop where
  m : Held14 w S R gl g2 g3 x n cx P V
  y : V.heap[g9]? = some (.cells I 37 (0, 0))
  z : V.heap[g10]? = some (.cells S 28 (0, 0))
theorem Held15.keep {w : World} {S R I : Array Value} {gl g2 g3 g9 g10 : Nat} {x : Option Addr} {n cx : Nat} {P : List (List UInt8)} {V V' : World} (h : Held15 w S R I gl g2 g3 g9 g10 x n cx P V) (hb : Below V.heap.size V V') : Held15 w S R I gl g2 g3 g9 g10 x n cx P V' :=
  ⟨h.m.keep hb, (hb.block _ (heap_lt h.y)).trans h.y, (hb.block _ (heap_lt h.z)).trans h.z⟩
set_option maxHeartbeats 16000000 in
theorem paths_true (hc : HistoryC) (hd : HeadC) (pc : PathC) (w : World) (hT : TabH w) : Calls Tryz.prog 10 #[] w fun e w' => e = .returned (.bool true) ∧ Below w.heap.size w w' := by
  have i64 : ∀ z : Int, 0 ≤ z → z ≤ 10 → In64 z := fun z h0 h1 => by unfold In64; omega
  obtain ⟨S, HS, HSS, H1S, N69⟩ := sign_row sgO sgO_digs.1 sgO_digs.2
  obtain ⟨Z, HZ, HA, HBZ, H69⟩ := noughtsS
  obtain ⟨ZI, HZI, HAI, HBI, H110⟩ := noughtsI
  obtain ⟨ZT, HZT, HAT, HBT, H181⟩ := noughtsSt
  obtain ⟨I, HI, HSI, H1I, N110⟩ := item_row (userI 1 1) (userI_ok 1 1)
  obtain ⟨K, HK⟩ : ∃ K : Array Value, Hid (K = (cellsOf zeroK).toArray) := ⟨_, hidk rfl⟩
  have HZC : Hid ((#[.int .u8 0, .int .u8 0, .int .u8 0, .int .u8 0, .int .u8 0, .int .u8 0, .int .u8 0, .int .u8 0, .int .u8 0, .int .u8 0, .int .u8 0, .int .u8 0, .int .u8 0, .int .u8 0, .int .u8 0, .int .u8 0, .int .u8 0, .int .u8 0, .int .u8 0, .int .u8 0, .int .u8 0, .int .u8 0, .int .u8 0, .int .u8 0, .int .u8 0, .int .u8 0, .int .u8 0, .int .u8 0, .int .u8 0, .int .u8 0, .int .u8 0, .int .u8 0] : Array Value) = K) := by show _ = _; rw [HK.out]; rfl
  have HZS : Hid (Z.size = S.size) := by show _ = _; rw [H69.out, N69.out]
  have HZII : Hid (ZI.size = I.size) := by show _ = _; rw [H110.out, N110.out]
  have HSZ : Hid ((Tryz.prog.info? 28).map (·.size) = some Z.size) := by show _ = _; rw [sizeS, H69.out]
  have H1Z : Hid (Z.all (·.oneCell') = true) := by show _ = _; rw [HZ.out]; exact one_cellsS _
  have HSZI : Hid ((Tryz.prog.info? 37).map (·.size) = some ZI.size) := by show _ = _; rw [sizeI, H110.out]
  have H1ZI : Hid (ZI.all (·.oneCell') = true) := by show _ = _; rw [HZI.out]; exact one_cellsI _
  have ONL := hidk (only_any hc hd w hT S HS)
  have inO : ∀ y ∈ onl, InI y := by intro y hy; obtain rfl : y = userI 1 1 := (by simpa [onl] using hy); exact userI_inI
  -- what the calls answer
  have MK : Hid (∀ (a : Option Addr) (n : Nat) (l : List ItT) (i E : Int) W, (∀ y ∈ l, InI y) → InL W a n n l → mkE l i sgO = E → In64 i → TabH W → Calls Tryz.prog 7 #[.slice a n n, .int .i64 i, .agg S] W fun e w' => ∃ (x : Option Addr) (cx : Nat) (R : Array Value), e = .returned (.tuple #[.agg R, .int .i64 E]) ∧ (Hid (R = (stcells (mkV l i sgO x cx)).toArray) ∧ Hid ((Tryz.prog.info? 40).map (·.size) = some R.size) ∧ Hid (R.all (·.oneCell') = true) ∧ Hid (ZT.size = R.size)) ∧ LReads w' x (mkT l i sgO).p.length cx (mkT l i sgO).p ∧ (x = none → cx = 0) ∧ Below W.heap.size W w') := fun a n l i E W hl h hE hi ht => by
    refine (pc.make a n n l i sgO W h hi sgO_in S HS ht).mono ?_
    rintro e w' ⟨x, cx, rfl, h1, h2, h3, h4⟩
    obtain ⟨R, HR, HSR, H1R, NR⟩ := step_row (mkV l i sgO x cx) (mkV_in x cx hi hl sgO_in).1
    rw [hE]
    exact ⟨x, cx, R, by rw [← HR.out], ⟨HR, HSR, H1R, by show _ = _; rw [H181.out, NR.out]⟩, h1, h2, h4⟩
  have EN : Hid (∀ W, Calls Tryz.prog 15 #[.slice none 0 0] W fun e w' => e = .returned (.tuple #[.agg ZI, .agg Z, .int .i64 130]) ∧ Below W.heap.size W w') := fun W => pc.ends none 0 0 [] W (inp_none W) ZI Z HZI HZ
  have VN : Hid (∀ W, TabH W → Calls Tryz.prog 14 #[.agg K, .slice none 0 0] W fun e w' => e = .returned (.int .i64 130) ∧ Below W.heap.size W w') := fun W ht => by
    have := pc.verify zeroK none 0 0 [] W K HK rfl (inp_none W) ht
    rwa [show ([] : List StV).map StV.t = [] from rfl, path_nil] at this
  -- what the step's slices are
  have BU : Hid (∀ (x : Option Addr) (cx : Nat) (R : Array Value) (W : World), Hid (R = (stcells (mkV onl 0 sgO x cx)).toArray) → LReads W x (mkT onl 0 sgO).p.length cx (mkT onl 0 sgO).p → (x = none → cx = 0) → ∀ (l : List StV), (∀ v ∈ l, v = mkV onl 0 sgO x cx) → ∀ (n : Nat) (parts : Array (Nat × Value)), l.length = n → 0 < n → n ≤ 2 → parts.toList = ((l.map stcells).zipIdx 0).map (fun x => (x.2, Value.agg x.1.toArray)) →
      ∃ L : Array Value, (Instr.buildSlice 49 n parts).run Tryz.prog W = .ok (.slice (some ⟨W.heap.size, 0, none⟩) n n) (W.alloc (.cells L 40)) ∧ InP (W.alloc (.cells L 40)) (some ⟨W.heap.size, 0, none⟩) n n l) := fun x cx R W HR hp hn l hl n parts h1 h2 h3 h4 => by
    obtain ⟨q1, q2, q3, q4⟩ := mkV_in x cx (l := onl) (i := 0) (s := sgO) (i64 0 (by omega) (by omega)) inO sgO_in
    have ok : ∀ v ∈ l, OkV v := fun v hv => by rw [hl v hv]; exact q1
    refine ⟨(stL l).toArray, run_build_sts W n l ok h1 h2 (by omega) parts h4, InP.new h1 (by omega) ok (fun v hv => by rw [hl v hv]; exact ⟨q2, q3, q4⟩) (fun v hv => by rw [hl v hv]; exact hp) (fun v hv => by rw [hl v hv]; exact hn) _ (hidk rfl)⟩
  have E1 : Hid (∀ (x : Option Addr) (cx : Nat) W g, InP W (some ⟨g, 0, none⟩) 1 1 [mkV onl 0 sgO x cx] → Calls Tryz.prog 15 #[.slice (some ⟨g, 0, none⟩) 1 1] W fun e w' => e = .returned (.tuple #[.agg I, .agg S, .int .i64 0]) ∧ Below W.heap.size W w') := fun x cx W g h => by
    have ev : (mkV onl 0 sgO x cx).x = userI 1 1 ∧ (mkV onl 0 sgO x cx).h = sgO := by unfold mkV; rw [only_step]; exact ⟨rfl, rfl⟩
    refine pc.ends _ 1 1 _ W h I S ?_ ?_
    · show _ = _
      rw [HI.out, ← ev.1]
      rfl
    · show _ = _
      rw [HS.out]
      conv => lhs; rw [← ev.2]
      rfl
  have V1 : Hid (∀ (x : Option Addr) (cx : Nat) W g, InP W (some ⟨g, 0, none⟩) 1 1 [mkV onl 0 sgO x cx] → TabH W → Calls Tryz.prog 14 #[.agg K, .slice (some ⟨g, 0, none⟩) 1 1] W fun e w' => e = .returned (.int .i64 0) ∧ Below W.heap.size W w') := fun x cx W g h ht => by
    have := pc.verify zeroK _ 1 1 _ W K HK rfl h ht
    rwa [show ([mkV onl 0 sgO x cx] : List StV).map StV.t = [mkT onl 0 sgO] from rfl, only_one] at this
  have V2 : Hid (∀ (x : Option Addr) (cx : Nat) W g, InP W (some ⟨g, 0, none⟩) 2 2 [mkV onl 0 sgO x cx, mkV onl 0 sgO x cx] → TabH W → Calls Tryz.prog 14 #[.agg K, .slice (some ⟨g, 0, none⟩) 2 2] W fun e w' => e = .returned (.int .i64 130) ∧ Below W.heap.size W w') := fun x cx W g h ht => by
    have := pc.verify zeroK _ 2 2 _ W K HK rfl h ht
    rwa [show ([mkV onl 0 sgO x cx, mkV onl 0 sgO x cx] : List StV).map StV.t = [mkT onl 0 sgO, mkT onl 0 sgO] from rfl, only_two] at this
  have RNG : Hid (∀ V : World, ∀ gl, InL V (some ⟨gl, 0, none⟩) 1 1 onl → V.rangeAt gl 0 I.toList) := fun V gl h => by
    have h0 := h.rd.range 0 (by show 0 < 1; omega)
    have h1 : V.rangeAt gl 0 (icells onl[0]) := by simpa using h0
    rw [HI.out]
    exact h1
  have eqs : ∀ W, (binOp .eql 28 (.agg S) (.agg S)).run Tryz.prog W = .ok (.bool true) W := fun W => eqSigned _ _ sgO_digs.1 sgO_digs.1 sgO_digs.2 sgO_digs.2 S S HS HS true (by simp) W
  have eqi : ∀ W, (binOp .eql 37 (.agg I) (.agg I)).run Tryz.prog W = .ok (.bool true) W := fun W => eqItem _ _ (userI_ok 1 1) (userI_ok 1 1) I I HI HI true (by simp) W
  have HT := hidk hT
  have MKI := hidk (i64 0 (by omega) (by omega))
  have MKJ := hidk (i64 1 (by omega) (by omega))
  have ino := hidk inO
  clear hc hd pc hT HS HZ HZI HZT HK HI i64 inO HBZ HBI HBT H69 H110 H181 N69 N110
  go_enter Tryz.func10, Tryz.ntmps10
  go_wp2_with fail
  refine ONL.out.mono ?_
  rintro e w1 ⟨gl, rfl, hi1, hb1⟩
  have HI1 := hidk hi1
  have HB1 := hidk hb1
  clear hi1 hb1 ONL
  go_wp2_with (first
    | ((with_reducible show aD 2 _ _ _ _ _ _ _ _ _ _ _); refine wpList_new_var rfl 28 rfl Z HA.out ?_; intro g2 w2 HM2; have HN2 := hidk HM2.out.row; try simp only [Act.put, pS1, pS2, pS3])
    | (refine wpList_set_var rfl 28 (.tmp 2) (.tmp 18) rfl g2 S rfl rfl 28 Z HN2.out HSS.out HZS.out H1S.out ?_; intro w3 HW2; have hb3 : Below w1.heap.size w1 w3 := HW2.out.below _ _ HM2.out.below (by rw [HM2.out.new]; exact Nat.le_refl _); have HB3 := hidk (HB1.out.trans (hb3.mono HB1.out.size)); have HI3 := hidk (HI1.out.keep hb3); have HS3 := hidk HW2.out.row; clear hb3; try simp only [Act.put, pS1, pS2, pS3])
    | ((with_reducible show aD 21 _ _ _ _ _ _ _ _ _ _ _); refine wpList_load_row_w (by rfl) 28 (.tmp 2) rfl g2 rfl 28 S (0, 0) _ HS3.out Tryz.underlying28 rfl HSS.out ?_; try simp only [Act.put, pS1, pS2, pS3])
    | fail)
  clear HM2 HN2 HW2 HI1 HB1
  refine (MK.out _ 1 onl 0 0 w3 ino.out HI3.out only_mk0 MKI.out (HT.out.keep HB3.out)).mono ?_
  rintro e w4 ⟨x, cx, R, rfl, ⟨HR, HSR, H1R, HZR⟩, hp, hn, hb4⟩
  have HN := hidk hn
  have HP4 := hidk hp
  have HB4 := hidk (HB3.out.trans (hb4.mono HB3.out.size))
  have HI4 := hidk (HI3.out.keep hb4)
  have HS4 := hidk ((hb4.block _ (heap_lt HS3.out)).trans HS3.out)
  clear hn hp hb4 HB3 HI3 HS3
  obtain ⟨P, HP⟩ : ∃ P, Hid ((mkT onl 0 sgO).p = P) := ⟨_, hidk rfl⟩
  rw [HP.out] at HP4
  go_wp2_with (first
    | ((with_reducible show aD 3 _ _ _ _ _ _ _ _ _ _ _); refine wpList_new_var rfl 40 rfl ZT HAT.out ?_; intro g3 w5 HM3; have HN3 := hidk HM3.out.row; try simp only [Act.put, pS1, pS2, pS3])
    | (refine wpList_set_var rfl 40 (.tmp 3) (.tmp 23) rfl g3 R rfl rfl 40 ZT HN3.out HSR.out HZR.out H1R.out ?_; intro w6 HW3; have hb6 : Below w4.heap.size w4 w6 := HW3.out.below _ _ HM3.out.below (by rw [HM3.out.new]; exact Nat.le_refl _); have H6 : Hid (Held14 w S R gl g2 g3 x P.length cx P w6) := ⟨HB4.out.trans (hb6.mono HB4.out.size), HT.out.keep (HB4.out.trans (hb6.mono HB4.out.size)), HI4.out.keep hb6, (hb6.block _ (heap_lt HS4.out)).trans HS4.out, HW3.out.row, HP4.out.keep hb6⟩; clear hb6; try simp only [Act.put, pS1, pS2, pS3])
    | ((with_reducible show aD 27 _ _ _ _ _ _ _ _ _ _ _); refine wpList_load_row_w (by rfl) 28 (.tmp 2) rfl g2 rfl 28 S (0, 0) _ H6.out.s Tryz.underlying28 rfl HSS.out ?_; try simp only [Act.put, pS1, pS2, pS3])
    | fail)
  clear HM3 HN3 HW3 HI4 HB4 HS4 HP4
  refine (MK.out _ 1 onl 1 131 w6 ino.out H6.out.i only_mk1 MKJ.out H6.out.t).mono ?_
  rintro e w7 ⟨x5, cx5, R5, rfl, ⟨HR5, HSR5, H1R5, HZR5⟩, _, _, hb7⟩
  have H7 := hidk (H6.out.keep hb7)
  clear hb7 H6
  go_wp2_with (first
    | ((with_reducible show aD 5 _ _ _ _ _ _ _ _ _ _ _); refine wpList_new_var rfl 40 rfl ZT HAT.out ?_; intro g5 w8 HM5; have HN5 := hidk HM5.out.row; try simp only [Act.put, pS1, pS2, pS3])
    | (refine wpList_set_var rfl 40 (.tmp 5) (.tmp 29) rfl g5 R5 rfl rfl 40 ZT HN5.out HSR5.out HZR5.out H1R5.out ?_; intro w9 HW5; have hb5 : Below w7.heap.size w7 w9 := HW5.out.below _ _ HM5.out.below (by rw [HM5.out.new]; exact Nat.le_refl _); have H9 := hidk (H7.out.keep hb5); clear hb5; try simp only [Act.put, pS1, pS2, pS3])
    | ((with_reducible show aD 32 _ _ _ _ _ _ _ _ _ _ _); refine wpList_load_row_w (by rfl) 28 (.tmp 2) rfl g2 rfl 28 S (0, 0) _ H9.out.s Tryz.underlying28 rfl HSS.out ?_; try simp only [Act.put, pS1, pS2, pS3])
    | fail)
  clear HM5 HN5 HW5 H7 HR5
  refine (MK.out none 0 [] 0 130 w9 (fun y hy => by cases hy) (inl_none _) none_mk MKI.out H9.out.t).mono ?_
  rintro e w10 ⟨x7, cx7, R7, rfl, ⟨HR7, HSR7, H1R7, HZR7⟩, _, _, hb10⟩
  have H10 := hidk (H9.out.keep hb10)
  clear hb10 H9 HR7 MK
  go_wp2_with (first
    | ((with_reducible show aD 7 _ _ _ _ _ _ _ _ _ _ _); refine wpList_new_var rfl 40 rfl ZT HAT.out ?_; intro g7 w11 HM7; have HN7 := hidk HM7.out.row; try simp only [Act.put, pS1, pS2, pS3])
    | (refine wpList_set_var rfl 40 (.tmp 7) (.tmp 34) rfl g7 R7 rfl rfl 40 ZT HN7.out HSR7.out HZR7.out H1R7.out ?_; intro w12 HW7; have hb7 : Below w10.heap.size w10 w12 := HW7.out.below _ _ HM7.out.below (by rw [HM7.out.new]; exact Nat.le_refl _); have H12 := hidk (H10.out.keep hb7); clear hb7; try simp only [Act.put, pS1, pS2, pS3])
    | ((with_reducible show aD 37 _ _ _ _ _ _ _ _ _ _ _); refine wpList_load_row_w (by rfl) 40 (.tmp 3) rfl g3 rfl 40 R (0, 0) _ H12.out.r Tryz.underlying40 rfl HSR.out ?_; try simp only [Act.put, pS1, pS2, pS3])
    | ((with_reducible show aD 38 _ _ _ _ _ _ _ _ _ _ _); obtain ⟨L, hL, hIn⟩ := BU.out x cx R w12 HR (by rw [HP.out]; exact H12.out.p) HN.out [mkV onl 0 sgO x cx] (fun v hv => by simpa using hv) 1 #[(0, .agg R)] rfl (by omega) (by omega) (by rw [HR.out]; rfl); have HIN := hidk hIn; have hbl : Below w12.heap.size w12 (w12.alloc (.cells L 40)) := (Below.refl _ _).alloc (Nat.le_refl _) _; have H13 := hidk (H12.out.keep hbl); refine wpList_build_run rfl 49 1 _ rfl #[(0, .agg R)] rfl _ _ hL ?_; clear hIn hbl; try simp only [Act.put, pS1, pS2, pS3])
    | fail)
  clear HM7 HN7 HW7 H10 hL
  obtain ⟨gs, HGS⟩ : ∃ gl, Hid (w12.heap.size = gl) := ⟨_, hidk rfl⟩
  obtain ⟨w13, HW13⟩ : ∃ v, Hid (w12.alloc (.cells L 40) = v) := ⟨_, hidk rfl⟩
  rw [HGS.out, HW13.out] at HIN
  rw [HW13.out] at H13
  rw [HGS.out, HW13.out]
  clear HGS HW13 H12
  refine (E1.out x cx w13 _ HIN.out).mono ?_
  rintro e w14 ⟨rfl, hb14⟩
  have H14 := hidk (H13.out.keep hb14)
  clear hb14 H13 HIN E1
  go_wp2_with (first
    | ((with_reducible show aD 9 _ _ _ _ _ _ _ _ _ _ _); refine wpList_new_var rfl 37 rfl ZI HAI.out ?_; intro g9 w15 HM9; skip; try simp only [Act.put, pS1, pS2, pS3])
    | ((with_reducible show aD 10 _ _ _ _ _ _ _ _ _ _ _); refine wpList_new_var rfl 28 rfl Z HA.out ?_; intro g10 w16 HM10; have hb16 : Below w14.heap.size w14 w16 := HM9.out.below.trans (HM10.out.below.mono HM9.out.below.size); have hr9 : w16.heap[g9]? = some (.cells ZI 37 (0, 0)) := (HM10.out.below.block _ (heap_lt HM9.out.row)).trans HM9.out.row; have HR9 := hidk hr9; have HR10 := hidk HM10.out.row; have ne910 : g9 ≠ g10 := (by have := heap_lt HM9.out.row; rw [HM10.out.new]; omega); have l9 : w14.heap.size ≤ g9 := (by rw [HM9.out.new]; exact Nat.le_refl _); have l10 : w14.heap.size ≤ g10 := (by rw [HM10.out.new]; exact HM9.out.below.size); have HB16 := hidk hb16; clear hb16 hr9; try simp only [Act.put, pS1, pS2, pS3])
    | (refine wpList_set_var rfl 37 (.tmp 9) (.tmp 40) rfl g9 I rfl rfl 37 ZI HR9.out HSI.out HZII.out H1I.out ?_; intro w17 HW9; have HR9b := hidk HW9.out.row; have HR10b := hidk ((HW9.out.other _ ne910.symm).trans HR10.out); have HB17 := hidk (HW9.out.below _ _ HB16.out l9); try simp only [Act.put, pS1, pS2, pS3])
    | (refine wpList_set_var rfl 28 (.tmp 10) (.tmp 41) rfl g10 S rfl rfl 28 Z HR10b.out HSS.out HZS.out H1S.out ?_; intro w18 HW10; have H18 : Hid (Held15 w S R I gl g2 g3 g9 g10 x P.length cx P w18) := ⟨H14.out.keep (HW10.out.below _ _ HB17.out l10), (HW10.out.other _ ne910).trans HR9b.out, HW10.out.row⟩; try simp only [Act.put, pS1, pS2, pS3])
    | fail)
  clear HM9 HM10 HW9 HW10 HR9 HR10 HR9b HR10b HB16 HB17 H14 l9 l10 ne910
  refine (EN.out _).mono ?_
  rintro e w19 ⟨rfl, hb19⟩
  have H19 := hidk (H18.out.keep hb19)
  clear hb19 H18 EN
  go_wp2_with (first
    | ((with_reducible show aD 12 _ _ _ _ _ _ _ _ _ _ _); refine wpList_new_var rfl 37 rfl ZI HAI.out ?_; intro g12 w20 HM12; skip; try simp only [Act.put, pS1, pS2, pS3])
    | ((with_reducible show aD 13 _ _ _ _ _ _ _ _ _ _ _); refine wpList_new_var rfl 28 rfl Z HA.out ?_; intro g13 w21 HM13; have hb21 : Below w19.heap.size w19 w21 := HM12.out.below.trans (HM13.out.below.mono HM12.out.below.size); have hr12 : w21.heap[g12]? = some (.cells ZI 37 (0, 0)) := (HM13.out.below.block _ (heap_lt HM12.out.row)).trans HM12.out.row; have HR12 := hidk hr12; have HR13 := hidk HM13.out.row; have ne : g12 ≠ g13 := (by have := heap_lt HM12.out.row; rw [HM13.out.new]; omega); have l12 : w19.heap.size ≤ g12 := (by rw [HM12.out.new]; exact Nat.le_refl _); have l13 : w19.heap.size ≤ g13 := (by rw [HM13.out.new]; exact HM12.out.below.size); have HB21 := hidk hb21; clear hb21 hr12; try simp only [Act.put, pS1, pS2, pS3])
    | (refine wpList_set_var rfl 37 (.tmp 12) (.tmp 45) rfl g12 ZI rfl rfl 37 ZI HR12.out HSZI.out rfl H1ZI.out ?_; intro w22 HW12; have HR13b := hidk ((HW12.out.other _ ne.symm).trans HR13.out); have HB22 := hidk (HW12.out.below _ _ HB21.out l12); try simp only [Act.put, pS1, pS2, pS3])
    | (refine wpList_set_var rfl 28 (.tmp 13) (.tmp 46) rfl g13 Z rfl rfl 28 Z HR13b.out HSZ.out rfl H1Z.out ?_; intro w23 HW13; have H23 := hidk (H19.out.keep (HW13.out.below _ _ HB22.out l13)); try simp only [Act.put, pS1, pS2, pS3])
    | fail)
  clear HM12 HM13 HW12 HW13 HR12 HR13 HR13b HB21 HB22 H19 l12 l13 ne HT HSZ H1Z HSZI H1ZI HZR HZII HZS ino MKI MKJ HA HAI HAT H1S H1R H1I
  refine wp_region_held_drew (S := (Held15 w S R I gl g2 g3 g9 g10 x P.length cx P)) (by kernel_rfl) (H23.out.keep (Below.refl _ _).drew) (fun hHeld => ?_)
  refine zX 0 (.int .i64 0) rfl hHeld ?_
  try simp only [Act.put, pS1, pS2, pS3]
  refine zX 1 (.bool true) rfl hHeld ?_
  try simp only [Act.put, pS1, pS2, pS3]
  refine zX 2 (.bool true) rfl hHeld ?_
  try simp only [Act.put, pS1, pS2, pS3]
  refine zX 3 (.int .i64 131) rfl hHeld ?_
  try simp only [Act.put, pS1, pS2, pS3]
  refine zX 4 (.bool true) rfl hHeld ?_
  try simp only [Act.put, pS1, pS2, pS3]
  refine zX 5 (.bool true) rfl hHeld ?_
  try simp only [Act.put, pS1, pS2, pS3]
  refine zX 6 (.bool true) rfl hHeld ?_
  try simp only [Act.put, pS1, pS2, pS3]
  refine zX 7 (.int .i64 130) rfl hHeld ?_
  try simp only [Act.put, pS1, pS2, pS3]
  refine zX 8 (.bool true) rfl hHeld ?_
  try simp only [Act.put, pS1, pS2, pS3]
  refine zX 9 (.bool true) rfl hHeld ?_
  try simp only [Act.put, pS1, pS2, pS3]
  refine zX 10 (.bool true) rfl hHeld ?_
  try simp only [Act.put, pS1, pS2, pS3]
  refine zW 11 (.agg K) rfl (Or.inl ⟨by rfl, by intro W hSw; go_simp; exact HZC.out⟩) hHeld ?_
  try simp only [Act.put, pS1, pS2, pS3]
  refine zW 12 (.agg R) rfl (yieldsIf_mid (by rfl) 40 (.tmp 3) rfl g3 0 rfl R _ (fun V hv => range_row (l := R.toList) (W := V) (g := g3) (by simpa using hv.m.r)) Tryz.underlying40 rfl HSR.out) hHeld ?_
  try simp only [Act.put, pS1, pS2, pS3]
  refine wpAnyH_ready (rs := [13]) (by kernel_rfl) (by simp) ?_
  refine (AllReadyH.cons (o := { dst := some 61, op := .buildSlice 49 1 #[(0, .tmp 60)], type := 49, pos := "law.go:32", after := #[zD 12, zG 10], guard := some (10, true) }) rfl (fun K hK => ?_) AllReadyH.nil)
  obtain ⟨L1, hL1, hIn1⟩ := BU.out x cx R (w23.drew) HR (by rw [HP.out]; exact hHeld.m.p) HN.out [mkV onl 0 sgO x cx] (fun v hv => by simpa using hv) 1 #[(0, .agg R)] rfl (by omega) (by omega) (by rw [HR.out]; rfl)
  have HIN1 := hidk hIn1
  clear hIn1
  refine step_build_run (by rfl) 49 1 _ rfl #[(0, .agg R)] rfl _ _ hL1 ?_
  refine hK.out _ _ (hHeld.keep ((Below.refl _ _).alloc (Nat.le_refl _) _)) (fun hHeld => ?_)
  clear hK K
  try simp only [Act.put, pS1, pS2, pS3]
  refine wpAnyH_ready (rs := [14]) (by kernel_rfl) (by simp) ?_
  refine (AllReadyH.cons (o := { dst := some 62, op := .call { callee := .value (.func 14), args := #[.tmp 59, .tmp 61], argTypes := #[48, 49] }, type := 41, pos := "law.go:32", after := #[zD 11, zD 13, zC 10, zG 10], guard := some (10, true) }) rfl (fun K hK => ?_) AllReadyH.nil)
  go_simp
  refine (V1.out x cx _ _ HIN1.out hHeld.m.t).mono ?_
  rintro e w14 ⟨rfl, hb214⟩
  go_wp2_with fail
  refine hK.out _ _ (hHeld.keep hb214) (fun hHeld => ?_)
  clear hK K
  try simp only [Act.put, pS1, pS2, pS3]
  refine zX 15 (.bool true) rfl hHeld ?_
  try simp only [Act.put, pS1, pS2, pS3]
  refine zX 16 (.bool true) rfl hHeld ?_
  try simp only [Act.put, pS1, pS2, pS3]
  refine zX 17 (.bool true) rfl hHeld ?_
  try simp only [Act.put, pS1, pS2, pS3]
  refine zW 18 (.agg K) rfl (Or.inl ⟨by rfl, by intro W hSw; go_simp; exact HZC.out⟩) hHeld ?_
  try simp only [Act.put, pS1, pS2, pS3]
  refine wpAnyH_ready (rs := [19]) (by kernel_rfl) (by simp) ?_
  refine (AllReadyH.cons (o := { dst := some 67, op := .call { callee := .value (.func 14), args := #[.tmp 66, .const (.slice none 0 0)], argTypes := #[48, 49] }, type := 41, pos := "law.go:32", after := #[zD 18, zC 17, zG 17], guard := some (17, true) }) rfl (fun K hK => ?_) AllReadyH.nil)
  go_simp
  refine (VN.out _ hHeld.m.t).mono ?_
  rintro e w19 ⟨rfl, hb219⟩
  go_wp2_with fail
  refine hK.out _ _ (hHeld.keep hb219) (fun hHeld => ?_)
  clear hK K
  try simp only [Act.put, pS1, pS2, pS3]
  refine zX 20 (.bool true) rfl hHeld ?_
  try simp only [Act.put, pS1, pS2, pS3]
  refine zX 21 (.bool true) rfl hHeld ?_
  try simp only [Act.put, pS1, pS2, pS3]
  refine zX 22 (.bool true) rfl hHeld ?_
  try simp only [Act.put, pS1, pS2, pS3]
  refine zW 23 (.agg K) rfl (Or.inl ⟨by rfl, by intro W hSw; go_simp; exact HZC.out⟩) hHeld ?_
  try simp only [Act.put, pS1, pS2, pS3]
  refine zW 24 (.agg R) rfl (yieldsIf_mid (by rfl) 40 (.tmp 3) rfl g3 0 rfl R _ (fun V hv => range_row (l := R.toList) (W := V) (g := g3) (by simpa using hv.m.r)) Tryz.underlying40 rfl HSR.out) hHeld ?_
  try simp only [Act.put, pS1, pS2, pS3]
  refine zW 25 (.agg R) rfl (yieldsIf_mid (by rfl) 40 (.tmp 3) rfl g3 0 rfl R _ (fun V hv => range_row (l := R.toList) (W := V) (g := g3) (by simpa using hv.m.r)) Tryz.underlying40 rfl HSR.out) hHeld ?_
  try simp only [Act.put, pS1, pS2, pS3]
  refine wpAnyH_ready (rs := [26]) (by kernel_rfl) (by simp) ?_
  refine (AllReadyH.cons (o := { dst := some 74, op := .buildSlice 49 2 #[(0, .tmp 72), (1, .tmp 73)], type := 49, pos := "law.go:32", after := #[zD 24, zD 25, zG 22], guard := some (22, true) }) rfl (fun K hK => ?_) AllReadyH.nil)
  obtain ⟨L2, hL2, hIn2⟩ := BU.out x cx R (w19) HR (by rw [HP.out]; exact hHeld.m.p) HN.out [mkV onl 0 sgO x cx, mkV onl 0 sgO x cx] (fun v hv => by simpa using hv) 2 #[(0, .agg R), (1, .agg R)] rfl (by omega) (by omega) (by rw [HR.out]; rfl)
  have HIN2 := hidk hIn2
  clear hIn2
  refine step_build_run (by rfl) 49 2 _ rfl #[(0, .agg R), (1, .agg R)] rfl _ _ hL2 ?_
  refine hK.out _ _ (hHeld.keep ((Below.refl _ _).alloc (Nat.le_refl _) _)) (fun hHeld => ?_)
  clear hK K
  try simp only [Act.put, pS1, pS2, pS3]
  refine wpAnyH_ready (rs := [27]) (by kernel_rfl) (by simp) ?_
  refine (AllReadyH.cons (o := { dst := some 75, op := .call { callee := .value (.func 14), args := #[.tmp 71, .tmp 74], argTypes := #[48, 49] }, type := 41, pos := "law.go:32", after := #[zD 23, zD 26, zC 22, zG 22], guard := some (22, true) }) rfl (fun K hK => ?_) AllReadyH.nil)
  go_simp
  refine (V2.out x cx _ _ HIN2.out hHeld.m.t).mono ?_
  rintro e w27 ⟨rfl, hb227⟩
  go_wp2_with fail
  refine hK.out _ _ (hHeld.keep hb227) (fun hHeld => ?_)
  clear hK K
  try simp only [Act.put, pS1, pS2, pS3]
  refine zX 28 (.bool true) rfl hHeld ?_
  try simp only [Act.put, pS1, pS2, pS3]
  refine zX 29 (.bool true) rfl hHeld ?_
  try simp only [Act.put, pS1, pS2, pS3]
  refine zX 30 (.bool true) rfl hHeld ?_
  try simp only [Act.put, pS1, pS2, pS3]
  refine zX 31 (.int .i64 0) rfl hHeld ?_
  try simp only [Act.put, pS1, pS2, pS3]
  refine zX 32 (.bool true) rfl hHeld ?_
  try simp only [Act.put, pS1, pS2, pS3]
  refine zX 33 (.bool true) rfl hHeld ?_
  try simp only [Act.put, pS1, pS2, pS3]
  refine zX 34 (.bool true) rfl hHeld ?_
  try simp only [Act.put, pS1, pS2, pS3]
  refine zW 35 (.agg I) rfl (yieldsIf_mid (by rfl) 37 (.tmp 9) rfl g9 0 rfl I _ (fun V hv => range_row (l := I.toList) (W := V) (g := g9) (by simpa using hv.y)) Tryz.underlying37 rfl HSI.out) hHeld ?_
  try simp only [Act.put, pS1, pS2, pS3]
  refine zX 36 (.slice (some ⟨gl, 0, none⟩) 1 1) rfl hHeld ?_
  try simp only [Act.put, pS1, pS2, pS3]
  refine zW 37 (.pointer (some ⟨gl, 0, none⟩)) rfl (Or.inl ⟨by rfl, by intro W hSw; have := index_item W gl 0 1 1 0 .i64 (by omega); simp only [Nat.mul_zero, Nat.add_zero, Int.cast_ofNat_Int] at this; go_simp⟩) hHeld ?_
  try simp only [Act.put, pS1, pS2, pS3]
  refine zW 38 (.agg I) rfl (yieldsIf_mid (by rfl) 37 (.tmp 85) rfl gl 0 rfl I _ (fun V hv => RNG.out V gl hv.m.i) Tryz.underlying37 rfl HSI.out) hHeld ?_
  try simp only [Act.put, pS1, pS2, pS3]
  refine zW 39 (.bool true) rfl (Or.inl ⟨by rfl, by intro W hSw; have := eqi W; go_simp⟩) hHeld ?_
  try simp only [Act.put, pS1, pS2, pS3]
  refine zX 40 (.bool true) rfl hHeld ?_
  try simp only [Act.put, pS1, pS2, pS3]
  refine zX 41 (.bool true) rfl hHeld ?_
  try simp only [Act.put, pS1, pS2, pS3]
  refine zW 42 (.agg S) rfl (yieldsIf_mid (by rfl) 28 (.tmp 10) rfl g10 0 rfl S _ (fun V hv => range_row (l := S.toList) (W := V) (g := g10) (by simpa using hv.z)) Tryz.underlying28 rfl HSS.out) hHeld ?_
  try simp only [Act.put, pS1, pS2, pS3]
  refine zW 43 (.agg S) rfl (yieldsIf_mid (by rfl) 28 (.tmp 2) rfl g2 0 rfl S _ (fun V hv => range_row (l := S.toList) (W := V) (g := g2) (by simpa using hv.m.s)) Tryz.underlying28 rfl HSS.out) hHeld ?_
  try simp only [Act.put, pS1, pS2, pS3]
  refine zW 44 (.bool true) rfl (Or.inl ⟨by rfl, by intro W hSw; have := eqs W; go_simp⟩) hHeld ?_
  try simp only [Act.put, pS1, pS2, pS3]
  refine zX 45 (.bool true) rfl hHeld ?_
  try simp only [Act.put, pS1, pS2, pS3]
  refine zX 46 (.bool true) rfl hHeld ?_
  try simp only [Act.put, pS1, pS2, pS3]
  refine zX 47 (.int .i64 130) rfl hHeld ?_
  try simp only [Act.put, pS1, pS2, pS3]
  refine zX 48 (.bool true) rfl hHeld ?_
  try simp only [Act.put, pS1, pS2, pS3]
  refine zX 49 (.bool true) rfl hHeld ?_
  try simp only [Act.put, pS1, pS2, pS3]
  refine zX 50 (.bool true) rfl hHeld ?_
  try simp only [Act.put, pS1, pS2, pS3]
  refine wpAnyH_done (by kernel_rfl) ?_ _
  have HZ9 := hidk hHeld.m.b
  clear hHeld
  go_wp2
  go_ret
  exact ⟨rfl, HZ9.out⟩
structure HeldS (w : World) (X Y : Array Value) (V : World) : Prop where
  b : Below w.heap.size w V
  x : V.heap[w.heap.size]? = some (.cells X 40 (0, 0))
  y : V.heap[w.heap.size + 1]? = some (.cells Y 40 (0, 0))
theorem heldS14 (w : World) (X Y : Array Value) : HeldS w X Y ((w.alloc (.cells X 40)).alloc (.cells Y 40)) := by
  have h1 : (w.alloc (.cells X 40)).heap.size = w.heap.size + 1 := by show (w.heap.push _).size = _; simp
  refine ⟨((Below.refl _ _).alloc (Nat.le_refl _) _).alloc (by omega) _, heap_keep (heap_alloc_new w _), ?_⟩
  have := heap_alloc_new (w.alloc (.cells X 40)) (.cells Y 40)
  rw [h1] at this
  exact this
set_option maxHeartbeats 8000000 in
theorem rSame (u v : StV) (w : World) (ok : OkV u) (okv : OkV v) (hn : u.n = v.n) (hs : u.t = v.t) (pu : LReads w u.a u.n u.c u.p) (pv : LReads w v.a v.n v.c v.p) (X Y : Array Value) (HX : Hid (X = (stcells u).toArray)) (HY : Hid (Y = (stcells v).toArray)) :
    Calls Tryz.prog 9 #[.agg X, .agg Y] w fun e w' => e = .returned (.bool true) ∧ Below w.heap.size w w' := by
  have H0 := hidk (heldS14 w X Y)
  have ei : u.i = v.i := congrArg StT.i hs
  have ex : u.x = v.x := congrArg StT.x hs
  have eh : u.h = v.h := congrArg StT.h hs
  have ep : u.p = v.p := congrArg StT.p hs
  obtain ⟨S, HS, HSS, H1S, N69⟩ := sign_row u.h ok.d ok.g
  obtain ⟨I, HI, HSI, H1I, N110⟩ := item_row u.x ok.x
  have eqs : ∀ W, (binOp .eql 28 (.agg S) (.agg S)).run Tryz.prog W = .ok (.bool true) W := fun W => eqSigned _ _ ok.d ok.d ok.g ok.g S S HS HS true (by simp) W
  have eqi : ∀ W, (binOp .eql 37 (.agg I) (.agg I)).run Tryz.prog W = .ok (.bool true) W := fun W => eqItem _ _ ok.x ok.x I I HI HI true (by simp) W
  obtain ⟨ix, Hix⟩ : ∃ k, Hid (u.i = k) := ⟨_, hidk rfl⟩
  obtain ⟨n, Hn⟩ : ∃ k, Hid (u.n = k) := ⟨_, hidk rfl⟩
  obtain ⟨a1, Ha1⟩ : ∃ k, Hid (u.a = k) := ⟨_, hidk rfl⟩
  obtain ⟨c1, Hc1⟩ : ∃ k, Hid (u.c = k) := ⟨_, hidk rfl⟩
  obtain ⟨a2, Ha2⟩ : ∃ k, Hid (v.a = k) := ⟨_, hidk rfl⟩
  obtain ⟨c2, Hc2⟩ : ∃ k, Hid (v.c = k) := ⟨_, hidk rfl⟩
  have SD : Hid (∀ W, Below w.heap.size w W → Calls Tryz.prog 23 #[.slice a1 n c1, .slice a2 n c2] W fun e w' => e = .returned (.bool true) ∧ Below W.heap.size W w') := fun W hb => by
    have h1 := pu.keep hb
    have h2 := pv.keep hb
    rw [Ha1.out, Hn.out, Hc1.out] at h1
    rw [Ha2.out, ← hn, Hn.out, Hc2.out, ← ep] at h2
    exact same_digs a1 a2 n c1 c2 u.p W h1 h2
  have HCX : Hid (((w.alloc (.cells X 40)).alloc (.cells Y 40)).cell? ⟨w.heap.size, 0, none⟩ = some (.int .i64 ix) ∧ ((w.alloc (.cells X 40)).alloc (.cells Y 40)).cell? ⟨w.heap.size, 111, none⟩ = some (.slice a1 n c1) ∧ ((w.alloc (.cells X 40)).alloc (.cells Y 40)).rangeAt w.heap.size 112 S.toList ∧ ((w.alloc (.cells X 40)).alloc (.cells Y 40)).rangeAt w.heap.size 1 I.toList) := by
    have r0 := st_row HX H0.out.x
    refine ⟨?_, ?_, ?_, ?_⟩
    · have := r0 0 _ (st_i u); rw [Hix.out] at this; simpa using this
    · have := range_stp ok r0; rw [Ha1.out, Hn.out, Hc1.out] at this; simpa using this
    · have := range_sth ok r0; rw [HS.out]; simpa using this
    · have := range_stx r0; rw [HI.out]; simpa using this
  have HCY : Hid (((w.alloc (.cells X 40)).alloc (.cells Y 40)).cell? ⟨w.heap.size + 1, 0, none⟩ = some (.int .i64 ix) ∧ ((w.alloc (.cells X 40)).alloc (.cells Y 40)).cell? ⟨w.heap.size + 1, 111, none⟩ = some (.slice a2 n c2) ∧ ((w.alloc (.cells X 40)).alloc (.cells Y 40)).rangeAt (w.heap.size + 1) 112 S.toList ∧ ((w.alloc (.cells X 40)).alloc (.cells Y 40)).rangeAt (w.heap.size + 1) 1 I.toList) := by
    have r0 := st_row HY H0.out.y
    refine ⟨?_, ?_, ?_, ?_⟩
    · have := r0 0 _ (st_i v); rw [← ei, Hix.out] at this; simpa using this
    · have := range_stp okv r0; rw [Ha2.out, ← hn, Hn.out, Hc2.out] at this; simpa using this
    · have := range_sth okv r0; rw [HS.out, eh]; simpa using this
    · have := range_stx r0; rw [HI.out, ex]; simpa using this
  obtain ⟨x0, x1, x2, x3⟩ := HCX.out
  obtain ⟨y0, y1, y2, y3⟩ := HCY.out
  have RX2 := hidk x2
  have RX3 := hidk x3
  have RY2 := hidk y2
  have RY3 := hidk y3
  clear HCX HCY x2 x3 y2 y3 HX HY HS HI pu pv ok okv hs hn ei ex eh ep N69 N110 Hix Hn Ha1 Hc1 Ha2 Hc2 H1S H1I
  go_enter Tryz.func9, Tryz.ntmps9
  go_wp2_with (first
    | ((with_reducible show aD 12 _ _ _ _ _ _ _ _ _ _ _); refine wpList_mid_w (by rfl) 37 (.tmp 11) rfl w.heap.size 1 rfl I _ RX3.out Tryz.underlying37 rfl HSI.out ?_; try simp only [Act.put, pS1, pS2, pS3])
    | ((with_reducible show aD 14 _ _ _ _ _ _ _ _ _ _ _); refine wpList_mid_w (by rfl) 37 (.tmp 13) rfl (w.heap.size + 1) 1 rfl I _ RY3.out Tryz.underlying37 rfl HSI.out ?_; try simp only [Act.put, pS1, pS2, pS3])
    | ((with_reducible show aD 19 _ _ _ _ _ _ _ _ _ _ _); refine wpList_mid_w (by rfl) 28 (.tmp 18) rfl w.heap.size 112 rfl S _ RX2.out Tryz.underlying28 rfl HSS.out ?_; try simp only [Act.put, pS1, pS2, pS3])
    | ((with_reducible show aD 21 _ _ _ _ _ _ _ _ _ _ _); refine wpList_mid_w (by rfl) 28 (.tmp 20) rfl (w.heap.size + 1) 112 rfl S _ RY2.out Tryz.underlying28 rfl HSS.out ?_; try simp only [Act.put, pS1, pS2, pS3])
    | fail)
  refine (SD.out _ H0.out.b).mono ?_
  rintro e w1 ⟨rfl, hb1⟩
  have HB1 := hidk (H0.out.b.trans (hb1.mono H0.out.b.size))
  clear hb1
  go_wp2
  go_ret
  exact ⟨rfl, HB1.out⟩
def DRow (V : World) (a : Option Addr) (n : Nat) : Prop := n = 0 ∨ ∃ gp cur, a = some ⟨gp, 0, none⟩ ∧ V.heap[gp]? = some (.cells cur 24 (0, 0))
structure StGood (V : World) (v : StV) : Prop where
  ok : OkV v
  p : LReads V v.a v.n v.c v.p
  n : v.a = none → v.c = 0
  d : DRow V v.a v.n
theorem StGood.keep {V V' : World} {v : StV} (h : StGood V v) (hs : ∀ (q : Nat) (cur : Array Value), V.heap[q]? = some (Obj.cells cur 24 (0, 0)) → V'.heap[q]? = V.heap[q]?) : StGood V' v := by
  rcases h.d with h0 | ⟨gp, cur, e, hr⟩
  · exact ⟨h.ok, h.p.same14 (fun g o _ hn => by omega), h.n, .inl h0⟩
  · refine ⟨h.ok, h.p.same14 (fun g o ea _ => ?_), h.n, .inr ⟨gp, cur, e, (hs gp cur hr).trans hr⟩⟩
    rw [e] at ea
    cases ea
    exact hs gp cur hr
end Go.Proofs.YtkmedlfbkddmoaaGreatDoor
