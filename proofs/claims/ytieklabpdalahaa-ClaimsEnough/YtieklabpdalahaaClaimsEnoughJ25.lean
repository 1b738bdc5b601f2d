/- Texts of our own that the row of ClaimsEnough leans on, part 25. -/
import Derived.Test.YtieklabpdalahaaClaimsEnoughJ15
import Derived.Test.YtieklabpdalahaaClaimsEnoughJ20
import Derived.Test.YtieklabpdalahaaClaimsEnoughJ23
import Derived.Test.YtieklabpdalahaaClaimsEnoughJ24

/- What the calls of package head answer, as the document says (their proofs are of one commit of the code). -/
namespace Go.Proofs.Ytieklabpdalahaa
open Go.RowKit Sums Nums
set_option linter.unusedVariables false
set_option linter.unusedSimpArgs false
set_option maxRecDepth 100000

end Go.Proofs.Ytieklabpdalahaa

/- Claims, entries and items in memory, and held against each other by == and !=. -/
namespace Go.Proofs.Ytieklabpdalahaa
open Go.RowKit Sums Nums
set_option linter.unusedVariables false
set_option linter.unusedSimpArgs false
set_option maxRecDepth 100000
/-! What lies in memory. -/
def ccells (c : ClT) : List Value := [.int .i64 c.r, .int .i64 c.e, .int .i64 c.n, .int .i64 c.s] ++ cellsOf c.d
theorem ccells_length (c : ClT) (hd : c.d.length = 32) : (ccells c).length = 36 := by simp [ccells, cellsOf_length, hd]
end Go.Proofs.Ytieklabpdalahaa

/- Slices of claims in memory. -/
namespace Go.Proofs.Ytieklabpdalahaa
open Go.RowKit Nums Sums
set_option linter.unusedVariables false
set_option linter.unusedSimpArgs false
set_option maxRecDepth 100000
def OkC (c : ClT) : Prop := c.d.length = 32
/-- A slice that reads as these Clis. -/
structure CReads (w : World) (a : Option Addr) (len cap : Nat) (l : List ClT) : Prop where
  ln : l.length = len
  cp : len ≤ cap
  mx : len ≤ maxLen
  ok : ∀ x ∈ l, OkC x
  lies : len = 0 ∨ ∃ g o, a = some ⟨g, o, none⟩ ∧ ∀ (i : Nat) (h : i < l.length), w.rangeAt g (o + 36 * i) (ccells l[i])
theorem CReads.at {w : World} {a : Option Addr} {len cap : Nat} {l : List ClT} (h : CReads w a len cap l) (h0 : 0 < len) : ∃ g o, a = some ⟨g, o, none⟩ ∧ g < w.heap.size := by
  rcases h.lies with h5 | ⟨g, o, ha, hl⟩
  · omega
  · have h1 := h.ln
    refine ⟨g, o, ha, range_lt (hl 0 (by omega)) ?_⟩
    rw [ccells_length _ (h.ok _ (List.getElem_mem (by omega)))]
    omega
theorem CReads.below {w w' : World} {a : Option Addr} {len cap B : Nat} {l : List ClT} (h : CReads w a len cap l) (hb : Below B w w') (hB : ∀ g o, a = some ⟨g, o, none⟩ → 0 < len → g < B) : CReads w' a len cap l := by
  refine ⟨h.ln, h.cp, h.mx, h.ok, ?_⟩
  by_cases h0 : len = 0
  · exact .inl h0
  · rcases h.lies with h5 | ⟨g, o, ha, hl⟩
    · exact .inl h5
    · exact .inr ⟨g, o, ha, fun i hi => range_below (hl i hi) hb (hB g o ha (by omega))⟩
theorem CReads.keep {w w' : World} {a : Option Addr} {len cap : Nat} {l : List ClT} (h : CReads w a len cap l) (hb : Below w.heap.size w w') : CReads w' a len cap l := by
  refine h.below hb fun g o ha h0 => ?_
  obtain ⟨g', o', ha', hl⟩ := h.at h0
  rw [ha] at ha'
  cases ha'
  exact hl
theorem CReads.range {w : World} {g o len cap : Nat} {l : List ClT} (h : CReads w (some ⟨g, o, none⟩) len cap l) (i : Nat) (hi : i < l.length) : w.rangeAt g (o + 36 * i) (ccells l[i]) := by
  have h1 := h.ln
  rcases h.lies with h5 | ⟨g', o', ha, hl⟩
  · omega
  · cases ha
    exact hl i hi
theorem CReads.cell {w : World} {g o len cap : Nat} {l : List ClT} (h : CReads w (some ⟨g, o, none⟩) len cap l) (i : Nat) (hi : i < l.length) (j : Nat) (v : Value) (hj : (ccells l[i])[j]? = some v) : w.cell? ⟨g, o + 36 * i + j, none⟩ = some v := h.range i hi j v hj
theorem CReads.take {w : World} {a : Option Addr} {len cap : Nat} {l : List ClT} (h : CReads w a len cap l) (k : Nat) (hk : k ≤ len) : CReads w a k cap (l.take k) := by
  have h1 := h.ln
  have h2 := h.cp
  have h3 := h.mx
  refine ⟨by rw [List.length_take]; omega, by omega, by omega, fun x hx => h.ok x (List.mem_of_mem_take hx), ?_⟩
  rcases h.lies with h5 | ⟨g, o, ha, hl⟩
  · exact .inl (by omega)
  · refine .inr ⟨g, o, ha, fun i hi => ?_⟩
    rw [List.length_take] at hi
    rw [List.getElem_take]
    exact hl i (by omega)
/-! Rows put behind others. -/
def clcL (l : List ClT) : List Value := l.flatMap ccells
theorem clcL_nil : clcL [] = [] := rfl
theorem clcL_cons (x : ClT) (l : List ClT) : clcL (x :: l) = ccells x ++ clcL l := by unfold clcL; rw [List.flatMap_cons]
theorem clcL_length : ∀ (l : List ClT), (∀ x ∈ l, OkC x) → (clcL l).length = l.length * 36
  | [], _ => rfl
  | x :: l, h => by
    rw [clcL_cons, List.length_append, ccells_length _ (h x (by simp)), clcL_length l fun y hy => h y (by simp [hy]), List.length_cons]
    omega
theorem clcL_at : ∀ (l : List ClT), (∀ x ∈ l, OkC x) → ∀ (i : Nat) (hi : i < l.length) (j : Nat) (v : Value), (ccells l[i])[j]? = some v → (clcL l)[36 * i + j]? = some v
  | [], _, i, hi, _, _, _ => by cases hi
  | x :: l, h, i, hi, j, v, hj => by
    have hx := ccells_length _ (h x (by simp))
    rw [clcL_cons]
    cases i with
    | zero =>
      have hj' : (ccells x)[j]? = some v := hj
      have : j < (ccells x).length := (List.getElem?_eq_some_iff.1 hj').1
      rw [List.getElem?_append_left (by omega)]
      simpa using hj'
    | succ i =>
      rw [List.getElem?_append_right (by omega), hx]
      have := clcL_at l (fun y hy => h y (by simp [hy])) i (by simpa using hi) j v (by simpa using hj)
      rw [← this]
      congr 1
      omega
theorem clcL_back : ∀ (l : List ClT), (∀ x ∈ l, OkC x) → ∀ (j : Nat) (v : Value), (clcL l)[j]? = some v → ∃ i, ∃ hi : i < l.length, ∃ k, j = 36 * i + k ∧ (ccells l[i])[k]? = some v
  | [], _, j, v, hj => by simp [clcL_nil] at hj
  | x :: l, h, j, v, hj => by
    have hx := ccells_length _ (h x (by simp))
    rw [clcL_cons] at hj
    by_cases hlt : j < 36
    · rw [List.getElem?_append_left (by omega)] at hj
      exact ⟨0, by simp, j, by omega, hj⟩
    · rw [List.getElem?_append_right (by omega), hx] at hj
      obtain ⟨i, hi, k, e, hk⟩ := clcL_back l (fun y hy => h y (by simp [hy])) _ v hj
      exact ⟨i + 1, by simpa using hi, k, by omega, by simpa using hk⟩
theorem CReads.puts {w : World} {ad : Addr} {len cap : Nat} {l : List ClT} (h : CReads w (some ad) len cap l) : ∀ j u, (clcL l)[j]? = some u → w.cell? (ad.add j) = some u := fun j u hj => by
  obtain ⟨i, hi, k, rfl, hk⟩ := clcL_back l h.ok j u hj
  have h1 := h.ln
  rcases h.lies with h5 | ⟨g, o, ha, hl⟩
  · omega
  · cases ha
    rw [add_plain, ← Nat.add_assoc]
    exact hl i hi k u hk
theorem CReads.own {w : World} {B n : Nat} {v : Value} {l : List ClT} (h : w.ownsRow B 26 36 v n (clcL l)) (hok : ∀ x ∈ l, OkC x) : ∃ a cap, v = .slice a n cap ∧ CReads w a n cap l ∧ (a = none → cap = 0) ∧ (∀ g o, a = some ⟨g, o, none⟩ → B ≤ g ∧ v.ownBlock = some g) := by
  have hl : l.length = n := by have := h.1; rw [clcL_length l hok] at this; omega
  rcases h.2 with ⟨rfl, h0⟩ | ⟨g, cap, cur, rfl, hb, hg, hc, hm, hs, ht⟩
  · subst h0
    exact ⟨none, 0, rfl, ⟨hl, Nat.le_refl _, Nat.zero_le _, hok, .inl rfl⟩, fun _ => rfl, fun g o e => by cases e⟩
  · refine ⟨some ⟨g, 0, none⟩, cap, rfl, ⟨hl, hc, by omega, hok, .inr ⟨g, 0, rfl, fun i hi j v hj => ?_⟩⟩, (fun e => by cases e), fun g' o' e => by cases e; exact ⟨hb, rfl⟩⟩
    have := h.cells (g := g) rfl _ _ (clcL_at l hok i hi j v hj)
    rw [add_plain] at this
    rw [Nat.zero_add]
    simpa using this
end Go.Proofs.Ytieklabpdalahaa

/- The statements' own example of signing, over what the calls of package head answer. -/
namespace Go.Proofs.Ytieklabpdalahaa
open Go.RowKit Sums Nums
set_option linter.unusedVariables false
set_option linter.unusedSimpArgs false
set_option maxRecDepth 100000

end Go.Proofs.Ytieklabpdalahaa

/- The statements' own example of a head's bytes, over what the calls of package head answer. -/
namespace Go.Proofs.Ytieklabpdalahaa
open Go.RowKit Sums Nums
set_option linter.unusedVariables false
set_option linter.unusedSimpArgs false
set_option maxRecDepth 100000

end Go.Proofs.Ytieklabpdalahaa

/- What HeadTurned says of any input, over what the calls of package head answer. -/
namespace Go.Proofs.Ytieklabpdalahaa
open Go.RowKit Sums Nums
set_option linter.unusedVariables false
set_option linter.unusedSimpArgs false
set_option maxRecDepth 100000
theorem wpList_mid_w {P : Program} {ops : Array Oper} {rest : List Oper} {op : Oper} {a : Act} {w : World} {Q : Exit → Act → World → Prop} (hw : Region.wanted op (yielded ops a.tmps) = true) (ty : TypeId) (x : Operand) (ho : op.op = .load ty x)
    (b o : Nat) (hx : a.eval x = .pointer (some ⟨b, o, none⟩)) (D : Array Value) (d : TypeDesc) (hc : w.rangeAt b o D.toList)
    (hu : P.underlying ty = some d) (hd : d.isRow = true) (hi : (P.info? ty).map (·.size) = some D.size)
    (h : wpList P ops Q rest (a.put op.dst (.agg D)) w) : wpList P ops Q (op :: rest) a w := by
  have hy : YieldsIf P ops (fun W => W = w) op (.agg D) a := yieldsIf_mid hw ty x ho b o hx D d (fun W e => by rw [e]; exact hc) hu hd hi
  rcases hy with ⟨_, hv⟩ | ⟨hf, _⟩
  · exact BigFrame.wpList_want hw fun K hK => by
      simp only [Oper.wp, hv w rfl, Oper.upon]
      first | exact .inl (hK _ _ h) | exact hK _ _ h
  · rw [hw] at hf; cases hf
end Go.Proofs.Ytieklabpdalahaa

/- The document's own answers on addresses: are two the same, does one stand ahead, is one there. -/
namespace Go.Proofs.Ytieklabpdalahaa
open Go.RowKit Nums Sums
set_option linter.unusedVariables false
set_option linter.unusedSimpArgs false
set_option maxRecDepth 100000
theorem heldA : Try.prog.stoodInHeld 40 = false := by kernel_rfl
theorem sizeA : (Try.prog.info? 40).map (·.size) = some 2 := by kernel_rfl
theorem equalAddr (d : Nat) (a b : AdT) (x : Bool) (hx : x = true ↔ a = b) (w : World) : (Op.equalIn (d + 4) 40 (.agg #[.int .i64 a.r, .int .i64 a.n]) (.agg #[.int .i64 b.r, .int .i64 b.n])).run Try.prog w = .ok x w := by
  have hf : Try.prog.fieldsOf 40 = #[{ name := "Region", type := 3, offset := 0, embedded := false, tag := "", pkgPath := "", byteOffset := 0 }, { name := "Node", type := 3, offset := 1, embedded := false, tag := "", pkgPath := "", byteOffset := 8 }] := by
    unfold Program.fieldsOf; rw [Try.underlying40]
  have p0a : ∀ W, (Go.part 3 #[.int .i64 a.r, .int .i64 a.n] 0).run Try.prog W = .ok (.int .i64 a.r) W := fun W => part_int [.int .i64 a.r, .int .i64 a.n] 0 _ rfl W
  have p0b : ∀ W, (Go.part 3 #[.int .i64 b.r, .int .i64 b.n] 0).run Try.prog W = .ok (.int .i64 b.r) W := fun W => part_int [.int .i64 b.r, .int .i64 b.n] 0 _ rfl W
  have x0 := fun W => run_equalIn_int (P := Try.prog) W (d + 2) 3 .i64 .i64 a.r b.r Try.underlying3
  obtain ⟨b0, h0⟩ : ∃ x, (a.r == b.r) = x := ⟨_, rfl⟩
  rw [h0] at x0
  have p1a : ∀ W, (Go.part 3 #[.int .i64 a.r, .int .i64 a.n] 1).run Try.prog W = .ok (.int .i64 a.n) W := fun W => part_int [.int .i64 a.r, .int .i64 a.n] 1 _ rfl W
  have p1b : ∀ W, (Go.part 3 #[.int .i64 b.r, .int .i64 b.n] 1).run Try.prog W = .ok (.int .i64 b.n) W := fun W => part_int [.int .i64 b.r, .int .i64 b.n] 1 _ rfl W
  have x1 := fun W => run_equalIn_int (P := Try.prog) W (d + 2) 3 .i64 .i64 a.n b.n Try.underlying3
  obtain ⟨b1, h1⟩ : ∃ x, (a.n == b.n) = x := ⟨_, rfl⟩
  rw [h1] at x1
  rw [run_equalIn_struct w (d + 3) 40 _ _ (by rw [hf]; exact Try.underlying40) heldA, hf]
  have hq : x = (b0 && b1) := by
    rw [Bool.eq_iff_iff, hx, Bool.and_eq_true, ← h0, ← h1, beq_iff_eq, beq_iff_eq]
    exact ⟨fun e => by rw [e]; exact ⟨rfl, rfl⟩, fun e => AdT.ext' e.1 e.2⟩
  rw [hq]
  simp [Op.eqFields, p0a, p0b, x0, p1a, p1b, x1]
  cases b0 <;> cases b1 <;> simp
theorem eqAddr (a b : AdT) (x : Bool) (hx : x = true ↔ a = b) (w : World) : (binOp .eql 40 (.agg #[.int .i64 a.r, .int .i64 a.n]) (.agg #[.int .i64 b.r, .int .i64 b.n])).run Try.prog w = .ok (.bool x) w := by
  rw [run_eql_struct, show (10000 : Nat) = 9996 + 4 from rfl, equalAddr 9996 a b x hx]; rfl
theorem neqAddr (a b : AdT) (x : Bool) (hx : x = false ↔ a = b) (w : World) : (binOp .neq 40 (.agg #[.int .i64 a.r, .int .i64 a.n]) (.agg #[.int .i64 b.r, .int .i64 b.n])).run Try.prog w = .ok (.bool x) w := by
  rw [run_neq_struct, show (10000 : Nat) = 9996 + 4 from rfl, equalAddr 9996 a b (!x) (by rw [← hx]; simp)]; simp
/-- A struct of two cells, new in its block. -/
theorem range_two_new (w : World) (x y : Value) (t : TypeId) : (w.alloc (.cells #[x, y] t)).rangeAt w.heap.size 0 [x, y] := fun j v hj => by
  rw [cell_of_row _ _ _ _ t (0, 0) (heap_alloc_new w _)]
  simpa using hj
/-- Is an address there? -/
theorem take_none {l : List AdT} {a : AdT} {k : Nat} (hk : k < l.length) (h : a ∉ l.take k) (hx : l[k] ≠ a) : a ∉ l.take (k + 1) := by
  rw [List.take_succ_eq_append_getElem hk, List.mem_append, List.mem_singleton]
  rintro (e | e)
  · exact h e
  · exact hx e.symm
set_option maxHeartbeats 8000000 in
theorem refIn_any (ad : Option Addr) (len cap : Nat) (l : List AdT) (a : AdT) (w : World) (h : AReads w ad len cap l) (hlen : len ≤ 1000000) :
    Calls Try.prog 35 #[.slice ad len cap, .agg #[.int .i64 a.r, .int .i64 a.n]] w fun e w' => e = .returned (.bool (memA a l)) ∧ Below w.heap.size w w' := by
  have H := hidk h
  have HL := hidk h.ln
  have hmx : len ≤ 9223372036854775807 := by omega
  clear h
  go_enter Try.func35, Try.ntmps35
  go_wp2
  go_loopw [5] (fun v wr => ∃ k : Nat, k ≤ len ∧ v = .int .i64 k ∧ Hid (Below w.heap.size w wr) ∧ Hid (wr.rangeAt w.heap.size 0 [.int .i64 a.r, .int .i64 a.n]) ∧ Hid (a ∉ l.take k)) (fun v _ => len - (intOf v).toNat)
  case atStart => exact ⟨0, by omega, rfl, (Below.refl _ _).alloc (Nat.le_refl _) _, range_two_new w _ _ _, by show a ∉ _; simp⟩
  case round =>
    obtain ⟨k, hk, rfl, HB, HT, HN⟩ := hrel
    by_cases hlt : k < len
    · have hd : decide ((k : Int) < (len : Int)) = true := by rw [decide_eq_true_eq]; omega
      have hw1 := wrap_int ((k : Int) + 1) (by omega) (by omega)
      obtain ⟨g, o, rfl, hg⟩ := H.out.at (by omega)
      have hkl : k < l.length := by have := HL.out; omega
      obtain ⟨x, HX⟩ : ∃ x, Hid (x = l[k]) := ⟨_, hidk rfl⟩
      have HR : Hid (wr.rangeAt g (o + 2 * k) [.int .i64 x.r, .int .i64 x.n]) := by
        show World.rangeAt _ _ _ _
        rw [HX.out]
        exact (H.out.keep HB.out).range k hkl
      have ix := fun W => index_ad W g o len cap k .i64 hlt
      by_cases hxa : x = a
      · have hq := fun W => eqAddr x a true (by simp [hxa]) W
        have HY : Hid (memA a l = true) := by show _ = _; rw [memA_iff, ← hxa, HX.out]; exact List.getElem_mem hkl
        clear HX hkl hxa HN
        go_wp2
        refine wp_region_held_drew (S := (fun W => W.rangeAt g (o + 2 * k) [.int .i64 x.r, .int .i64 x.n] ∧ W.rangeAt w.heap.size 0 [.int .i64 a.r, .int .i64 a.n])) (by kernel_rfl) ⟨HR.out, HT.out⟩ (fun hHeld => ?_)
        refine wpAnyH_take (i := 0) (oi := { dst := some 12, op := Op.move (Operand.tmp 0), type := 38, pos := "ref.go:66", after := #[], guard := none }) (v := .slice (some ⟨g, o, none⟩) len cap) rfl (by kernel_rfl) (by kernel_rfl) (by kernel_rfl) (fun _ _ _ h => h) (Or.inl ⟨by rfl, by intro w hSw; go_simp⟩) hHeld ?_
        try simp only [Act.put, List.setIfInBounds_toArray, List.set_cons_zero, List.set_cons_succ]
        refine wpAnyH_take (i := 1) (oi := { dst := some 13, op := Op.move (Operand.tmp 5), type := 3, pos := "ref.go:66", after := #[], guard := none }) (v := .int .i64 k) rfl (by kernel_rfl) (by kernel_rfl) (by kernel_rfl) (fun _ _ _ h => h) (Or.inl ⟨by rfl, by intro w hSw; go_simp⟩) hHeld ?_
        try simp only [Act.put, List.setIfInBounds_toArray, List.set_cons_zero, List.set_cons_succ]
        refine wpAnyH_take (i := 2) (oi := { dst := some 14, op := Op.indexAddr 38 (Operand.tmp 12) (Operand.tmp 13), type := 0, pos := "ref.go:66", after := #[{ on := 0, ground := Ground.data }, { on := 1, ground := Ground.data }], guard := none }) (v := .pointer (some ⟨g, o + 2 * k, none⟩)) rfl (by kernel_rfl) (by kernel_rfl) (by kernel_rfl) (fun _ _ _ h => h) (Or.inl ⟨by rfl, by intro W hSw; have := ix W; go_simp⟩) hHeld ?_
        try simp only [Act.put, List.setIfInBounds_toArray, List.set_cons_zero, List.set_cons_succ]
        refine wpAnyH_take (i := 3) (oi := { dst := some 15, op := Op.load 40 (Operand.tmp 14), type := 40, pos := "ref.go:66", after := #[{ on := 2, ground := Ground.data }], guard := none }) (v := .agg #[.int .i64 x.r, .int .i64 x.n]) rfl (by kernel_rfl) (by kernel_rfl) (by kernel_rfl) (fun _ _ _ h => h) (yieldsIf_mid (by rfl) 40 (.tmp 14) rfl g (o + 2 * k) rfl #[.int .i64 x.r, .int .i64 x.n] _ (fun _ h => h.1) Try.underlying40 rfl sizeA) hHeld ?_
        try simp only [Act.put, List.setIfInBounds_toArray, List.set_cons_zero, List.set_cons_succ]
        refine wpAnyH_take (i := 4) (oi := { dst := some 16, op := Op.load 40 (Operand.tmp 3), type := 40, pos := "ref.go:66", after := #[], guard := none }) (v := .agg #[.int .i64 a.r, .int .i64 a.n]) rfl (by kernel_rfl) (by kernel_rfl) (by kernel_rfl) (fun _ _ _ h => h) (yieldsIf_mid (by rfl) 40 (.tmp 3) rfl w.heap.size 0 rfl #[.int .i64 a.r, .int .i64 a.n] _ (fun _ h => h.2) Try.underlying40 rfl sizeA) hHeld ?_
        try simp only [Act.put, List.setIfInBounds_toArray, List.set_cons_zero, List.set_cons_succ]
        refine wpAnyH_take (i := 5) (oi := { dst := some 17, op := Op.binOp BinOp.eql 40 (Operand.tmp 15) (Operand.tmp 16) 40, type := 4, pos := "ref.go:66", after := #[{ on := 3, ground := Ground.data }, { on := 4, ground := Ground.data }], guard := none }) (v := .bool true) rfl (by kernel_rfl) (by kernel_rfl) (by kernel_rfl) (fun _ _ _ h => h) (Or.inl ⟨by rfl, by intro W hSw; have := hq W; go_simp⟩) hHeld ?_
        try simp only [Act.put, List.setIfInBounds_toArray, List.set_cons_zero, List.set_cons_succ]
        refine wpAnyH_done (by kernel_rfl) ?_ _
        go_wp2
        go_ret
        exact ⟨by rw [HY.out]; rfl, HB.out.drew⟩
      · have hq := fun W => eqAddr x a false (by simp [hxa]) W
        have HN' : Hid (a ∉ l.take (k + 1)) := take_none hkl HN.out (by rw [← HX.out]; exact hxa)
        clear HX hkl hxa HN
        go_wp2
        refine wp_region_held_drew (S := (fun W => W.rangeAt g (o + 2 * k) [.int .i64 x.r, .int .i64 x.n] ∧ W.rangeAt w.heap.size 0 [.int .i64 a.r, .int .i64 a.n])) (by kernel_rfl) ⟨HR.out, HT.out⟩ (fun hHeld => ?_)
        refine wpAnyH_take (i := 0) (oi := { dst := some 12, op := Op.move (Operand.tmp 0), type := 38, pos := "ref.go:66", after := #[], guard := none }) (v := .slice (some ⟨g, o, none⟩) len cap) rfl (by kernel_rfl) (by kernel_rfl) (by kernel_rfl) (fun _ _ _ h => h) (Or.inl ⟨by rfl, by intro w hSw; go_simp⟩) hHeld ?_
        try simp only [Act.put, List.setIfInBounds_toArray, List.set_cons_zero, List.set_cons_succ]
        refine wpAnyH_take (i := 1) (oi := { dst := some 13, op := Op.move (Operand.tmp 5), type := 3, pos := "ref.go:66", after := #[], guard := none }) (v := .int .i64 k) rfl (by kernel_rfl) (by kernel_rfl) (by kernel_rfl) (fun _ _ _ h => h) (Or.inl ⟨by rfl, by intro w hSw; go_simp⟩) hHeld ?_
        try simp only [Act.put, List.setIfInBounds_toArray, List.set_cons_zero, List.set_cons_succ]
        refine wpAnyH_take (i := 2) (oi := { dst := some 14, op := Op.indexAddr 38 (Operand.tmp 12) (Operand.tmp 13), type := 0, pos := "ref.go:66", after := #[{ on := 0, ground := Ground.data }, { on := 1, ground := Ground.data }], guard := none }) (v := .pointer (some ⟨g, o + 2 * k, none⟩)) rfl (by kernel_rfl) (by kernel_rfl) (by kernel_rfl) (fun _ _ _ h => h) (Or.inl ⟨by rfl, by intro W hSw; have := ix W; go_simp⟩) hHeld ?_
        try simp only [Act.put, List.setIfInBounds_toArray, List.set_cons_zero, List.set_cons_succ]
        refine wpAnyH_take (i := 3) (oi := { dst := some 15, op := Op.load 40 (Operand.tmp 14), type := 40, pos := "ref.go:66", after := #[{ on := 2, ground := Ground.data }], guard := none }) (v := .agg #[.int .i64 x.r, .int .i64 x.n]) rfl (by kernel_rfl) (by kernel_rfl) (by kernel_rfl) (fun _ _ _ h => h) (yieldsIf_mid (by rfl) 40 (.tmp 14) rfl g (o + 2 * k) rfl #[.int .i64 x.r, .int .i64 x.n] _ (fun _ h => h.1) Try.underlying40 rfl sizeA) hHeld ?_
        try simp only [Act.put, List.setIfInBounds_toArray, List.set_cons_zero, List.set_cons_succ]
        refine wpAnyH_take (i := 4) (oi := { dst := some 16, op := Op.load 40 (Operand.tmp 3), type := 40, pos := "ref.go:66", after := #[], guard := none }) (v := .agg #[.int .i64 a.r, .int .i64 a.n]) rfl (by kernel_rfl) (by kernel_rfl) (by kernel_rfl) (fun _ _ _ h => h) (yieldsIf_mid (by rfl) 40 (.tmp 3) rfl w.heap.size 0 rfl #[.int .i64 a.r, .int .i64 a.n] _ (fun _ h => h.2) Try.underlying40 rfl sizeA) hHeld ?_
        try simp only [Act.put, List.setIfInBounds_toArray, List.set_cons_zero, List.set_cons_succ]
        refine wpAnyH_take (i := 5) (oi := { dst := some 17, op := Op.binOp BinOp.eql 40 (Operand.tmp 15) (Operand.tmp 16) 40, type := 4, pos := "ref.go:66", after := #[{ on := 3, ground := Ground.data }, { on := 4, ground := Ground.data }], guard := none }) (v := .bool false) rfl (by kernel_rfl) (by kernel_rfl) (by kernel_rfl) (fun _ _ _ h => h) (Or.inl ⟨by rfl, by intro W hSw; have := hq W; go_simp⟩) hHeld ?_
        try simp only [Act.put, List.setIfInBounds_toArray, List.set_cons_zero, List.set_cons_succ]
        refine wpAnyH_done (by kernel_rfl) ?_ _
        go_wp2
        go_roundw
        case rel => exact ⟨k + 1, by omega, by go_num, HB.out.drew, HT, HN'⟩
        case measure => simp [intOf]; omega
    · obtain rfl : len = k := by omega
      have hd : decide ((len : Int) < (len : Int)) = false := by rw [decide_eq_false_iff_not]; omega
      have HE : Hid (memA a l = false) := by
        have := HN.out
        rw [List.take_of_length_le (by have := HL.out; omega)] at this
        exact memA_not.2 this
      go_wp2
      go_ret
      exact ⟨by rw [HE.out]; rfl, HB.out⟩
/-- Does an address stand ahead? -/
theorem before_iff (a b : AdT) : beforeA a b = (decide (a.r < b.r) || (a.r == b.r) && decide (a.n < b.n)) := by
  unfold beforeA
  rw [Bool.eq_iff_iff]
  simp
set_option maxHeartbeats 8000000 in
theorem refBefore_any (a b : AdT) (w : World) :
    Calls Try.prog 36 #[.agg #[.int .i64 a.r, .int .i64 a.n], .agg #[.int .i64 b.r, .int .i64 b.n]] w fun e w' => e = .returned (.bool (beforeA a b)) ∧ Below w.heap.size w w' := by
  rw [before_iff]
  obtain ⟨ar, an⟩ := a
  obtain ⟨br, bn⟩ := b
  simp only
  obtain ⟨A, hA⟩ : ∃ A, decide (ar < br) = A := ⟨_, rfl⟩
  obtain ⟨B, hB⟩ : ∃ A, (ar == br) = A := ⟨_, rfl⟩
  obtain ⟨C, hC⟩ : ∃ A, decide (an < bn) = A := ⟨_, rfl⟩
  rw [hA, hB, hC]
  cases A <;> cases B <;> cases C
  all_goals
    go_enter Try.func36, Try.ntmps36
    go_wp2
    go_ret
    exact ⟨rfl, ((Below.refl _ _).alloc (Nat.le_refl _) _).alloc (by simp) _⟩
end Go.Proofs.Ytieklabpdalahaa

/- The document's Addrs and Same: rows that read the same are the same. -/
namespace Go.Proofs.Ytieklabpdalahaa
open Go.RowKit Nums Sums
set_option linter.unusedVariables false
set_option linter.unusedSimpArgs false
set_option maxRecDepth 100000
set_option maxHeartbeats 2000000 in
theorem refAddrs_any (a1 a2 : Option Addr) (len c1 c2 : Nat) (l : List AdT) (w : World) (h1 : AReads w a1 len c1 l) (h2 : AReads w a2 len c2 l) :
    Calls Try.prog 19 #[.slice a1 len c1, .slice a2 len c2] w fun e w' => e = .returned (.bool true) ∧ Below w.heap.size w w' := by
  have hlen := h1.ln
  have hmx : len ≤ 9223372036854775807 := by have := h1.mx; unfold maxLen at this; omega
  have H1 := hidk h1
  have H2 := hidk h2
  clear h1 h2
  have hdn : (!((len : Int) == (len : Int))) = false := by simp
  go_enter Try.func19, Try.ntmps19
  go_wp2
  go_loopw [5] (fun v wr => ∃ i : Nat, i ≤ len ∧ v = .int .i64 i ∧ Below w.heap.size w wr) (fun v _ => len - (intOf v).toNat)
  case atStart => exact ⟨0, by omega, rfl, Below.refl _ _⟩
  case round =>
    obtain ⟨i, hi, rfl, hB⟩ := hrel
    by_cases hlt : i < len
    · have hdi : decide ((i : Int) < (len : Int)) = true := by rw [decide_eq_true_eq]; omega
      have hw := wrap_int ((i : Int) + 1) (by omega) (by omega)
      obtain ⟨g1, o1, rfl, hg1⟩ := H1.out.at (by omega)
      obtain ⟨g2, o2, rfl, hg2⟩ := H2.out.at (by omega)
      have hil : i < l.length := by omega
      obtain ⟨A, HA⟩ : ∃ A, Hid (A = acells l[i]) := ⟨_, hidk rfl⟩
      have hok := H1.out.ok _ (List.getElem_mem hil)
      have z0 : (Try.prog.info? 40).map (·.size) = some A.length := by rw [sizeA, HA.out, acells_length _ hok]
      have hne : ∀ W, (binOp .neq 40 (.agg A.toArray) (.agg A.toArray)).run Try.prog W = .ok (.bool false) W := fun W => by rw [HA.out]; exact neqAddr l[i] l[i] false (by simp) W
      have hS : wr.rangeAt g1 (o1 + 2 * i) A ∧ wr.rangeAt g2 (o2 + 2 * i) A := by
        rw [HA.out]
        exact ⟨(H1.out.keep hB).range i hil, (H2.out.keep hB).range i hil⟩
      have ix1 := fun W => index_ad W g1 o1 len c1 i .i64 hlt
      have ix2 := fun W => index_ad W g2 o2 len c2 i .i64 hlt
      clear HA hok hil
      go_wp2
      refine wp_region_held_drew (S := (fun W => W.rangeAt g1 (o1 + 2 * i) A ∧ W.rangeAt g2 (o2 + 2 * i) A)) (by kernel_rfl) hS (fun hHeld => ?_)
      refine wpAnyH_take (i := 0) (oi := { dst := some 17, op := Op.move (Operand.tmp 0), type := 38, pos := "ref.go:139", after := #[], guard := none }) (v := .slice (some ⟨g1, o1, none⟩) len c1) rfl (by kernel_rfl) (by kernel_rfl) (by kernel_rfl) (fun _ _ _ h => h) (Or.inl ⟨by rfl, by intro w hSw; go_simp⟩) hHeld ?_
      try simp only [Act.put, List.setIfInBounds_toArray, List.set_cons_zero, List.set_cons_succ]
      refine wpAnyH_take (i := 1) (oi := { dst := some 18, op := Op.move (Operand.tmp 5), type := 3, pos := "ref.go:139", after := #[], guard := none }) (v := .int .i64 i) rfl (by kernel_rfl) (by kernel_rfl) (by kernel_rfl) (fun _ _ _ h => h) (Or.inl ⟨by rfl, by intro w hSw; go_simp⟩) hHeld ?_
      try simp only [Act.put, List.setIfInBounds_toArray, List.set_cons_zero, List.set_cons_succ]
      refine wpAnyH_take (i := 2) (oi := { dst := some 19, op := Op.indexAddr 38 (Operand.tmp 17) (Operand.tmp 18), type := 0, pos := "ref.go:139", after := #[{ on := 0, ground := Ground.data }, { on := 1, ground := Ground.data }], guard := none }) (v := .pointer (some ⟨g1, o1 + 2 * i, none⟩)) rfl (by kernel_rfl) (by kernel_rfl) (by kernel_rfl) (fun _ _ _ h => h) (Or.inl ⟨by rfl, by intro W hSw; have := ix1 W; go_simp⟩) hHeld ?_
      try simp only [Act.put, List.setIfInBounds_toArray, List.set_cons_zero, List.set_cons_succ]
      refine wpAnyH_take (i := 3) (oi := { dst := some 20, op := Op.load 40 (Operand.tmp 19), type := 40, pos := "ref.go:139", after := #[{ on := 2, ground := Ground.data }], guard := none }) (v := .agg A.toArray) rfl (by kernel_rfl) (by kernel_rfl) (by kernel_rfl) (fun _ _ _ h => h) (yieldsIf_load_mid (by rfl) 40 (.tmp 19) rfl _ _ rfl A _ (fun _ h => h.1) Try.underlying40 rfl z0) hHeld ?_
      try simp only [Act.put, List.setIfInBounds_toArray, List.set_cons_zero, List.set_cons_succ]
      refine wpAnyH_take (i := 4) (oi := { dst := some 21, op := Op.move (Operand.tmp 1), type := 38, pos := "ref.go:139", after := #[], guard := none }) (v := .slice (some ⟨g2, o2, none⟩) len c2) rfl (by kernel_rfl) (by kernel_rfl) (by kernel_rfl) (fun _ _ _ h => h) (Or.inl ⟨by rfl, by intro w hSw; go_simp⟩) hHeld ?_
      try simp only [Act.put, List.setIfInBounds_toArray, List.set_cons_zero, List.set_cons_succ]
      refine wpAnyH_take (i := 5) (oi := { dst := some 22, op := Op.move (Operand.tmp 5), type := 3, pos := "ref.go:139", after := #[], guard := none }) (v := .int .i64 i) rfl (by kernel_rfl) (by kernel_rfl) (by kernel_rfl) (fun _ _ _ h => h) (Or.inl ⟨by rfl, by intro w hSw; go_simp⟩) hHeld ?_
      try simp only [Act.put, List.setIfInBounds_toArray, List.set_cons_zero, List.set_cons_succ]
      refine wpAnyH_take (i := 6) (oi := { dst := some 23, op := Op.indexAddr 38 (Operand.tmp 21) (Operand.tmp 22), type := 0, pos := "ref.go:139", after := #[{ on := 4, ground := Ground.data }, { on := 5, ground := Ground.data }], guard := none }) (v := .pointer (some ⟨g2, o2 + 2 * i, none⟩)) rfl (by kernel_rfl) (by kernel_rfl) (by kernel_rfl) (fun _ _ _ h => h) (Or.inl ⟨by rfl, by intro W hSw; have := ix2 W; go_simp⟩) hHeld ?_
      try simp only [Act.put, List.setIfInBounds_toArray, List.set_cons_zero, List.set_cons_succ]
      refine wpAnyH_take (i := 7) (oi := { dst := some 24, op := Op.load 40 (Operand.tmp 23), type := 40, pos := "ref.go:139", after := #[{ on := 6, ground := Ground.data }], guard := none }) (v := .agg A.toArray) rfl (by kernel_rfl) (by kernel_rfl) (by kernel_rfl) (fun _ _ _ h => h) (yieldsIf_load_mid (by rfl) 40 (.tmp 23) rfl _ _ rfl A _ (fun _ h => h.2) Try.underlying40 rfl z0) hHeld ?_
      try simp only [Act.put, List.setIfInBounds_toArray, List.set_cons_zero, List.set_cons_succ]
      refine wpAnyH_take (i := 8) (oi := { dst := some 25, op := Op.binOp BinOp.neq 40 (Operand.tmp 20) (Operand.tmp 24) 40, type := 4, pos := "ref.go:139", after := #[{ on := 3, ground := Ground.data }, { on := 7, ground := Ground.data }], guard := none }) (v := .bool false) rfl (by kernel_rfl) (by kernel_rfl) (by kernel_rfl) (fun _ _ _ h => h) (Or.inl ⟨by rfl, by intro W hSw; have := hne W; go_simp⟩) hHeld ?_
      try simp only [Act.put, List.setIfInBounds_toArray, List.set_cons_zero, List.set_cons_succ]
      refine wpAnyH_done (by kernel_rfl) ?_ _
      go_wp2
      go_roundw
      case rel => exact ⟨i + 1, by omega, by go_num, hB.drew⟩
      case measure => simp [intOf]; omega
    · obtain rfl : len = i := by omega
      go_wp2
      go_ret
      exact ⟨rfl, hB⟩
end Go.Proofs.Ytieklabpdalahaa

/- The document's Enough. -/
namespace Go.Proofs.Ytieklabpdalahaa
open Go.RowKit Nums Sums
set_option linter.unusedVariables false
set_option linter.unusedSimpArgs false
set_option maxRecDepth 100000
/-- Of the nodes 1 to k of a region: how many are there? -/
def cntK (l : List AdT) (r : Int) : Nat → Nat
  | 0 => 0
  | k + 1 => cntK l r k + (if memA ⟨r, ((k + 1 : Nat) : Int)⟩ l = true then 1 else 0)
theorem cntK_three (l : List AdT) (r : Int) : cntK l r 3 = cntR l r := by
  simp [cntK, cntR]
set_option maxHeartbeats 2000000 in
theorem refRegions_any (n : Int) (w : World) : Calls Try.prog 39 #[.int .i64 n] w fun e w' => e = .returned (.bool (decide (3 ≤ n ∧ n ≤ 5))) ∧ w = w' := by
  by_cases h1 : 3 ≤ n
  · have d1 : decide (3 ≤ n) = true := decide_eq_true h1
    by_cases h2 : n ≤ 5
    · have d2 : decide (n ≤ 5) = true := decide_eq_true h2
      have HE : Hid (decide (3 ≤ n ∧ n ≤ 5) = true) := decide_eq_true ⟨h1, h2⟩
      go_enter Try.func39, Try.ntmps39
      go_wp2
      go_ret
      exact ⟨by first | rfl | (rw [HE.out]; rfl), rfl⟩
    · have d2 : decide (n ≤ 5) = false := decide_eq_false h2
      have HE : Hid (decide (3 ≤ n ∧ n ≤ 5) = false) := decide_eq_false fun e => h2 e.2
      go_enter Try.func39, Try.ntmps39
      go_wp2
      go_ret
      exact ⟨by first | rfl | (rw [HE.out]; rfl), rfl⟩
  · have d1 : decide (3 ≤ n) = false := decide_eq_false h1
    have HE : Hid (decide (3 ≤ n ∧ n ≤ 5) = false) := decide_eq_false fun e => h1 e.1
    go_enter Try.func39, Try.ntmps39
    go_wp2
    go_ret
    exact ⟨by first | rfl | (rw [HE.out]; rfl), rfl⟩
theorem enough_not {m r : Int} {l : List AdT} (h : ¬ (3 ≤ m ∧ m ≤ 5 ∧ 1 ≤ r ∧ r ≤ m)) : enoughB m r l = false := by
  unfold enoughB; rw [decide_eq_false h]; rfl
theorem enough_of {M : Nat} {r : Int} {l : List AdT} (h : 3 ≤ (M : Int) ∧ (M : Int) ≤ 5 ∧ 1 ≤ r ∧ r ≤ (M : Int)) : enoughB M r l = decide ((M : Int) - 1 < 2 * (haveN r l M : Int)) := by
  unfold enoughB; rw [decide_eq_true h, Int.toNat_natCast]; rfl
theorem haveN_succ (r : Int) (l : List AdT) (k y : Nat) (h : y = cntK l ((k + 1 : Nat) : Int) 3) (b : Bool) (hb : b = (!(((k + 1 : Nat) : Int) == r) && decide (2 ≤ (y : Int)))) : haveN r l (k + 1) = haveN r l k + (if b = true then 1 else 0) := by
  have e : (b = true) = (((k + 1 : Nat) : Int) ≠ r ∧ hasR l ((k + 1 : Nat) : Int) = true) := by
    rw [hb, hasR_cnt, ← cntK_three, ← h, Bool.and_eq_true, decide_eq_true_eq, decide_eq_true_eq, Bool.not_eq_true', beq_eq_false_iff_ne]
    apply propext
    constructor
    · rintro ⟨a, b⟩; exact ⟨a, by omega⟩
    · rintro ⟨a, b⟩; exact ⟨a, by omega⟩
  rw [haveN]
  congr 1
  simp only [e]
set_option maxHeartbeats 8000000 in
theorem refEnough_not (m r : Int) (ad : Option Addr) (len cap : Nat) (l : List AdT) (w : World) (h : ¬ (3 ≤ m ∧ m ≤ 5 ∧ 1 ≤ r ∧ r ≤ m)) :
    Calls Try.prog 23 #[.int .i64 m, .int .i64 r, .slice ad len cap] w fun e w' => e = .returned (.bool (enoughB m r l)) ∧ Below w.heap.size w w' := by
  have HE := hidk (enough_not (l := l) h)
  by_cases h3 : 3 ≤ m
  · have d3 : decide (3 ≤ m) = true := decide_eq_true h3
    by_cases h5 : m ≤ 5
    · have d5 : decide (m ≤ 5) = true := decide_eq_true h5
      by_cases hr : r < 1
      · have d1 : decide (r < 1) = true := decide_eq_true hr
        clear h hr h3 h5
        go_enter Try.func23, Try.ntmps23
        go_wp2
        go_ret
        exact ⟨by rw [HE.out]; rfl, Below.refl _ _⟩
      · have d1 : decide (r < 1) = false := decide_eq_false hr
        have d2 : decide (m < r) = true := decide_eq_true (by omega)
        clear h hr h3 h5
        go_enter Try.func23, Try.ntmps23
        go_wp2
        go_ret
        exact ⟨by rw [HE.out]; rfl, Below.refl _ _⟩
    · have d5 : decide (m ≤ 5) = false := decide_eq_false h5
      clear h h3 h5
      go_enter Try.func23, Try.ntmps23
      go_wp2
      go_ret
      exact ⟨by rw [HE.out]; rfl, Below.refl _ _⟩
  · have d3 : decide (3 ≤ m) = false := decide_eq_false h3
    clear h h3
    go_enter Try.func23, Try.ntmps23
    go_wp2
    go_ret
    exact ⟨by rw [HE.out]; rfl, Below.refl _ _⟩
/-- What the rounds over the regions keep. -/
def EnO (w : World) (M : Nat) (r : Int) (l : List AdT) (c i : Value) (wr : World) : Prop := ∃ k x : Nat, k ≤ M ∧ x ≤ k ∧ c = .int .i64 (x : Int) ∧ i = .int .i64 ((k : Int) + 1) ∧ x = haveN r l k ∧ Below w.heap.size w wr
/-- What the rounds over the nodes keep. -/
def EnI (w : World) (l : List AdT) (k : Nat) (c i : Value) (wr : World) : Prop := ∃ q y : Nat, q ≤ 3 ∧ y ≤ q ∧ c = .int .i64 (y : Int) ∧ i = .int .i64 ((q : Int) + 1) ∧ y = cntK l ((k + 1 : Nat) : Int) q ∧ Below w.heap.size w wr
set_option maxHeartbeats 16000000 in
theorem refEnough_in (M : Nat) (r : Int) (ad : Option Addr) (len cap : Nat) (l : List AdT) (w : World) (h : AReads w ad len cap l) (hlen : len ≤ 1000000) (hr : 3 ≤ (M : Int) ∧ (M : Int) ≤ 5 ∧ 1 ≤ r ∧ r ≤ (M : Int)) :
    Calls Try.prog 23 #[.int .i64 (M : Int), .int .i64 r, .slice ad len cap] w fun e w' => e = .returned (.bool (enoughB M r l)) ∧ Below w.heap.size w w' := by
  have H := hidk h
  have HE := hidk (enough_of (l := l) hr)
  have RG : Hid (∀ W, Calls Try.prog 39 #[.int .i64 (M : Int)] W fun e w' => e = .returned (.bool true) ∧ W = w') := fun W => by
    have := refRegions_any M W
    rwa [decide_eq_true ⟨hr.1, hr.2.1⟩] at this
  have d1 : decide (r < 1) = false := decide_eq_false (by omega)
  have d2 : decide ((M : Int) < r) = false := decide_eq_false (by omega)
  have hM : M ≤ 5 := by omega
  have hws := wrap_int ((M : Int) - 1) (by omega) (by omega)
  clear h
  go_enter Try.func23, Try.ntmps23
  go_wp2_with fail
  refine (RG.out _).mono ?_
  rintro e w2 ⟨rfl, rfl⟩
  go_wp2
  go_loopw [7, 8] (fun c i wr => EnO w M r l c i wr) (fun _ i _ => M + 1 - (intOf i).toNat)
  case atStart => exact ⟨0, 0, by omega, Nat.le_refl _, rfl, rfl, rfl, Below.refl _ _⟩
  case round =>
    obtain ⟨k, x, hk, hx, rfl, rfl, HX', HB'⟩ := hrel
    have HX := hidk HX'
    have HB := hidk HB'
    clear HX' HB'
    by_cases hlt : k < M
    · have hd : decide ((k : Int) + 1 ≤ (M : Int)) = true := decide_eq_true (by omega)
      go_wp2
      go_loopw [9, 10] (fun c i wr => EnI w l k c i wr) (fun _ i _ => 4 - (intOf i).toNat)
      case atStart => exact ⟨0, 0, by omega, Nat.le_refl _, rfl, rfl, rfl, HB.out⟩
      case round =>
        obtain ⟨q, y, hq, hy, rfl, rfl, HY', HB2'⟩ := hrel
        have HY := hidk HY'
        have HB2 := hidk HB2'
        clear HY' HB2'
        by_cases hql : q < 3
        · have hdq : decide ((q : Int) + 1 ≤ 3) = true := decide_eq_true (by omega)
          have hw1 := wrap_int ((q : Int) + 1 + 1) (by omega) (by omega)
          have hw2 := wrap_int ((y : Int) + 1) (by omega) (by omega)
          obtain ⟨b, hb⟩ : ∃ b, memA (⟨(k : Int) + 1, (q : Int) + 1⟩ : AdT) l = b := ⟨_, rfl⟩
          have IN := hidk (refIn_any ad len cap l ⟨(k : Int) + 1, (q : Int) + 1⟩ _ (H.out.keep HB2.out) hlen)
          rw [hb] at IN
          have HC : Hid (cntK l ((k + 1 : Nat) : Int) (q + 1) = y + (if b = true then 1 else 0)) := by
            show _ = _
            rw [cntK, ← HY.out, ← hb]
            simp
          clear hb
          go_wp2_with fail
          refine IN.out.mono ?_
          rintro e w2 ⟨rfl, hb2⟩
          have HB3 := hidk (HB2.out.trans (hb2.mono HB2.out.size))
          clear hb2
          cases b
          · go_wp2
            go_roundw
            case rel => exact ⟨q + 1, y, by omega, by omega, rfl, by go_num, by rw [HC.out]; simp, HB3.out⟩
            case measure => simp [intOf]; omega
          · go_wp2
            go_roundw
            case rel => exact ⟨q + 1, y + 1, by omega, by omega, by go_num, by go_num, by rw [HC.out]; simp, HB3.out⟩
            case measure => simp [intOf]; omega
        · obtain rfl : q = 3 := by omega
          have hdq : decide (((3 : Nat) : Int) + 1 ≤ 3) = false := by decide
          have hw1 := wrap_int ((k : Int) + 1 + 1) (by omega) (by omega)
          have hw2 := wrap_int ((x : Int) + 1) (by omega) (by omega)
          have HS := hidk (fun b hb => haveN_succ r l k y HY.out b hb)
          obtain ⟨P, hP⟩ : ∃ b, ((k : Int) + 1 == r) = b := ⟨_, rfl⟩
          obtain ⟨R, hR⟩ : ∃ b, decide (2 ≤ (y : Int)) = b := ⟨_, rfl⟩
          rw [show (((k + 1 : Nat) : Int)) = (k : Int) + 1 from by omega, hP, hR] at HS
          rw [← HX.out] at HS
          cases P
          · have e1 : ¬ (k : Int) + 1 = r := by simpa using hP
            have e2 : decide ((k : Int) + 1 = r) = false := decide_eq_false e1
            have e3 : (!((k : Int) + 1 == r)) = true := by rw [hP]; rfl
            cases R
            · have HN := hidk (HS.out false rfl)
              clear HS
              go_wp2
              go_roundw
              case rel => exact ⟨k + 1, x, by omega, by omega, rfl, by go_num, by rw [HN.out]; simp, HB2.out⟩
              case measure => simp [intOf]; omega
            · have HN := hidk (HS.out true rfl)
              clear HS
              go_wp2
              go_roundw
              case rel => exact ⟨k + 1, x + 1, by omega, by omega, by go_num, by go_num, by rw [HN.out]; simp, HB2.out⟩
              case measure => simp [intOf]; omega
          · have e1 : (k : Int) + 1 = r := by simpa using hP
            have e2 : decide ((k : Int) + 1 = r) = true := decide_eq_true e1
            have e3 : (!((k : Int) + 1 == r)) = false := by rw [hP]; rfl
            have HN := hidk (HS.out false rfl)
            clear HS
            go_wp2
            go_roundw
            case rel => exact ⟨k + 1, x, by omega, by omega, rfl, by go_num, by rw [HN.out]; simp, HB2.out⟩
            case measure => simp [intOf]; omega
    · obtain rfl : k = M := by omega
      have hd : decide ((k : Int) + 1 ≤ (k : Int)) = false := decide_eq_false (by omega)
      have hw1 := wrap_int (2 * (x : Int)) (by omega) (by omega)
      rw [← HX.out] at HE
      obtain ⟨R, hR⟩ : ∃ b, decide ((k : Int) - 1 < 2 * (x : Int)) = b := ⟨_, rfl⟩
      rw [hR] at HE
      go_wp2
      go_ret
      exact ⟨by rw [HE.out]; rfl, HB.out⟩
theorem refEnough_any (m r : Int) (ad : Option Addr) (len cap : Nat) (l : List AdT) (w : World) (h : AReads w ad len cap l) (hlen : len ≤ 1000000) :
    Calls Try.prog 23 #[.int .i64 m, .int .i64 r, .slice ad len cap] w fun e w' => e = .returned (.bool (enoughB m r l)) ∧ Below w.heap.size w w' := by
  by_cases hr : 3 ≤ m ∧ m ≤ 5 ∧ 1 ≤ r ∧ r ≤ m
  · obtain ⟨M, rfl⟩ : ∃ M : Nat, m = M := ⟨m.toNat, by omega⟩
    exact refEnough_in M r ad len cap l w h hlen hr
  · exact refEnough_not m r ad len cap l w hr
end Go.Proofs.Ytieklabpdalahaa

/- The document's Add. -/
namespace Go.Proofs.Ytieklabpdalahaa
open Go.RowKit Nums Sums
set_option linter.unusedVariables false
set_option linter.unusedSimpArgs false
set_option maxRecDepth 100000
/-- What is to come of the rest, an address being in or not. -/
def restA (a : AdT) (fd : Bool) (l : List AdT) : List AdT := if fd = true then l else insA a l
theorem rest_start (l : List AdT) (a : AdT) : [] ++ restA a (memA a l) (l.drop 0) = addA l a := by
  unfold restA addA
  cases memA a l <;> simp
theorem rest_in (a x : AdT) (t out : List AdT) (h : beforeA a x = true) : out ++ restA a false (x :: t) = ((out ++ [a]) ++ [x]) ++ restA a true t := by
  unfold restA
  simp [insA, h]
theorem rest_not (a x : AdT) (t out : List AdT) (h : beforeA a x = false) : out ++ restA a false (x :: t) = (out ++ [x]) ++ restA a false t := by
  unfold restA
  simp [insA, h]
theorem rest_done (a x : AdT) (t out : List AdT) : out ++ restA a true (x :: t) = (out ++ [x]) ++ restA a true t := by
  unfold restA
  simp
theorem rest_end (a : AdT) (out : List AdT) (k : Nat) (l : List AdT) (hk : l.length ≤ k) : out ++ restA a true (l.drop k) = out ∧ out ++ restA a false (l.drop k) = out ++ [a] := by
  rw [List.drop_of_length_le hk]
  unfold restA
  simp [insA]
theorem adreads_one (w : World) (a : AdT) (t : TypeId) : AReads (w.alloc (.cells #[.int .i64 a.r, .int .i64 a.n] t)) (some ⟨w.heap.size, 0, none⟩) 1 1 [a] := by
  refine ⟨rfl, Nat.le_refl _, by unfold maxLen; omega, fun x _ => trivial, .inr ⟨_, _, rfl, fun i hi => ?_⟩⟩
  obtain rfl : i = 0 := by simp at hi; omega
  exact range_two_new w _ _ t
/-- One address put behind a row of the call's own. -/
theorem append_one {w wr : World} {B n : Nat} {v : Value} {out : List AdT} (a : AdT) (ho : wr.ownsRow B 40 2 v n (adcL out)) (hB : B ≤ wr.heap.size) (hb : Below B w wr) (hn : n + 1 ≤ 1000000) :
    ∃ v' w', (Builtin.append_ #[38, 38] 38 #[v, .slice (some ⟨wr.heap.size, 0, none⟩) 1 1]).run Try.prog (wr.alloc (.cells #[.int .i64 a.r, .int .i64 a.n] 40)) = .ok v' w' ∧
      w'.ownsRow B 40 2 v' (n + 1) (adcL (out ++ [a])) ∧ Below B w w' ∧ B ≤ w'.heap.size := by
  have ho' := own_below ho ((Below.refl wr.heap.size wr).alloc (Nat.le_refl _) (.cells #[.int .i64 a.r, .int .i64 a.n] 40))
  have hs : B ≤ (wr.alloc (.cells #[.int .i64 a.r, .int .i64 a.n] 40)).heap.size := by simp; omega
  obtain ⟨v', w', hr, h1, hg⟩ := run_append_ads (adreads_one wr a 40) (fun e => by cases e) B n v out ho' hs hn
  have hb2 : Below B w w' := (hb.alloc hB _).grown hg hs (fun k e => (ho'.lt k e).1)
  exact ⟨v', w', hr, h1, hb2, Nat.le_trans hs hg.size⟩
theorem box_at {w wr : World} {x y : Value} {t : TypeId} (h : Below (w.heap.size + 1) (w.alloc (.cells #[x, y] t)) wr) : wr.rangeAt w.heap.size 0 [x, y] :=
  range_below (range_two_new w x y t) h (Nat.lt_succ_self _)
/-- What the rounds of Add keep. -/
def AdO (w : World) (l : List AdT) (a : AdT) (v d i : Value) (wr : World) : Prop := ∃ (k : Nat) (fd : Bool) (out : List AdT), k ≤ l.length ∧ i = .int .i64 (k : Int) ∧ d = .bool fd ∧ out.length ≤ k + fd.toNat ∧ out ++ restA a fd (l.drop k) = addA l a ∧
  wr.ownsRow (w.heap.size + 1) 40 2 v out.length (adcL out) ∧ Below (w.heap.size + 1) (w.alloc (.cells #[.int .i64 a.r, .int .i64 a.n] 40)) wr ∧ w.heap.size + 1 ≤ wr.heap.size
set_option maxHeartbeats 16000000 in
theorem refAdd_any (ad : Option Addr) (len cap : Nat) (l : List AdT) (a : AdT) (w : World) (h : AReads w ad len cap l) (hlen : len ≤ 900000) :
    Calls Try.prog 20 #[.slice ad len cap, .agg #[.int .i64 a.r, .int .i64 a.n]] w fun e w' => ∃ v, e = .returned v ∧ w'.ownsRow w.heap.size 40 2 v (addA l a).length (adcL (addA l a)) ∧ Below w.heap.size w w' := by
  have H := hidk h
  have hln := h.ln
  have hb0 : Below w.heap.size w (w.alloc (.cells #[.int .i64 a.r, .int .i64 a.n] 40)) := (Below.refl _ _).alloc (Nat.le_refl _) _
  have IN := hidk (refIn_any ad len cap l a _ (h.keep hb0) (by omega))
  obtain ⟨b, hb⟩ : ∃ b, memA a l = b := ⟨_, rfl⟩
  have HST := hidk (rest_start l a)
  rw [hb] at IN HST
  have HB0 := hidk hb0
  have hmx : len ≤ 9223372036854775807 := by omega
  clear h hb hb0
  go_enter Try.func20, Try.ntmps20
  go_wp2_with fail
  refine IN.out.mono ?_
  rintro e w1 ⟨rfl, hb1⟩
  have HB1 : Hid (Below (w.heap.size + 1) (w.alloc (.cells #[.int .i64 a.r, .int .i64 a.n] 40)) w1) := by
    have : (w.alloc (.cells #[.int .i64 a.r, .int .i64 a.n] 40)).heap.size = w.heap.size + 1 := by simp
    rwa [this] at hb1
  have HS1 : Hid (w.heap.size + 1 ≤ w1.heap.size) := by show _ ≤ _; have := hb1.size; simpa using this
  clear hb1 IN
  go_wp2
  go_loopw [5, 6, 7] (fun v d i wr => AdO w l a v d i wr) (fun _ _ i _ => len - (intOf i).toNat)
  case atStart => exact ⟨0, b, [], Nat.zero_le _, rfl, rfl, by simp, HST.out, ⟨rfl, .inl ⟨rfl, rfl⟩⟩, HB1.out, HS1.out⟩
  case round =>
    obtain ⟨k, fd, out, hk, rfl, rfl, hlo, hrest, hown, hbel, hsz⟩ := hrel
    have HLO := hidk hlo
    have hlo2 : out.length ≤ k + 1 := by cases fd <;> simp at hlo <;> omega
    have HO := hidk hown
    have HB := hidk hbel
    have HS := hidk hsz
    have HRE := hidk hrest
    clear hlo hown hbel hsz hrest
    by_cases hlt : k < len
    · have hd : decide ((k : Int) < (len : Int)) = true := by rw [decide_eq_true_eq]; omega
      have hw1 := wrap_int ((k : Int) + 1) (by omega) (by omega)
      have hkl : k < l.length := by omega
      obtain ⟨g, o, rfl, hg⟩ := H.out.at (by omega)
      obtain ⟨x, HX⟩ : ∃ x, Hid (x = l[k]) := ⟨_, hidk rfl⟩
      have HRX : Hid (∀ W, Below (w.heap.size + 1) (w.alloc (.cells #[.int .i64 a.r, .int .i64 a.n] 40)) W → W.rangeAt g (o + 2 * k) [.int .i64 x.r, .int .i64 x.n]) := fun W hW => by
        rw [HX.out]
        exact (H.out.keep (HB0.out.trans (hW.mono (by omega)))).range k hkl
      have ix := fun W => index_ad W g o len cap k .i64 hlt
      rw [List.drop_eq_getElem_cons hkl, ← HX.out] at HRE
      clear HX
      cases fd
      · obtain ⟨bf, hbf⟩ : ∃ b, beforeA a x = b := ⟨_, rfl⟩
        have BF : Hid (∀ W, Calls Try.prog 36 #[.agg #[.int .i64 a.r, .int .i64 a.n], .agg #[.int .i64 x.r, .int .i64 x.n]] W fun e w' => e = .returned (.bool bf) ∧ Below W.heap.size W w') := fun W => by rw [← hbf]; exact refBefore_any a x W
        cases bf
        · rw [rest_not a x _ out hbf] at HRE
          clear hbf
          go_wp2
          refine wp_region_held_drew (S := (fun W => Below (w.heap.size + 1) (w.alloc (.cells #[.int .i64 a.r, .int .i64 a.n] 40)) W)) (by kernel_rfl) HB.out.drew (fun hHeld => ?_)
          refine wpAnyH_take (i := 0) (oi := { dst := some 17, op := Op.move (Operand.tmp 6), type := 4, pos := "ref.go:78", after := #[], guard := none }) (v := .bool false) rfl (by kernel_rfl) (by kernel_rfl) (by kernel_rfl) (fun _ _ _ h => h) (Or.inl ⟨by rfl, by intro w hSw; go_simp⟩) hHeld ?_
          try simp only [Act.put, List.setIfInBounds_toArray, List.set_cons_zero, List.set_cons_succ]
          refine wpAnyH_take (i := 1) (oi := { dst := some 18, op := Op.unOp UnOp.not 4 (Operand.tmp 17), type := 4, pos := "ref.go:78", after := #[{ on := 0, ground := Ground.data }], guard := none }) (v := .bool true) rfl (by kernel_rfl) (by kernel_rfl) (by kernel_rfl) (fun _ _ _ h => h) (Or.inl ⟨by rfl, by intro w hSw; go_simp⟩) hHeld ?_
          try simp only [Act.put, List.setIfInBounds_toArray, List.set_cons_zero, List.set_cons_succ]
          refine wpAnyH_take (i := 2) (oi := { dst := some 19, op := Op.move (Operand.tmp 18), type := 4, pos := "ref.go:78", after := #[{ on := 1, ground := Ground.data }], guard := none }) (v := .bool true) rfl (by kernel_rfl) (by kernel_rfl) (by kernel_rfl) (fun _ _ _ h => h) (Or.inl ⟨by rfl, by intro w hSw; go_simp⟩) hHeld ?_
          try simp only [Act.put, List.setIfInBounds_toArray, List.set_cons_zero, List.set_cons_succ]
          refine wpAnyH_take (i := 3) (oi := { dst := some 20, op := Op.load 40 (Operand.tmp 3), type := 40, pos := "ref.go:78", after := #[{ on := 2, ground := Ground.guard }], guard := some (2, true) }) (v := .agg #[.int .i64 a.r, .int .i64 a.n]) rfl (by kernel_rfl) (by kernel_rfl) (by kernel_rfl) (fun _ _ _ h => h) (yieldsIf_mid (by rfl) 40 (.tmp 3) rfl w.heap.size 0 rfl #[.int .i64 a.r, .int .i64 a.n] _ (fun _ h => box_at h) Try.underlying40 rfl sizeA) hHeld ?_
          try simp only [Act.put, List.setIfInBounds_toArray, List.set_cons_zero, List.set_cons_succ]
          refine wpAnyH_take (i := 4) (oi := { dst := some 21, op := Op.move (Operand.tmp 0), type := 38, pos := "ref.go:78", after := #[{ on := 2, ground := Ground.guard }], guard := some (2, true) }) (v := .slice (some ⟨g, o, none⟩) len cap) rfl (by kernel_rfl) (by kernel_rfl) (by kernel_rfl) (fun _ _ _ h => h) (Or.inl ⟨by rfl, by intro w hSw; go_simp⟩) hHeld ?_
          try simp only [Act.put, List.setIfInBounds_toArray, List.set_cons_zero, List.set_cons_succ]
          refine wpAnyH_take (i := 5) (oi := { dst := some 22, op := Op.move (Operand.tmp 7), type := 3, pos := "ref.go:78", after := #[{ on := 2, ground := Ground.guard }], guard := some (2, true) }) (v := .int .i64 k) rfl (by kernel_rfl) (by kernel_rfl) (by kernel_rfl) (fun _ _ _ h => h) (Or.inl ⟨by rfl, by intro w hSw; go_simp⟩) hHeld ?_
          try simp only [Act.put, List.setIfInBounds_toArray, List.set_cons_zero, List.set_cons_succ]
          refine wpAnyH_take (i := 6) (oi := { dst := some 23, op := Op.indexAddr 38 (Operand.tmp 21) (Operand.tmp 22), type := 0, pos := "ref.go:78", after := #[{ on := 4, ground := Ground.data }, { on := 5, ground := Ground.data }, { on := 2, ground := Ground.guard }], guard := some (2, true) }) (v := .pointer (some ⟨g, o + 2 * k, none⟩)) rfl (by kernel_rfl) (by kernel_rfl) (by kernel_rfl) (fun _ _ _ h => h) (Or.inl ⟨by rfl, by intro W hSw; have := ix W; go_simp⟩) hHeld ?_
          try simp only [Act.put, List.setIfInBounds_toArray, List.set_cons_zero, List.set_cons_succ]
          refine wpAnyH_take (i := 7) (oi := { dst := some 24, op := Op.load 40 (Operand.tmp 23), type := 40, pos := "ref.go:78", after := #[{ on := 6, ground := Ground.data }, { on := 2, ground := Ground.guard }], guard := some (2, true) }) (v := .agg #[.int .i64 x.r, .int .i64 x.n]) rfl (by kernel_rfl) (by kernel_rfl) (by kernel_rfl) (fun _ _ _ h => h) (yieldsIf_mid (by rfl) 40 (.tmp 23) rfl g (o + 2 * k) rfl #[.int .i64 x.r, .int .i64 x.n] _ (fun _ h => HRX.out _ h) Try.underlying40 rfl sizeA) hHeld ?_
          try simp only [Act.put, List.setIfInBounds_toArray, List.set_cons_zero, List.set_cons_succ]
          refine wpAnyH_ready (rs := [8]) (by kernel_rfl) (by simp) ?_
          refine AllReadyH.cons (o := { dst := some 25, op := Op.call { callee := Callee.value (Operand.func 36), args := #[Operand.tmp 20, Operand.tmp 24], argTypes := #[40, 40] }, type := 4, pos := "ref.go:78", after := #[{ on := 3, ground := Ground.data }, { on := 7, ground := Ground.data }, { on := 2, ground := Ground.chain }, { on := 2, ground := Ground.guard }], guard := some (2, true) }) rfl (fun K hK => ?_) AllReadyH.nil
          go_simp
          refine (BF.out _).mono ?_
          rintro e w8 ⟨rfl, hb8⟩
          go_wp2_with fail
          refine hK.out _ _ (hHeld.trans (hb8.mono HS.out)) (fun hHeld => ?_)
          clear hK K
          try simp only [Act.put, List.setIfInBounds_toArray, List.set_cons_zero, List.set_cons_succ]
          refine wpAnyH_take (i := 9) (oi := { dst := some 26, op := Op.pick (Operand.tmp 19) (Operand.tmp 25) (Operand.const (Value.bool false)), type := 4, pos := "ref.go:78", after := #[{ on := 2, ground := Ground.data }, { on := 8, ground := Ground.data }], guard := none }) (v := .bool false) rfl (by kernel_rfl) (by kernel_rfl) (by kernel_rfl) (fun _ _ _ h => h) (Or.inl ⟨by rfl, by intro w hSw; go_simp⟩) hHeld ?_
          try simp only [Act.put, List.setIfInBounds_toArray, List.set_cons_zero, List.set_cons_succ]
          refine wpAnyH_done (by kernel_rfl) ?_ _
          replace HO := hidk (own_below HO.out (Below.trans (Below.refl _ _).drew hb8))
          replace HB := hidk hHeld
          replace HS := hidk (Nat.le_trans HS.out hb8.size)
          clear hb8
          go_wp2_with (first
            | (show wpList _ _ _ ({ dst := some 35, op := _, type := _, pos := _, after := _, guard := _ } :: _) _ _; refine wpList_mid_w (by rfl) 40 (.tmp 34) rfl g (o + 2 * k) rfl #[.int .i64 x.r, .int .i64 x.n] _ ((HRX.out _ HB.out)) Try.underlying40 rfl sizeA ?_; try simp only [Act.put, List.setIfInBounds_toArray, List.set_cons_zero, List.set_cons_succ])
            | (show wpList _ _ _ ({ dst := some 37, op := _, type := _, pos := _, after := _, guard := _ } :: _) _ _; obtain ⟨v2, w2, hr2, ho2, hb2, hs2⟩ := append_one x HO.out HS.out HB.out (by omega); refine wpList_append_run rfl (.tmp 31) (.tmp 36) 38 38 rfl _ _ v2 w2 rfl rfl hr2 ?_; clear hr2; replace HO := hidk ho2; replace HB := hidk hb2; replace HS := hidk hs2; clear ho2 hb2 hs2; try simp only [Act.put, List.setIfInBounds_toArray, List.set_cons_zero, List.set_cons_succ])
            | fail)
          go_roundw
          case rel => exact ⟨k + 1, false, out ++ [x], hkl, by go_num, rfl, by have := HLO.out; simp at this ⊢; omega, HRE.out, by simpa using HO.out, HB.out, HS.out⟩
          case measure => simp [intOf]; omega
        · rw [rest_in a x _ out hbf] at HRE
          clear hbf
          go_wp2
          refine wp_region_held_drew (S := (fun W => Below (w.heap.size + 1) (w.alloc (.cells #[.int .i64 a.r, .int .i64 a.n] 40)) W)) (by kernel_rfl) HB.out.drew (fun hHeld => ?_)
          refine wpAnyH_take (i := 0) (oi := { dst := some 17, op := Op.move (Operand.tmp 6), type := 4, pos := "ref.go:78", after := #[], guard := none }) (v := .bool false) rfl (by kernel_rfl) (by kernel_rfl) (by kernel_rfl) (fun _ _ _ h => h) (Or.inl ⟨by rfl, by intro w hSw; go_simp⟩) hHeld ?_
          try simp only [Act.put, List.setIfInBounds_toArray, List.set_cons_zero, List.set_cons_succ]
          refine wpAnyH_take (i := 1) (oi := { dst := some 18, op := Op.unOp UnOp.not 4 (Operand.tmp 17), type := 4, pos := "ref.go:78", after := #[{ on := 0, ground := Ground.data }], guard := none }) (v := .bool true) rfl (by kernel_rfl) (by kernel_rfl) (by kernel_rfl) (fun _ _ _ h => h) (Or.inl ⟨by rfl, by intro w hSw; go_simp⟩) hHeld ?_
          try simp only [Act.put, List.setIfInBounds_toArray, List.set_cons_zero, List.set_cons_succ]
          refine wpAnyH_take (i := 2) (oi := { dst := some 19, op := Op.move (Operand.tmp 18), type := 4, pos := "ref.go:78", after := #[{ on := 1, ground := Ground.data }], guard := none }) (v := .bool true) rfl (by kernel_rfl) (by kernel_rfl) (by kernel_rfl) (fun _ _ _ h => h) (Or.inl ⟨by rfl, by intro w hSw; go_simp⟩) hHeld ?_
          try simp only [Act.put, List.setIfInBounds_toArray, List.set_cons_zero, List.set_cons_succ]
          refine wpAnyH_take (i := 3) (oi := { dst := some 20, op := Op.load 40 (Operand.tmp 3), type := 40, pos := "ref.go:78", after := #[{ on := 2, ground := Ground.guard }], guard := some (2, true) }) (v := .agg #[.int .i64 a.r, .int .i64 a.n]) rfl (by kernel_rfl) (by kernel_rfl) (by kernel_rfl) (fun _ _ _ h => h) (yieldsIf_mid (by rfl) 40 (.tmp 3) rfl w.heap.size 0 rfl #[.int .i64 a.r, .int .i64 a.n] _ (fun _ h => box_at h) Try.underlying40 rfl sizeA) hHeld ?_
          try simp only [Act.put, List.setIfInBounds_toArray, List.set_cons_zero, List.set_cons_succ]
          refine wpAnyH_take (i := 4) (oi := { dst := some 21, op := Op.move (Operand.tmp 0), type := 38, pos := "ref.go:78", after := #[{ on := 2, ground := Ground.guard }], guard := some (2, true) }) (v := .slice (some ⟨g, o, none⟩) len cap) rfl (by kernel_rfl) (by kernel_rfl) (by kernel_rfl) (fun _ _ _ h => h) (Or.inl ⟨by rfl, by intro w hSw; go_simp⟩) hHeld ?_
          try simp only [Act.put, List.setIfInBounds_toArray, List.set_cons_zero, List.set_cons_succ]
          refine wpAnyH_take (i := 5) (oi := { dst := some 22, op := Op.move (Operand.tmp 7), type := 3, pos := "ref.go:78", after := #[{ on := 2, ground := Ground.guard }], guard := some (2, true) }) (v := .int .i64 k) rfl (by kernel_rfl) (by kernel_rfl) (by kernel_rfl) (fun _ _ _ h => h) (Or.inl ⟨by rfl, by intro w hSw; go_simp⟩) hHeld ?_
          try simp only [Act.put, List.setIfInBounds_toArray, List.set_cons_zero, List.set_cons_succ]
          refine wpAnyH_take (i := 6) (oi := { dst := some 23, op := Op.indexAddr 38 (Operand.tmp 21) (Operand.tmp 22), type := 0, pos := "ref.go:78", after := #[{ on := 4, ground := Ground.data }, { on := 5, ground := Ground.data }, { on := 2, ground := Ground.guard }], guard := some (2, true) }) (v := .pointer (some ⟨g, o + 2 * k, none⟩)) rfl (by kernel_rfl) (by kernel_rfl) (by kernel_rfl) (fun _ _ _ h => h) (Or.inl ⟨by rfl, by intro W hSw; have := ix W; go_simp⟩) hHeld ?_
          try simp only [Act.put, List.setIfInBounds_toArray, List.set_cons_zero, List.set_cons_succ]
          refine wpAnyH_take (i := 7) (oi := { dst := some 24, op := Op.load 40 (Operand.tmp 23), type := 40, pos := "ref.go:78", after := #[{ on := 6, ground := Ground.data }, { on := 2, ground := Ground.guard }], guard := some (2, true) }) (v := .agg #[.int .i64 x.r, .int .i64 x.n]) rfl (by kernel_rfl) (by kernel_rfl) (by kernel_rfl) (fun _ _ _ h => h) (yieldsIf_mid (by rfl) 40 (.tmp 23) rfl g (o + 2 * k) rfl #[.int .i64 x.r, .int .i64 x.n] _ (fun _ h => HRX.out _ h) Try.underlying40 rfl sizeA) hHeld ?_
          try simp only [Act.put, List.setIfInBounds_toArray, List.set_cons_zero, List.set_cons_succ]
          refine wpAnyH_ready (rs := [8]) (by kernel_rfl) (by simp) ?_
          refine AllReadyH.cons (o := { dst := some 25, op := Op.call { callee := Callee.value (Operand.func 36), args := #[Operand.tmp 20, Operand.tmp 24], argTypes := #[40, 40] }, type := 4, pos := "ref.go:78", after := #[{ on := 3, ground := Ground.data }, { on := 7, ground := Ground.data }, { on := 2, ground := Ground.chain }, { on := 2, ground := Ground.guard }], guard := some (2, true) }) rfl (fun K hK => ?_) AllReadyH.nil
          go_simp
          refine (BF.out _).mono ?_
          rintro e w8 ⟨rfl, hb8⟩
          go_wp2_with fail
          refine hK.out _ _ (hHeld.trans (hb8.mono HS.out)) (fun hHeld => ?_)
          clear hK K
          try simp only [Act.put, List.setIfInBounds_toArray, List.set_cons_zero, List.set_cons_succ]
          refine wpAnyH_take (i := 9) (oi := { dst := some 26, op := Op.pick (Operand.tmp 19) (Operand.tmp 25) (Operand.const (Value.bool false)), type := 4, pos := "ref.go:78", after := #[{ on := 2, ground := Ground.data }, { on := 8, ground := Ground.data }], guard := none }) (v := .bool true) rfl (by kernel_rfl) (by kernel_rfl) (by kernel_rfl) (fun _ _ _ h => h) (Or.inl ⟨by rfl, by intro w hSw; go_simp⟩) hHeld ?_
          try simp only [Act.put, List.setIfInBounds_toArray, List.set_cons_zero, List.set_cons_succ]
          refine wpAnyH_done (by kernel_rfl) ?_ _
          replace HO := hidk (own_below HO.out (Below.trans (Below.refl _ _).drew hb8))
          replace HB := hidk hHeld
          replace HS := hidk (Nat.le_trans HS.out hb8.size)
          clear hb8
          go_wp2_with (first
            | (show wpList _ _ _ ({ dst := some 28, op := _, type := _, pos := _, after := _, guard := _ } :: _) _ _; refine wpList_mid_w (by rfl) 40 (.tmp 3) rfl w.heap.size 0 rfl #[.int .i64 a.r, .int .i64 a.n] _ (box_at HB.out) Try.underlying40 rfl sizeA ?_; try simp only [Act.put, List.setIfInBounds_toArray, List.set_cons_zero, List.set_cons_succ])
            | (show wpList _ _ _ ({ dst := some 30, op := _, type := _, pos := _, after := _, guard := _ } :: _) _ _; obtain ⟨v2, w2, hr2, ho2, hb2, hs2⟩ := append_one a HO.out HS.out HB.out (by omega); refine wpList_append_run rfl (.tmp 27) (.tmp 29) 38 38 rfl _ _ v2 w2 rfl rfl hr2 ?_; clear hr2; replace HO := hidk ho2; replace HB := hidk hb2; replace HS := hidk hs2; clear ho2 hb2 hs2; try simp only [Act.put, List.setIfInBounds_toArray, List.set_cons_zero, List.set_cons_succ])
            | (show wpList _ _ _ ({ dst := some 35, op := _, type := _, pos := _, after := _, guard := _ } :: _) _ _; refine wpList_mid_w (by rfl) 40 (.tmp 34) rfl g (o + 2 * k) rfl #[.int .i64 x.r, .int .i64 x.n] _ ((HRX.out _ HB.out)) Try.underlying40 rfl sizeA ?_; try simp only [Act.put, List.setIfInBounds_toArray, List.set_cons_zero, List.set_cons_succ])
            | (show wpList _ _ _ ({ dst := some 37, op := _, type := _, pos := _, after := _, guard := _ } :: _) _ _; obtain ⟨v2, w2, hr2, ho2, hb2, hs2⟩ := append_one x HO.out HS.out HB.out (by omega); refine wpList_append_run rfl (.tmp 31) (.tmp 36) 38 38 rfl _ _ v2 w2 rfl rfl hr2 ?_; clear hr2; replace HO := hidk ho2; replace HB := hidk hb2; replace HS := hidk hs2; clear ho2 hb2 hs2; try simp only [Act.put, List.setIfInBounds_toArray, List.set_cons_zero, List.set_cons_succ])
            | fail)
          go_roundw
          case rel => exact ⟨k + 1, true, (out ++ [a]) ++ [x], hkl, by go_num, rfl, by have := HLO.out; simp at this ⊢; omega, HRE.out, by simpa using HO.out, HB.out, HS.out⟩
          case measure => simp [intOf]; omega
      · rw [rest_done a x _ out] at HRE
        go_wp2
        refine wp_region_held_drew (S := (fun W => True)) (by kernel_rfl) trivial (fun hHeld => ?_)
        refine wpAnyH_take (i := 0) (oi := { dst := some 17, op := Op.move (Operand.tmp 6), type := 4, pos := "ref.go:78", after := #[], guard := none }) (v := .bool true) rfl (by kernel_rfl) (by kernel_rfl) (by kernel_rfl) (fun _ _ _ h => h) (Or.inl ⟨by rfl, by intro w hSw; go_simp⟩) hHeld ?_
        try simp only [Act.put, List.setIfInBounds_toArray, List.set_cons_zero, List.set_cons_succ]
        refine wpAnyH_take (i := 1) (oi := { dst := some 18, op := Op.unOp UnOp.not 4 (Operand.tmp 17), type := 4, pos := "ref.go:78", after := #[{ on := 0, ground := Ground.data }], guard := none }) (v := .bool false) rfl (by kernel_rfl) (by kernel_rfl) (by kernel_rfl) (fun _ _ _ h => h) (Or.inl ⟨by rfl, by intro w hSw; go_simp⟩) hHeld ?_
        try simp only [Act.put, List.setIfInBounds_toArray, List.set_cons_zero, List.set_cons_succ]
        refine wpAnyH_take (i := 2) (oi := { dst := some 19, op := Op.move (Operand.tmp 18), type := 4, pos := "ref.go:78", after := #[{ on := 1, ground := Ground.data }], guard := none }) (v := .bool false) rfl (by kernel_rfl) (by kernel_rfl) (by kernel_rfl) (fun _ _ _ h => h) (Or.inl ⟨by rfl, by intro w hSw; go_simp⟩) hHeld ?_
        try simp only [Act.put, List.setIfInBounds_toArray, List.set_cons_zero, List.set_cons_succ]
        refine wpAnyH_take (i := 3) (oi := { dst := some 20, op := Op.load 40 (Operand.tmp 3), type := 40, pos := "ref.go:78", after := #[{ on := 2, ground := Ground.guard }], guard := some (2, true) }) (v := undef) rfl (by kernel_rfl) (by kernel_rfl) (by kernel_rfl) (fun _ _ _ h => h) (Or.inr ⟨by rfl, rfl⟩) hHeld ?_
        try simp only [Act.put, List.setIfInBounds_toArray, List.set_cons_zero, List.set_cons_succ]
        refine wpAnyH_take (i := 4) (oi := { dst := some 21, op := Op.move (Operand.tmp 0), type := 38, pos := "ref.go:78", after := #[{ on := 2, ground := Ground.guard }], guard := some (2, true) }) (v := undef) rfl (by kernel_rfl) (by kernel_rfl) (by kernel_rfl) (fun _ _ _ h => h) (Or.inr ⟨by rfl, rfl⟩) hHeld ?_
        try simp only [Act.put, List.setIfInBounds_toArray, List.set_cons_zero, List.set_cons_succ]
        refine wpAnyH_take (i := 5) (oi := { dst := some 22, op := Op.move (Operand.tmp 7), type := 3, pos := "ref.go:78", after := #[{ on := 2, ground := Ground.guard }], guard := some (2, true) }) (v := undef) rfl (by kernel_rfl) (by kernel_rfl) (by kernel_rfl) (fun _ _ _ h => h) (Or.inr ⟨by rfl, rfl⟩) hHeld ?_
        try simp only [Act.put, List.setIfInBounds_toArray, List.set_cons_zero, List.set_cons_succ]
        refine wpAnyH_take (i := 6) (oi := { dst := some 23, op := Op.indexAddr 38 (Operand.tmp 21) (Operand.tmp 22), type := 0, pos := "ref.go:78", after := #[{ on := 4, ground := Ground.data }, { on := 5, ground := Ground.data }, { on := 2, ground := Ground.guard }], guard := some (2, true) }) (v := undef) rfl (by kernel_rfl) (by kernel_rfl) (by kernel_rfl) (fun _ _ _ h => h) (Or.inr ⟨by rfl, rfl⟩) hHeld ?_
        try simp only [Act.put, List.setIfInBounds_toArray, List.set_cons_zero, List.set_cons_succ]
        refine wpAnyH_take (i := 7) (oi := { dst := some 24, op := Op.load 40 (Operand.tmp 23), type := 40, pos := "ref.go:78", after := #[{ on := 6, ground := Ground.data }, { on := 2, ground := Ground.guard }], guard := some (2, true) }) (v := undef) rfl (by kernel_rfl) (by kernel_rfl) (by kernel_rfl) (fun _ _ _ h => h) (Or.inr ⟨by rfl, rfl⟩) hHeld ?_
        try simp only [Act.put, List.setIfInBounds_toArray, List.set_cons_zero, List.set_cons_succ]
        refine wpAnyH_take (i := 8) (oi := { dst := some 25, op := Op.call { callee := Callee.value (Operand.func 36), args := #[Operand.tmp 20, Operand.tmp 24], argTypes := #[40, 40] }, type := 4, pos := "ref.go:78", after := #[{ on := 3, ground := Ground.data }, { on := 7, ground := Ground.data }, { on := 2, ground := Ground.chain }, { on := 2, ground := Ground.guard }], guard := some (2, true) }) (v := undef) rfl (by kernel_rfl) (by kernel_rfl) (by kernel_rfl) (fun _ _ _ h => h) (Or.inr ⟨by rfl, rfl⟩) hHeld ?_
        try simp only [Act.put, List.setIfInBounds_toArray, List.set_cons_zero, List.set_cons_succ]
        refine wpAnyH_take (i := 9) (oi := { dst := some 26, op := Op.pick (Operand.tmp 19) (Operand.tmp 25) (Operand.const (Value.bool false)), type := 4, pos := "ref.go:78", after := #[{ on := 2, ground := Ground.data }, { on := 8, ground := Ground.data }], guard := none }) (v := .bool false) rfl (by kernel_rfl) (by kernel_rfl) (by kernel_rfl) (fun _ _ _ h => h) (Or.inl ⟨by rfl, by intro w hSw; go_simp⟩) hHeld ?_
        try simp only [Act.put, List.setIfInBounds_toArray, List.set_cons_zero, List.set_cons_succ]
        refine wpAnyH_done (by kernel_rfl) ?_ _
        replace HO := hidk (own_below HO.out (Below.refl _ _).drew)
        replace HB := hidk HB.out.drew
        go_wp2_with (first
          | (show wpList _ _ _ ({ dst := some 35, op := _, type := _, pos := _, after := _, guard := _ } :: _) _ _; refine wpList_mid_w (by rfl) 40 (.tmp 34) rfl g (o + 2 * k) rfl #[.int .i64 x.r, .int .i64 x.n] _ ((HRX.out _ HB.out)) Try.underlying40 rfl sizeA ?_; try simp only [Act.put, List.setIfInBounds_toArray, List.set_cons_zero, List.set_cons_succ])
          | (show wpList _ _ _ ({ dst := some 37, op := _, type := _, pos := _, after := _, guard := _ } :: _) _ _; obtain ⟨v2, w2, hr2, ho2, hb2, hs2⟩ := append_one x HO.out HS.out HB.out (by omega); refine wpList_append_run rfl (.tmp 31) (.tmp 36) 38 38 rfl _ _ v2 w2 rfl rfl hr2 ?_; clear hr2; replace HO := hidk ho2; replace HB := hidk hb2; replace HS := hidk hs2; clear ho2 hb2 hs2; try simp only [Act.put, List.setIfInBounds_toArray, List.set_cons_zero, List.set_cons_succ])
          | fail)
        go_roundw
        case rel => exact ⟨k + 1, true, out ++ [x], hkl, by go_num, rfl, by have := HLO.out; simp at this ⊢; omega, HRE.out, by simpa using HO.out, HB.out, HS.out⟩
        case measure => simp [intOf]; omega
    · have hd : decide ((k : Int) < (len : Int)) = false := by rw [decide_eq_false_iff_not]; omega
      have HEN := hidk (rest_end a out k l (by omega))
      cases fd
      · rw [HEN.out.2] at HRE
        go_wp2_with (first
          | (show wpList _ _ _ ({ dst := some 41, op := _, type := _, pos := _, after := _, guard := _ } :: _) _ _; refine wpList_mid_w (by rfl) 40 (.tmp 3) rfl w.heap.size 0 rfl #[.int .i64 a.r, .int .i64 a.n] _ (box_at HB.out) Try.underlying40 rfl sizeA ?_; try simp only [Act.put, List.setIfInBounds_toArray, List.set_cons_zero, List.set_cons_succ])
          | (show wpList _ _ _ ({ dst := some 43, op := _, type := _, pos := _, after := _, guard := _ } :: _) _ _; obtain ⟨v2, w2, hr2, ho2, hb2, hs2⟩ := append_one a HO.out HS.out HB.out (by omega); refine wpList_append_run rfl (.tmp 40) (.tmp 42) 38 38 rfl _ _ v2 w2 rfl rfl hr2 ?_; clear hr2; replace HO := hidk ho2; replace HB := hidk hb2; replace HS := hidk hs2; clear ho2 hb2 hs2; try simp only [Act.put, List.setIfInBounds_toArray, List.set_cons_zero, List.set_cons_succ])
          | fail)
        go_ret
        exact ⟨_, rfl, by rw [← HRE.out]; exact own_lower (by simpa using HO.out) (Nat.le_succ _), HB0.out.trans (HB.out.mono (Nat.le_succ _))⟩
      · rw [HEN.out.1] at HRE
        go_wp2
        go_ret
        exact ⟨_, rfl, by rw [← HRE.out]; exact own_lower HO.out (Nat.le_succ _), HB0.out.trans (HB.out.mono (Nat.le_succ _))⟩
end Go.Proofs.Ytieklabpdalahaa

/- What the document's RightClaim, ClaimBytes and PutClaim answer. -/
namespace Go.Proofs.Ytieklabpdalahaa
open Go.RowKit Sums Nums
set_option linter.unusedVariables false
set_option linter.unusedSimpArgs false
set_option maxRecDepth 100000
/-- What the parts of a claim's row read as. -/
structure CRow (W : World) (g o : Nat) (c : ClT) : Prop where
  r : W.cell? ⟨g, o, none⟩ = some (.int .i64 c.r)
  e : W.cell? ⟨g, o + 1, none⟩ = some (.int .i64 c.e)
  n : W.cell? ⟨g, o + 2, none⟩ = some (.int .i64 c.n)
  s : W.cell? ⟨g, o + 3, none⟩ = some (.int .i64 c.s)
  d : W.rangeAt g (o + 4) (cellsOf c.d)
theorem CRow.keep {W W' : World} {g o : Nat} {c : ClT} (h : CRow W g o c) (hb : Below W.heap.size W W') : CRow W' g o c := by
  have hg : g < W.heap.size := World.block_lt_of_cell? _ _ h.r
  exact ⟨(hb.cell hg).trans h.r, (hb.cell hg).trans h.e, (hb.cell hg).trans h.n, (hb.cell hg).trans h.s, range_keep hb h.d⟩
end Go.Proofs.Ytieklabpdalahaa

/- The document's own answers on claims: does one stand ahead of another. -/
namespace Go.Proofs.Ytieklabpdalahaa
open Go.RowKit Nums Sums
set_option linter.unusedVariables false
set_option linter.unusedSimpArgs false
set_option maxRecDepth 100000

end Go.Proofs.Ytieklabpdalahaa

/- The library's cmp, and the two orders of the program's claims. -/
namespace Go.Proofs.Ytieklabpdalahaa
open Go.RowKit Nums Sums
set_option linter.unusedVariables false
set_option linter.unusedSimpArgs false
set_option maxRecDepth 100000
/-- What cmp.Compare tells. -/
def cmpI (x y : Int) : Int := if x < y then -1 else if y < x then 1 else 0
/-- What cmp.Or tells of two. -/
def orI (a b : Int) : Int := if a = 0 then b else a
theorem isNaN_any (x : Int) (w : World) : Calls Try.prog 55 #[.int .i64 x] w fun e w' => e = .returned (.bool false) ∧ w = w' := by
  have h : (!(x == x)) = false := by simp
  go_enter Try.func55, Try.ntmps55
  go_wp2
  go_ret
  exact ⟨rfl, rfl⟩
theorem compare_any (x y : Int) (w : World) : Calls Try.prog 43 #[.int .i64 x, .int .i64 y] w fun e w' => e = .returned (.int .i64 (cmpI x y)) ∧ w = w' := by
  have N1 := hidk (isNaN_any x w)
  have N2 := hidk (isNaN_any y w)
  obtain ⟨P, hP⟩ : ∃ b, decide (x < y) = b := ⟨_, rfl⟩
  obtain ⟨Q, hQ⟩ : ∃ b, decide (y < x) = b := ⟨_, rfl⟩
  have HE : Hid (cmpI x y = if P = true then -1 else if Q = true then 1 else 0) := by
    show _ = _
    unfold cmpI
    rw [← hP, ← hQ]
    simp only [decide_eq_true_eq]
  go_enter Try.func43, Try.ntmps43
  go_wp2_with fail
  refine N1.out.mono ?_
  rintro e w1 ⟨rfl, rfl⟩
  go_wp2_with fail
  refine N2.out.mono ?_
  rintro e w1 ⟨rfl, rfl⟩
  cases P
  · cases Q
    · go_wp2
      go_ret
      exact ⟨by rw [HE.out]; rfl, rfl⟩
    · go_wp2
      go_ret
      exact ⟨by rw [HE.out]; rfl, rfl⟩
  · go_wp2
    go_ret
    exact ⟨by rw [HE.out]; rfl, rfl⟩
theorem or_any (g : Nat) (a b : Int) (w : World) (h0 : w.cell? ⟨g, 0, none⟩ = some (.int .i64 a)) (h1 : w.cell? ⟨g, 1, none⟩ = some (.int .i64 b)) :
    Calls Try.prog 42 #[.slice (some ⟨g, 0, none⟩) 2 2] w fun e w' => e = .returned (.int .i64 (orI a b)) ∧ w = w' := by
  by_cases ha : a = 0
  · by_cases hb : b = 0
    · have HE : Hid (orI a b = 0) := by show _ = _; unfold orI; rw [if_pos ha, hb]
      subst ha
      subst hb
      go_enter Try.func42, Try.ntmps42
      go_wp2
      go_loop [5, 8] (fun x i => ∃ k : Nat, k ≤ 2 ∧ i = .int .i64 k) (fun _ i => 2 - (intOf i).toNat)
      case atStart => exact ⟨0, by omega, rfl⟩
      case round =>
        obtain ⟨k, hk, rfl⟩ := hrel
        obtain rfl | rfl | rfl : k = 0 ∨ k = 1 ∨ k = 2 := by omega
        · go_wp2
          go_round
          case rel => exact ⟨1, by omega, rfl⟩
          case measure => simp [intOf]
        · go_wp2
          go_round
          case rel => exact ⟨2, by omega, rfl⟩
          case measure => simp [intOf]
        · go_wp2
          go_ret
          exact ⟨by rw [HE.out]; rfl, rfl⟩
    · have HE : Hid (orI a b = b) := by show _ = _; unfold orI; rw [if_pos ha]
      have hn : (!(b == 0)) = true := by simp [hb]
      subst ha
      go_enter Try.func42, Try.ntmps42
      go_wp2
      go_loop [5, 8] (fun x i => ∃ k : Nat, k ≤ 1 ∧ i = .int .i64 k) (fun _ i => 2 - (intOf i).toNat)
      case atStart => exact ⟨0, by omega, rfl⟩
      case round =>
        obtain ⟨k, hk, rfl⟩ := hrel
        obtain rfl | rfl : k = 0 ∨ k = 1 := by omega
        · go_wp2
          go_round
          case rel => exact ⟨1, by omega, rfl⟩
          case measure => simp [intOf]
        · go_wp2
          go_ret
          exact ⟨by rw [HE.out]; rfl, rfl⟩
  · have HE : Hid (orI a b = a) := by show _ = _; unfold orI; rw [if_neg ha]
    have hn : (!(a == 0)) = true := by simp [ha]
    go_enter Try.func42, Try.ntmps42
    go_wp2
    go_loop [5, 8] (fun x i => i = .int .i64 0) (fun _ i => 2 - (intOf i).toNat)
    case atStart => exact rfl
    case round =>
      obtain rfl := hrel
      go_wp2
      go_ret
      exact ⟨by rw [HE.out]; rfl, rfl⟩
end Go.Proofs.Ytieklabpdalahaa

/- What the document's GetClaim answers. -/
namespace Go.Proofs.Ytieklabpdalahaa
open Go.RowKit Sums Nums
set_option linter.unusedVariables false
set_option linter.unusedSimpArgs false
set_option maxRecDepth 100000

end Go.Proofs.Ytieklabpdalahaa

/- The document's Find of claims. -/
namespace Go.Proofs.Ytieklabpdalahaa
open Go.RowKit Nums Sums
set_option linter.unusedVariables false
set_option linter.unusedSimpArgs false
set_option maxRecDepth 100000

end Go.Proofs.Ytieklabpdalahaa
