/- Texts of our own that the row of ClaimsOne leans on, part 25. -/
import Derived.Test.YtieklabpdalahaaClaimsOneJ15
import Derived.Test.YtieklabpdalahaaClaimsOneJ20
import Derived.Test.YtieklabpdalahaaClaimsOneJ23
import Derived.Test.YtieklabpdalahaaClaimsOneJ24

/- What the calls of package head answer, as the document says (their proofs are of one commit of the code). -/
namespace Go.Proofs.Ytieklabpdalahaa
open Go.RowKit Sums Nums
set_option linter.unusedVariables false
set_option linter.unusedSimpArgs false
set_option maxRecDepth 100000

end Go.Proofs.Ytieklabpdalahaa

/- Claims, entries and items in memory, and held against each other by == and !=. -/
namespace Go.Proofs.Ytieklabpdalahaa
open Go.RowKit Sums Nums
set_option linter.unusedVariables false
set_option linter.unusedSimpArgs false
set_option maxRecDepth 100000
/-! What lies in memory. -/
def ccells (c : ClT) : List Value := [.int .i64 c.r, .int .i64 c.e, .int .i64 c.n, .int .i64 c.s] ++ cellsOf c.d
theorem ccells_length (c : ClT) (hd : c.d.length = 32) : (ccells c).length = 36 := by simp [ccells, cellsOf_length, hd]
theorem heldC : Try.prog.stoodInHeld 26 = false := by kernel_rfl
theorem sizeC : (Try.prog.info? 26).map (·.size) = some 36 := by kernel_rfl
theorem sizeOf_of {t : TypeId} {n : Nat} (h : (Try.prog.info? t).map (·.size) = some n) (w : World) : (sizeOf t).run Try.prog w = .ok n w := by
  cases hq : Try.prog.info? t with
  | none => simp [hq] at h
  | some i => simp [hq] at h; simp [sizeOf, typeInfo, hq, h]
theorem ccells_d (c : ClT) (hd : c.d.length = 32) : ((ccells c).drop 4).take 32 = cellsOf c.d := by
  show (cellsOf c.d).take 32 = _
  rw [List.take_of_length_le (by rw [cellsOf_length, hd]; omega)]
theorem equalClaim (d : Nat) (a b : ClT) (ha : a.d.length = 32) (hb : b.d.length = 32) (x : Bool) (hx : x = true ↔ a = b) (w : World) : (Op.equalIn (d + 4) 26 (.agg (ccells a).toArray) (.agg (ccells b).toArray)).run Try.prog w = .ok x w := by
  have hf : Try.prog.fieldsOf 26 = #[{ name := "Region", type := 3, offset := 0, embedded := false, tag := "", pkgPath := "", byteOffset := 0 }, { name := "Epoch", type := 3, offset := 1, embedded := false, tag := "", pkgPath := "", byteOffset := 8 }, { name := "Node", type := 3, offset := 2, embedded := false, tag := "", pkgPath := "", byteOffset := 16 }, { name := "Size", type := 3, offset := 3, embedded := false, tag := "", pkgPath := "", byteOffset := 24 }, { name := "Root", type := 24, offset := 4, embedded := false, tag := "", pkgPath := "", byteOffset := 32 }] := by
    unfold Program.fieldsOf; rw [Try.underlying26]
  have p0a := fun W => part_int (ccells a) 0 (.int .i64 a.r) rfl W
  have p0b := fun W => part_int (ccells b) 0 (.int .i64 b.r) rfl W
  have x0 := fun W => run_equalIn_int (P := Try.prog) W (d + 2) 3 .i64 .i64 a.r b.r Try.underlying3
  obtain ⟨b0, h0⟩ : ∃ x, (a.r == b.r) = x := ⟨_, rfl⟩
  rw [h0] at x0
  have p1a := fun W => part_int (ccells a) 1 (.int .i64 a.e) rfl W
  have p1b := fun W => part_int (ccells b) 1 (.int .i64 b.e) rfl W
  have x1 := fun W => run_equalIn_int (P := Try.prog) W (d + 2) 3 .i64 .i64 a.e b.e Try.underlying3
  obtain ⟨b1, h1⟩ : ∃ x, (a.e == b.e) = x := ⟨_, rfl⟩
  rw [h1] at x1
  have p2a := fun W => part_int (ccells a) 2 (.int .i64 a.n) rfl W
  have p2b := fun W => part_int (ccells b) 2 (.int .i64 b.n) rfl W
  have x2 := fun W => run_equalIn_int (P := Try.prog) W (d + 2) 3 .i64 .i64 a.n b.n Try.underlying3
  obtain ⟨b2, h2⟩ : ∃ x, (a.n == b.n) = x := ⟨_, rfl⟩
  rw [h2] at x2
  have p3a := fun W => part_int (ccells a) 3 (.int .i64 a.s) rfl W
  have p3b := fun W => part_int (ccells b) 3 (.int .i64 b.s) rfl W
  have x3 := fun W => run_equalIn_int (P := Try.prog) W (d + 2) 3 .i64 .i64 a.s b.s Try.underlying3
  obtain ⟨b3, h3⟩ : ∃ x, (a.s == b.s) = x := ⟨_, rfl⟩
  rw [h3] at x3
  have p4a := fun W => part_dig (ccells a) 4 _ (ccells_d a ha) W
  have p4b := fun W => part_dig (ccells b) 4 _ (ccells_d b hb) W
  have x4 : ∀ W, (Op.equalIn (d + 3) 24 (.agg (cellsOf a.d).toArray) (.agg (cellsOf b.d).toArray)).run Try.prog W = .ok (a.d == b.d) W := fun W => run_equalIn_bytes (P := Try.prog) W (d + 1) 24 5 32 Try.underlying24 Try.underlying5 sizeOf5 a.d b.d ha hb
  obtain ⟨b4, h4⟩ : ∃ x, (a.d == b.d) = x := ⟨_, rfl⟩
  rw [h4] at x4
  rw [run_equalIn_struct w (d + 3) 26 _ _ (by rw [hf]; exact Try.underlying26) heldC, hf]
  have hq : x = (b0 && b1 && b2 && b3 && b4) := by
    rw [Bool.eq_iff_iff, hx]
    simp only [Bool.and_eq_true]
    rw [← h0, ← h1, ← h2, ← h3, ← h4]
    simp only [beq_iff_eq]
    constructor
    · rintro rfl; simp
    · rintro ⟨⟨⟨⟨e0, e1⟩, e2⟩, e3⟩, e4⟩
      cases a; cases b
      simp only at e0 e1 e2 e3 e4
      rw [e0, e1, e2, e3, e4]
  rw [hq]
  obtain ⟨A, hA⟩ : ∃ A, (ccells a).toArray = A := ⟨_, rfl⟩
  obtain ⟨B, hB⟩ : ∃ B, (ccells b).toArray = B := ⟨_, rfl⟩
  rw [hA] at p0a p1a p2a p3a p4a
  rw [hB] at p0b p1b p2b p3b p4b
  rw [hA, hB]
  obtain ⟨D4, hD4⟩ : ∃ D, (cellsOf a.d).toArray = D := ⟨_, rfl⟩
  obtain ⟨E4, hE4⟩ : ∃ D, (cellsOf b.d).toArray = D := ⟨_, rfl⟩
  rw [hD4] at p4a x4
  rw [hE4] at p4b x4
  simp [Op.eqFields, p0a, p0b, x0, p1a, p1b, x1, p2a, p2b, x2, p3a, p3b, x3, p4a, p4b, x4]
  cases b0 <;> cases b1 <;> cases b2 <;> cases b3 <;> cases b4 <;> simp
theorem eqClaim (a b : ClT) (ha : a.d.length = 32) (hb : b.d.length = 32) (A B : Array Value) (HA : Hid (A = (ccells a).toArray)) (HB : Hid (B = (ccells b).toArray)) (x : Bool) (hx : x = true ↔ a = b) (w : World) : (binOp .eql 26 (.agg A) (.agg B)).run Try.prog w = .ok (.bool x) w := by
  rw [run_eql_struct, HA.out, HB.out, show (10000 : Nat) = 9996 + 4 from rfl, equalClaim 9996 a b ha hb x hx]; rfl
theorem neqClaim (a b : ClT) (ha : a.d.length = 32) (hb : b.d.length = 32) (A B : Array Value) (HA : Hid (A = (ccells a).toArray)) (HB : Hid (B = (ccells b).toArray)) (x : Bool) (hx : x = false ↔ a = b) (w : World) : (binOp .neq 26 (.agg A) (.agg B)).run Try.prog w = .ok (.bool x) w := by
  rw [run_neq_struct, HA.out, HB.out, show (10000 : Nat) = 9996 + 4 from rfl, equalClaim 9996 a b ha hb (!x) (by rw [← hx]; simp)]; simp
end Go.Proofs.Ytieklabpdalahaa

/- Slices of claims in memory. -/
namespace Go.Proofs.Ytieklabpdalahaa
open Go.RowKit Nums Sums
set_option linter.unusedVariables false
set_option linter.unusedSimpArgs false
set_option maxRecDepth 100000
def OkC (c : ClT) : Prop := c.d.length = 32
/-- A slice that reads as these Clis. -/
structure CReads (w : World) (a : Option Addr) (len cap : Nat) (l : List ClT) : Prop where
  ln : l.length = len
  cp : len ≤ cap
  mx : len ≤ maxLen
  ok : ∀ x ∈ l, OkC x
  lies : len = 0 ∨ ∃ g o, a = some ⟨g, o, none⟩ ∧ ∀ (i : Nat) (h : i < l.length), w.rangeAt g (o + 36 * i) (ccells l[i])
theorem CReads.at {w : World} {a : Option Addr} {len cap : Nat} {l : List ClT} (h : CReads w a len cap l) (h0 : 0 < len) : ∃ g o, a = some ⟨g, o, none⟩ ∧ g < w.heap.size := by
  rcases h.lies with h5 | ⟨g, o, ha, hl⟩
  · omega
  · have h1 := h.ln
    refine ⟨g, o, ha, range_lt (hl 0 (by omega)) ?_⟩
    rw [ccells_length _ (h.ok _ (List.getElem_mem (by omega)))]
    omega
theorem CReads.below {w w' : World} {a : Option Addr} {len cap B : Nat} {l : List ClT} (h : CReads w a len cap l) (hb : Below B w w') (hB : ∀ g o, a = some ⟨g, o, none⟩ → 0 < len → g < B) : CReads w' a len cap l := by
  refine ⟨h.ln, h.cp, h.mx, h.ok, ?_⟩
  by_cases h0 : len = 0
  · exact .inl h0
  · rcases h.lies with h5 | ⟨g, o, ha, hl⟩
    · exact .inl h5
    · exact .inr ⟨g, o, ha, fun i hi => range_below (hl i hi) hb (hB g o ha (by omega))⟩
theorem CReads.keep {w w' : World} {a : Option Addr} {len cap : Nat} {l : List ClT} (h : CReads w a len cap l) (hb : Below w.heap.size w w') : CReads w' a len cap l := by
  refine h.below hb fun g o ha h0 => ?_
  obtain ⟨g', o', ha', hl⟩ := h.at h0
  rw [ha] at ha'
  cases ha'
  exact hl
theorem CReads.range {w : World} {g o len cap : Nat} {l : List ClT} (h : CReads w (some ⟨g, o, none⟩) len cap l) (i : Nat) (hi : i < l.length) : w.rangeAt g (o + 36 * i) (ccells l[i]) := by
  have h1 := h.ln
  rcases h.lies with h5 | ⟨g', o', ha, hl⟩
  · omega
  · cases ha
    exact hl i hi
theorem CReads.cell {w : World} {g o len cap : Nat} {l : List ClT} (h : CReads w (some ⟨g, o, none⟩) len cap l) (i : Nat) (hi : i < l.length) (j : Nat) (v : Value) (hj : (ccells l[i])[j]? = some v) : w.cell? ⟨g, o + 36 * i + j, none⟩ = some v := h.range i hi j v hj
theorem CReads.take {w : World} {a : Option Addr} {len cap : Nat} {l : List ClT} (h : CReads w a len cap l) (k : Nat) (hk : k ≤ len) : CReads w a k cap (l.take k) := by
  have h1 := h.ln
  have h2 := h.cp
  have h3 := h.mx
  refine ⟨by rw [List.length_take]; omega, by omega, by omega, fun x hx => h.ok x (List.mem_of_mem_take hx), ?_⟩
  rcases h.lies with h5 | ⟨g, o, ha, hl⟩
  · exact .inl (by omega)
  · refine .inr ⟨g, o, ha, fun i hi => ?_⟩
    rw [List.length_take] at hi
    rw [List.getElem_take]
    exact hl i (by omega)
theorem clreads_none (w : World) : CReads w none 0 0 [] := ⟨rfl, Nat.le_refl _, Nat.zero_le _, (fun x hx => by cases hx), .inl rfl⟩
theorem sizeOfClis (w : World) : (sizeOf 26).run Try.prog w = .ok 36 w := by
  have hz : (Try.prog.info? 26).map (·.size) = some 36 := by kernel_rfl
  cases hq : Try.prog.info? 26 with
  | none => simp [hq] at hz
  | some i => simp [hq] at hz; simp [sizeOf, typeInfo, hq, hz]
theorem slice_cls (W : World) (g o len cap k : Nat) (hk : k ≤ cap) : (Instr.sliceAt 22 (.slice (some ⟨g, o, none⟩) len cap) none (some (.int .i64 k)) none).run Try.prog W = .ok (.slice (some ⟨g, o, none⟩) k cap) W := by
  simp [Instr.sliceAt, Instr.slice, Instr.sliceBounds, Instr.sliceBound, asIntOf, run_underlying Try.underlying22, sizeOfClis, hk]
  rw [add_plain]
  simp
theorem slice_cls_none (W : World) : (Instr.sliceAt 22 (.slice none 0 0) none (some (.int .i64 0)) none).run Try.prog W = .ok (.slice none 0 0) W := by
  simp [Instr.sliceAt, Instr.slice, Instr.sliceBounds, Instr.sliceBound, asIntOf, run_underlying Try.underlying22, sizeOfClis]
theorem index_cl (W : World) (g o len cap i : Nat) (k : IntKind) (hi : i < len) : (Instr.indexAt 22 (.slice (some ⟨g, o, none⟩) len cap) (.int k i)).run Try.prog W = .ok (.pointer (some ⟨g, o + 36 * i, none⟩)) W := by
  simp [Instr.indexAt, asIntOf, run_underlying Try.underlying22, sizeOfClis, hi]
  rw [add_plain, Nat.mul_comm]
/-! Rows put behind others. -/
def clcL (l : List ClT) : List Value := l.flatMap ccells
theorem clcL_nil : clcL [] = [] := rfl
theorem clcL_cons (x : ClT) (l : List ClT) : clcL (x :: l) = ccells x ++ clcL l := by unfold clcL; rw [List.flatMap_cons]
theorem clcL_append (l r : List ClT) : clcL (l ++ r) = clcL l ++ clcL r := by unfold clcL; rw [List.flatMap_append]
theorem clcL_length : ∀ (l : List ClT), (∀ x ∈ l, OkC x) → (clcL l).length = l.length * 36
  | [], _ => rfl
  | x :: l, h => by
    rw [clcL_cons, List.length_append, ccells_length _ (h x (by simp)), clcL_length l fun y hy => h y (by simp [hy]), List.length_cons]
    omega
theorem clcL_at : ∀ (l : List ClT), (∀ x ∈ l, OkC x) → ∀ (i : Nat) (hi : i < l.length) (j : Nat) (v : Value), (ccells l[i])[j]? = some v → (clcL l)[36 * i + j]? = some v
  | [], _, i, hi, _, _, _ => by cases hi
  | x :: l, h, i, hi, j, v, hj => by
    have hx := ccells_length _ (h x (by simp))
    rw [clcL_cons]
    cases i with
    | zero =>
      have hj' : (ccells x)[j]? = some v := hj
      have : j < (ccells x).length := (List.getElem?_eq_some_iff.1 hj').1
      rw [List.getElem?_append_left (by omega)]
      simpa using hj'
    | succ i =>
      rw [List.getElem?_append_right (by omega), hx]
      have := clcL_at l (fun y hy => h y (by simp [hy])) i (by simpa using hi) j v (by simpa using hj)
      rw [← this]
      congr 1
      omega
theorem clcL_back : ∀ (l : List ClT), (∀ x ∈ l, OkC x) → ∀ (j : Nat) (v : Value), (clcL l)[j]? = some v → ∃ i, ∃ hi : i < l.length, ∃ k, j = 36 * i + k ∧ (ccells l[i])[k]? = some v
  | [], _, j, v, hj => by simp [clcL_nil] at hj
  | x :: l, h, j, v, hj => by
    have hx := ccells_length _ (h x (by simp))
    rw [clcL_cons] at hj
    by_cases hlt : j < 36
    · rw [List.getElem?_append_left (by omega)] at hj
      exact ⟨0, by simp, j, by omega, hj⟩
    · rw [List.getElem?_append_right (by omega), hx] at hj
      obtain ⟨i, hi, k, e, hk⟩ := clcL_back l (fun y hy => h y (by simp [hy])) _ v hj
      exact ⟨i + 1, by simpa using hi, k, by omega, by simpa using hk⟩
theorem ccells_one (x : ClT) : ∀ v ∈ ccells x, v.oneCell' = true := by
  intro v hv
  unfold ccells at hv
  rcases List.mem_append.1 hv with h | h
  · simp at h
    rcases h with rfl | rfl | rfl | rfl <;> rfl
  · unfold cellsOf at h
    obtain ⟨b, _, rfl⟩ := List.mem_map.1 h
    rfl
theorem clcL_one (l : List ClT) : ∀ v ∈ clcL l, v.oneCell' = true := by
  intro v hv
  obtain ⟨x, _, hv⟩ := List.mem_flatMap.1 hv
  exact ccells_one x v hv
theorem CReads.puts {w : World} {ad : Addr} {len cap : Nat} {l : List ClT} (h : CReads w (some ad) len cap l) : ∀ j u, (clcL l)[j]? = some u → w.cell? (ad.add j) = some u := fun j u hj => by
  obtain ⟨i, hi, k, rfl, hk⟩ := clcL_back l h.ok j u hj
  have h1 := h.ln
  rcases h.lies with h5 | ⟨g, o, ha, hl⟩
  · omega
  · cases ha
    rw [add_plain, ← Nat.add_assoc]
    exact hl i hi k u hk
theorem infoClis : (Try.prog.info? 26).map (fun i => (i.zero, i.size, i.bytes)) = some (some (.agg (ccells ⟨0, 0, 0, 0, List.replicate 32 0⟩).toArray), 36, 64) := by kernel_rfl
/-- Rows put behind those of a list of the call's own. -/
theorem run_append_cls {w : World} {a : Option Addr} {len cap : Nat} {l : List ClT} (h : CReads w a len cap l) (hc0 : a = none → cap = 0) (B n : Nat) (v : Value) (xs : List ClT)
    (hown : w.ownsRow B 26 36 v n (clcL xs)) (hB : B ≤ w.heap.size) (hb : n + len ≤ 1000000) :
    ∃ v' w', (Builtin.append_ #[22, 22] 22 #[v, .slice a len cap]).run Try.prog w = .ok v' w' ∧
      w'.ownsRow B 26 36 v' (n + len) (clcL (xs ++ l)) ∧ w.grownBy w' v.ownBlock := by
  obtain ⟨i0, hi, hz0, hz1, hz2⟩ := info_parts infoClis
  have h1 := h.ln
  cases a with
  | none =>
    obtain rfl : cap = 0 := hc0 rfl
    have hl0 : len = 0 := by have := h.cp; omega
    subst hl0
    obtain rfl : l = [] := List.eq_nil_of_length_eq_zero h1
    refine ⟨v, w, run_append_owned_none (P := Try.prog) w B 22 22 26 i0 36 Try.underlying22 hi _ n _ hown, ?_, World.grownBy.refl _ _⟩
    simpa using hown
  | some ad =>
    obtain ⟨v', w', hr, ho, hg, _⟩ := run_append_own (P := Try.prog) w B 22 22 26 i0 _ 36 64 Try.underlying22 hi hz0 hz1 hz2 (by rfl) (by decide) v n _ hown ad len cap (clcL l) (by rw [clcL_length l h.ok, h1]) h.puts (clcL_one l) (by unfold maxLen; omega) (by omega) hB
    refine ⟨v', w', hr, ?_, hg⟩
    rw [clcL_append]
    exact ho
theorem CReads.own {w : World} {B n : Nat} {v : Value} {l : List ClT} (h : w.ownsRow B 26 36 v n (clcL l)) (hok : ∀ x ∈ l, OkC x) : ∃ a cap, v = .slice a n cap ∧ CReads w a n cap l ∧ (a = none → cap = 0) ∧ (∀ g o, a = some ⟨g, o, none⟩ → B ≤ g ∧ v.ownBlock = some g) := by
  have hl : l.length = n := by have := h.1; rw [clcL_length l hok] at this; omega
  rcases h.2 with ⟨rfl, h0⟩ | ⟨g, cap, cur, rfl, hb, hg, hc, hm, hs, ht⟩
  · subst h0
    exact ⟨none, 0, rfl, ⟨hl, Nat.le_refl _, Nat.zero_le _, hok, .inl rfl⟩, fun _ => rfl, fun g o e => by cases e⟩
  · refine ⟨some ⟨g, 0, none⟩, cap, rfl, ⟨hl, hc, by omega, hok, .inr ⟨g, 0, rfl, fun i hi j v hj => ?_⟩⟩, (fun e => by cases e), fun g' o' e => by cases e; exact ⟨hb, rfl⟩⟩
    have := h.cells (g := g) rfl _ _ (clcL_at l hok i hi j v hj)
    rw [add_plain] at this
    rw [Nat.zero_add]
    simpa using this
end Go.Proofs.Ytieklabpdalahaa

/- The statements' own example of signing, over what the calls of package head answer. -/
namespace Go.Proofs.Ytieklabpdalahaa
open Go.RowKit Sums Nums
set_option linter.unusedVariables false
set_option linter.unusedSimpArgs false
set_option maxRecDepth 100000

end Go.Proofs.Ytieklabpdalahaa

/- The statements' own example of a head's bytes, over what the calls of package head answer. -/
namespace Go.Proofs.Ytieklabpdalahaa
open Go.RowKit Sums Nums
set_option linter.unusedVariables false
set_option linter.unusedSimpArgs false
set_option maxRecDepth 100000

end Go.Proofs.Ytieklabpdalahaa

/- What HeadTurned says of any input, over what the calls of package head answer. -/
namespace Go.Proofs.Ytieklabpdalahaa
open Go.RowKit Sums Nums
set_option linter.unusedVariables false
set_option linter.unusedSimpArgs false
set_option maxRecDepth 100000
theorem wpList_mid_w {P : Program} {ops : Array Oper} {rest : List Oper} {op : Oper} {a : Act} {w : World} {Q : Exit → Act → World → Prop} (hw : Region.wanted op (yielded ops a.tmps) = true) (ty : TypeId) (x : Operand) (ho : op.op = .load ty x)
    (b o : Nat) (hx : a.eval x = .pointer (some ⟨b, o, none⟩)) (D : Array Value) (d : TypeDesc) (hc : w.rangeAt b o D.toList)
    (hu : P.underlying ty = some d) (hd : d.isRow = true) (hi : (P.info? ty).map (·.size) = some D.size)
    (h : wpList P ops Q rest (a.put op.dst (.agg D)) w) : wpList P ops Q (op :: rest) a w := by
  have hy : YieldsIf P ops (fun W => W = w) op (.agg D) a := yieldsIf_mid hw ty x ho b o hx D d (fun W e => by rw [e]; exact hc) hu hd hi
  rcases hy with ⟨_, hv⟩ | ⟨hf, _⟩
  · exact BigFrame.wpList_want hw fun K hK => by
      simp only [Oper.wp, hv w rfl, Oper.upon]
      first | exact .inl (hK _ _ h) | exact hK _ _ h
  · rw [hw] at hf; cases hf
end Go.Proofs.Ytieklabpdalahaa

/- The document's own answers on addresses: are two the same, does one stand ahead, is one there. -/
namespace Go.Proofs.Ytieklabpdalahaa
open Go.RowKit Nums Sums
set_option linter.unusedVariables false
set_option linter.unusedSimpArgs false
set_option maxRecDepth 100000
theorem heldA : Try.prog.stoodInHeld 40 = false := by kernel_rfl
theorem sizeA : (Try.prog.info? 40).map (·.size) = some 2 := by kernel_rfl
theorem equalAddr (d : Nat) (a b : AdT) (x : Bool) (hx : x = true ↔ a = b) (w : World) : (Op.equalIn (d + 4) 40 (.agg #[.int .i64 a.r, .int .i64 a.n]) (.agg #[.int .i64 b.r, .int .i64 b.n])).run Try.prog w = .ok x w := by
  have hf : Try.prog.fieldsOf 40 = #[{ name := "Region", type := 3, offset := 0, embedded := false, tag := "", pkgPath := "", byteOffset := 0 }, { name := "Node", type := 3, offset := 1, embedded := false, tag := "", pkgPath := "", byteOffset := 8 }] := by
    unfold Program.fieldsOf; rw [Try.underlying40]
  have p0a : ∀ W, (Go.part 3 #[.int .i64 a.r, .int .i64 a.n] 0).run Try.prog W = .ok (.int .i64 a.r) W := fun W => part_int [.int .i64 a.r, .int .i64 a.n] 0 _ rfl W
  have p0b : ∀ W, (Go.part 3 #[.int .i64 b.r, .int .i64 b.n] 0).run Try.prog W = .ok (.int .i64 b.r) W := fun W => part_int [.int .i64 b.r, .int .i64 b.n] 0 _ rfl W
  have x0 := fun W => run_equalIn_int (P := Try.prog) W (d + 2) 3 .i64 .i64 a.r b.r Try.underlying3
  obtain ⟨b0, h0⟩ : ∃ x, (a.r == b.r) = x := ⟨_, rfl⟩
  rw [h0] at x0
  have p1a : ∀ W, (Go.part 3 #[.int .i64 a.r, .int .i64 a.n] 1).run Try.prog W = .ok (.int .i64 a.n) W := fun W => part_int [.int .i64 a.r, .int .i64 a.n] 1 _ rfl W
  have p1b : ∀ W, (Go.part 3 #[.int .i64 b.r, .int .i64 b.n] 1).run Try.prog W = .ok (.int .i64 b.n) W := fun W => part_int [.int .i64 b.r, .int .i64 b.n] 1 _ rfl W
  have x1 := fun W => run_equalIn_int (P := Try.prog) W (d + 2) 3 .i64 .i64 a.n b.n Try.underlying3
  obtain ⟨b1, h1⟩ : ∃ x, (a.n == b.n) = x := ⟨_, rfl⟩
  rw [h1] at x1
  rw [run_equalIn_struct w (d + 3) 40 _ _ (by rw [hf]; exact Try.underlying40) heldA, hf]
  have hq : x = (b0 && b1) := by
    rw [Bool.eq_iff_iff, hx, Bool.and_eq_true, ← h0, ← h1, beq_iff_eq, beq_iff_eq]
    exact ⟨fun e => by rw [e]; exact ⟨rfl, rfl⟩, fun e => AdT.ext' e.1 e.2⟩
  rw [hq]
  simp [Op.eqFields, p0a, p0b, x0, p1a, p1b, x1]
  cases b0 <;> cases b1 <;> simp
theorem eqAddr (a b : AdT) (x : Bool) (hx : x = true ↔ a = b) (w : World) : (binOp .eql 40 (.agg #[.int .i64 a.r, .int .i64 a.n]) (.agg #[.int .i64 b.r, .int .i64 b.n])).run Try.prog w = .ok (.bool x) w := by
  rw [run_eql_struct, show (10000 : Nat) = 9996 + 4 from rfl, equalAddr 9996 a b x hx]; rfl
/-- A struct of two cells, new in its block. -/
theorem range_two_new (w : World) (x y : Value) (t : TypeId) : (w.alloc (.cells #[x, y] t)).rangeAt w.heap.size 0 [x, y] := fun j v hj => by
  rw [cell_of_row _ _ _ _ t (0, 0) (heap_alloc_new w _)]
  simpa using hj
end Go.Proofs.Ytieklabpdalahaa

/- The document's Addrs and Same: rows that read the same are the same. -/
namespace Go.Proofs.Ytieklabpdalahaa
open Go.RowKit Nums Sums
set_option linter.unusedVariables false
set_option linter.unusedSimpArgs false
set_option maxRecDepth 100000

end Go.Proofs.Ytieklabpdalahaa

/- The document's Enough. -/
namespace Go.Proofs.Ytieklabpdalahaa
open Go.RowKit Nums Sums
set_option linter.unusedVariables false
set_option linter.unusedSimpArgs false
set_option maxRecDepth 100000
/-- Of the nodes 1 to k of a region: how many are there? -/
def cntK (l : List AdT) (r : Int) : Nat → Nat
  | 0 => 0
  | k + 1 => cntK l r k + (if memA ⟨r, ((k + 1 : Nat) : Int)⟩ l = true then 1 else 0)
theorem cntK_three (l : List AdT) (r : Int) : cntK l r 3 = cntR l r := by
  simp [cntK, cntR]
theorem enough_not {m r : Int} {l : List AdT} (h : ¬ (3 ≤ m ∧ m ≤ 5 ∧ 1 ≤ r ∧ r ≤ m)) : enoughB m r l = false := by
  unfold enoughB; rw [decide_eq_false h]; rfl
theorem enough_of {M : Nat} {r : Int} {l : List AdT} (h : 3 ≤ (M : Int) ∧ (M : Int) ≤ 5 ∧ 1 ≤ r ∧ r ≤ (M : Int)) : enoughB M r l = decide ((M : Int) - 1 < 2 * (haveN r l M : Int)) := by
  unfold enoughB; rw [decide_eq_true h, Int.toNat_natCast]; rfl
end Go.Proofs.Ytieklabpdalahaa

/- The document's Add. -/
namespace Go.Proofs.Ytieklabpdalahaa
open Go.RowKit Nums Sums
set_option linter.unusedVariables false
set_option linter.unusedSimpArgs false
set_option maxRecDepth 100000
theorem adreads_one (w : World) (a : AdT) (t : TypeId) : AReads (w.alloc (.cells #[.int .i64 a.r, .int .i64 a.n] t)) (some ⟨w.heap.size, 0, none⟩) 1 1 [a] := by
  refine ⟨rfl, Nat.le_refl _, by unfold maxLen; omega, fun x _ => trivial, .inr ⟨_, _, rfl, fun i hi => ?_⟩⟩
  obtain rfl : i = 0 := by simp at hi; omega
  exact range_two_new w _ _ t
/-- One address put behind a row of the call's own. -/
theorem append_one {w wr : World} {B n : Nat} {v : Value} {out : List AdT} (a : AdT) (ho : wr.ownsRow B 40 2 v n (adcL out)) (hB : B ≤ wr.heap.size) (hb : Below B w wr) (hn : n + 1 ≤ 1000000) :
    ∃ v' w', (Builtin.append_ #[38, 38] 38 #[v, .slice (some ⟨wr.heap.size, 0, none⟩) 1 1]).run Try.prog (wr.alloc (.cells #[.int .i64 a.r, .int .i64 a.n] 40)) = .ok v' w' ∧
      w'.ownsRow B 40 2 v' (n + 1) (adcL (out ++ [a])) ∧ Below B w w' ∧ B ≤ w'.heap.size := by
  have ho' := own_below ho ((Below.refl wr.heap.size wr).alloc (Nat.le_refl _) (.cells #[.int .i64 a.r, .int .i64 a.n] 40))
  have hs : B ≤ (wr.alloc (.cells #[.int .i64 a.r, .int .i64 a.n] 40)).heap.size := by simp; omega
  obtain ⟨v', w', hr, h1, hg⟩ := run_append_ads (adreads_one wr a 40) (fun e => by cases e) B n v out ho' hs hn
  have hb2 : Below B w w' := (hb.alloc hB _).grown hg hs (fun k e => (ho'.lt k e).1)
  exact ⟨v', w', hr, h1, hb2, Nat.le_trans hs hg.size⟩
end Go.Proofs.Ytieklabpdalahaa

/- What the document's RightClaim, ClaimBytes and PutClaim answer. -/
namespace Go.Proofs.Ytieklabpdalahaa
open Go.RowKit Sums Nums
set_option linter.unusedVariables false
set_option linter.unusedSimpArgs false
set_option maxRecDepth 100000
/-- What the parts of a claim's row read as. -/
structure CRow (W : World) (g o : Nat) (c : ClT) : Prop where
  r : W.cell? ⟨g, o, none⟩ = some (.int .i64 c.r)
  e : W.cell? ⟨g, o + 1, none⟩ = some (.int .i64 c.e)
  n : W.cell? ⟨g, o + 2, none⟩ = some (.int .i64 c.n)
  s : W.cell? ⟨g, o + 3, none⟩ = some (.int .i64 c.s)
  d : W.rangeAt g (o + 4) (cellsOf c.d)
theorem CRow.keep {W W' : World} {g o : Nat} {c : ClT} (h : CRow W g o c) (hb : Below W.heap.size W W') : CRow W' g o c := by
  have hg : g < W.heap.size := World.block_lt_of_cell? _ _ h.r
  exact ⟨(hb.cell hg).trans h.r, (hb.cell hg).trans h.e, (hb.cell hg).trans h.n, (hb.cell hg).trans h.s, range_keep hb h.d⟩
theorem crow_of {W : World} {g o : Nat} {c : ClT} (hr : W.rangeAt g o (ccells c)) : CRow W g o c := by
  refine ⟨?_, ?_, ?_, ?_, ?_⟩
  · have := hr 0 (.int .i64 c.r) rfl; simpa using this
  · exact hr 1 (.int .i64 c.e) rfl
  · exact hr 2 (.int .i64 c.n) rfl
  · exact hr 3 (.int .i64 c.s) rfl
  · intro j v hj
    have := hr (4 + j) v (by
      unfold ccells
      rw [List.getElem?_append_right (by simp)]
      simpa using hj)
    rw [Nat.add_assoc]; exact this
theorem crow_new (w : World) (c : ClT) (C : Array Value) (HC : Hid (C = (ccells c).toArray)) (t : TypeId) : CRow (w.alloc (.cells C t)) w.heap.size 0 c := by
  refine crow_of ?_
  intro j v hj
  rw [Nat.zero_add, cell_of_row _ _ j _ t (0, 0) (heap_alloc_new w _), HC.out]
  simpa using hj
end Go.Proofs.Ytieklabpdalahaa

/- The document's own answers on claims: does one stand ahead of another. -/
namespace Go.Proofs.Ytieklabpdalahaa
open Go.RowKit Nums Sums
set_option linter.unusedVariables false
set_option linter.unusedSimpArgs false
set_option maxRecDepth 100000

end Go.Proofs.Ytieklabpdalahaa

/- The library's cmp, and the two orders of the program's claims. -/
namespace Go.Proofs.Ytieklabpdalahaa
open Go.RowKit Nums Sums
set_option linter.unusedVariables false
set_option linter.unusedSimpArgs false
set_option maxRecDepth 100000
/-- What cmp.Compare tells. -/
def cmpI (x y : Int) : Int := if x < y then -1 else if y < x then 1 else 0
/-- What cmp.Or tells of two. -/
def orI (a b : Int) : Int := if a = 0 then b else a
theorem isNaN_any (x : Int) (w : World) : Calls Try.prog 55 #[.int .i64 x] w fun e w' => e = .returned (.bool false) ∧ w = w' := by
  have h : (!(x == x)) = false := by simp
  go_enter Try.func55, Try.ntmps55
  go_wp2
  go_ret
  exact ⟨rfl, rfl⟩
theorem compare_any (x y : Int) (w : World) : Calls Try.prog 43 #[.int .i64 x, .int .i64 y] w fun e w' => e = .returned (.int .i64 (cmpI x y)) ∧ w = w' := by
  have N1 := hidk (isNaN_any x w)
  have N2 := hidk (isNaN_any y w)
  obtain ⟨P, hP⟩ : ∃ b, decide (x < y) = b := ⟨_, rfl⟩
  obtain ⟨Q, hQ⟩ : ∃ b, decide (y < x) = b := ⟨_, rfl⟩
  have HE : Hid (cmpI x y = if P = true then -1 else if Q = true then 1 else 0) := by
    show _ = _
    unfold cmpI
    rw [← hP, ← hQ]
    simp only [decide_eq_true_eq]
  go_enter Try.func43, Try.ntmps43
  go_wp2_with fail
  refine N1.out.mono ?_
  rintro e w1 ⟨rfl, rfl⟩
  go_wp2_with fail
  refine N2.out.mono ?_
  rintro e w1 ⟨rfl, rfl⟩
  cases P
  · cases Q
    · go_wp2
      go_ret
      exact ⟨by rw [HE.out]; rfl, rfl⟩
    · go_wp2
      go_ret
      exact ⟨by rw [HE.out]; rfl, rfl⟩
  · go_wp2
    go_ret
    exact ⟨by rw [HE.out]; rfl, rfl⟩
theorem or_any (g : Nat) (a b : Int) (w : World) (h0 : w.cell? ⟨g, 0, none⟩ = some (.int .i64 a)) (h1 : w.cell? ⟨g, 1, none⟩ = some (.int .i64 b)) :
    Calls Try.prog 42 #[.slice (some ⟨g, 0, none⟩) 2 2] w fun e w' => e = .returned (.int .i64 (orI a b)) ∧ w = w' := by
  by_cases ha : a = 0
  · by_cases hb : b = 0
    · have HE : Hid (orI a b = 0) := by show _ = _; unfold orI; rw [if_pos ha, hb]
      subst ha
      subst hb
      go_enter Try.func42, Try.ntmps42
      go_wp2
      go_loop [5, 8] (fun x i => ∃ k : Nat, k ≤ 2 ∧ i = .int .i64 k) (fun _ i => 2 - (intOf i).toNat)
      case atStart => exact ⟨0, by omega, rfl⟩
      case round =>
        obtain ⟨k, hk, rfl⟩ := hrel
        obtain rfl | rfl | rfl : k = 0 ∨ k = 1 ∨ k = 2 := by omega
        · go_wp2
          go_round
          case rel => exact ⟨1, by omega, rfl⟩
          case measure => simp [intOf]
        · go_wp2
          go_round
          case rel => exact ⟨2, by omega, rfl⟩
          case measure => simp [intOf]
        · go_wp2
          go_ret
          exact ⟨by rw [HE.out]; rfl, rfl⟩
    · have HE : Hid (orI a b = b) := by show _ = _; unfold orI; rw [if_pos ha]
      have hn : (!(b == 0)) = true := by simp [hb]
      subst ha
      go_enter Try.func42, Try.ntmps42
      go_wp2
      go_loop [5, 8] (fun x i => ∃ k : Nat, k ≤ 1 ∧ i = .int .i64 k) (fun _ i => 2 - (intOf i).toNat)
      case atStart => exact ⟨0, by omega, rfl⟩
      case round =>
        obtain ⟨k, hk, rfl⟩ := hrel
        obtain rfl | rfl : k = 0 ∨ k = 1 := by omega
        · go_wp2
          go_round
          case rel => exact ⟨1, by omega, rfl⟩
          case measure => simp [intOf]
        · go_wp2
          go_ret
          exact ⟨by rw [HE.out]; rfl, rfl⟩
  · have HE : Hid (orI a b = a) := by show _ = _; unfold orI; rw [if_neg ha]
    have hn : (!(a == 0)) = true := by simp [ha]
    go_enter Try.func42, Try.ntmps42
    go_wp2
    go_loop [5, 8] (fun x i => i = .int .i64 0) (fun _ i => 2 - (intOf i).toNat)
    case atStart => exact rfl
    case round =>
      obtain rfl := hrel
      go_wp2
      go_ret
      exact ⟨by rw [HE.out]; rfl, rfl⟩
end Go.Proofs.Ytieklabpdalahaa

/- What the document's GetClaim answers. -/
namespace Go.Proofs.Ytieklabpdalahaa
open Go.RowKit Sums Nums
set_option linter.unusedVariables false
set_option linter.unusedSimpArgs false
set_option maxRecDepth 100000
theorem infoC : (Try.prog.info? 26).map (fun i => (i.zero, i.size)) = some (some (.agg (ccells zeroC).toArray), 36) := by kernel_rfl
theorem builtC0 : Try.prog.built 26 [] = some (ccells zeroC).toArray := by kernel_rfl
theorem one_cellsC (c : ClT) : (ccells c).toArray.all (·.oneCell') = true := by
  rw [List.all_toArray, List.all_eq_true]
  intro v hv
  unfold ccells at hv
  simp only [List.mem_append, List.mem_cons, List.not_mem_nil, or_false] at hv
  rcases hv with (rfl | rfl | rfl | rfl) | hv
  · rfl
  · rfl
  · rfl
  · rfl
  · exact cellsOf_one _ v hv
theorem noughtsC : ∃ Z : Array Value, Hid (Z = (ccells zeroC).toArray) ∧ Hid ((Try.prog.info? 26).map (fun i => (i.zero, i.size)) = some (some (.agg Z), Z.size)) ∧ Hid (Try.prog.built 26 [] = some Z) ∧ Hid (Z.size = 36) :=
  ⟨(ccells zeroC).toArray, hidk rfl, infoC, builtC0, hidk rfl⟩
end Go.Proofs.Ytieklabpdalahaa

/- The document's Find of claims. -/
namespace Go.Proofs.Ytieklabpdalahaa
open Go.RowKit Nums Sums
set_option linter.unusedVariables false
set_option linter.unusedSimpArgs false
set_option maxRecDepth 100000
def foundC (l : List ClT) (r e : Int) : ClT := (findC l r e).getD zeroC
theorem findC_yes {l : List ClT} {r e : Int} (k : Nat) (hk : k < l.length) (h0 : ∀ x ∈ l.take k, isC x r e = false) (h1 : isC l[k] r e = true) : findC l r e = some l[k] := by
  obtain ⟨x, hx⟩ : ∃ x, l[k] = x := ⟨_, rfl⟩
  have e0 : l = l.take k ++ (x :: l.drop (k + 1)) := by rw [← hx, ← List.drop_eq_getElem_cons hk, List.take_append_drop]
  rw [hx] at h1 ⊢
  unfold findC
  rw [e0, List.find?_append, List.find?_eq_none.2 (fun x hx => by rw [h0 x hx]; simp), Option.none_or]
  exact List.find?_cons_of_pos h1
theorem findC_no {l : List ClT} {r e : Int} (h0 : ∀ x ∈ l, isC x r e = false) : findC l r e = none := by
  unfold findC
  exact List.find?_eq_none.2 fun x hx => by rw [h0 x hx]; simp
end Go.Proofs.Ytieklabpdalahaa

/- The document's Right of claims. -/
namespace Go.Proofs.Ytieklabpdalahaa
open Go.RowKit Nums Sums
set_option linter.unusedVariables false
set_option linter.unusedSimpArgs false
set_option maxRecDepth 100000
theorem rightCK_le {l : List ClT} {k : Nat} (h : rightCK l k = true) : ∀ i, i < k → okC l i = true := by
  unfold rightCK at h
  intro i hi
  exact List.all_eq_true.1 h i (List.mem_range.2 hi)
theorem rightCs_no {l : List ClT} {k : Nat} (hk : k < l.length) (h : okC l k = false) : rightCs l = false := by
  rw [Bool.eq_false_iff]
  intro hr
  have := rightCK_le hr k hk
  rw [h] at this
  cases this
end Go.Proofs.Ytieklabpdalahaa
