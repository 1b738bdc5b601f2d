/- Texts of our own that the row of ClaimsOne leans on, part 30. -/
import Derived.Test.YtieklabpdalahaaClaimsOneJ23
import Derived.Test.YtieklabpdalahaaClaimsOneJ25
import Derived.Test.YtieklabpdalahaaClaimsOneJ28
import Derived.Test.YtieklabpdalahaaClaimsOneJ29
import Derived.Deep.Slices

/- Addresses that came in, one and a slice of them. -/
namespace Go.Proofs.Ytieklabpdalahaa
open Go.RowKit Sums Nums Go.ChangeShapes
set_option linter.unusedVariables false
set_option linter.unusedSimpArgs false
set_option maxRecDepth 100000
variable {H : Type} {enc : TypeId × Value → H} {W : World} {base : Nat} {sp : Nat → Bool} {held : Bool} {fuel : Nat} {x : DataW H × List MemPlace}
theorem in64_wf {z : Int} (h : (Lit.int .i64 z).wf = true) : In64 z := by
  have e1 : IntKind.i64.min = -9223372036854775808 := rfl
  have e2 : IntKind.i64.max = 9223372036854775807 := rfl
  simp [Lit.wf, e1, e2] at h
  unfold In64
  omega
theorem open_ad_cells {cs : List Value} (hf : DataW.trod enc Try.prog W base sp held fuel 40 cs = some x) : ∃ a : AdT, InA a ∧ cs = acells a := by
  obtain ⟨xs, m, rfl, _, hl, hx, hall⟩ := DataW.trod_struct Try.underlying40 hf
  have h1 : Try.prog.cellsOf 3 = 1 := by kernel_rfl
  have h2 : Try.prog.cellsOf 40 = 2 := by kernel_rfl
  rw [h2] at hl
  match cs, hl with
  | [v0, v1], _ =>
    match xs, hx with
    | [y0, y1], _ =>
      have f0 : DataW.trod enc Try.prog W base sp held m 3 (([v0, v1].drop 0).take (Try.prog.cellsOf 3)) = some y0 := hall 0 _ rfl
      have f1 : DataW.trod enc Try.prog W base sp held m 3 (([v0, v1].drop 1).take (Try.prog.cellsOf 3)) = some y1 := hall 1 _ rfl
      rw [h1] at f0 f1
      obtain ⟨z0, e0, _, w0⟩ := DataW.trod_int Try.underlying3 f0
      obtain ⟨z1, e1, _, w1⟩ := DataW.trod_int Try.underlying3 f1
      obtain rfl : v0 = .int .i64 z0 := by simpa using e0
      obtain rfl : v1 = .int .i64 z1 := by simpa using e1
      exact ⟨⟨z0, z1⟩, ⟨in64_wf w0, in64_wf w1⟩, rfl⟩
end Go.Proofs.Ytieklabpdalahaa

/- Offers in memory, and a table of claims: what ClaimsOne leans on. -/
namespace Go.Proofs.Ytieklabpdalahaa
open Go.RowKit Nums Sums Go.Maps
set_option linter.unusedVariables false
set_option linter.unusedSimpArgs false
set_option maxRecDepth 100000
/-- An offer: its node, epoch, size, and to whom it comes. -/
structure OfT where
  n : Int
  e : Int
  s : Int
  tr : Int
  tn : Int
def ofcells (o : OfT) : List Value := [.int .i64 o.n, .int .i64 o.e, .int .i64 o.s, .int .i64 o.tr, .int .i64 o.tn]
def OkOf (o : OfT) : Prop := In64 o.n ∧ In64 o.e ∧ In64 o.s ∧ In64 o.tr ∧ In64 o.tn
theorem ofcells_length (o : OfT) (_ : OkOf o) : (ofcells o).length = 5 := rfl
/-- A slice that reads as these offers. -/
structure OfReads (w : World) (a : Option Addr) (len cap : Nat) (l : List OfT) : Prop where
  ln : l.length = len
  cp : len ≤ cap
  mx : len ≤ maxLen
  ok : ∀ x ∈ l, OkOf x
  lies : len = 0 ∨ ∃ g o, a = some ⟨g, o, none⟩ ∧ ∀ (i : Nat) (h : i < l.length), w.rangeAt g (o + 5 * i) (ofcells l[i])
theorem OfReads.at {w : World} {a : Option Addr} {len cap : Nat} {l : List OfT} (h : OfReads w a len cap l) (h0 : 0 < len) : ∃ g o, a = some ⟨g, o, none⟩ ∧ g < w.heap.size := by
  rcases h.lies with h5 | ⟨g, o, ha, hl⟩
  · omega
  · have h1 := h.ln
    refine ⟨g, o, ha, range_lt (hl 0 (by omega)) ?_⟩
    rw [ofcells_length _ (h.ok _ (List.getElem_mem (by omega)))]
    omega
theorem OfReads.below {w w' : World} {a : Option Addr} {len cap B : Nat} {l : List OfT} (h : OfReads w a len cap l) (hb : Below B w w') (hB : ∀ g o, a = some ⟨g, o, none⟩ → 0 < len → g < B) : OfReads w' a len cap l := by
  refine ⟨h.ln, h.cp, h.mx, h.ok, ?_⟩
  by_cases h0 : len = 0
  · exact .inl h0
  · rcases h.lies with h5 | ⟨g, o, ha, hl⟩
    · exact .inl h5
    · exact .inr ⟨g, o, ha, fun i hi => range_below (hl i hi) hb (hB g o ha (by omega))⟩
theorem OfReads.keep {w w' : World} {a : Option Addr} {len cap : Nat} {l : List OfT} (h : OfReads w a len cap l) (hb : Below w.heap.size w w') : OfReads w' a len cap l := by
  refine h.below hb fun g o ha h0 => ?_
  obtain ⟨g', o', ha', hl⟩ := h.at h0
  rw [ha] at ha'
  cases ha'
  exact hl
theorem OfReads.range {w : World} {g o len cap : Nat} {l : List OfT} (h : OfReads w (some ⟨g, o, none⟩) len cap l) (i : Nat) (hi : i < l.length) : w.rangeAt g (o + 5 * i) (ofcells l[i]) := by
  have h1 := h.ln
  rcases h.lies with h5 | ⟨g', o', ha, hl⟩
  · omega
  · cases ha
    exact hl i hi
theorem ofreads_none (w : World) : OfReads w none 0 0 [] := ⟨rfl, Nat.le_refl _, Nat.zero_le _, (fun x hx => by cases hx), .inl rfl⟩
theorem sizeOfOfs (w : World) : (sizeOf 52).run Try.prog w = .ok 5 w := by
  have hz : (Try.prog.info? 52).map (·.size) = some 5 := by kernel_rfl
  cases hq : Try.prog.info? 52 with
  | none => simp [hq] at hz
  | some i => simp [hq] at hz; simp [sizeOf, typeInfo, hq, hz]
theorem index_of (W : World) (g o len cap i : Nat) (k : IntKind) (hi : i < len) : (Instr.indexAt 48 (.slice (some ⟨g, o, none⟩) len cap) (.int k i)).run Try.prog W = .ok (.pointer (some ⟨g, o + 5 * i, none⟩)) W := by
  simp [Instr.indexAt, asIntOf, run_underlying Try.underlying48, sizeOfOfs, hi]
  rw [add_plain, Nat.mul_comm]
theorem sizeOff : (Try.prog.info? 52).map (·.size) = some 5 := by kernel_rfl
theorem ofcells_one (x : OfT) : ∀ v ∈ ofcells x, v.oneCell' = true := by
  intro v hv
  simp [ofcells] at hv
  rcases hv with rfl | rfl | rfl | rfl | rfl <;> rfl
theorem infoOff : (Try.prog.info? 52).map (fun i => (i.zero, i.size)) = some (some (.agg (ofcells ⟨0, 0, 0, 0, 0⟩).toArray), 5) := by kernel_rfl
theorem noughtsOff : ∃ Z : Array Value, Hid ((Try.prog.info? 52).map (fun i => (i.zero, i.size)) = some (some (.agg Z), Z.size)) ∧ Hid (Z.size = 5) := ⟨(ofcells ⟨0, 0, 0, 0, 0⟩).toArray, infoOff, hidk rfl⟩
theorem infoTab : (Try.prog.info? 50).map (fun i => (i.zero, i.size)) = some (some (.agg (List.replicate 24 (Value.slice none 0 0)).toArray), 24) := by kernel_rfl
theorem noughtsTab : ∃ Z : Array Value, Hid (Z = (List.replicate 24 (Value.slice none 0 0)).toArray) ∧ Hid ((Try.prog.info? 50).map (fun i => (i.zero, i.size)) = some (some (.agg Z), Z.size)) := ⟨_, hidk rfl, infoTab⟩
theorem sizeRow4 (w : World) : (sizeOf 49).run Try.prog w = .ok 4 w := sizeOf_of (by kernel_rfl) w
theorem sizeSl (w : World) : (sizeOf 22).run Try.prog w = .ok 1 w := sizeOf_of (by kernel_rfl) w
theorem index_tab1 (W : World) (g i : Nat) (hi : i < 6) : (Instr.indexAt 50 (.pointer (some ⟨g, 0, none⟩)) (.int .i64 i)).run Try.prog W = .ok (.pointer (some ⟨g, 4 * i, none⟩)) W := by
  have h6 : (i : Int) < 6 := by omega
  simp [Instr.indexAt, Instr.sureAddr, asIntOf, run_underlying Try.underlying50, sizeRow4, h6]
  rw [add_plain, Nat.mul_comm, Nat.zero_add, if_pos hi]
theorem index_tab2 (W : World) (g o i : Nat) (hi : i < 4) : (Instr.indexAt 49 (.pointer (some ⟨g, o, none⟩)) (.int .i64 i)).run Try.prog W = .ok (.pointer (some ⟨g, o + i, none⟩)) W := by
  have h4 : (i : Int) < 4 := by omega
  simp [Instr.indexAt, Instr.sureAddr, asIntOf, run_underlying Try.underlying49, sizeSl, h4]
  rw [add_plain, if_pos hi]
/-- A table of twenty-four slices of claims, in the block g. -/
structure TabK (w : World) (g B : Nat) (A : Nat → Option Addr) (N C : Nat → Nat) (L : Nat → List ClT) : Prop where
  row : ∃ cs : Array Value, w.heap[g]? = some (.cells cs 50 (0, 0)) ∧ cs.size = 24 ∧ ∀ j, j < 24 → cs[j]? = some (.slice (A j) (N j) (C j))
  rd : ∀ j, j < 24 → CReads w (A j) (N j) (C j) (L j)
  nil : ∀ j, j < 24 → A j = none → C j = 0
  le : ∀ j, j < 24 → N j ≤ B
  off : ∀ j, j < 24 → ∀ b o, A j = some ⟨b, o, none⟩ → 0 < N j → b ≠ g
theorem TabK.keep {w w' : World} {g B : Nat} {A : Nat → Option Addr} {N C : Nat → Nat} {L : Nat → List ClT} (h : TabK w g B A N C L) (hb : Below w.heap.size w w') : TabK w' g B A N C L := by
  refine ⟨?_, fun j hj => (h.rd j hj).keep hb, h.nil, h.le, h.off⟩
  obtain ⟨cs, h1, h2, h3⟩ := h.row
  exact ⟨cs, (hb.block _ (heap_lt h1)).trans h1, h2, h3⟩
theorem TabK.mono {w : World} {g B B' : Nat} {A : Nat → Option Addr} {N C : Nat → Nat} {L : Nat → List ClT} (h : TabK w g B A N C L) (hB : B ≤ B') : TabK w g B' A N C L :=
  ⟨h.row, h.rd, h.nil, fun j hj => Nat.le_trans (h.le j hj) hB, h.off⟩
theorem TabK.cell {w : World} {g B : Nat} {A : Nat → Option Addr} {N C : Nat → Nat} {L : Nat → List ClT} (h : TabK w g B A N C L) (j : Nat) (hj : j < 24) : w.cell? ⟨g, j, none⟩ = some (.slice (A j) (N j) (C j)) := by
  obtain ⟨cs, h1, h2, h3⟩ := h.row
  rw [cell_of_row _ _ j _ _ (0, 0) h1]
  exact h3 j hj
theorem TabK.frozen {w : World} {g B : Nat} {A : Nat → Option Addr} {N C : Nat → Nat} {L : Nat → List ClT} (h : TabK w g B A N C L) (j : Nat) : w.frozen? ⟨g, j, none⟩ = false := by
  obtain ⟨cs, h1, h2, h3⟩ := h.row
  exact frozen_of_row w g j cs _ h1
theorem CReads.other {w : World} {a : Option Addr} {len cap : Nat} {l : List ClT} (h : CReads w a len cap l) {g j : Nat} {v : Value} (ho : ∀ b o, a = some ⟨b, o, none⟩ → 0 < len → b ≠ g) : CReads (w.setCell ⟨g, j, none⟩ v) a len cap l := by
  refine ⟨h.ln, h.cp, h.mx, h.ok, ?_⟩
  by_cases h0 : len = 0
  · exact .inl h0
  · rcases h.lies with h5 | ⟨b, o, ha, hl⟩
    · exact .inl h5
    · refine .inr ⟨b, o, ha, fun i hi q u hq => ?_⟩
      rw [World.cell?_setCell_other _ _ _ _ (fun e => ho b o ha (by omega) (by have := congrArg Addr.block e; exact this.symm))]
      exact hl i hi q u hq
theorem TabK.put {w : World} {g B : Nat} {A : Nat → Option Addr} {N C : Nat → Nat} {L : Nat → List ClT} (h : TabK w g B A N C L) (i : Nat) (hi : i < 24) (a : Option Addr) (n c : Nat) (l : List ClT) (hr : CReads w a n c l) (hn : a = none → c = 0) (hB : n ≤ B) (ho : ∀ b o, a = some ⟨b, o, none⟩ → 0 < n → b ≠ g) :
    TabK (w.setCell ⟨g, i, none⟩ (.slice a n c)) g B (fun j => if j = i then a else A j) (fun j => if j = i then n else N j) (fun j => if j = i then c else C j) (fun j => if j = i then l else L j) := by
  obtain ⟨cs, h1, h2, h3⟩ := h.row
  refine ⟨⟨_, Go.heap_setCell_same w g i cs _ (.slice a n c) h1, by simp [h2], fun j hj => ?_⟩, fun j hj => ?_, fun j hj => ?_, fun j hj => ?_, fun j hj => ?_⟩
  · by_cases e : j = i
    · subst e
      simp [h2, hj]
    · simp only [if_neg e]
      rw [Array.getElem?_setIfInBounds_ne (fun k => e k.symm)]
      exact h3 j hj
  · by_cases e : j = i
    · simp only [if_pos e]
      exact hr.other ho
    · simp only [if_neg e]
      exact (h.rd j hj).other (h.off j hj)
  · by_cases e : j = i
    · simp only [if_pos e]; exact hn
    · simp only [if_neg e]; exact h.nil j hj
  · by_cases e : j = i
    · simp only [if_pos e]; exact hB
    · simp only [if_neg e]; exact h.le j hj
  · by_cases e : j = i
    · simp only [if_pos e]; exact ho
    · simp only [if_neg e]; exact h.off j hj
theorem TabK.start (w : World) (g : Nat) (Z : Array Value) (HZ : Hid (Z = (List.replicate 24 (Value.slice none 0 0)).toArray)) (h : w.heap[g]? = some (.cells Z 50 (0, 0))) : TabK w g 0 (fun _ => none) (fun _ => 0) (fun _ => 0) (fun _ => []) := by
  refine ⟨⟨Z, h, by rw [HZ.out]; rfl, fun j hj => ?_⟩, fun j hj => clreads_none w, fun j hj _ => rfl, fun j hj => Nat.le_refl _, fun j hj b o e => by cases e⟩
  rw [HZ.out, List.getElem?_toArray, List.getElem?_replicate]
  simp [hj]
/-- The claim of an offer. -/
def clmK (e n s : Int) : ClT := ⟨1, e, n, s, List.replicate 32 0⟩
theorem clmK_ok (e n s : Int) : OkC (clmK e n s) := rfl
theorem builtK (e n s : Int) : Try.prog.built 26 [(0, .int .i64 1), (1, .int .i64 e), (2, .int .i64 n), (3, .int .i64 s)] = some (ccells (clmK e n s)).toArray := by kernel_rfl
/-- Who has recorded a claim. -/
def HasK (L : Nat → List ClT) (m : Nat) (e : Int) (c : ClT) (x : AdT) : Prop := ∃ r n : Nat, x = ⟨(r : Int), (n : Int)⟩ ∧ 2 ≤ r ∧ r ≤ m ∧ 1 ≤ n ∧ n ≤ 3 ∧ findC (L (4 * r + n)) 1 e = some c
def WonK (L : Nat → List ClT) (m : Nat) (e : Int) (c : ClT) : Prop := ∃ out : List AdT, enoughB m 1 out = true ∧ ∀ x ∈ out, HasK L m e c x
theorem won_one {L : Nat → List ClT} {m : Nat} {e : Int} {c d : ClT} (hc : WonK L m e c) (hd : WonK L m e d) : c = d := by
  obtain ⟨a, ha, hca⟩ := hc
  obtain ⟨b, hb, hdb⟩ := hd
  refine one_wins ha hb (fun x => L (4 * x.r.toNat + x.n.toNat)) (r := 1) (e := e) (fun x hx => ?_) (fun x hx => ?_)
  · obtain ⟨r, n, rfl, _, _, _, _, hf⟩ := hca x hx
    simpa using hf
  · obtain ⟨r, n, rfl, _, _, _, _, hf⟩ := hdb x hx
    simpa using hf
theorem HasK.inA {L : Nat → List ClT} {m : Nat} {e : Int} {c : ClT} {x : AdT} (h : HasK L m e c x) (hm : m ≤ 5) : InA x := by
  obtain ⟨r, n, rfl, h1, h2, h3, h4, _⟩ := h
  refine ⟨?_, ?_⟩
  · show In64 (r : Int); unfold In64; omega
  · show In64 (n : Int); unfold In64; omega
end Go.Proofs.Ytieklabpdalahaa

/- A slice of offers that came in. -/
namespace Go.Proofs.Ytieklabpdalahaa
open Go.RowKit Sums Nums Go.ChangeShapes
set_option linter.unusedVariables false
set_option linter.unusedSimpArgs false
set_option maxRecDepth 100000
variable {H : Type} {enc : TypeId × Value → H} {W : World} {base : Nat} {sp : Nat → Bool} {held : Bool} {fuel : Nat} {x : DataW H × List MemPlace}
theorem open_of_cells {cs : List Value} (hf : DataW.trod enc Try.prog W base sp held fuel 52 cs = some x) : ∃ a : OfT, OkOf a ∧ cs = ofcells a := by
  obtain ⟨xs, m, rfl, _, hl, hx, hall⟩ := DataW.trod_struct Try.underlying52 hf
  have h1 : Try.prog.cellsOf 3 = 1 := by kernel_rfl
  have h2 : Try.prog.cellsOf 40 = 2 := by kernel_rfl
  have h5 : Try.prog.cellsOf 52 = 5 := by kernel_rfl
  rw [h5] at hl
  match cs, hl with
  | [v0, v1, v2, v3, v4], _ =>
    match xs, hx with
    | [y0, y1, y2, y3], _ =>
      have f0 : DataW.trod enc Try.prog W base sp held m 3 (([v0, v1, v2, v3, v4].drop 0).take (Try.prog.cellsOf 3)) = some y0 := hall 0 _ rfl
      have f1 : DataW.trod enc Try.prog W base sp held m 3 (([v0, v1, v2, v3, v4].drop 1).take (Try.prog.cellsOf 3)) = some y1 := hall 1 _ rfl
      have f2 : DataW.trod enc Try.prog W base sp held m 3 (([v0, v1, v2, v3, v4].drop 2).take (Try.prog.cellsOf 3)) = some y2 := hall 2 _ rfl
      have f3 : DataW.trod enc Try.prog W base sp held m 40 (([v0, v1, v2, v3, v4].drop 3).take (Try.prog.cellsOf 40)) = some y3 := hall 3 _ rfl
      rw [h1] at f0 f1 f2
      rw [h2] at f3
      obtain ⟨z0, e0, _, w0⟩ := DataW.trod_int Try.underlying3 f0
      obtain ⟨z1, e1, _, w1⟩ := DataW.trod_int Try.underlying3 f1
      obtain ⟨z2, e2, _, w2⟩ := DataW.trod_int Try.underlying3 f2
      obtain rfl : v0 = .int .i64 z0 := by simpa using e0
      obtain rfl : v1 = .int .i64 z1 := by simpa using e1
      obtain rfl : v2 = .int .i64 z2 := by simpa using e2
      obtain ⟨t, it, et⟩ := open_ad_cells f3
      have et' : [v3, v4] = acells t := et
      simp [acells] at et'
      obtain ⟨rfl, rfl⟩ := et'
      exact ⟨⟨z0, z1, z2, t.r, t.n⟩, ⟨in64_wf w0, in64_wf w1, in64_wf w2, it.1, it.2⟩, rfl⟩
theorem open_offers {a : Option Addr} {len cap : Nat} {d : DataW H} {p : List MemPlace} (h : DataW.Trod enc Try.prog W base sp held 48 (.slice a len cap) d p) : ∃ l, OfReads W a len cap l ∧ (a = none → cap = 0) ∧ ∀ x ∈ l, OkOf x := by
  obtain ⟨fuel, hf⟩ := h
  have h2 : Try.prog.cellsOf 52 = 5 := by kernel_rfl
  rcases Deep.open_slice Try.underlying48 hf with ⟨hcs, _⟩ | ⟨ad, len', cap', m, n, D, Pl, hcs, _, hl, hm, hmm, _, hx⟩
  · simp [Value.cells] at hcs
    obtain ⟨rfl, rfl, rfl⟩ := hcs
    exact ⟨[], ofreads_none W, fun _ => rfl, fun o ho => by cases ho⟩
  · simp [Value.cells] at hcs
    obtain ⟨rfl, rfl, rfl⟩ := hcs
    have hlm : len ≤ m := by rw [hmm]; split <;> omega
    have each : ∀ i, i < len → ∃ o : OfT, OkOf o ∧ ∀ j v, (ofcells o)[j]? = some v → W.cell? (ad.add (i * 5 + j)) = some v := by
      intro i hi
      obtain ⟨cs', c1, c2⟩ := hx i (by omega)
      rw [h2] at c1
      obtain ⟨_, hlen, hcell⟩ := World.cells?_some c1
      obtain ⟨o, ho, rfl⟩ := open_of_cells c2
      refine ⟨o, ho, fun j v hj => ?_⟩
      have hj' : j < (ofcells o).length := (List.getElem?_eq_some_iff.1 hj).1
      have e0 := hcell j (by rw [ofcells_length _ ho] at hj'; omega)
      rw [Deep.add_add] at e0
      rw [e0]
      simpa using hj
    haveI : Inhabited OfT := ⟨⟨0, 0, 0, 0, 0⟩⟩
    obtain ⟨F, hF⟩ := Deep.choose_lt each
    refine ⟨(List.range len).map F, ⟨by simp, hl, by unfold maxLen at hm ⊢; omega, ?_, ?_⟩, (fun e => by cases e), ?_⟩
    · intro o ho
      obtain ⟨i, hi, rfl⟩ := List.mem_map.1 ho
      exact (hF i (List.mem_range.1 hi)).1
    · by_cases h0 : len = 0
      · exact .inl h0
      · have hc := (hF 0 (by omega)).2 0 _ rfl
        obtain ⟨b, off, spot⟩ := ad
        have hspot : spot = none := by simpa [Addr.add] using World.cell?_spot hc
        subst hspot
        refine .inr ⟨b, off, rfl, fun i hi j v hj => ?_⟩
        have hi' : i < len := by simpa using hi
        simp only [List.getElem_map, List.getElem_range] at hj
        have := (hF i hi').2 j v hj
        rw [add_plain] at this
        rw [← this]
        congr 2
        omega
    · intro o ho
      obtain ⟨i, hi, rfl⟩ := List.mem_map.1 ho
      exact (hF i (List.mem_range.1 hi)).1
end Go.Proofs.Ytieklabpdalahaa

/- Not two claims of one epoch are recorded by enough. -/
namespace Go.Proofs.Ytieklabpdalahaa
open Go.RowKit Nums Sums Go.Maps
set_option linter.unusedVariables false
set_option linter.unusedSimpArgs false
set_option maxRecDepth 100000
def TabX (g B : Nat) (w : World) : Prop := ∃ A N C L, TabK w g B A N C L
theorem TabX.keep {w w' : World} {g B : Nat} (h : TabX g B w) (hb : Below w.heap.size w w') : TabX g (B + 1) w' := by
  obtain ⟨A, N, C, L, h⟩ := h
  exact ⟨A, N, C, L, (h.keep hb).mono (Nat.le_succ _)⟩
theorem TabX.drew {w : World} {g B : Nat} (h : TabX g B w) : TabX g B w.drew := by
  obtain ⟨A, N, C, L, h⟩ := h
  exact ⟨A, N, C, L, h.keep (Below.refl _ _).drew⟩
theorem recE_val3 (l : List ClT) (c : ClT) : recE l c = 0 ∨ recE l c = 110 ∨ recE l c = 111 := by
  unfold recE
  split
  · exact .inr (.inl rfl)
  · split
    · exact .inl rfl
    · split
      · exact .inl rfl
      · exact .inr (.inr rfl)
theorem recL_len1 (l : List ClT) (c : ClT) : (recL l c).length ≤ l.length + 1 := by
  by_cases hz : recE l c = 0
  · exact (recL_length hz).2
  · unfold recL
    rw [if_neg hz]
    simp
/-- What the rounds over the offers keep: who has won. -/
def WonO (W1 : World) (len M : Nat) (ep : Int) (LL : Nat → List ClT) (v i : Value) (wr : World) : Prop := ∃ (k : Nat) (Wn : List ClT), k ≤ len ∧ i = .int .i64 (k : Int) ∧ Wn.length ≤ k ∧ (∀ d ∈ Wn, WonK LL M ep d ∧ OkC d) ∧ wr.ownsRow W1.heap.size 26 36 v Wn.length (clcL Wn) ∧ Below W1.heap.size W1 wr
/-- What the rounds over the nodes keep: who has recorded. -/
def AdrK (W3 : World) (M : Nat) (ep : Int) (LL : Nat → List ClT) (c : ClT) (bd : Nat) (v : Value) (wr : World) : Prop := ∃ out : List AdT, out.length ≤ bd ∧ (∀ x ∈ out, HasK LL M ep c x) ∧ wr.ownsRow W3.heap.size 40 2 v out.length (adcL out) ∧ Below W3.heap.size W3 wr
def AdrR (W3 : World) (M : Nat) (ep : Int) (LL : Nat → List ClT) (c : ClT) (v i : Value) (wr : World) : Prop := ∃ r : Nat, 2 ≤ r ∧ r ≤ M + 1 ∧ i = .int .i64 (r : Int) ∧ AdrK W3 M ep LL c (4 * r) v wr
def AdrN (W3 : World) (M : Nat) (ep : Int) (LL : Nat → List ClT) (c : ClT) (r : Nat) (v i : Value) (wr : World) : Prop := ∃ n : Nat, 1 ≤ n ∧ n ≤ 4 ∧ i = .int .i64 (n : Int) ∧ AdrK W3 M ep LL c (4 * r + n) v wr
set_option maxHeartbeats 64000000 in
theorem claimsOne_in (m : Int) (a1 : Option Addr) (len cap : Nat) (l : List OfT) (ep : Int) (w : World) (hm : In64 m) (h : OfReads w a1 len cap l) (hn : a1 = none → cap = 0) (hin : ∀ x ∈ l, OkOf x) (hep : In64 ep) :
    Calls Try.prog 7 #[.int .i64 m, .slice a1 len cap, .int .i64 ep] w fun e w' => e = .returned (.bool true) ∧ Below w.heap.size w w' := by
  have H := hidk h
  have HL := hidk h.ln
  have hmx : len ≤ 9223372036854775807 := by have := h.mx; unfold maxLen at this; omega
  have hnot : ∀ (x : Bool) (w : World), (Op.unary .not (.bool x)).run Try.prog w = .ok (.bool (!x)) w := fun _ _ => rfl
  clear h hn hin hm hep
  by_cases h100 : 100 < len
  · have d1 : decide ((100 : Int) < (len : Int)) = true := decide_eq_true (by omega)
    go_enter Try.func7, Try.ntmps7
    go_wp2
    go_ret
    exact ⟨rfl, Below.refl _ _⟩
  have d1 : decide ((100 : Int) < (len : Int)) = false := decide_eq_false (by omega)
  by_cases hm3 : m < 3
  · have d2 : decide (m < 3) = true := decide_eq_true hm3
    go_enter Try.func7, Try.ntmps7
    go_wp2
    go_ret
    exact ⟨rfl, Below.refl _ _⟩
  have d2 : decide (m < 3) = false := decide_eq_false hm3
  by_cases hm5 : 5 < m
  · have d3 : decide (5 < m) = true := decide_eq_true hm5
    go_enter Try.func7, Try.ntmps7
    go_wp2
    go_ret
    exact ⟨rfl, Below.refl _ _⟩
  obtain ⟨M, rfl⟩ : ∃ M : Nat, m = M := ⟨m.toNat, by omega⟩
  have d3 : decide (5 < (M : Int)) = false := decide_eq_false hm5
  have hM3 : 3 ≤ M := by omega
  have hM5 : M ≤ 5 := by omega
  have n3 : ¬ M < 3 := by omega
  have n5 : ¬ 5 < M := by omega
  have hs : len ≤ 100 := by omega
  clear h100 hm3 hm5
  obtain ⟨ZT, HZT, HAT⟩ := noughtsTab
  obtain ⟨ZO, HAO, H5O⟩ := noughtsOff
  obtain ⟨Z, HZ, HA, HBZ, H36⟩ := noughtsC
  go_enter Try.func7, Try.ntmps7
  go_wp2_with (first
    | (show wpList _ _ _ ({ dst := some 7, op := _, type := _, pos := _, after := _, guard := _ } :: _) _ _; refine wpList_new_var rfl 50 rfl ZT HAT.out ?_; intro gT w1 HMT; try simp only [Act.put, List.setIfInBounds_toArray, List.set_cons_zero, List.set_cons_succ])
    | fail)
  have HGT : Hid (w.heap.size ≤ gT) := by show _ ≤ _; rw [HMT.out.new]; exact Nat.le_refl _
  have HBT := hidk HMT.out.below
  have HT1 : Hid (TabX gT 0 w1) := ⟨_, _, _, _, TabK.start w1 gT ZT HZT HMT.out.row⟩
  clear HMT HZT HAT
  go_loopw [8] (fun i wr => ∃ k : Nat, k ≤ len ∧ i = .int .i64 k ∧ Hid (Below w.heap.size w wr) ∧ Hid (TabX gT k wr)) (fun i _ => len - (intOf i).toNat)
  case atStart => exact ⟨0, by omega, rfl, HBT, HT1⟩
  case round =>
    obtain ⟨k, hk, rfl, HB, HT⟩ := hrel
    by_cases hlt : k < len
    · have hd : decide ((k : Int) < (len : Int)) = true := by rw [decide_eq_true_eq]; omega
      have hw1 := wrap_int ((k : Int) + 1) (by omega) (by omega)
      obtain ⟨g, o, rfl, hg⟩ := H.out.at (by omega)
      have hkl : k < l.length := by have := HL.out; omega
      have HKL : Hid (k + 1 ≤ len) := hlt
      have ix := fun W => index_of W g o len cap k .i64 hlt
      obtain ⟨Y, HY⟩ : ∃ Y, Hid (Y = (ofcells l[k]).toArray) := ⟨_, hidk rfl⟩
      have HRY : Hid (wr.rangeAt g (o + 5 * k) Y.toList) := by show World.rangeAt _ _ _ _; rw [HY.out]; exact (H.out.keep HB.out).range k hkl
      have HSY : Hid ((Try.prog.info? 52).map (·.size) = some Y.size) := by show _ = _; rw [sizeOff, HY.out]; rfl
      have HZY : Hid (ZO.size = Y.size) := by show _ = _; rw [H5O.out, HY.out]; rfl
      have H1Y : Hid (Y.all (·.oneCell') = true) := by show _ = _; rw [HY.out, List.all_toArray, List.all_eq_true]; exact ofcells_one _
      have HCY : Hid (∀ (W : World) (b : Nat), W.heap[b]? = some (.cells Y 52 (0, 0)) → W.cell? ⟨b, 0, none⟩ = some (.int .i64 l[k].n) ∧ W.cell? ⟨b, 1, none⟩ = some (.int .i64 l[k].e) ∧ W.cell? ⟨b, 2, none⟩ = some (.int .i64 l[k].s) ∧ W.cell? ⟨b, 3, none⟩ = some (.int .i64 l[k].tr) ∧ W.cell? ⟨b, 4, none⟩ = some (.int .i64 l[k].tn)) := fun W b hb => by
        refine ⟨?_, ?_, ?_, ?_, ?_⟩
        · rw [cell_of_row _ _ 0 _ _ (0, 0) hb, HY.out]; rfl
        · rw [cell_of_row _ _ 1 _ _ (0, 0) hb, HY.out]; rfl
        · rw [cell_of_row _ _ 2 _ _ (0, 0) hb, HY.out]; rfl
        · rw [cell_of_row _ _ 3 _ _ (0, 0) hb, HY.out]; rfl
        · rw [cell_of_row _ _ 4 _ _ (0, 0) hb, HY.out]; rfl
      obtain ⟨xn, hxn⟩ : ∃ z, l[k].n = z := ⟨_, rfl⟩
      obtain ⟨xe, hxe⟩ : ∃ z, l[k].e = z := ⟨_, rfl⟩
      obtain ⟨xs, hxs⟩ : ∃ z, l[k].s = z := ⟨_, rfl⟩
      obtain ⟨tr, htr⟩ : ∃ z, l[k].tr = z := ⟨_, rfl⟩
      obtain ⟨tn, htn⟩ : ∃ z, l[k].tn = z := ⟨_, rfl⟩
      rw [hxn, hxe, hxs, htr, htn] at HCY
      clear hxn hxe hxs htr htn hkl HY
      by_cases q1 : tr < 2
      · have e1 : decide (tr < 2) = true := decide_eq_true q1
        go_wp2_with (first
          | (show wpList _ _ _ ({ dst := some 41, op := _, type := _, pos := _, after := _, guard := _ } :: _) _ _; refine wpList_mid_w (by rfl) 52 (.tmp 40) rfl g (o + 5 * k) rfl Y _ HRY.out Try.underlying52 rfl HSY.out ?_; try simp only [Act.put, List.setIfInBounds_toArray, List.set_cons_zero, List.set_cons_succ])
          | (show wpList _ _ _ ({ dst := some 9, op := _, type := _, pos := _, after := _, guard := _ } :: _) _ _; refine wpList_new_var rfl 52 rfl ZO HAO.out ?_; intro g9 w2 HM9; have HG9 := hidk HM9.out.row; try simp only [Act.put, List.setIfInBounds_toArray, List.set_cons_zero, List.set_cons_succ])
          | (show wpList _ _ _ ({ dst := none, op := Op.store 52 _ _, type := _, pos := _, after := _, guard := _ } :: _) _ _; refine wpList_set_var rfl 52 (.tmp 9) (.tmp 41) rfl g9 Y rfl rfl 52 ZO HG9.out HSY.out HZY.out H1Y.out ?_; intro w3 HW9; have hc3 := (HCY.out w3 g9 HW9.out.row).2.2.2.1; have hc4 := (HCY.out w3 g9 HW9.out.row).2.2.2.2; try simp only [Act.put, List.setIfInBounds_toArray, List.set_cons_zero, List.set_cons_succ])
          | fail)
        have hb3 : Below wr.heap.size wr w3 := HW9.out.below _ _ HM9.out.below (by rw [HM9.out.new]; exact Nat.le_refl _)
        have HB3 := hidk (HB.out.trans (hb3.mono HB.out.size))
        have HT3 : Hid (TabX gT (k + 1) w3) := HT.out.keep hb3
        clear hb3 HM9 HG9 HW9 hc3 hc4
        go_roundw
        case rel => exact ⟨k + 1, HKL.out, by go_num, HB3, HT3⟩
        case measure => simp [intOf]; omega
      have e1 : decide (tr < 2) = false := decide_eq_false q1
      by_cases q2 : (M : Int) < tr
      · have e2 : decide ((M : Int) < tr) = true := decide_eq_true q2
        go_wp2_with (first
          | (show wpList _ _ _ ({ dst := some 41, op := _, type := _, pos := _, after := _, guard := _ } :: _) _ _; refine wpList_mid_w (by rfl) 52 (.tmp 40) rfl g (o + 5 * k) rfl Y _ HRY.out Try.underlying52 rfl HSY.out ?_; try simp only [Act.put, List.setIfInBounds_toArray, List.set_cons_zero, List.set_cons_succ])
          | (show wpList _ _ _ ({ dst := some 9, op := _, type := _, pos := _, after := _, guard := _ } :: _) _ _; refine wpList_new_var rfl 52 rfl ZO HAO.out ?_; intro g9 w2 HM9; have HG9 := hidk HM9.out.row; try simp only [Act.put, List.setIfInBounds_toArray, List.set_cons_zero, List.set_cons_succ])
          | (show wpList _ _ _ ({ dst := none, op := Op.store 52 _ _, type := _, pos := _, after := _, guard := _ } :: _) _ _; refine wpList_set_var rfl 52 (.tmp 9) (.tmp 41) rfl g9 Y rfl rfl 52 ZO HG9.out HSY.out HZY.out H1Y.out ?_; intro w3 HW9; have hc3 := (HCY.out w3 g9 HW9.out.row).2.2.2.1; have hc4 := (HCY.out w3 g9 HW9.out.row).2.2.2.2; try simp only [Act.put, List.setIfInBounds_toArray, List.set_cons_zero, List.set_cons_succ])
          | fail)
        have hb3 : Below wr.heap.size wr w3 := HW9.out.below _ _ HM9.out.below (by rw [HM9.out.new]; exact Nat.le_refl _)
        have HB3 := hidk (HB.out.trans (hb3.mono HB.out.size))
        have HT3 : Hid (TabX gT (k + 1) w3) := HT.out.keep hb3
        clear hb3 HM9 HG9 HW9 hc3 hc4
        go_roundw
        case rel => exact ⟨k + 1, HKL.out, by go_num, HB3, HT3⟩
        case measure => simp [intOf]; omega
      have e2 : decide ((M : Int) < tr) = false := decide_eq_false q2
      by_cases q3 : tn < 1
      · have e3 : decide (tn < 1) = true := decide_eq_true q3
        go_wp2_with (first
          | (show wpList _ _ _ ({ dst := some 41, op := _, type := _, pos := _, after := _, guard := _ } :: _) _ _; refine wpList_mid_w (by rfl) 52 (.tmp 40) rfl g (o + 5 * k) rfl Y _ HRY.out Try.underlying52 rfl HSY.out ?_; try simp only [Act.put, List.setIfInBounds_toArray, List.set_cons_zero, List.set_cons_succ])
          | (show wpList _ _ _ ({ dst := some 9, op := _, type := _, pos := _, after := _, guard := _ } :: _) _ _; refine wpList_new_var rfl 52 rfl ZO HAO.out ?_; intro g9 w2 HM9; have HG9 := hidk HM9.out.row; try simp only [Act.put, List.setIfInBounds_toArray, List.set_cons_zero, List.set_cons_succ])
          | (show wpList _ _ _ ({ dst := none, op := Op.store 52 _ _, type := _, pos := _, after := _, guard := _ } :: _) _ _; refine wpList_set_var rfl 52 (.tmp 9) (.tmp 41) rfl g9 Y rfl rfl 52 ZO HG9.out HSY.out HZY.out H1Y.out ?_; intro w3 HW9; have hc3 := (HCY.out w3 g9 HW9.out.row).2.2.2.1; have hc4 := (HCY.out w3 g9 HW9.out.row).2.2.2.2; try simp only [Act.put, List.setIfInBounds_toArray, List.set_cons_zero, List.set_cons_succ])
          | fail)
        have hb3 : Below wr.heap.size wr w3 := HW9.out.below _ _ HM9.out.below (by rw [HM9.out.new]; exact Nat.le_refl _)
        have HB3 := hidk (HB.out.trans (hb3.mono HB.out.size))
        have HT3 : Hid (TabX gT (k + 1) w3) := HT.out.keep hb3
        clear hb3 HM9 HG9 HW9 hc3 hc4
        go_roundw
        case rel => exact ⟨k + 1, HKL.out, by go_num, HB3, HT3⟩
        case measure => simp [intOf]; omega
      have e3 : decide (tn < 1) = false := decide_eq_false q3
      by_cases q4 : 3 < tn
      · have e4 : decide (3 < tn) = true := decide_eq_true q4
        go_wp2_with (first
          | (show wpList _ _ _ ({ dst := some 41, op := _, type := _, pos := _, after := _, guard := _ } :: _) _ _; refine wpList_mid_w (by rfl) 52 (.tmp 40) rfl g (o + 5 * k) rfl Y _ HRY.out Try.underlying52 rfl HSY.out ?_; try simp only [Act.put, List.setIfInBounds_toArray, List.set_cons_zero, List.set_cons_succ])
          | (show wpList _ _ _ ({ dst := some 9, op := _, type := _, pos := _, after := _, guard := _ } :: _) _ _; refine wpList_new_var rfl 52 rfl ZO HAO.out ?_; intro g9 w2 HM9; have HG9 := hidk HM9.out.row; try simp only [Act.put, List.setIfInBounds_toArray, List.set_cons_zero, List.set_cons_succ])
          | (show wpList _ _ _ ({ dst := none, op := Op.store 52 _ _, type := _, pos := _, after := _, guard := _ } :: _) _ _; refine wpList_set_var rfl 52 (.tmp 9) (.tmp 41) rfl g9 Y rfl rfl 52 ZO HG9.out HSY.out HZY.out H1Y.out ?_; intro w3 HW9; have hc3 := (HCY.out w3 g9 HW9.out.row).2.2.2.1; have hc4 := (HCY.out w3 g9 HW9.out.row).2.2.2.2; try simp only [Act.put, List.setIfInBounds_toArray, List.set_cons_zero, List.set_cons_succ])
          | fail)
        have hb3 : Below wr.heap.size wr w3 := HW9.out.below _ _ HM9.out.below (by rw [HM9.out.new]; exact Nat.le_refl _)
        have HB3 := hidk (HB.out.trans (hb3.mono HB.out.size))
        have HT3 : Hid (TabX gT (k + 1) w3) := HT.out.keep hb3
        clear hb3 HM9 HG9 HW9 hc3 hc4
        go_roundw
        case rel => exact ⟨k + 1, HKL.out, by go_num, HB3, HT3⟩
        case measure => simp [intOf]; omega
      have e4 : decide (3 < tn) = false := decide_eq_false q4
      obtain ⟨r, rfl⟩ : ∃ r : Nat, tr = r := ⟨tr.toNat, by omega⟩
      obtain ⟨q, rfl⟩ : ∃ q : Nat, tn = q := ⟨tn.toNat, by omega⟩
      have hr1 : 2 ≤ r := by omega
      have hr2 : r ≤ 5 := by omega
      have hr3 : ¬ r < 2 := by omega
      have hr4 : r ≤ M := by omega
      have hr5 : ¬ M < r := by omega
      have hq1 : 1 ≤ q := by omega
      have hq2 : q ≤ 3 := by omega
      have hq3 : ¬ q < 1 := by omega
      have hq4 : ¬ 3 < q := by omega
      have hq0 : ¬ q = 0 := by omega
      have ixa := fun W => index_tab1 W gT r (by omega)
      have ixb := fun W => index_tab2 W gT (4 * r) q (by omega)
      obtain ⟨A, N, C, LL, htab⟩ := HT.out
      obtain ⟨aj, haj⟩ : ∃ z, A (4 * r + q) = z := ⟨_, rfl⟩
      obtain ⟨nj, hnj⟩ : ∃ z, N (4 * r + q) = z := ⟨_, rfl⟩
      obtain ⟨cj, hcj⟩ : ∃ z, C (4 * r + q) = z := ⟨_, rfl⟩
      have hnk : nj ≤ k := by rw [← hnj]; exact htab.le _ (by omega)
      obtain ⟨X, HX⟩ : ∃ X, Hid (X = (ccells (clmK xe xn xs)).toArray) := ⟨_, hidk rfl⟩
      have HBX : Hid (Try.prog.built 26 [(0, .int .i64 1), (1, .int .i64 xe), (2, .int .i64 xn), (3, .int .i64 xs)] = some X) := by show _ = _; rw [HX.out]; exact builtK xe xn xs
      obtain ⟨M5, hM5⟩ : ∃ z, recL (LL (4 * r + q)) (clmK xe xn xs) = z := ⟨_, rfl⟩
      obtain ⟨n5, hn5⟩ : ∃ z, M5.length = z := ⟨_, rfl⟩
      have HN5 : Hid (n5 ≤ k + 1) := by
        show _ ≤ _
        have h9 := recL_len1 (LL (4 * r + q)) (clmK xe xn xs)
        have h8 := (htab.rd (4 * r + q) (by omega)).ln
        rw [hM5, hn5] at h9
        omega
      clear q1 q2 q3 q4
      rcases recE_val3 (LL (4 * r + q)) (clmK xe xn xs) with hE5 | hE5 | hE5
      · go_wp2_with (first
          | (show wpList _ _ _ ({ dst := some 41, op := _, type := _, pos := _, after := _, guard := _ } :: _) _ _; refine wpList_mid_w (by rfl) 52 (.tmp 40) rfl g (o + 5 * k) rfl Y _ HRY.out Try.underlying52 rfl HSY.out ?_; try simp only [Act.put, List.setIfInBounds_toArray, List.set_cons_zero, List.set_cons_succ])
          | (show wpList _ _ _ ({ dst := some 9, op := _, type := _, pos := _, after := _, guard := _ } :: _) _ _; refine wpList_new_var rfl 52 rfl ZO HAO.out ?_; intro g9 w2 HM9; have HG9 := hidk HM9.out.row; try simp only [Act.put, List.setIfInBounds_toArray, List.set_cons_zero, List.set_cons_succ])
          | (show wpList _ _ _ ({ dst := none, op := Op.store 52 _ _, type := _, pos := _, after := _, guard := _ } :: _) _ _; refine wpList_set_var rfl 52 (.tmp 9) (.tmp 41) rfl g9 Y rfl rfl 52 ZO HG9.out HSY.out HZY.out H1Y.out ?_; intro w3 HW9; have hc3 := (HCY.out w3 g9 HW9.out.row).2.2.2.1; have hc4 := (HCY.out w3 g9 HW9.out.row).2.2.2.2; try simp only [Act.put, List.setIfInBounds_toArray, List.set_cons_zero, List.set_cons_succ])
          | fail)
        have hb3 : Below wr.heap.size wr w3 := HW9.out.below _ _ HM9.out.below (by rw [HM9.out.new]; exact Nat.le_refl _)
        have HB3 := hidk (HB.out.trans (hb3.mono HB.out.size))
        have HT3 := hidk (htab.keep hb3)
        have HC9 : Hid (∀ W, Below w3.heap.size w3 W → W.cell? ⟨g9, 0, none⟩ = some (.int .i64 xn) ∧ W.cell? ⟨g9, 1, none⟩ = some (.int .i64 xe) ∧ W.cell? ⟨g9, 2, none⟩ = some (.int .i64 xs) ∧ W.cell? ⟨g9, 3, none⟩ = some (.int .i64 (r : Int)) ∧ W.cell? ⟨g9, 4, none⟩ = some (.int .i64 (q : Int))) := fun W hW => HCY.out W g9 ((hW.block _ (heap_lt HW9.out.row)).trans HW9.out.row)
        have HTC : Hid (∀ W, Below w3.heap.size w3 W → W.cell? ⟨gT, 4 * r + q, none⟩ = some (.slice aj nj cj)) := fun W hW => by
          have := (HT3.out.keep hW).cell (4 * r + q) (by omega)
          rwa [haj, hnj, hcj] at this
        have RC : Hid (∀ W, Below w3.heap.size w3 W → Calls Try.prog 13 #[.slice aj nj cj, .agg X] W fun x w' => ∃ a cp, x = .returned (.tuple #[.slice a n5 cp, .int .i64 0]) ∧ CReads w' a n5 cp M5 ∧ (a = none → cp = 0) ∧ w'.ownsRow W.heap.size 26 36 (.slice a n5 cp) n5 (clcL M5) ∧ Below W.heap.size W w') := fun W hW => by
          have hr := (HT3.out.keep hW).rd (4 * r + q) (by omega)
          have hn := (HT3.out.keep hW).nil (4 * r + q) (by omega)
          rw [haj, hnj, hcj] at hr
          rw [haj, hcj] at hn
          exact recOut aj nj cj X HX (clmK_ok xe xn xs) W hr hn (by omega) M5 0 n5 hM5 hE5 hn5
        have hg9 : gT ≠ g9 := by obtain ⟨cs, h1, _, _⟩ := htab.row; have h7 := heap_lt h1; have h8 := HM9.out.new; omega
        have hGW : gT < w3.heap.size := by obtain ⟨cs, h1, _, _⟩ := HT3.out.row; exact heap_lt h1
        clear hb3 HM9 HG9 HW9 hc3 hc4
        refine wp_region_held_drew (S := (fun W => Below w3.heap.size w3 W)) (by kernel_rfl) (Below.refl _ _).drew (fun hHeld => ?_)
        refine wpAnyH_take (i := 0) (oi := { dst := some 66, op := Op.fieldAddr 52 (Operand.tmp 9) 3, type := 0, pos := "law.go:125", after := #[], guard := none }) (v := .pointer (some ⟨g9, 3, none⟩)) rfl (by kernel_rfl) (by kernel_rfl) (by kernel_rfl) (fun _ _ _ h => h) (Or.inl ⟨by rfl, by intro w hSw; go_simp⟩) hHeld ?_
        try simp only [Act.put, List.setIfInBounds_toArray, List.set_cons_zero, List.set_cons_succ]
        refine wpAnyH_take (i := 1) (oi := { dst := some 67, op := Op.fieldAddr 40 (Operand.tmp 66) 0, type := 0, pos := "law.go:125", after := #[{ on := 0, ground := Ground.data }], guard := none }) (v := .pointer (some ⟨g9, 3, none⟩)) rfl (by kernel_rfl) (by kernel_rfl) (by kernel_rfl) (fun _ _ _ h => h) (Or.inl ⟨by rfl, by intro w hSw; go_simp⟩) hHeld ?_
        try simp only [Act.put, List.setIfInBounds_toArray, List.set_cons_zero, List.set_cons_succ]
        refine wpAnyH_take (i := 2) (oi := { dst := some 68, op := Op.load 3 (Operand.tmp 67), type := 3, pos := "law.go:125", after := #[{ on := 1, ground := Ground.data }], guard := none }) (v := .int .i64 (r : Int)) rfl (by kernel_rfl) (by kernel_rfl) (by kernel_rfl) (fun _ _ _ h => h) (Or.inl ⟨by rfl, by intro W hSw; have := (HC9.out W hSw).2.2.2.1; go_simp⟩) hHeld ?_
        try simp only [Act.put, List.setIfInBounds_toArray, List.set_cons_zero, List.set_cons_succ]
        refine wpAnyH_take (i := 3) (oi := { dst := some 69, op := Op.fieldAddr 52 (Operand.tmp 9) 3, type := 0, pos := "law.go:125", after := #[], guard := none }) (v := .pointer (some ⟨g9, 3, none⟩)) rfl (by kernel_rfl) (by kernel_rfl) (by kernel_rfl) (fun _ _ _ h => h) (Or.inl ⟨by rfl, by intro w hSw; go_simp⟩) hHeld ?_
        try simp only [Act.put, List.setIfInBounds_toArray, List.set_cons_zero, List.set_cons_succ]
        refine wpAnyH_take (i := 4) (oi := { dst := some 70, op := Op.fieldAddr 40 (Operand.tmp 69) 1, type := 0, pos := "law.go:125", after := #[{ on := 3, ground := Ground.data }], guard := none }) (v := .pointer (some ⟨g9, 4, none⟩)) rfl (by kernel_rfl) (by kernel_rfl) (by kernel_rfl) (fun _ _ _ h => h) (Or.inl ⟨by rfl, by intro w hSw; go_simp⟩) hHeld ?_
        try simp only [Act.put, List.setIfInBounds_toArray, List.set_cons_zero, List.set_cons_succ]
        refine wpAnyH_take (i := 5) (oi := { dst := some 71, op := Op.load 3 (Operand.tmp 70), type := 3, pos := "law.go:125", after := #[{ on := 4, ground := Ground.data }], guard := none }) (v := .int .i64 (q : Int)) rfl (by kernel_rfl) (by kernel_rfl) (by kernel_rfl) (fun _ _ _ h => h) (Or.inl ⟨by rfl, by intro W hSw; have := (HC9.out W hSw).2.2.2.2; go_simp⟩) hHeld ?_
        try simp only [Act.put, List.setIfInBounds_toArray, List.set_cons_zero, List.set_cons_succ]
        refine wpAnyH_take (i := 6) (oi := { dst := some 72, op := Op.indexAddr 50 (Operand.tmp 7) (Operand.tmp 68), type := 0, pos := "law.go:125", after := #[{ on := 2, ground := Ground.data }], guard := none }) (v := .pointer (some ⟨gT, 4 * r, none⟩)) rfl (by kernel_rfl) (by kernel_rfl) (by kernel_rfl) (fun _ _ _ h => h) (Or.inl ⟨by rfl, by intro W hSw; have := ixa W; go_simp⟩) hHeld ?_
        try simp only [Act.put, List.setIfInBounds_toArray, List.set_cons_zero, List.set_cons_succ]
        refine wpAnyH_take (i := 7) (oi := { dst := some 73, op := Op.indexAddr 49 (Operand.tmp 72) (Operand.tmp 71), type := 0, pos := "law.go:125", after := #[{ on := 6, ground := Ground.data }, { on := 5, ground := Ground.data }], guard := none }) (v := .pointer (some ⟨gT, 4 * r + q, none⟩)) rfl (by kernel_rfl) (by kernel_rfl) (by kernel_rfl) (fun _ _ _ h => h) (Or.inl ⟨by rfl, by intro W hSw; have := ixb W; go_simp⟩) hHeld ?_
        try simp only [Act.put, List.setIfInBounds_toArray, List.set_cons_zero, List.set_cons_succ]
        refine wpAnyH_take (i := 8) (oi := { dst := some 74, op := Op.load 22 (Operand.tmp 73), type := 22, pos := "law.go:125", after := #[{ on := 7, ground := Ground.data }], guard := none }) (v := .slice aj nj cj) rfl (by kernel_rfl) (by kernel_rfl) (by kernel_rfl) (fun _ _ _ h => h) (Or.inl ⟨by rfl, by intro W hSw; have := HTC.out W hSw; go_simp⟩) hHeld ?_
        try simp only [Act.put, List.setIfInBounds_toArray, List.set_cons_zero, List.set_cons_succ]
        refine wpAnyH_take (i := 9) (oi := { dst := some 75, op := Op.fieldAddr 52 (Operand.tmp 9) 1, type := 0, pos := "law.go:125", after := #[], guard := none }) (v := .pointer (some ⟨g9, 1, none⟩)) rfl (by kernel_rfl) (by kernel_rfl) (by kernel_rfl) (fun _ _ _ h => h) (Or.inl ⟨by rfl, by intro w hSw; go_simp⟩) hHeld ?_
        try simp only [Act.put, List.setIfInBounds_toArray, List.set_cons_zero, List.set_cons_succ]
        refine wpAnyH_take (i := 10) (oi := { dst := some 76, op := Op.load 3 (Operand.tmp 75), type := 3, pos := "law.go:125", after := #[{ on := 9, ground := Ground.data }], guard := none }) (v := .int .i64 xe) rfl (by kernel_rfl) (by kernel_rfl) (by kernel_rfl) (fun _ _ _ h => h) (Or.inl ⟨by rfl, by intro W hSw; have := (HC9.out W hSw).2.1; go_simp⟩) hHeld ?_
        try simp only [Act.put, List.setIfInBounds_toArray, List.set_cons_zero, List.set_cons_succ]
        refine wpAnyH_take (i := 11) (oi := { dst := some 77, op := Op.fieldAddr 52 (Operand.tmp 9) 0, type := 0, pos := "law.go:125", after := #[], guard := none }) (v := .pointer (some ⟨g9, 0, none⟩)) rfl (by kernel_rfl) (by kernel_rfl) (by kernel_rfl) (fun _ _ _ h => h) (Or.inl ⟨by rfl, by intro w hSw; go_simp⟩) hHeld ?_
        try simp only [Act.put, List.setIfInBounds_toArray, List.set_cons_zero, List.set_cons_succ]
        refine wpAnyH_take (i := 12) (oi := { dst := some 78, op := Op.load 3 (Operand.tmp 77), type := 3, pos := "law.go:125", after := #[{ on := 11, ground := Ground.data }], guard := none }) (v := .int .i64 xn) rfl (by kernel_rfl) (by kernel_rfl) (by kernel_rfl) (fun _ _ _ h => h) (Or.inl ⟨by rfl, by intro W hSw; have := (HC9.out W hSw).1; go_simp⟩) hHeld ?_
        try simp only [Act.put, List.setIfInBounds_toArray, List.set_cons_zero, List.set_cons_succ]
        refine wpAnyH_take (i := 13) (oi := { dst := some 79, op := Op.fieldAddr 52 (Operand.tmp 9) 2, type := 0, pos := "law.go:125", after := #[], guard := none }) (v := .pointer (some ⟨g9, 2, none⟩)) rfl (by kernel_rfl) (by kernel_rfl) (by kernel_rfl) (fun _ _ _ h => h) (Or.inl ⟨by rfl, by intro w hSw; go_simp⟩) hHeld ?_
        try simp only [Act.put, List.setIfInBounds_toArray, List.set_cons_zero, List.set_cons_succ]
        refine wpAnyH_take (i := 14) (oi := { dst := some 80, op := Op.load 3 (Operand.tmp 79), type := 3, pos := "law.go:125", after := #[{ on := 13, ground := Ground.data }], guard := none }) (v := .int .i64 xs) rfl (by kernel_rfl) (by kernel_rfl) (by kernel_rfl) (fun _ _ _ h => h) (Or.inl ⟨by rfl, by intro W hSw; have := (HC9.out W hSw).2.2.1; go_simp⟩) hHeld ?_
        try simp only [Act.put, List.setIfInBounds_toArray, List.set_cons_zero, List.set_cons_succ]
        refine wpAnyH_take (i := 15) (oi := { dst := some 81, op := Op.build 26 #[(0, Operand.const (Value.int IntKind.i64 1)), (1, Operand.tmp 76), (2, Operand.tmp 78), (3, Operand.tmp 80)], type := 26, pos := "law.go:125", after := #[{ on := 10, ground := Ground.data }, { on := 12, ground := Ground.data }, { on := 14, ground := Ground.data }], guard := none }) (v := .agg X) rfl (by kernel_rfl) (by kernel_rfl) (by kernel_rfl) (fun _ _ _ h => h) (yieldsIf_buildC (by rfl) 26 _ rfl #[(0, .int .i64 1), (1, .int .i64 xe), (2, .int .i64 xn), (3, .int .i64 xs)] rfl X HBX.out) hHeld ?_
        try simp only [Act.put, List.setIfInBounds_toArray, List.set_cons_zero, List.set_cons_succ]
        refine wpAnyH_ready (rs := [16]) (by kernel_rfl) (by simp) ?_
        refine AllReadyH.cons (o := { dst := some 82, op := Op.call { callee := Callee.value (Operand.func 13), args := #[Operand.tmp 74, Operand.tmp 81], argTypes := #[22, 26] }, type := 32, pos := "law.go:125", after := #[{ on := 8, ground := Ground.data }, { on := 15, ground := Ground.data }], guard := none }) rfl (fun K hK => ?_) AllReadyH.nil
        go_simp
        refine (RC.out _ hHeld).mono ?_
        rintro x w5 ⟨a5, c5, rfl, hr5, hn5_1, ho5, hb5⟩
        have hHeld0 := hidk hHeld.size
        go_wp2_with fail
        refine hK.out _ _ (hHeld.trans (hb5.mono hHeld.size)) (fun hHeld => ?_)
        clear hK K
        try simp only [Act.put, List.setIfInBounds_toArray, List.set_cons_zero, List.set_cons_succ]
        refine wpAnyH_take (i := 17) (oi := { dst := some 65, op := Op.move (Operand.tmp 82), type := 32, pos := "law.go:125", after := #[{ on := 16, ground := Ground.data }], guard := none }) (v := .tuple #[.slice a5 n5 c5, .int .i64 0]) rfl (by kernel_rfl) (by kernel_rfl) (by kernel_rfl) (fun _ _ _ h => h) (Or.inl ⟨by rfl, by intro w hSw; go_simp⟩) hHeld ?_
        try simp only [Act.put, List.setIfInBounds_toArray, List.set_cons_zero, List.set_cons_succ]
        refine wpAnyH_take (i := 18) (oi := { dst := some 83, op := Op.extract (Operand.tmp 65) 0, type := 22, pos := "law.go:125", after := #[{ on := 17, ground := Ground.data }], guard := none }) (v := .slice a5 n5 c5) rfl (by kernel_rfl) (by kernel_rfl) (by kernel_rfl) (fun _ _ _ h => h) (Or.inl ⟨by rfl, by intro w hSw; go_simp⟩) hHeld ?_
        try simp only [Act.put, List.setIfInBounds_toArray, List.set_cons_zero, List.set_cons_succ]
        refine wpAnyH_take (i := 19) (oi := { dst := some 84, op := Op.extract (Operand.tmp 65) 1, type := 28, pos := "law.go:125", after := #[{ on := 17, ground := Ground.data }, { on := 20, ground := Ground.gcOnly Departure.lateStores }], guard := none }) (v := .int .i64 0) rfl (by kernel_rfl) (by kernel_rfl) (by kernel_rfl) (fun _ _ _ h => h) (Or.inl ⟨by rfl, by intro w hSw; go_simp⟩) hHeld ?_
        try simp only [Act.put, List.setIfInBounds_toArray, List.set_cons_zero, List.set_cons_succ]
        refine wpAnyH_take (i := 20) (oi := { dst := some 10, op := Op.assign (Operand.tmp 83), type := 22, pos := "law.go:125", after := #[{ on := 18, ground := Ground.data }, { on := 16, ground := Ground.chain }, { on := 0, ground := Ground.phase }, { on := 1, ground := Ground.phase }, { on := 2, ground := Ground.phase }, { on := 3, ground := Ground.phase }, { on := 4, ground := Ground.phase }, { on := 5, ground := Ground.phase }, { on := 6, ground := Ground.phase }, { on := 7, ground := Ground.phase }, { on := 8, ground := Ground.phase }, { on := 9, ground := Ground.phase }, { on := 10, ground := Ground.phase }, { on := 11, ground := Ground.phase }, { on := 12, ground := Ground.phase }, { on := 13, ground := Ground.phase }, { on := 14, ground := Ground.phase }, { on := 15, ground := Ground.phase }, { on := 16, ground := Ground.phase }, { on := 17, ground := Ground.phase }, { on := 18, ground := Ground.phase }, { on := 19, ground := Ground.textOnly Departure.lateStores }], guard := none }) (v := .slice a5 n5 c5) rfl (by kernel_rfl) (by kernel_rfl) (by kernel_rfl) (fun _ _ _ h => h) (Or.inl ⟨by rfl, by intro w hSw; go_simp⟩) hHeld ?_
        try simp only [Act.put, List.setIfInBounds_toArray, List.set_cons_zero, List.set_cons_succ]
        refine wpAnyH_take (i := 21) (oi := { dst := some 11, op := Op.assign (Operand.tmp 84), type := 28, pos := "law.go:125", after := #[{ on := 19, ground := Ground.data }, { on := 20, ground := Ground.chain }, { on := 0, ground := Ground.phase }, { on := 1, ground := Ground.phase }, { on := 2, ground := Ground.phase }, { on := 3, ground := Ground.phase }, { on := 4, ground := Ground.phase }, { on := 5, ground := Ground.phase }, { on := 6, ground := Ground.phase }, { on := 7, ground := Ground.phase }, { on := 8, ground := Ground.phase }, { on := 9, ground := Ground.phase }, { on := 10, ground := Ground.phase }, { on := 11, ground := Ground.phase }, { on := 12, ground := Ground.phase }, { on := 13, ground := Ground.phase }, { on := 14, ground := Ground.phase }, { on := 15, ground := Ground.phase }, { on := 16, ground := Ground.phase }, { on := 17, ground := Ground.phase }, { on := 18, ground := Ground.phase }, { on := 19, ground := Ground.phase }, { on := 20, ground := Ground.phase }], guard := none }) (v := .int .i64 0) rfl (by kernel_rfl) (by kernel_rfl) (by kernel_rfl) (fun _ _ _ h => h) (Or.inl ⟨by rfl, by intro w hSw; go_simp⟩) hHeld ?_
        try simp only [Act.put, List.setIfInBounds_toArray, List.set_cons_zero, List.set_cons_succ]
        refine wpAnyH_done (by kernel_rfl) ?_ _
        have HB5 := hidk (HB3.out.trans (hHeld.mono HB3.out.size))
        have HT5 := hidk (HT3.out.keep hHeld)
        have HC11 : Hid (w5.drew.cell? ⟨g9, 3, none⟩ = some (.int .i64 (r : Int)) ∧ w5.drew.cell? ⟨g9, 4, none⟩ = some (.int .i64 (q : Int))) := ⟨(HC9.out _ hHeld).2.2.2.1, (HC9.out _ hHeld).2.2.2.2⟩
        have hcT : w5.cell? ⟨gT, 4 * r + q, none⟩ = some (.slice aj nj cj) := HTC.out _ hHeld
        have hfT : w5.frozen? ⟨gT, 4 * r + q, none⟩ = false := HT5.out.frozen _
        have HC12 : Hid ((w5.setCell ⟨gT, 4 * r + q, none⟩ (.slice a5 n5 c5)).cell? ⟨g9, 3, none⟩ = some (.int .i64 (r : Int)) ∧ (w5.setCell ⟨gT, 4 * r + q, none⟩ (.slice a5 n5 c5)).cell? ⟨g9, 4, none⟩ = some (.int .i64 (q : Int))) := by
          refine ⟨?_, ?_⟩
          · rw [World.cell?_setCell_other _ _ _ _ (fun e => hg9 (congrArg Addr.block e))]; exact HC11.out.1
          · rw [World.cell?_setCell_other _ _ _ _ (fun e => hg9 (congrArg Addr.block e))]; exact HC11.out.2
        have HTX : Hid (TabX gT (k + 1) (w5.setCell ⟨gT, 4 * r + q, none⟩ (.slice a5 n5 c5))) := ⟨_, _, _, _, (HT5.out.mono (Nat.le_succ _)).put (4 * r + q) (by omega) a5 n5 c5 M5 hr5 hn5_1 HN5.out (fun b o e h0 => by
          have := (CReads.own ho5 hr5.ok)
          obtain ⟨a', cp', hv', _, _, hb'⟩ := this
          cases hv'
          have h9 := (hb' b o e).1
          have h8 := Nat.lt_of_lt_of_le hGW hHeld0.out
          omega)⟩
        have HBX5 : Hid (Below w.heap.size w (w5.setCell ⟨gT, 4 * r + q, none⟩ (.slice a5 n5 c5))) := HB5.out.setCell HGT.out _
        clear hr5 hn5_1 ho5 hb5
        go_wp2
        refine wp_region_held_drew (S := (fun W => W.cell? ⟨g9, 3, none⟩ = some (.int .i64 (r : Int)) ∧ W.cell? ⟨g9, 4, none⟩ = some (.int .i64 (q : Int)))) (by kernel_rfl) HC11.out (fun hHeld => ?_)
        refine wpAnyH_take (i := 0) (oi := { dst := some 87, op := Op.fieldAddr 52 (Operand.tmp 9) 3, type := 0, pos := "law.go:127", after := #[], guard := none }) (v := .pointer (some ⟨g9, 3, none⟩)) rfl (by kernel_rfl) (by kernel_rfl) (by kernel_rfl) (fun _ _ _ h => h) (Or.inl ⟨by rfl, by intro w hSw; go_simp⟩) hHeld ?_
        try simp only [Act.put, List.setIfInBounds_toArray, List.set_cons_zero, List.set_cons_succ]
        refine wpAnyH_take (i := 1) (oi := { dst := some 88, op := Op.fieldAddr 40 (Operand.tmp 87) 0, type := 0, pos := "law.go:127", after := #[{ on := 0, ground := Ground.data }], guard := none }) (v := .pointer (some ⟨g9, 3, none⟩)) rfl (by kernel_rfl) (by kernel_rfl) (by kernel_rfl) (fun _ _ _ h => h) (Or.inl ⟨by rfl, by intro w hSw; go_simp⟩) hHeld ?_
        try simp only [Act.put, List.setIfInBounds_toArray, List.set_cons_zero, List.set_cons_succ]
        refine wpAnyH_take (i := 2) (oi := { dst := some 89, op := Op.load 3 (Operand.tmp 88), type := 3, pos := "law.go:127", after := #[{ on := 1, ground := Ground.data }], guard := none }) (v := .int .i64 (r : Int)) rfl (by kernel_rfl) (by kernel_rfl) (by kernel_rfl) (fun _ _ _ h => h) (Or.inl ⟨by rfl, by intro W hSw; have := hSw.1; go_simp⟩) hHeld ?_
        try simp only [Act.put, List.setIfInBounds_toArray, List.set_cons_zero, List.set_cons_succ]
        refine wpAnyH_take (i := 3) (oi := { dst := some 90, op := Op.fieldAddr 52 (Operand.tmp 9) 3, type := 0, pos := "law.go:127", after := #[], guard := none }) (v := .pointer (some ⟨g9, 3, none⟩)) rfl (by kernel_rfl) (by kernel_rfl) (by kernel_rfl) (fun _ _ _ h => h) (Or.inl ⟨by rfl, by intro w hSw; go_simp⟩) hHeld ?_
        try simp only [Act.put, List.setIfInBounds_toArray, List.set_cons_zero, List.set_cons_succ]
        refine wpAnyH_take (i := 4) (oi := { dst := some 91, op := Op.fieldAddr 40 (Operand.tmp 90) 1, type := 0, pos := "law.go:127", after := #[{ on := 3, ground := Ground.data }], guard := none }) (v := .pointer (some ⟨g9, 4, none⟩)) rfl (by kernel_rfl) (by kernel_rfl) (by kernel_rfl) (fun _ _ _ h => h) (Or.inl ⟨by rfl, by intro w hSw; go_simp⟩) hHeld ?_
        try simp only [Act.put, List.setIfInBounds_toArray, List.set_cons_zero, List.set_cons_succ]
        refine wpAnyH_take (i := 5) (oi := { dst := some 92, op := Op.load 3 (Operand.tmp 91), type := 3, pos := "law.go:127", after := #[{ on := 4, ground := Ground.data }], guard := none }) (v := .int .i64 (q : Int)) rfl (by kernel_rfl) (by kernel_rfl) (by kernel_rfl) (fun _ _ _ h => h) (Or.inl ⟨by rfl, by intro W hSw; have := hSw.2; go_simp⟩) hHeld ?_
        try simp only [Act.put, List.setIfInBounds_toArray, List.set_cons_zero, List.set_cons_succ]
        refine wpAnyH_take (i := 6) (oi := { dst := some 93, op := Op.move (Operand.tmp 10), type := 22, pos := "law.go:127", after := #[], guard := none }) (v := .slice a5 n5 c5) rfl (by kernel_rfl) (by kernel_rfl) (by kernel_rfl) (fun _ _ _ h => h) (Or.inl ⟨by rfl, by intro w hSw; go_simp⟩) hHeld ?_
        try simp only [Act.put, List.setIfInBounds_toArray, List.set_cons_zero, List.set_cons_succ]
        refine wpAnyH_take (i := 7) (oi := { dst := some 94, op := Op.indexAddr 50 (Operand.tmp 7) (Operand.tmp 89), type := 0, pos := "law.go:127", after := #[{ on := 2, ground := Ground.data }], guard := none }) (v := .pointer (some ⟨gT, 4 * r, none⟩)) rfl (by kernel_rfl) (by kernel_rfl) (by kernel_rfl) (fun _ _ _ h => h) (Or.inl ⟨by rfl, by intro W hSw; have := ixa W; go_simp⟩) hHeld ?_
        try simp only [Act.put, List.setIfInBounds_toArray, List.set_cons_zero, List.set_cons_succ]
        refine wpAnyH_take (i := 8) (oi := { dst := some 95, op := Op.indexAddr 49 (Operand.tmp 94) (Operand.tmp 92), type := 0, pos := "law.go:127", after := #[{ on := 7, ground := Ground.data }, { on := 5, ground := Ground.data }, { on := 0, ground := Ground.phase }, { on := 1, ground := Ground.phase }, { on := 2, ground := Ground.phase }, { on := 3, ground := Ground.phase }, { on := 4, ground := Ground.phase }, { on := 5, ground := Ground.phase }, { on := 6, ground := Ground.phase }], guard := none }) (v := .pointer (some ⟨gT, 4 * r + q, none⟩)) rfl (by kernel_rfl) (by kernel_rfl) (by kernel_rfl) (fun _ _ _ h => h) (Or.inl ⟨by rfl, by intro W hSw; have := ixb W; go_simp⟩) hHeld ?_
        try simp only [Act.put, List.setIfInBounds_toArray, List.set_cons_zero, List.set_cons_succ]
        refine wpAnyH_ready (rs := [9]) (by kernel_rfl) (by simp) ?_
        refine AllReadyH.cons (o := { dst := none, op := Op.store 22 (Operand.tmp 95) (Operand.tmp 93), type := 0, pos := "law.go:127", after := #[{ on := 8, ground := Ground.data }, { on := 6, ground := Ground.data }, { on := 0, ground := Ground.phase }, { on := 1, ground := Ground.phase }, { on := 2, ground := Ground.phase }, { on := 3, ground := Ground.phase }, { on := 4, ground := Ground.phase }, { on := 5, ground := Ground.phase }, { on := 6, ground := Ground.phase }], guard := none }) rfl (fun K hK => ?_) AllReadyH.nil
        go_simp
        refine hK.out _ _ HC12.out (fun hHeld => ?_)
        clear hK K
        try simp only [Act.put, List.setIfInBounds_toArray, List.set_cons_zero, List.set_cons_succ]
        refine wpAnyH_done (by kernel_rfl) ?_ _
        go_wp2
        go_roundw
        case rel => exact ⟨k + 1, HKL.out, by go_num, HBX5.out.drew, HTX.out.drew⟩
        case measure => simp [intOf]; omega
      · go_wp2_with (first
          | (show wpList _ _ _ ({ dst := some 41, op := _, type := _, pos := _, after := _, guard := _ } :: _) _ _; refine wpList_mid_w (by rfl) 52 (.tmp 40) rfl g (o + 5 * k) rfl Y _ HRY.out Try.underlying52 rfl HSY.out ?_; try simp only [Act.put, List.setIfInBounds_toArray, List.set_cons_zero, List.set_cons_succ])
          | (show wpList _ _ _ ({ dst := some 9, op := _, type := _, pos := _, after := _, guard := _ } :: _) _ _; refine wpList_new_var rfl 52 rfl ZO HAO.out ?_; intro g9 w2 HM9; have HG9 := hidk HM9.out.row; try simp only [Act.put, List.setIfInBounds_toArray, List.set_cons_zero, List.set_cons_succ])
          | (show wpList _ _ _ ({ dst := none, op := Op.store 52 _ _, type := _, pos := _, after := _, guard := _ } :: _) _ _; refine wpList_set_var rfl 52 (.tmp 9) (.tmp 41) rfl g9 Y rfl rfl 52 ZO HG9.out HSY.out HZY.out H1Y.out ?_; intro w3 HW9; have hc3 := (HCY.out w3 g9 HW9.out.row).2.2.2.1; have hc4 := (HCY.out w3 g9 HW9.out.row).2.2.2.2; try simp only [Act.put, List.setIfInBounds_toArray, List.set_cons_zero, List.set_cons_succ])
          | fail)
        have hb3 : Below wr.heap.size wr w3 := HW9.out.below _ _ HM9.out.below (by rw [HM9.out.new]; exact Nat.le_refl _)
        have HB3 := hidk (HB.out.trans (hb3.mono HB.out.size))
        have HT3 := hidk (htab.keep hb3)
        have HC9 : Hid (∀ W, Below w3.heap.size w3 W → W.cell? ⟨g9, 0, none⟩ = some (.int .i64 xn) ∧ W.cell? ⟨g9, 1, none⟩ = some (.int .i64 xe) ∧ W.cell? ⟨g9, 2, none⟩ = some (.int .i64 xs) ∧ W.cell? ⟨g9, 3, none⟩ = some (.int .i64 (r : Int)) ∧ W.cell? ⟨g9, 4, none⟩ = some (.int .i64 (q : Int))) := fun W hW => HCY.out W g9 ((hW.block _ (heap_lt HW9.out.row)).trans HW9.out.row)
        have HTC : Hid (∀ W, Below w3.heap.size w3 W → W.cell? ⟨gT, 4 * r + q, none⟩ = some (.slice aj nj cj)) := fun W hW => by
          have := (HT3.out.keep hW).cell (4 * r + q) (by omega)
          rwa [haj, hnj, hcj] at this
        have RC : Hid (∀ W, Below w3.heap.size w3 W → Calls Try.prog 13 #[.slice aj nj cj, .agg X] W fun x w' => ∃ a cp, x = .returned (.tuple #[.slice a n5 cp, .int .i64 110]) ∧ CReads w' a n5 cp M5 ∧ (a = none → cp = 0) ∧ w'.ownsRow W.heap.size 26 36 (.slice a n5 cp) n5 (clcL M5) ∧ Below W.heap.size W w') := fun W hW => by
          have hr := (HT3.out.keep hW).rd (4 * r + q) (by omega)
          have hn := (HT3.out.keep hW).nil (4 * r + q) (by omega)
          rw [haj, hnj, hcj] at hr
          rw [haj, hcj] at hn
          exact recOut aj nj cj X HX (clmK_ok xe xn xs) W hr hn (by omega) M5 110 n5 hM5 hE5 hn5
        have hg9 : gT ≠ g9 := by obtain ⟨cs, h1, _, _⟩ := htab.row; have h7 := heap_lt h1; have h8 := HM9.out.new; omega
        have hGW : gT < w3.heap.size := by obtain ⟨cs, h1, _, _⟩ := HT3.out.row; exact heap_lt h1
        clear hb3 HM9 HG9 HW9 hc3 hc4
        refine wp_region_held_drew (S := (fun W => Below w3.heap.size w3 W)) (by kernel_rfl) (Below.refl _ _).drew (fun hHeld => ?_)
        refine wpAnyH_take (i := 0) (oi := { dst := some 66, op := Op.fieldAddr 52 (Operand.tmp 9) 3, type := 0, pos := "law.go:125", after := #[], guard := none }) (v := .pointer (some ⟨g9, 3, none⟩)) rfl (by kernel_rfl) (by kernel_rfl) (by kernel_rfl) (fun _ _ _ h => h) (Or.inl ⟨by rfl, by intro w hSw; go_simp⟩) hHeld ?_
        try simp only [Act.put, List.setIfInBounds_toArray, List.set_cons_zero, List.set_cons_succ]
        refine wpAnyH_take (i := 1) (oi := { dst := some 67, op := Op.fieldAddr 40 (Operand.tmp 66) 0, type := 0, pos := "law.go:125", after := #[{ on := 0, ground := Ground.data }], guard := none }) (v := .pointer (some ⟨g9, 3, none⟩)) rfl (by kernel_rfl) (by kernel_rfl) (by kernel_rfl) (fun _ _ _ h => h) (Or.inl ⟨by rfl, by intro w hSw; go_simp⟩) hHeld ?_
        try simp only [Act.put, List.setIfInBounds_toArray, List.set_cons_zero, List.set_cons_succ]
        refine wpAnyH_take (i := 2) (oi := { dst := some 68, op := Op.load 3 (Operand.tmp 67), type := 3, pos := "law.go:125", after := #[{ on := 1, ground := Ground.data }], guard := none }) (v := .int .i64 (r : Int)) rfl (by kernel_rfl) (by kernel_rfl) (by kernel_rfl) (fun _ _ _ h => h) (Or.inl ⟨by rfl, by intro W hSw; have := (HC9.out W hSw).2.2.2.1; go_simp⟩) hHeld ?_
        try simp only [Act.put, List.setIfInBounds_toArray, List.set_cons_zero, List.set_cons_succ]
        refine wpAnyH_take (i := 3) (oi := { dst := some 69, op := Op.fieldAddr 52 (Operand.tmp 9) 3, type := 0, pos := "law.go:125", after := #[], guard := none }) (v := .pointer (some ⟨g9, 3, none⟩)) rfl (by kernel_rfl) (by kernel_rfl) (by kernel_rfl) (fun _ _ _ h => h) (Or.inl ⟨by rfl, by intro w hSw; go_simp⟩) hHeld ?_
        try simp only [Act.put, List.setIfInBounds_toArray, List.set_cons_zero, List.set_cons_succ]
        refine wpAnyH_take (i := 4) (oi := { dst := some 70, op := Op.fieldAddr 40 (Operand.tmp 69) 1, type := 0, pos := "law.go:125", after := #[{ on := 3, ground := Ground.data }], guard := none }) (v := .pointer (some ⟨g9, 4, none⟩)) rfl (by kernel_rfl) (by kernel_rfl) (by kernel_rfl) (fun _ _ _ h => h) (Or.inl ⟨by rfl, by intro w hSw; go_simp⟩) hHeld ?_
        try simp only [Act.put, List.setIfInBounds_toArray, List.set_cons_zero, List.set_cons_succ]
        refine wpAnyH_take (i := 5) (oi := { dst := some 71, op := Op.load 3 (Operand.tmp 70), type := 3, pos := "law.go:125", after := #[{ on := 4, ground := Ground.data }], guard := none }) (v := .int .i64 (q : Int)) rfl (by kernel_rfl) (by kernel_rfl) (by kernel_rfl) (fun _ _ _ h => h) (Or.inl ⟨by rfl, by intro W hSw; have := (HC9.out W hSw).2.2.2.2; go_simp⟩) hHeld ?_
        try simp only [Act.put, List.setIfInBounds_toArray, List.set_cons_zero, List.set_cons_succ]
        refine wpAnyH_take (i := 6) (oi := { dst := some 72, op := Op.indexAddr 50 (Operand.tmp 7) (Operand.tmp 68), type := 0, pos := "law.go:125", after := #[{ on := 2, ground := Ground.data }], guard := none }) (v := .pointer (some ⟨gT, 4 * r, none⟩)) rfl (by kernel_rfl) (by kernel_rfl) (by kernel_rfl) (fun _ _ _ h => h) (Or.inl ⟨by rfl, by intro W hSw; have := ixa W; go_simp⟩) hHeld ?_
        try simp only [Act.put, List.setIfInBounds_toArray, List.set_cons_zero, List.set_cons_succ]
        refine wpAnyH_take (i := 7) (oi := { dst := some 73, op := Op.indexAddr 49 (Operand.tmp 72) (Operand.tmp 71), type := 0, pos := "law.go:125", after := #[{ on := 6, ground := Ground.data }, { on := 5, ground := Ground.data }], guard := none }) (v := .pointer (some ⟨gT, 4 * r + q, none⟩)) rfl (by kernel_rfl) (by kernel_rfl) (by kernel_rfl) (fun _ _ _ h => h) (Or.inl ⟨by rfl, by intro W hSw; have := ixb W; go_simp⟩) hHeld ?_
        try simp only [Act.put, List.setIfInBounds_toArray, List.set_cons_zero, List.set_cons_succ]
        refine wpAnyH_take (i := 8) (oi := { dst := some 74, op := Op.load 22 (Operand.tmp 73), type := 22, pos := "law.go:125", after := #[{ on := 7, ground := Ground.data }], guard := none }) (v := .slice aj nj cj) rfl (by kernel_rfl) (by kernel_rfl) (by kernel_rfl) (fun _ _ _ h => h) (Or.inl ⟨by rfl, by intro W hSw; have := HTC.out W hSw; go_simp⟩) hHeld ?_
        try simp only [Act.put, List.setIfInBounds_toArray, List.set_cons_zero, List.set_cons_succ]
        refine wpAnyH_take (i := 9) (oi := { dst := some 75, op := Op.fieldAddr 52 (Operand.tmp 9) 1, type := 0, pos := "law.go:125", after := #[], guard := none }) (v := .pointer (some ⟨g9, 1, none⟩)) rfl (by kernel_rfl) (by kernel_rfl) (by kernel_rfl) (fun _ _ _ h => h) (Or.inl ⟨by rfl, by intro w hSw; go_simp⟩) hHeld ?_
        try simp only [Act.put, List.setIfInBounds_toArray, List.set_cons_zero, List.set_cons_succ]
        refine wpAnyH_take (i := 10) (oi := { dst := some 76, op := Op.load 3 (Operand.tmp 75), type := 3, pos := "law.go:125", after := #[{ on := 9, ground := Ground.data }], guard := none }) (v := .int .i64 xe) rfl (by kernel_rfl) (by kernel_rfl) (by kernel_rfl) (fun _ _ _ h => h) (Or.inl ⟨by rfl, by intro W hSw; have := (HC9.out W hSw).2.1; go_simp⟩) hHeld ?_
        try simp only [Act.put, List.setIfInBounds_toArray, List.set_cons_zero, List.set_cons_succ]
        refine wpAnyH_take (i := 11) (oi := { dst := some 77, op := Op.fieldAddr 52 (Operand.tmp 9) 0, type := 0, pos := "law.go:125", after := #[], guard := none }) (v := .pointer (some ⟨g9, 0, none⟩)) rfl (by kernel_rfl) (by kernel_rfl) (by kernel_rfl) (fun _ _ _ h => h) (Or.inl ⟨by rfl, by intro w hSw; go_simp⟩) hHeld ?_
        try simp only [Act.put, List.setIfInBounds_toArray, List.set_cons_zero, List.set_cons_succ]
        refine wpAnyH_take (i := 12) (oi := { dst := some 78, op := Op.load 3 (Operand.tmp 77), type := 3, pos := "law.go:125", after := #[{ on := 11, ground := Ground.data }], guard := none }) (v := .int .i64 xn) rfl (by kernel_rfl) (by kernel_rfl) (by kernel_rfl) (fun _ _ _ h => h) (Or.inl ⟨by rfl, by intro W hSw; have := (HC9.out W hSw).1; go_simp⟩) hHeld ?_
        try simp only [Act.put, List.setIfInBounds_toArray, List.set_cons_zero, List.set_cons_succ]
        refine wpAnyH_take (i := 13) (oi := { dst := some 79, op := Op.fieldAddr 52 (Operand.tmp 9) 2, type := 0, pos := "law.go:125", after := #[], guard := none }) (v := .pointer (some ⟨g9, 2, none⟩)) rfl (by kernel_rfl) (by kernel_rfl) (by kernel_rfl) (fun _ _ _ h => h) (Or.inl ⟨by rfl, by intro w hSw; go_simp⟩) hHeld ?_
        try simp only [Act.put, List.setIfInBounds_toArray, List.set_cons_zero, List.set_cons_succ]
        refine wpAnyH_take (i := 14) (oi := { dst := some 80, op := Op.load 3 (Operand.tmp 79), type := 3, pos := "law.go:125", after := #[{ on := 13, ground := Ground.data }], guard := none }) (v := .int .i64 xs) rfl (by kernel_rfl) (by kernel_rfl) (by kernel_rfl) (fun _ _ _ h => h) (Or.inl ⟨by rfl, by intro W hSw; have := (HC9.out W hSw).2.2.1; go_simp⟩) hHeld ?_
        try simp only [Act.put, List.setIfInBounds_toArray, List.set_cons_zero, List.set_cons_succ]
        refine wpAnyH_take (i := 15) (oi := { dst := some 81, op := Op.build 26 #[(0, Operand.const (Value.int IntKind.i64 1)), (1, Operand.tmp 76), (2, Operand.tmp 78), (3, Operand.tmp 80)], type := 26, pos := "law.go:125", after := #[{ on := 10, ground := Ground.data }, { on := 12, ground := Ground.data }, { on := 14, ground := Ground.data }], guard := none }) (v := .agg X) rfl (by kernel_rfl) (by kernel_rfl) (by kernel_rfl) (fun _ _ _ h => h) (yieldsIf_buildC (by rfl) 26 _ rfl #[(0, .int .i64 1), (1, .int .i64 xe), (2, .int .i64 xn), (3, .int .i64 xs)] rfl X HBX.out) hHeld ?_
        try simp only [Act.put, List.setIfInBounds_toArray, List.set_cons_zero, List.set_cons_succ]
        refine wpAnyH_ready (rs := [16]) (by kernel_rfl) (by simp) ?_
        refine AllReadyH.cons (o := { dst := some 82, op := Op.call { callee := Callee.value (Operand.func 13), args := #[Operand.tmp 74, Operand.tmp 81], argTypes := #[22, 26] }, type := 32, pos := "law.go:125", after := #[{ on := 8, ground := Ground.data }, { on := 15, ground := Ground.data }], guard := none }) rfl (fun K hK => ?_) AllReadyH.nil
        go_simp
        refine (RC.out _ hHeld).mono ?_
        rintro x w5 ⟨a5, c5, rfl, hr5, hn5_1, ho5, hb5⟩
        have hHeld0 := hidk hHeld.size
        go_wp2_with fail
        refine hK.out _ _ (hHeld.trans (hb5.mono hHeld.size)) (fun hHeld => ?_)
        clear hK K
        try simp only [Act.put, List.setIfInBounds_toArray, List.set_cons_zero, List.set_cons_succ]
        refine wpAnyH_take (i := 17) (oi := { dst := some 65, op := Op.move (Operand.tmp 82), type := 32, pos := "law.go:125", after := #[{ on := 16, ground := Ground.data }], guard := none }) (v := .tuple #[.slice a5 n5 c5, .int .i64 110]) rfl (by kernel_rfl) (by kernel_rfl) (by kernel_rfl) (fun _ _ _ h => h) (Or.inl ⟨by rfl, by intro w hSw; go_simp⟩) hHeld ?_
        try simp only [Act.put, List.setIfInBounds_toArray, List.set_cons_zero, List.set_cons_succ]
        refine wpAnyH_take (i := 18) (oi := { dst := some 83, op := Op.extract (Operand.tmp 65) 0, type := 22, pos := "law.go:125", after := #[{ on := 17, ground := Ground.data }], guard := none }) (v := .slice a5 n5 c5) rfl (by kernel_rfl) (by kernel_rfl) (by kernel_rfl) (fun _ _ _ h => h) (Or.inl ⟨by rfl, by intro w hSw; go_simp⟩) hHeld ?_
        try simp only [Act.put, List.setIfInBounds_toArray, List.set_cons_zero, List.set_cons_succ]
        refine wpAnyH_take (i := 19) (oi := { dst := some 84, op := Op.extract (Operand.tmp 65) 1, type := 28, pos := "law.go:125", after := #[{ on := 17, ground := Ground.data }, { on := 20, ground := Ground.gcOnly Departure.lateStores }], guard := none }) (v := .int .i64 110) rfl (by kernel_rfl) (by kernel_rfl) (by kernel_rfl) (fun _ _ _ h => h) (Or.inl ⟨by rfl, by intro w hSw; go_simp⟩) hHeld ?_
        try simp only [Act.put, List.setIfInBounds_toArray, List.set_cons_zero, List.set_cons_succ]
        refine wpAnyH_take (i := 20) (oi := { dst := some 10, op := Op.assign (Operand.tmp 83), type := 22, pos := "law.go:125", after := #[{ on := 18, ground := Ground.data }, { on := 16, ground := Ground.chain }, { on := 0, ground := Ground.phase }, { on := 1, ground := Ground.phase }, { on := 2, ground := Ground.phase }, { on := 3, ground := Ground.phase }, { on := 4, ground := Ground.phase }, { on := 5, ground := Ground.phase }, { on := 6, ground := Ground.phase }, { on := 7, ground := Ground.phase }, { on := 8, ground := Ground.phase }, { on := 9, ground := Ground.phase }, { on := 10, ground := Ground.phase }, { on := 11, ground := Ground.phase }, { on := 12, ground := Ground.phase }, { on := 13, ground := Ground.phase }, { on := 14, ground := Ground.phase }, { on := 15, ground := Ground.phase }, { on := 16, ground := Ground.phase }, { on := 17, ground := Ground.phase }, { on := 18, ground := Ground.phase }, { on := 19, ground := Ground.textOnly Departure.lateStores }], guard := none }) (v := .slice a5 n5 c5) rfl (by kernel_rfl) (by kernel_rfl) (by kernel_rfl) (fun _ _ _ h => h) (Or.inl ⟨by rfl, by intro w hSw; go_simp⟩) hHeld ?_
        try simp only [Act.put, List.setIfInBounds_toArray, List.set_cons_zero, List.set_cons_succ]
        refine wpAnyH_take (i := 21) (oi := { dst := some 11, op := Op.assign (Operand.tmp 84), type := 28, pos := "law.go:125", after := #[{ on := 19, ground := Ground.data }, { on := 20, ground := Ground.chain }, { on := 0, ground := Ground.phase }, { on := 1, ground := Ground.phase }, { on := 2, ground := Ground.phase }, { on := 3, ground := Ground.phase }, { on := 4, ground := Ground.phase }, { on := 5, ground := Ground.phase }, { on := 6, ground := Ground.phase }, { on := 7, ground := Ground.phase }, { on := 8, ground := Ground.phase }, { on := 9, ground := Ground.phase }, { on := 10, ground := Ground.phase }, { on := 11, ground := Ground.phase }, { on := 12, ground := Ground.phase }, { on := 13, ground := Ground.phase }, { on := 14, ground := Ground.phase }, { on := 15, ground := Ground.phase }, { on := 16, ground := Ground.phase }, { on := 17, ground := Ground.phase }, { on := 18, ground := Ground.phase }, { on := 19, ground := Ground.phase }, { on := 20, ground := Ground.phase }], guard := none }) (v := .int .i64 110) rfl (by kernel_rfl) (by kernel_rfl) (by kernel_rfl) (fun _ _ _ h => h) (Or.inl ⟨by rfl, by intro w hSw; go_simp⟩) hHeld ?_
        try simp only [Act.put, List.setIfInBounds_toArray, List.set_cons_zero, List.set_cons_succ]
        refine wpAnyH_done (by kernel_rfl) ?_ _
        have HB5 := hidk (HB3.out.trans (hHeld.mono HB3.out.size))
        have HT5 := hidk (HT3.out.keep hHeld)
        have HTX : Hid (TabX gT (k + 1) w5) := ⟨A, N, C, LL, HT5.out.mono (Nat.le_succ _)⟩
        clear hr5 hn5_1 ho5 hb5
        go_wp2
        go_roundw
        case rel => exact ⟨k + 1, HKL.out, by go_num, HB5, HTX⟩
        case measure => simp [intOf]; omega
      · go_wp2_with (first
          | (show wpList _ _ _ ({ dst := some 41, op := _, type := _, pos := _, after := _, guard := _ } :: _) _ _; refine wpList_mid_w (by rfl) 52 (.tmp 40) rfl g (o + 5 * k) rfl Y _ HRY.out Try.underlying52 rfl HSY.out ?_; try simp only [Act.put, List.setIfInBounds_toArray, List.set_cons_zero, List.set_cons_succ])
          | (show wpList _ _ _ ({ dst := some 9, op := _, type := _, pos := _, after := _, guard := _ } :: _) _ _; refine wpList_new_var rfl 52 rfl ZO HAO.out ?_; intro g9 w2 HM9; have HG9 := hidk HM9.out.row; try simp only [Act.put, List.setIfInBounds_toArray, List.set_cons_zero, List.set_cons_succ])
          | (show wpList _ _ _ ({ dst := none, op := Op.store 52 _ _, type := _, pos := _, after := _, guard := _ } :: _) _ _; refine wpList_set_var rfl 52 (.tmp 9) (.tmp 41) rfl g9 Y rfl rfl 52 ZO HG9.out HSY.out HZY.out H1Y.out ?_; intro w3 HW9; have hc3 := (HCY.out w3 g9 HW9.out.row).2.2.2.1; have hc4 := (HCY.out w3 g9 HW9.out.row).2.2.2.2; try simp only [Act.put, List.setIfInBounds_toArray, List.set_cons_zero, List.set_cons_succ])
          | fail)
        have hb3 : Below wr.heap.size wr w3 := HW9.out.below _ _ HM9.out.below (by rw [HM9.out.new]; exact Nat.le_refl _)
        have HB3 := hidk (HB.out.trans (hb3.mono HB.out.size))
        have HT3 := hidk (htab.keep hb3)
        have HC9 : Hid (∀ W, Below w3.heap.size w3 W → W.cell? ⟨g9, 0, none⟩ = some (.int .i64 xn) ∧ W.cell? ⟨g9, 1, none⟩ = some (.int .i64 xe) ∧ W.cell? ⟨g9, 2, none⟩ = some (.int .i64 xs) ∧ W.cell? ⟨g9, 3, none⟩ = some (.int .i64 (r : Int)) ∧ W.cell? ⟨g9, 4, none⟩ = some (.int .i64 (q : Int))) := fun W hW => HCY.out W g9 ((hW.block _ (heap_lt HW9.out.row)).trans HW9.out.row)
        have HTC : Hid (∀ W, Below w3.heap.size w3 W → W.cell? ⟨gT, 4 * r + q, none⟩ = some (.slice aj nj cj)) := fun W hW => by
          have := (HT3.out.keep hW).cell (4 * r + q) (by omega)
          rwa [haj, hnj, hcj] at this
        have RC : Hid (∀ W, Below w3.heap.size w3 W → Calls Try.prog 13 #[.slice aj nj cj, .agg X] W fun x w' => ∃ a cp, x = .returned (.tuple #[.slice a n5 cp, .int .i64 111]) ∧ CReads w' a n5 cp M5 ∧ (a = none → cp = 0) ∧ w'.ownsRow W.heap.size 26 36 (.slice a n5 cp) n5 (clcL M5) ∧ Below W.heap.size W w') := fun W hW => by
          have hr := (HT3.out.keep hW).rd (4 * r + q) (by omega)
          have hn := (HT3.out.keep hW).nil (4 * r + q) (by omega)
          rw [haj, hnj, hcj] at hr
          rw [haj, hcj] at hn
          exact recOut aj nj cj X HX (clmK_ok xe xn xs) W hr hn (by omega) M5 111 n5 hM5 hE5 hn5
        have hg9 : gT ≠ g9 := by obtain ⟨cs, h1, _, _⟩ := htab.row; have h7 := heap_lt h1; have h8 := HM9.out.new; omega
        have hGW : gT < w3.heap.size := by obtain ⟨cs, h1, _, _⟩ := HT3.out.row; exact heap_lt h1
        clear hb3 HM9 HG9 HW9 hc3 hc4
        refine wp_region_held_drew (S := (fun W => Below w3.heap.size w3 W)) (by kernel_rfl) (Below.refl _ _).drew (fun hHeld => ?_)
        refine wpAnyH_take (i := 0) (oi := { dst := some 66, op := Op.fieldAddr 52 (Operand.tmp 9) 3, type := 0, pos := "law.go:125", after := #[], guard := none }) (v := .pointer (some ⟨g9, 3, none⟩)) rfl (by kernel_rfl) (by kernel_rfl) (by kernel_rfl) (fun _ _ _ h => h) (Or.inl ⟨by rfl, by intro w hSw; go_simp⟩) hHeld ?_
        try simp only [Act.put, List.setIfInBounds_toArray, List.set_cons_zero, List.set_cons_succ]
        refine wpAnyH_take (i := 1) (oi := { dst := some 67, op := Op.fieldAddr 40 (Operand.tmp 66) 0, type := 0, pos := "law.go:125", after := #[{ on := 0, ground := Ground.data }], guard := none }) (v := .pointer (some ⟨g9, 3, none⟩)) rfl (by kernel_rfl) (by kernel_rfl) (by kernel_rfl) (fun _ _ _ h => h) (Or.inl ⟨by rfl, by intro w hSw; go_simp⟩) hHeld ?_
        try simp only [Act.put, List.setIfInBounds_toArray, List.set_cons_zero, List.set_cons_succ]
        refine wpAnyH_take (i := 2) (oi := { dst := some 68, op := Op.load 3 (Operand.tmp 67), type := 3, pos := "law.go:125", after := #[{ on := 1, ground := Ground.data }], guard := none }) (v := .int .i64 (r : Int)) rfl (by kernel_rfl) (by kernel_rfl) (by kernel_rfl) (fun _ _ _ h => h) (Or.inl ⟨by rfl, by intro W hSw; have := (HC9.out W hSw).2.2.2.1; go_simp⟩) hHeld ?_
        try simp only [Act.put, List.setIfInBounds_toArray, List.set_cons_zero, List.set_cons_succ]
        refine wpAnyH_take (i := 3) (oi := { dst := some 69, op := Op.fieldAddr 52 (Operand.tmp 9) 3, type := 0, pos := "law.go:125", after := #[], guard := none }) (v := .pointer (some ⟨g9, 3, none⟩)) rfl (by kernel_rfl) (by kernel_rfl) (by kernel_rfl) (fun _ _ _ h => h) (Or.inl ⟨by rfl, by intro w hSw; go_simp⟩) hHeld ?_
        try simp only [Act.put, List.setIfInBounds_toArray, List.set_cons_zero, List.set_cons_succ]
        refine wpAnyH_take (i := 4) (oi := { dst := some 70, op := Op.fieldAddr 40 (Operand.tmp 69) 1, type := 0, pos := "law.go:125", after := #[{ on := 3, ground := Ground.data }], guard := none }) (v := .pointer (some ⟨g9, 4, none⟩)) rfl (by kernel_rfl) (by kernel_rfl) (by kernel_rfl) (fun _ _ _ h => h) (Or.inl ⟨by rfl, by intro w hSw; go_simp⟩) hHeld ?_
        try simp only [Act.put, List.setIfInBounds_toArray, List.set_cons_zero, List.set_cons_succ]
        refine wpAnyH_take (i := 5) (oi := { dst := some 71, op := Op.load 3 (Operand.tmp 70), type := 3, pos := "law.go:125", after := #[{ on := 4, ground := Ground.data }], guard := none }) (v := .int .i64 (q : Int)) rfl (by kernel_rfl) (by kernel_rfl) (by kernel_rfl) (fun _ _ _ h => h) (Or.inl ⟨by rfl, by intro W hSw; have := (HC9.out W hSw).2.2.2.2; go_simp⟩) hHeld ?_
        try simp only [Act.put, List.setIfInBounds_toArray, List.set_cons_zero, List.set_cons_succ]
        refine wpAnyH_take (i := 6) (oi := { dst := some 72, op := Op.indexAddr 50 (Operand.tmp 7) (Operand.tmp 68), type := 0, pos := "law.go:125", after := #[{ on := 2, ground := Ground.data }], guard := none }) (v := .pointer (some ⟨gT, 4 * r, none⟩)) rfl (by kernel_rfl) (by kernel_rfl) (by kernel_rfl) (fun _ _ _ h => h) (Or.inl ⟨by rfl, by intro W hSw; have := ixa W; go_simp⟩) hHeld ?_
        try simp only [Act.put, List.setIfInBounds_toArray, List.set_cons_zero, List.set_cons_succ]
        refine wpAnyH_take (i := 7) (oi := { dst := some 73, op := Op.indexAddr 49 (Operand.tmp 72) (Operand.tmp 71), type := 0, pos := "law.go:125", after := #[{ on := 6, ground := Ground.data }, { on := 5, ground := Ground.data }], guard := none }) (v := .pointer (some ⟨gT, 4 * r + q, none⟩)) rfl (by kernel_rfl) (by kernel_rfl) (by kernel_rfl) (fun _ _ _ h => h) (Or.inl ⟨by rfl, by intro W hSw; have := ixb W; go_simp⟩) hHeld ?_
        try simp only [Act.put, List.setIfInBounds_toArray, List.set_cons_zero, List.set_cons_succ]
        refine wpAnyH_take (i := 8) (oi := { dst := some 74, op := Op.load 22 (Operand.tmp 73), type := 22, pos := "law.go:125", after := #[{ on := 7, ground := Ground.data }], guard := none }) (v := .slice aj nj cj) rfl (by kernel_rfl) (by kernel_rfl) (by kernel_rfl) (fun _ _ _ h => h) (Or.inl ⟨by rfl, by intro W hSw; have := HTC.out W hSw; go_simp⟩) hHeld ?_
        try simp only [Act.put, List.setIfInBounds_toArray, List.set_cons_zero, List.set_cons_succ]
        refine wpAnyH_take (i := 9) (oi := { dst := some 75, op := Op.fieldAddr 52 (Operand.tmp 9) 1, type := 0, pos := "law.go:125", after := #[], guard := none }) (v := .pointer (some ⟨g9, 1, none⟩)) rfl (by kernel_rfl) (by kernel_rfl) (by kernel_rfl) (fun _ _ _ h => h) (Or.inl ⟨by rfl, by intro w hSw; go_simp⟩) hHeld ?_
        try simp only [Act.put, List.setIfInBounds_toArray, List.set_cons_zero, List.set_cons_succ]
        refine wpAnyH_take (i := 10) (oi := { dst := some 76, op := Op.load 3 (Operand.tmp 75), type := 3, pos := "law.go:125", after := #[{ on := 9, ground := Ground.data }], guard := none }) (v := .int .i64 xe) rfl (by kernel_rfl) (by kernel_rfl) (by kernel_rfl) (fun _ _ _ h => h) (Or.inl ⟨by rfl, by intro W hSw; have := (HC9.out W hSw).2.1; go_simp⟩) hHeld ?_
        try simp only [Act.put, List.setIfInBounds_toArray, List.set_cons_zero, List.set_cons_succ]
        refine wpAnyH_take (i := 11) (oi := { dst := some 77, op := Op.fieldAddr 52 (Operand.tmp 9) 0, type := 0, pos := "law.go:125", after := #[], guard := none }) (v := .pointer (some ⟨g9, 0, none⟩)) rfl (by kernel_rfl) (by kernel_rfl) (by kernel_rfl) (fun _ _ _ h => h) (Or.inl ⟨by rfl, by intro w hSw; go_simp⟩) hHeld ?_
        try simp only [Act.put, List.setIfInBounds_toArray, List.set_cons_zero, List.set_cons_succ]
        refine wpAnyH_take (i := 12) (oi := { dst := some 78, op := Op.load 3 (Operand.tmp 77), type := 3, pos := "law.go:125", after := #[{ on := 11, ground := Ground.data }], guard := none }) (v := .int .i64 xn) rfl (by kernel_rfl) (by kernel_rfl) (by kernel_rfl) (fun _ _ _ h => h) (Or.inl ⟨by rfl, by intro W hSw; have := (HC9.out W hSw).1; go_simp⟩) hHeld ?_
        try simp only [Act.put, List.setIfInBounds_toArray, List.set_cons_zero, List.set_cons_succ]
        refine wpAnyH_take (i := 13) (oi := { dst := some 79, op := Op.fieldAddr 52 (Operand.tmp 9) 2, type := 0, pos := "law.go:125", after := #[], guard := none }) (v := .pointer (some ⟨g9, 2, none⟩)) rfl (by kernel_rfl) (by kernel_rfl) (by kernel_rfl) (fun _ _ _ h => h) (Or.inl ⟨by rfl, by intro w hSw; go_simp⟩) hHeld ?_
        try simp only [Act.put, List.setIfInBounds_toArray, List.set_cons_zero, List.set_cons_succ]
        refine wpAnyH_take (i := 14) (oi := { dst := some 80, op := Op.load 3 (Operand.tmp 79), type := 3, pos := "law.go:125", after := #[{ on := 13, ground := Ground.data }], guard := none }) (v := .int .i64 xs) rfl (by kernel_rfl) (by kernel_rfl) (by kernel_rfl) (fun _ _ _ h => h) (Or.inl ⟨by rfl, by intro W hSw; have := (HC9.out W hSw).2.2.1; go_simp⟩) hHeld ?_
        try simp only [Act.put, List.setIfInBounds_toArray, List.set_cons_zero, List.set_cons_succ]
        refine wpAnyH_take (i := 15) (oi := { dst := some 81, op := Op.build 26 #[(0, Operand.const (Value.int IntKind.i64 1)), (1, Operand.tmp 76), (2, Operand.tmp 78), (3, Operand.tmp 80)], type := 26, pos := "law.go:125", after := #[{ on := 10, ground := Ground.data }, { on := 12, ground := Ground.data }, { on := 14, ground := Ground.data }], guard := none }) (v := .agg X) rfl (by kernel_rfl) (by kernel_rfl) (by kernel_rfl) (fun _ _ _ h => h) (yieldsIf_buildC (by rfl) 26 _ rfl #[(0, .int .i64 1), (1, .int .i64 xe), (2, .int .i64 xn), (3, .int .i64 xs)] rfl X HBX.out) hHeld ?_
        try simp only [Act.put, List.setIfInBounds_toArray, List.set_cons_zero, List.set_cons_succ]
        refine wpAnyH_ready (rs := [16]) (by kernel_rfl) (by simp) ?_
        refine AllReadyH.cons (o := { dst := some 82, op := Op.call { callee := Callee.value (Operand.func 13), args := #[Operand.tmp 74, Operand.tmp 81], argTypes := #[22, 26] }, type := 32, pos := "law.go:125", after := #[{ on := 8, ground := Ground.data }, { on := 15, ground := Ground.data }], guard := none }) rfl (fun K hK => ?_) AllReadyH.nil
        go_simp
        refine (RC.out _ hHeld).mono ?_
        rintro x w5 ⟨a5, c5, rfl, hr5, hn5_1, ho5, hb5⟩
        have hHeld0 := hidk hHeld.size
        go_wp2_with fail
        refine hK.out _ _ (hHeld.trans (hb5.mono hHeld.size)) (fun hHeld => ?_)
        clear hK K
        try simp only [Act.put, List.setIfInBounds_toArray, List.set_cons_zero, List.set_cons_succ]
        refine wpAnyH_take (i := 17) (oi := { dst := some 65, op := Op.move (Operand.tmp 82), type := 32, pos := "law.go:125", after := #[{ on := 16, ground := Ground.data }], guard := none }) (v := .tuple #[.slice a5 n5 c5, .int .i64 111]) rfl (by kernel_rfl) (by kernel_rfl) (by kernel_rfl) (fun _ _ _ h => h) (Or.inl ⟨by rfl, by intro w hSw; go_simp⟩) hHeld ?_
        try simp only [Act.put, List.setIfInBounds_toArray, List.set_cons_zero, List.set_cons_succ]
        refine wpAnyH_take (i := 18) (oi := { dst := some 83, op := Op.extract (Operand.tmp 65) 0, type := 22, pos := "law.go:125", after := #[{ on := 17, ground := Ground.data }], guard := none }) (v := .slice a5 n5 c5) rfl (by kernel_rfl) (by kernel_rfl) (by kernel_rfl) (fun _ _ _ h => h) (Or.inl ⟨by rfl, by intro w hSw; go_simp⟩) hHeld ?_
        try simp only [Act.put, List.setIfInBounds_toArray, List.set_cons_zero, List.set_cons_succ]
        refine wpAnyH_take (i := 19) (oi := { dst := some 84, op := Op.extract (Operand.tmp 65) 1, type := 28, pos := "law.go:125", after := #[{ on := 17, ground := Ground.data }, { on := 20, ground := Ground.gcOnly Departure.lateStores }], guard := none }) (v := .int .i64 111) rfl (by kernel_rfl) (by kernel_rfl) (by kernel_rfl) (fun _ _ _ h => h) (Or.inl ⟨by rfl, by intro w hSw; go_simp⟩) hHeld ?_
        try simp only [Act.put, List.setIfInBounds_toArray, List.set_cons_zero, List.set_cons_succ]
        refine wpAnyH_take (i := 20) (oi := { dst := some 10, op := Op.assign (Operand.tmp 83), type := 22, pos := "law.go:125", after := #[{ on := 18, ground := Ground.data }, { on := 16, ground := Ground.chain }, { on := 0, ground := Ground.phase }, { on := 1, ground := Ground.phase }, { on := 2, ground := Ground.phase }, { on := 3, ground := Ground.phase }, { on := 4, ground := Ground.phase }, { on := 5, ground := Ground.phase }, { on := 6, ground := Ground.phase }, { on := 7, ground := Ground.phase }, { on := 8, ground := Ground.phase }, { on := 9, ground := Ground.phase }, { on := 10, ground := Ground.phase }, { on := 11, ground := Ground.phase }, { on := 12, ground := Ground.phase }, { on := 13, ground := Ground.phase }, { on := 14, ground := Ground.phase }, { on := 15, ground := Ground.phase }, { on := 16, ground := Ground.phase }, { on := 17, ground := Ground.phase }, { on := 18, ground := Ground.phase }, { on := 19, ground := Ground.textOnly Departure.lateStores }], guard := none }) (v := .slice a5 n5 c5) rfl (by kernel_rfl) (by kernel_rfl) (by kernel_rfl) (fun _ _ _ h => h) (Or.inl ⟨by rfl, by intro w hSw; go_simp⟩) hHeld ?_
        try simp only [Act.put, List.setIfInBounds_toArray, List.set_cons_zero, List.set_cons_succ]
        refine wpAnyH_take (i := 21) (oi := { dst := some 11, op := Op.assign (Operand.tmp 84), type := 28, pos := "law.go:125", after := #[{ on := 19, ground := Ground.data }, { on := 20, ground := Ground.chain }, { on := 0, ground := Ground.phase }, { on := 1, ground := Ground.phase }, { on := 2, ground := Ground.phase }, { on := 3, ground := Ground.phase }, { on := 4, ground := Ground.phase }, { on := 5, ground := Ground.phase }, { on := 6, ground := Ground.phase }, { on := 7, ground := Ground.phase }, { on := 8, ground := Ground.phase }, { on := 9, ground := Ground.phase }, { on := 10, ground := Ground.phase }, { on := 11, ground := Ground.phase }, { on := 12, ground := Ground.phase }, { on := 13, ground := Ground.phase }, { on := 14, ground := Ground.phase }, { on := 15, ground := Ground.phase }, { on := 16, ground := Ground.phase }, { on := 17, ground := Ground.phase }, { on := 18, ground := Ground.phase }, { on := 19, ground := Ground.phase }, { on := 20, ground := Ground.phase }], guard := none }) (v := .int .i64 111) rfl (by kernel_rfl) (by kernel_rfl) (by kernel_rfl) (fun _ _ _ h => h) (Or.inl ⟨by rfl, by intro w hSw; go_simp⟩) hHeld ?_
        try simp only [Act.put, List.setIfInBounds_toArray, List.set_cons_zero, List.set_cons_succ]
        refine wpAnyH_done (by kernel_rfl) ?_ _
        have HB5 := hidk (HB3.out.trans (hHeld.mono HB3.out.size))
        have HT5 := hidk (HT3.out.keep hHeld)
        have HTX : Hid (TabX gT (k + 1) w5) := ⟨A, N, C, LL, HT5.out.mono (Nat.le_succ _)⟩
        clear hr5 hn5_1 ho5 hb5
        go_wp2
        go_roundw
        case rel => exact ⟨k + 1, HKL.out, by go_num, HB5, HTX⟩
        case measure => simp [intOf]; omega
    · obtain rfl : k = len := by omega
      obtain ⟨W1, rfl⟩ : ∃ W1, W1 = wr := ⟨_, rfl⟩
      have hd : decide ((k : Int) < (k : Int)) = false := by rw [decide_eq_false_iff_not]; omega
      obtain ⟨A, N, C, LL, htab⟩ := HT.out
      have HTB := hidk htab
      have hk100 : k ≤ 100 := by omega
      clear htab HT HAO H5O HBT HT1
      go_wp2
      go_loopw [12, 13] (fun v i wr => WonO W1 k M ep LL v i wr) (fun _ i _ => k - (intOf i).toNat)
      case atStart => exact ⟨0, [], Nat.zero_le _, rfl, Nat.le_refl _, (fun d hd => by cases hd), World.ownsRow_nil _ _ _ _, Below.refl _ _⟩
      case round =>
        obtain ⟨i, Wn, hi, rfl, hwl, hwk, how, hbw⟩ := hrel
        obtain ⟨W2, rfl⟩ : ∃ W2, W2 = wr := ⟨_, rfl⟩
        have HWL := hidk hwl
        have HWK := hidk hwk
        have HOW := hidk how
        have HB2 := hidk hbw
        have hwl2 : Wn.length ≤ 100 := by omega
        clear hwl hwk how hbw
        by_cases hlt2 : i < k
        · have hd2 : decide ((i : Int) < (k : Int)) = true := by rw [decide_eq_true_eq]; omega
          have hw1 := wrap_int ((i : Int) + 1) (by omega) (by omega)
          obtain ⟨g, o, rfl, hg⟩ := H.out.at (by omega)
          have hil : i < l.length := by have := HL.out; omega
          have HIL : Hid (i + 1 ≤ k) := hlt2
          have ix := fun W => index_of W g o k cap i .i64 hlt2
          have HCO : Hid (∀ W, Below W2.heap.size W2 W → W.cell? ⟨g, o + 5 * i, none⟩ = some (.int .i64 l[i].n) ∧ W.cell? ⟨g, o + 5 * i + 2, none⟩ = some (.int .i64 l[i].s)) := fun W hW => by
            have hr := (((H.out.keep HB.out).keep HB2.out).keep hW).range i hil
            exact ⟨hr 0 _ rfl, hr 2 _ rfl⟩
          obtain ⟨xn, hxn⟩ : ∃ z, l[i].n = z := ⟨_, rfl⟩
          obtain ⟨xs, hxs⟩ : ∃ z, l[i].s = z := ⟨_, rfl⟩
          rw [hxn, hxs] at HCO
          obtain ⟨c, hc⟩ : ∃ c, clmK ep xn xs = c := ⟨_, rfl⟩
          have hok : OkC c := by rw [← hc]; rfl
          obtain ⟨X, HX⟩ : ∃ X, Hid (X = (ccells c).toArray) := ⟨_, hidk rfl⟩
          have HBX : Hid (Try.prog.built 26 [(0, .int .i64 1), (1, .int .i64 ep), (2, .int .i64 xn), (3, .int .i64 xs)] = some X) := by show _ = _; rw [HX.out, ← hc]; exact builtK ep xn xs
          have HSX : Hid ((Try.prog.info? 26).map (·.size) = some X.size) := by show _ = _; rw [sizeC, HX.out]; simp [ccells_length _ hok]
          have HZX : Hid (Z.size = X.size) := by show _ = _; rw [H36.out, HX.out]; simp [ccells_length _ hok]
          have H1X : Hid (X.all (·.oneCell') = true) := by show _ = _; rw [HX.out]; exact one_cellsC _
          clear hxn hxs hil hc
          go_wp2
          refine wp_region_held_drew (S := (fun W => Below W2.heap.size W2 W)) (by kernel_rfl) (Below.refl _ _).drew (fun hHeld => ?_)
          refine wpAnyH_take (i := 0) (oi := { dst := some 102, op := Op.move (Operand.tmp 2), type := 3, pos := "law.go:132", after := #[], guard := none }) (v := .int .i64 ep) rfl (by kernel_rfl) (by kernel_rfl) (by kernel_rfl) (fun _ _ _ h => h) (Or.inl ⟨by rfl, by intro w hSw; go_simp⟩) hHeld ?_
          try simp only [Act.put, List.setIfInBounds_toArray, List.set_cons_zero, List.set_cons_succ]
          refine wpAnyH_take (i := 1) (oi := { dst := some 103, op := Op.move (Operand.tmp 1), type := 48, pos := "law.go:132", after := #[], guard := none }) (v := .slice (some ⟨g, o, none⟩) k cap) rfl (by kernel_rfl) (by kernel_rfl) (by kernel_rfl) (fun _ _ _ h => h) (Or.inl ⟨by rfl, by intro w hSw; go_simp⟩) hHeld ?_
          try simp only [Act.put, List.setIfInBounds_toArray, List.set_cons_zero, List.set_cons_succ]
          refine wpAnyH_take (i := 2) (oi := { dst := some 104, op := Op.move (Operand.tmp 13), type := 3, pos := "law.go:132", after := #[], guard := none }) (v := .int .i64 i) rfl (by kernel_rfl) (by kernel_rfl) (by kernel_rfl) (fun _ _ _ h => h) (Or.inl ⟨by rfl, by intro w hSw; go_simp⟩) hHeld ?_
          try simp only [Act.put, List.setIfInBounds_toArray, List.set_cons_zero, List.set_cons_succ]
          refine wpAnyH_take (i := 3) (oi := { dst := some 105, op := Op.indexAddr 48 (Operand.tmp 103) (Operand.tmp 104), type := 0, pos := "law.go:132", after := #[{ on := 1, ground := Ground.data }, { on := 2, ground := Ground.data }], guard := none }) (v := .pointer (some ⟨g, o + 5 * i, none⟩)) rfl (by kernel_rfl) (by kernel_rfl) (by kernel_rfl) (fun _ _ _ h => h) (Or.inl ⟨by rfl, by intro W hSw; have := ix W; go_simp⟩) hHeld ?_
          try simp only [Act.put, List.setIfInBounds_toArray, List.set_cons_zero, List.set_cons_succ]
          refine wpAnyH_take (i := 4) (oi := { dst := some 106, op := Op.fieldAddr 52 (Operand.tmp 105) 0, type := 0, pos := "law.go:132", after := #[{ on := 3, ground := Ground.data }], guard := none }) (v := .pointer (some ⟨g, o + 5 * i, none⟩)) rfl (by kernel_rfl) (by kernel_rfl) (by kernel_rfl) (fun _ _ _ h => h) (Or.inl ⟨by rfl, by intro w hSw; go_simp⟩) hHeld ?_
          try simp only [Act.put, List.setIfInBounds_toArray, List.set_cons_zero, List.set_cons_succ]
          refine wpAnyH_take (i := 5) (oi := { dst := some 107, op := Op.load 3 (Operand.tmp 106), type := 3, pos := "law.go:132", after := #[{ on := 4, ground := Ground.data }], guard := none }) (v := .int .i64 xn) rfl (by kernel_rfl) (by kernel_rfl) (by kernel_rfl) (fun _ _ _ h => h) (Or.inl ⟨by rfl, by intro W hSw; have := (HCO.out W hSw).1; go_simp⟩) hHeld ?_
          try simp only [Act.put, List.setIfInBounds_toArray, List.set_cons_zero, List.set_cons_succ]
          refine wpAnyH_take (i := 6) (oi := { dst := some 108, op := Op.move (Operand.tmp 1), type := 48, pos := "law.go:132", after := #[], guard := none }) (v := .slice (some ⟨g, o, none⟩) k cap) rfl (by kernel_rfl) (by kernel_rfl) (by kernel_rfl) (fun _ _ _ h => h) (Or.inl ⟨by rfl, by intro w hSw; go_simp⟩) hHeld ?_
          try simp only [Act.put, List.setIfInBounds_toArray, List.set_cons_zero, List.set_cons_succ]
          refine wpAnyH_take (i := 7) (oi := { dst := some 109, op := Op.move (Operand.tmp 13), type := 3, pos := "law.go:132", after := #[], guard := none }) (v := .int .i64 i) rfl (by kernel_rfl) (by kernel_rfl) (by kernel_rfl) (fun _ _ _ h => h) (Or.inl ⟨by rfl, by intro w hSw; go_simp⟩) hHeld ?_
          try simp only [Act.put, List.setIfInBounds_toArray, List.set_cons_zero, List.set_cons_succ]
          refine wpAnyH_take (i := 8) (oi := { dst := some 110, op := Op.indexAddr 48 (Operand.tmp 108) (Operand.tmp 109), type := 0, pos := "law.go:132", after := #[{ on := 6, ground := Ground.data }, { on := 7, ground := Ground.data }], guard := none }) (v := .pointer (some ⟨g, o + 5 * i, none⟩)) rfl (by kernel_rfl) (by kernel_rfl) (by kernel_rfl) (fun _ _ _ h => h) (Or.inl ⟨by rfl, by intro W hSw; have := ix W; go_simp⟩) hHeld ?_
          try simp only [Act.put, List.setIfInBounds_toArray, List.set_cons_zero, List.set_cons_succ]
          refine wpAnyH_take (i := 9) (oi := { dst := some 111, op := Op.fieldAddr 52 (Operand.tmp 110) 2, type := 0, pos := "law.go:132", after := #[{ on := 8, ground := Ground.data }], guard := none }) (v := .pointer (some ⟨g, o + 5 * i + 2, none⟩)) rfl (by kernel_rfl) (by kernel_rfl) (by kernel_rfl) (fun _ _ _ h => h) (Or.inl ⟨by rfl, by intro w hSw; go_simp⟩) hHeld ?_
          try simp only [Act.put, List.setIfInBounds_toArray, List.set_cons_zero, List.set_cons_succ]
          refine wpAnyH_take (i := 10) (oi := { dst := some 112, op := Op.load 3 (Operand.tmp 111), type := 3, pos := "law.go:132", after := #[{ on := 9, ground := Ground.data }], guard := none }) (v := .int .i64 xs) rfl (by kernel_rfl) (by kernel_rfl) (by kernel_rfl) (fun _ _ _ h => h) (Or.inl ⟨by rfl, by intro W hSw; have := (HCO.out W hSw).2; go_simp⟩) hHeld ?_
          try simp only [Act.put, List.setIfInBounds_toArray, List.set_cons_zero, List.set_cons_succ]
          refine wpAnyH_take (i := 11) (oi := { dst := some 113, op := Op.build 26 #[(0, Operand.const (Value.int IntKind.i64 1)), (1, Operand.tmp 102), (2, Operand.tmp 107), (3, Operand.tmp 112)], type := 26, pos := "law.go:132", after := #[{ on := 0, ground := Ground.data }, { on := 5, ground := Ground.data }, { on := 10, ground := Ground.data }], guard := none }) (v := .agg X) rfl (by kernel_rfl) (by kernel_rfl) (by kernel_rfl) (fun _ _ _ h => h) (yieldsIf_buildC (by rfl) 26 _ rfl #[(0, .int .i64 1), (1, .int .i64 ep), (2, .int .i64 xn), (3, .int .i64 xs)] rfl X HBX.out) hHeld ?_
          try simp only [Act.put, List.setIfInBounds_toArray, List.set_cons_zero, List.set_cons_succ]
          refine wpAnyH_ready (rs := [12]) (by kernel_rfl) (by simp) ?_
          refine AllReadyH.cons (o := { dst := some 14, op := Op.alloc 26, type := 0, pos := "law.go:132", after := #[], guard := none }) rfl (fun K hK => ?_) AllReadyH.nil
          refine step_new_var (by rfl) 26 rfl Z HA.out ?_
          intro g14 w14 HM14
          have hg14 : W2.heap.size ≤ g14 := (by rw [HM14.out.new]; exact hHeld.size)
          refine hK.out _ _ (hHeld.trans (HM14.out.below.mono hHeld.size)) (fun hHeld => ?_)
          clear hK K
          try simp only [Act.put, List.setIfInBounds_toArray, List.set_cons_zero, List.set_cons_succ]
          refine wpAnyH_ready (rs := [13]) (by kernel_rfl) (by simp) ?_
          refine AllReadyH.cons (o := { dst := none, op := Op.store 26 (Operand.tmp 14) (Operand.tmp 113), type := 0, pos := "law.go:132", after := #[{ on := 12, ground := Ground.data }, { on := 11, ground := Ground.data }, { on := 0, ground := Ground.phase }, { on := 1, ground := Ground.phase }, { on := 2, ground := Ground.phase }, { on := 3, ground := Ground.phase }, { on := 4, ground := Ground.phase }, { on := 5, ground := Ground.phase }, { on := 6, ground := Ground.phase }, { on := 7, ground := Ground.phase }, { on := 8, ground := Ground.phase }, { on := 9, ground := Ground.phase }, { on := 10, ground := Ground.phase }, { on := 11, ground := Ground.phase }, { on := 12, ground := Ground.phase }], guard := none }) rfl (fun K hK => ?_) AllReadyH.nil
          refine step_set_var (by rfl) 26 (.tmp 14) (.tmp 113) rfl g14 X rfl rfl 26 Z HM14.out.row HSX.out HZX.out H1X.out ?_
          intro w15 HW14
          refine hK.out _ _ (HW14.out.below _ _ hHeld hg14) (fun hHeld => ?_)
          clear hK K
          try simp only [Act.put, List.setIfInBounds_toArray, List.set_cons_zero, List.set_cons_succ]
          refine wpAnyH_done (by kernel_rfl) ?_ _
          have HB23 := hidk hHeld
          have HB3 := hidk (HB2.out.trans (hHeld.mono HB2.out.size))
          have HX3 : Hid (w15.rangeAt g14 0 X.toList) := range_row (t := 26) (fr := (0, 0)) (by rw [Array.toArray_toList]; exact HW14.out.row)
          have HOW3 := hidk (own_below HOW.out hHeld)
          have HT3 := hidk (HTB.out.keep HB3.out)
          clear HM14 HW14 hg14 HCO HBX HZX H1X
          go_wp2
          go_loopw [15, 16] (fun v r wr => AdrR w15 M ep LL c v r wr) (fun _ r _ => M + 2 - (intOf r).toNat)
          case atStart => exact ⟨2, by omega, by omega, rfl, [], Nat.zero_le _, (fun x hx => by cases hx), World.ownsRow_nil _ _ _ _, Below.refl _ _⟩
          case round =>
            obtain ⟨r, hr1, hr2, rfl, out', hbd', hhk', hoo', hbb'⟩ := hrel
            obtain ⟨W4, rfl⟩ : ∃ W4, W4 = wr := ⟨_, rfl⟩
            have HBD := hidk hbd'
            have HHK4 := hidk hhk'
            have HO4 := hidk hoo'
            have HB4 := hidk hbb'
            clear hbd' hhk' hoo' hbb'
            by_cases hrl : r ≤ M
            · have hdr : decide ((r : Int) ≤ (M : Int)) = true := by rw [decide_eq_true_eq]; omega
              have hwr := wrap_int ((r : Int) + 1) (by omega) (by omega)
              have HRN : Hid (r + 1 ≤ M + 1) := by show _ ≤ _; omega
              have ixa := fun W => index_tab1 W gT r (by omega)
              go_wp2
              go_loopw [15, 17] (fun v n wr => AdrN w15 M ep LL c r v n wr) (fun _ n _ => 5 - (intOf n).toNat)
              case atStart => exact ⟨1, by omega, by omega, rfl, out', by have := HBD.out; omega, HHK4.out, HO4.out, HB4.out⟩
              case round =>
                obtain ⟨n, hn1, hn2, rfl, out, hbd, hhk', hoo', hbb'⟩ := hrel
                have HHK := hidk hhk'
                have HO5 := hidk hoo'
                have HB5 := hidk hbb'
                have hout : out.length ≤ 28 := by omega
                clear hhk' hoo' hbb'
                by_cases hnl : n ≤ 3
                · have hdn : decide ((n : Int) ≤ 3) = true := by rw [decide_eq_true_eq]; omega
                  have hwn := wrap_int ((n : Int) + 1) (by omega) (by omega)
                  have ixb := fun W => index_tab2 W gT (4 * r) n (by omega)
                  have hj24 : 4 * r + n < 24 := by omega
                  have hcT := (HT3.out.keep HB5.out).cell (4 * r + n) hj24
                  obtain ⟨R, HR⟩ : ∃ R, Hid (R = (ccells (foundC (LL (4 * r + n)) 1 ep)).toArray) := ⟨_, hidk rfl⟩
                  have hrdj := (HT3.out.keep HB5.out).rd (4 * r + n) hj24
                  have hof := foundC_ok hrdj.ok 1 ep
                  have HSR : Hid ((Try.prog.info? 26).map (·.size) = some R.size) := by show _ = _; rw [sizeC, HR.out]; simp [ccells_length _ hof]
                  have HZR : Hid (Z.size = R.size) := by show _ = _; rw [H36.out, HR.out]; simp [ccells_length _ hof]
                  have H1R : Hid (R.all (·.oneCell') = true) := by show _ = _; rw [HR.out]; exact one_cellsC _
                  have FI := hidk (kFind_any _ _ _ _ 1 ep _ hrdj (by have := (HT3.out.le (4 * r + n) hj24); omega) R HR)
                  obtain ⟨ok, hokk⟩ : ∃ b, (findC (LL (4 * r + n)) 1 ep).isSome = b := ⟨_, rfl⟩
                  obtain ⟨eq, heq⟩ : ∃ b, eqCB (foundC (LL (4 * r + n)) 1 ep) c = b := ⟨_, rfl⟩
                  have hqe := fun W => eqClaim _ c hof hok R X HR HX eq (by rw [← heq]; exact eqCB_iff _ _) W
                  rw [hokk] at FI
                  have HNEW : Hid (ok = true → eq = true → HasK LL M ep c ⟨(r : Int), (n : Int)⟩) := fun h1 h2 => by
                    refine ⟨r, n, rfl, hr1, hrl, hn1, hnl, ?_⟩
                    rw [← hokk] at h1
                    obtain ⟨z, hz⟩ := Option.isSome_iff_exists.1 h1
                    have e0 : foundC (LL (4 * r + n)) 1 ep = z := by unfold foundC; rw [hz]; rfl
                    rw [← heq, e0] at h2
                    rw [hz, (eqCB_iff z c).1 h2]
                  obtain ⟨aj, haj⟩ : ∃ z, A (4 * r + n) = z := ⟨_, rfl⟩
                  obtain ⟨nj, hnj⟩ : ∃ z, N (4 * r + n) = z := ⟨_, rfl⟩
                  obtain ⟨cj, hcj⟩ : ∃ z, C (4 * r + n) = z := ⟨_, rfl⟩
                  rw [haj, hnj, hcj] at hcT FI
                  clear haj hnj hcj hokk heq hrdj hof HR
                  go_wp2_with fail
                  refine FI.out.mono ?_
                  rintro x w6 ⟨rfl, hb6⟩
                  have HB6 := hidk (HB5.out.trans (hb6.mono HB5.out.size))
                  have HO6 := hidk (own_below HO5.out hb6)
                  clear hb6 FI hcT
                  cases ok
                  · go_wp2_with (first
                        | (show wpList _ _ _ ({ dst := some 18, op := _, type := _, pos := _, after := _, guard := _ } :: _) _ _; refine wpList_new_var rfl 26 rfl Z HA.out ?_; intro g18 w7 HM18; have HG18 := hidk HM18.out.row; try simp only [Act.put, List.setIfInBounds_toArray, List.set_cons_zero, List.set_cons_succ])
                        | (show wpList _ _ _ ({ dst := none, op := Op.store 26 _ _, type := _, pos := _, after := _, guard := _ } :: _) _ _; refine wpList_set_var rfl 26 (.tmp 18) (.tmp 131) rfl g18 R rfl rfl 26 Z HG18.out HSR.out HZR.out H1R.out ?_; intro w8 HW18; have hb8 : Below w6.heap.size w6 w8 := HW18.out.below _ _ HM18.out.below (by rw [HM18.out.new]; exact Nat.le_refl _); have HR18 : Hid (w8.rangeAt g18 0 R.toList) := range_row (t := 26) (fr := (0, 0)) (by rw [Array.toArray_toList]; exact HW18.out.row); have HB8 := hidk (HB6.out.trans (hb8.mono HB6.out.size)); have HX8 := hidk (range_keep HB8.out HX3.out); have HO8 := hidk (own_below HO6.out hb8); try simp only [Act.put, List.setIfInBounds_toArray, List.set_cons_zero, List.set_cons_succ])
                        | (show wpList _ _ _ ({ dst := some 135, op := _, type := _, pos := _, after := _, guard := _ } :: _) _ _; refine wpList_mid_w (by rfl) 26 (.tmp 18) rfl g18 0 rfl R _ HR18.out Try.underlying26 rfl HSR.out ?_; try simp only [Act.put, List.setIfInBounds_toArray, List.set_cons_zero, List.set_cons_succ])
                        | (show wpList _ _ _ ({ dst := some 136, op := _, type := _, pos := _, after := _, guard := _ } :: _) _ _; refine wpList_mid_w (by rfl) 26 (.tmp 14) rfl g14 0 rfl X _ HX8.out Try.underlying26 rfl HSX.out ?_; try simp only [Act.put, List.setIfInBounds_toArray, List.set_cons_zero, List.set_cons_succ])
                        | fail)
                    clear HM18 HG18 HW18 hb8 HR18 HX8
                    go_roundw
                    case rel => exact ⟨n + 1, by omega, by omega, by go_num, out, by omega, HHK.out, HO8.out, HB8.out⟩
                    case measure => simp [intOf]; omega
                  · cases eq
                    · go_wp2_with (first
                        | (show wpList _ _ _ ({ dst := some 18, op := _, type := _, pos := _, after := _, guard := _ } :: _) _ _; refine wpList_new_var rfl 26 rfl Z HA.out ?_; intro g18 w7 HM18; have HG18 := hidk HM18.out.row; try simp only [Act.put, List.setIfInBounds_toArray, List.set_cons_zero, List.set_cons_succ])
                        | (show wpList _ _ _ ({ dst := none, op := Op.store 26 _ _, type := _, pos := _, after := _, guard := _ } :: _) _ _; refine wpList_set_var rfl 26 (.tmp 18) (.tmp 131) rfl g18 R rfl rfl 26 Z HG18.out HSR.out HZR.out H1R.out ?_; intro w8 HW18; have hb8 : Below w6.heap.size w6 w8 := HW18.out.below _ _ HM18.out.below (by rw [HM18.out.new]; exact Nat.le_refl _); have HR18 : Hid (w8.rangeAt g18 0 R.toList) := range_row (t := 26) (fr := (0, 0)) (by rw [Array.toArray_toList]; exact HW18.out.row); have HB8 := hidk (HB6.out.trans (hb8.mono HB6.out.size)); have HX8 := hidk (range_keep HB8.out HX3.out); have HO8 := hidk (own_below HO6.out hb8); try simp only [Act.put, List.setIfInBounds_toArray, List.set_cons_zero, List.set_cons_succ])
                        | (show wpList _ _ _ ({ dst := some 135, op := _, type := _, pos := _, after := _, guard := _ } :: _) _ _; refine wpList_mid_w (by rfl) 26 (.tmp 18) rfl g18 0 rfl R _ HR18.out Try.underlying26 rfl HSR.out ?_; try simp only [Act.put, List.setIfInBounds_toArray, List.set_cons_zero, List.set_cons_succ])
                        | (show wpList _ _ _ ({ dst := some 136, op := _, type := _, pos := _, after := _, guard := _ } :: _) _ _; refine wpList_mid_w (by rfl) 26 (.tmp 14) rfl g14 0 rfl X _ HX8.out Try.underlying26 rfl HSX.out ?_; try simp only [Act.put, List.setIfInBounds_toArray, List.set_cons_zero, List.set_cons_succ])
                        | fail)
                      clear HM18 HG18 HW18 hb8 HR18 HX8
                      go_roundw
                      case rel => exact ⟨n + 1, by omega, by omega, by go_num, out, by omega, HHK.out, HO8.out, HB8.out⟩
                      case measure => simp [intOf]; omega
                    · have HHN := hidk (HNEW.out rfl rfl)
                      go_wp2_with (first
                        | (show wpList _ _ _ ({ dst := some 18, op := _, type := _, pos := _, after := _, guard := _ } :: _) _ _; refine wpList_new_var rfl 26 rfl Z HA.out ?_; intro g18 w7 HM18; have HG18 := hidk HM18.out.row; try simp only [Act.put, List.setIfInBounds_toArray, List.set_cons_zero, List.set_cons_succ])
                        | (show wpList _ _ _ ({ dst := none, op := Op.store 26 _ _, type := _, pos := _, after := _, guard := _ } :: _) _ _; refine wpList_set_var rfl 26 (.tmp 18) (.tmp 131) rfl g18 R rfl rfl 26 Z HG18.out HSR.out HZR.out H1R.out ?_; intro w8 HW18; have hb8 : Below w6.heap.size w6 w8 := HW18.out.below _ _ HM18.out.below (by rw [HM18.out.new]; exact Nat.le_refl _); have HR18 : Hid (w8.rangeAt g18 0 R.toList) := range_row (t := 26) (fr := (0, 0)) (by rw [Array.toArray_toList]; exact HW18.out.row); have HB8 := hidk (HB6.out.trans (hb8.mono HB6.out.size)); have HX8 := hidk (range_keep HB8.out HX3.out); have HO8 := hidk (own_below HO6.out hb8); try simp only [Act.put, List.setIfInBounds_toArray, List.set_cons_zero, List.set_cons_succ])
                        | (show wpList _ _ _ ({ dst := some 135, op := _, type := _, pos := _, after := _, guard := _ } :: _) _ _; refine wpList_mid_w (by rfl) 26 (.tmp 18) rfl g18 0 rfl R _ HR18.out Try.underlying26 rfl HSR.out ?_; try simp only [Act.put, List.setIfInBounds_toArray, List.set_cons_zero, List.set_cons_succ])
                        | (show wpList _ _ _ ({ dst := some 136, op := _, type := _, pos := _, after := _, guard := _ } :: _) _ _; refine wpList_mid_w (by rfl) 26 (.tmp 14) rfl g14 0 rfl X _ HX8.out Try.underlying26 rfl HSX.out ?_; try simp only [Act.put, List.setIfInBounds_toArray, List.set_cons_zero, List.set_cons_succ])
                        | fail)
                      clear HM18 HG18 HW18 hb8 HR18 HX8
                      refine (at_any (r : Int) (n : Int) _).mono ?_
                      rintro x w9 ⟨rfl, hb9⟩
                      have HO9 := hidk (own_below HO8.out hb9)
                      have HB9 := hidk (HB8.out.trans (hb9.mono HB8.out.size))
                      clear hb9
                      obtain ⟨v2, wA, hrA, hoA, hbA, hsA⟩ := append_one (⟨(r : Int), (n : Int)⟩ : AdT) HO9.out HB9.out.size HB9.out (by omega)
                      have HOA : Hid (wA.ownsRow w15.heap.size 40 2 v2 (out ++ [(⟨(r : Int), (n : Int)⟩ : AdT)]).length (adcL (out ++ [⟨(r : Int), (n : Int)⟩]))) := by show World.ownsRow _ _ _ _ _ _ _; rw [List.length_append]; exact hoA
                      have HBA := hidk hbA
                      have HHA : Hid (∀ x ∈ out ++ [(⟨(r : Int), (n : Int)⟩ : AdT)], HasK LL M ep c x) := fun x hx => by
                        rcases List.mem_append.1 hx with hx | hx
                        · exact HHK.out x hx
                        · rw [List.mem_singleton.1 hx]; exact HHN.out
                      have BU : (Instr.buildSlice 38 1 #[(0, .agg #[.int .i64 (r : Int), .int .i64 (n : Int)])]).run Try.prog w9 = .ok (.slice (some ⟨w9.heap.size, 0, none⟩) 1 1) (w9.alloc (.cells #[.int .i64 (r : Int), .int .i64 (n : Int)] 40)) := buildOneA w9 ⟨(r : Int), (n : Int)⟩ _ (hidk rfl) trivial
                      clear hoA hbA hsA
                      go_wp2_with (first
                        | (show wpList _ _ _ ({ dst := some 143, op := _, type := _, pos := _, after := _, guard := _ } :: _) _ _; refine wpList_build_run rfl 38 1 _ rfl _ rfl _ _ BU ?_; try simp only [Act.put, List.setIfInBounds_toArray, List.set_cons_zero, List.set_cons_succ])
                        | (show wpList _ _ _ ({ dst := some 144, op := _, type := _, pos := _, after := _, guard := _ } :: _) _ _; refine wpList_append_run rfl (.tmp 139) (.tmp 143) 38 38 rfl _ _ v2 wA rfl rfl hrA ?_; try simp only [Act.put, List.setIfInBounds_toArray, List.set_cons_zero, List.set_cons_succ])
                        | fail)
                      go_roundw
                      case rel => exact ⟨n + 1, by omega, by omega, by go_num, _, by simp; omega, HHA.out, HOA.out, HBA.out⟩
                      case measure => simp [intOf]; omega
                · obtain rfl : n = 4 := by omega
                  have hdn : decide (((4 : Nat) : Int) ≤ 3) = false := by decide
                  go_wp2
                  go_roundw
                  case rel => exact ⟨r + 1, by omega, HRN.out, by go_num, out, by omega, HHK.out, HO5.out, HB5.out⟩
                  case measure => simp [intOf]; omega
            · obtain rfl : r = M + 1 := by omega
              have hdr : decide (((M + 1 : Nat) : Int) ≤ (M : Int)) = false := by rw [decide_eq_false_iff_not]; omega
              obtain ⟨a15, c15, ou⟩ := outA HO4.out
              have hv := ou.val
              obtain ⟨n15, hn15⟩ : ∃ z, out'.length = z := ⟨_, rfl⟩
              have hnb : n15 ≤ 24 := by have := HBD.out; omega
              have HR15 := hidk ou.rd
              rw [hn15] at hv HR15
              subst hv
              obtain ⟨el, hel⟩ : ∃ b, enoughB (M : Int) 1 out' = b := ⟨_, rfl⟩
              have EN := hidk (kEnough_any (M : Int) 1 a15 n15 c15 out' W4 HR15.out (fun x hx => (HHK4.out x hx).inA hM5) (by omega))
              rw [hel] at EN
              have HWN : Hid (el = true → WonK LL M ep c) := fun hh => ⟨out', by rw [hel]; exact hh, HHK4.out⟩
              clear hel ou hn15
              go_wp2_with fail
              refine EN.out.mono ?_
              rintro x w6 ⟨rfl, hb6⟩
              have HB6 := hidk (HB4.out.trans (hb6.mono HB4.out.size))
              have HO6 := hidk (own_below HOW3.out HB6.out)
              have HX6 := hidk (range_keep HB6.out HX3.out)
              have HB16 := hidk (HB3.out.trans (HB6.out.mono HB3.out.size))
              clear hb6 EN HO4 HR15
              cases el
              · go_wp2
                go_roundw
                case rel => exact ⟨i + 1, Wn, HIL.out, by go_num, by have := HWL.out; omega, HWK.out, HO6.out, HB16.out⟩
                case measure => simp [intOf]; omega
              · have HW := hidk (HWN.out rfl)
                obtain ⟨v2, wA, hrA, hoA, hbA, hsA⟩ := append_oneC c X HX hok HO6.out HB16.out.size HB16.out (by omega)
                have HOA : Hid (wA.ownsRow W1.heap.size 26 36 v2 (Wn ++ [c]).length (clcL (Wn ++ [c]))) := by show World.ownsRow _ _ _ _ _ _ _; rw [List.length_append]; exact hoA
                have HBA := hidk hbA
                have HWA : Hid (∀ d ∈ Wn ++ [c], WonK LL M ep d ∧ OkC d) := fun d hd => by
                  rcases List.mem_append.1 hd with hd | hd
                  · exact HWK.out d hd
                  · rw [List.mem_singleton.1 hd]; exact ⟨HW.out, hok⟩
                clear hoA hbA hsA
                go_wp2_with (first
                  | (show wpList _ _ _ ({ dst := some 149, op := _, type := _, pos := _, after := _, guard := _ } :: _) _ _; refine wpList_mid_w (by rfl) 26 (.tmp 14) rfl g14 0 rfl X _ HX6.out Try.underlying26 rfl HSX.out ?_; try simp only [Act.put, List.setIfInBounds_toArray, List.set_cons_zero, List.set_cons_succ])
                  | (show wpList _ _ _ ({ dst := some 150, op := _, type := _, pos := _, after := _, guard := _ } :: _) _ _; refine wpList_build_run rfl 22 1 _ rfl #[(0, .agg X)] rfl _ _ (buildOneC _ c X HX hok) ?_; try simp only [Act.put, List.setIfInBounds_toArray, List.set_cons_zero, List.set_cons_succ])
                  | (show wpList _ _ _ ({ dst := some 151, op := _, type := _, pos := _, after := _, guard := _ } :: _) _ _; refine wpList_append_run rfl (.tmp 148) (.tmp 150) 22 22 rfl _ _ v2 wA rfl rfl hrA ?_; try simp only [Act.put, List.setIfInBounds_toArray, List.set_cons_zero, List.set_cons_succ])
                  | fail)
                go_roundw
                case rel => exact ⟨i + 1, _, HIL.out, by go_num, by have := HWL.out; simp; omega, HWA.out, HOA.out, HBA.out⟩
                case measure => simp [intOf]; omega
        · have hd2 : decide ((i : Int) < (k : Int)) = false := by rw [decide_eq_false_iff_not]; omega
          obtain ⟨aw, cw, hvw, hrw, _, _⟩ := CReads.own HOW.out (fun d hd => (HWK.out d hd).2)
          obtain ⟨nw, hnw⟩ : ∃ z, Wn.length = z := ⟨_, rfl⟩
          rw [hnw] at hvw hrw hwl2
          subst hvw
          have HRW := hidk hrw
          have HNW := hidk hnw
          have HSM : Hid (∀ c ∈ Wn, ∀ d ∈ Wn, c = d) := fun c hc d hd => won_one (HWK.out c hc).1 (HWK.out d hd).1
          clear hrw hnw HOW
          go_wp2
          go_loopw [20] (fun i wr => ∃ j : Nat, 1 ≤ j ∧ j ≤ nw + 1 ∧ i = .int .i64 (j : Int) ∧ Hid (Below W2.heap.size W2 wr)) (fun i _ => nw + 1 - (intOf i).toNat)
          case atStart => exact ⟨1, by omega, by omega, rfl, Below.refl _ _⟩
          case round =>
            obtain ⟨j, hj1, hj2, rfl, HBJ⟩ := hrel
            by_cases hjl : j < nw
            · have hdj : decide ((j : Int) < (nw : Int)) = true := by rw [decide_eq_true_eq]; omega
              have hwj := wrap_int ((j : Int) + 1) (by omega) (by omega)
              obtain ⟨g, o, rfl, hg⟩ := HRW.out.at (by omega)
              have hjw : j < Wn.length := by have := HNW.out; omega
              have h0w : 0 < Wn.length := by omega
              have ix1 := fun W => index_cl W g o nw cw j .i64 hjl
              have ix0 : ∀ W : World, (Instr.indexAt 22 (.slice (some ⟨g, o, none⟩) nw cw) (.int .i64 0)).run Try.prog W = .ok (.pointer (some ⟨g, o, none⟩)) W := fun W => index_cl W g o nw cw 0 .i64 (by omega)
              have hsm := HSM.out _ (List.getElem_mem hjw) _ (List.getElem_mem h0w)
              obtain ⟨Y, HY⟩ : ∃ Y, Hid (Y = (ccells Wn[0]).toArray) := ⟨_, hidk rfl⟩
              have hoy := (HWK.out _ (List.getElem_mem h0w)).2
              have HSY : Hid ((Try.prog.info? 26).map (·.size) = some Y.size) := by show _ = _; rw [sizeC, HY.out]; simp [ccells_length _ hoy]
              have HS32 : Hid (wr.drew.rangeAt g (o + 36 * j) Y.toList ∧ wr.drew.rangeAt g o Y.toList) := by
                have hk := HRW.out.keep HBJ.out.drew
                refine ⟨?_, ?_⟩
                · rw [HY.out, ← hsm]; exact hk.range j hjw
                · rw [HY.out]; exact hk.range 0 h0w
              have hqn := fun W => neqClaim Wn[0] Wn[0] hoy hoy Y Y HY HY false (by simp) W
              clear hsm HY hjw h0w hoy
              go_wp2
              refine wp_region_held_drew (S := (fun W => W.rangeAt g (o + 36 * j) Y.toList ∧ W.rangeAt g o Y.toList)) (by kernel_rfl) HS32.out (fun hHeld => ?_)
              refine wpAnyH_take (i := 0) (oi := { dst := some 158, op := Op.move (Operand.tmp 12), type := 22, pos := "law.go:147", after := #[], guard := none }) (v := .slice (some ⟨g, o, none⟩) nw cw) rfl (by kernel_rfl) (by kernel_rfl) (by kernel_rfl) (fun _ _ _ h => h) (Or.inl ⟨by rfl, by intro w hSw; go_simp⟩) hHeld ?_
              try simp only [Act.put, List.setIfInBounds_toArray, List.set_cons_zero, List.set_cons_succ]
              refine wpAnyH_take (i := 1) (oi := { dst := some 159, op := Op.move (Operand.tmp 20), type := 3, pos := "law.go:147", after := #[], guard := none }) (v := .int .i64 j) rfl (by kernel_rfl) (by kernel_rfl) (by kernel_rfl) (fun _ _ _ h => h) (Or.inl ⟨by rfl, by intro w hSw; go_simp⟩) hHeld ?_
              try simp only [Act.put, List.setIfInBounds_toArray, List.set_cons_zero, List.set_cons_succ]
              refine wpAnyH_take (i := 2) (oi := { dst := some 160, op := Op.indexAddr 22 (Operand.tmp 158) (Operand.tmp 159), type := 0, pos := "law.go:147", after := #[{ on := 0, ground := Ground.data }, { on := 1, ground := Ground.data }], guard := none }) (v := .pointer (some ⟨g, o + 36 * j, none⟩)) rfl (by kernel_rfl) (by kernel_rfl) (by kernel_rfl) (fun _ _ _ h => h) (Or.inl ⟨by rfl, by intro W hSw; have := ix1 W; go_simp⟩) hHeld ?_
              try simp only [Act.put, List.setIfInBounds_toArray, List.set_cons_zero, List.set_cons_succ]
              refine wpAnyH_take (i := 3) (oi := { dst := some 161, op := Op.load 26 (Operand.tmp 160), type := 26, pos := "law.go:147", after := #[{ on := 2, ground := Ground.data }], guard := none }) (v := .agg Y) rfl (by kernel_rfl) (by kernel_rfl) (by kernel_rfl) (fun _ _ _ h => h) (yieldsIf_mid (by rfl) 26 (.tmp 160) rfl g (o + 36 * j) rfl Y _ (fun _ h => h.1) Try.underlying26 rfl HSY.out) hHeld ?_
              try simp only [Act.put, List.setIfInBounds_toArray, List.set_cons_zero, List.set_cons_succ]
              refine wpAnyH_take (i := 4) (oi := { dst := some 162, op := Op.move (Operand.tmp 12), type := 22, pos := "law.go:147", after := #[], guard := none }) (v := .slice (some ⟨g, o, none⟩) nw cw) rfl (by kernel_rfl) (by kernel_rfl) (by kernel_rfl) (fun _ _ _ h => h) (Or.inl ⟨by rfl, by intro w hSw; go_simp⟩) hHeld ?_
              try simp only [Act.put, List.setIfInBounds_toArray, List.set_cons_zero, List.set_cons_succ]
              refine wpAnyH_take (i := 5) (oi := { dst := some 163, op := Op.indexAddr 22 (Operand.tmp 162) (Operand.const (Value.int IntKind.i64 0)), type := 0, pos := "law.go:147", after := #[{ on := 4, ground := Ground.data }], guard := none }) (v := .pointer (some ⟨g, o, none⟩)) rfl (by kernel_rfl) (by kernel_rfl) (by kernel_rfl) (fun _ _ _ h => h) (Or.inl ⟨by rfl, by intro W hSw; have := ix0 W; go_simp⟩) hHeld ?_
              try simp only [Act.put, List.setIfInBounds_toArray, List.set_cons_zero, List.set_cons_succ]
              refine wpAnyH_take (i := 6) (oi := { dst := some 164, op := Op.load 26 (Operand.tmp 163), type := 26, pos := "law.go:147", after := #[{ on := 5, ground := Ground.data }], guard := none }) (v := .agg Y) rfl (by kernel_rfl) (by kernel_rfl) (by kernel_rfl) (fun _ _ _ h => h) (yieldsIf_mid (by rfl) 26 (.tmp 163) rfl g o rfl Y _ (fun _ h => h.2) Try.underlying26 rfl HSY.out) hHeld ?_
              try simp only [Act.put, List.setIfInBounds_toArray, List.set_cons_zero, List.set_cons_succ]
              refine wpAnyH_take (i := 7) (oi := { dst := some 165, op := Op.binOp BinOp.neq 26 (Operand.tmp 161) (Operand.tmp 164) 26, type := 4, pos := "law.go:147", after := #[{ on := 3, ground := Ground.data }, { on := 6, ground := Ground.data }], guard := none }) (v := .bool false) rfl (by kernel_rfl) (by kernel_rfl) (by kernel_rfl) (fun _ _ _ h => h) (Or.inl ⟨by rfl, by intro W hSw; have := hqn W; go_simp⟩) hHeld ?_
              try simp only [Act.put, List.setIfInBounds_toArray, List.set_cons_zero, List.set_cons_succ]
              refine wpAnyH_done (by kernel_rfl) ?_ _
              go_wp2
              go_roundw
              case rel => exact ⟨j + 1, by omega, by omega, by go_num, HBJ.out.drew⟩
              case measure => simp [intOf]; omega
            · have hdj : decide ((j : Int) < (nw : Int)) = false := by rw [decide_eq_false_iff_not]; omega
              go_wp2_with fail
              refine (records_true _).mono ?_
              rintro x wB ⟨rfl, hbB⟩
              have HBB := hidk (HBJ.out.trans (hbB.mono HBJ.out.size))
              clear hbB
              go_wp2_with fail
              refine (enough_true _).mono ?_
              rintro x wC ⟨rfl, hbC⟩
              have HBC := hidk (HBB.out.trans (hbC.mono HBB.out.size))
              clear hbC
              go_wp2
              go_ret
              exact ⟨rfl, (HB.out.trans (HB2.out.mono HB.out.size)).trans (HBC.out.mono (Nat.le_trans HB.out.size HB2.out.size))⟩
end Go.Proofs.Ytieklabpdalahaa
