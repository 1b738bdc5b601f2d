/- Texts of our own that the row of DiskApart leans on, part 19. -/
import Derived.Test.YticljiffagobnabDiskApartJ8
import Derived.Test.YticljiffagobnabDiskApartJ18
import Derived.Deep.Slices

/- What a slice of calls reads as, and one that came in. -/
namespace Go.Proofs.Yticljiffagobnab
open Go.RowKit Nums Go.ChangeShapes
set_option linter.unusedVariables false
set_option linter.unusedSimpArgs false
set_option maxRecDepth 100000
/-- A call: its kind, place, number, and its bytes with where they lie. -/
structure OpT where
  k : Int
  at_ : Int
  n : Int
  a : Option Addr
  len : Nat
  cap : Nat
  bs : List UInt8
def ocells (o : OpT) : List Value := [.int .i64 o.k, .int .i64 o.at_, .int .i64 o.n, .slice o.a o.len o.cap]
structure InO (w : World) (o : OpT) : Prop where
  k : In64 o.k
  at_ : In64 o.at_
  n : In64 o.n
  rd : Reads w o.a o.len o.cap o.bs
theorem InO.below {w w' : World} {o : OpT} (h : InO w o) (hb : Below w.heap.size w w') : InO w' o := ⟨h.k, h.at_, h.n, h.rd.below hb⟩
def OReads (w : World) (a : Option Addr) (len cap : Nat) (l : List OpT) : Prop :=
  l.length = len ∧ len ≤ cap ∧ cap ≤ 9223372036854775807 ∧ (∀ o ∈ l, InO w o) ∧
    (l = [] ∨ ∃ b off, a = some ⟨b, off, none⟩ ∧ b < w.heap.size ∧ ∀ (i : Nat) (h : i < l.length), w.cell? ⟨b, off + i * 4, none⟩ = some (.int .i64 l[i].k) ∧ w.cell? ⟨b, off + i * 4 + 1, none⟩ = some (.int .i64 l[i].at_) ∧ w.cell? ⟨b, off + i * 4 + 2, none⟩ = some (.int .i64 l[i].n) ∧ w.cell? ⟨b, off + i * 4 + 3, none⟩ = some (.slice l[i].a l[i].len l[i].cap))
variable {H : Type} {enc : TypeId × Value → H} {W : World} {base : Nat} {held : Bool} {fuel : Nat} {x : DataW H × List MemPlace}
theorem bounds_64 {z : Int} (h : (Lit.int .i64 z).wf = true) : In64 z := by
  have e1 : IntKind.i64.min = -9223372036854775808 := rfl
  have e2 : IntKind.i64.max = 9223372036854775807 := rfl
  simp [Lit.wf, e1, e2] at h
  unfold In64
  omega
theorem open_op_cells {cs : List Value} (hf : DataW.trod enc Try.prog W base (fun _ => true) held fuel 34 cs = some x) : ∃ o : OpT, InO W o ∧ cs = ocells o := by
  obtain ⟨xs, m, rfl, _, hl, hx, hall⟩ := DataW.trod_struct Try.underlying34 hf
  have h1 : Try.prog.cellsOf 3 = 1 := by kernel_rfl
  have hB : Try.prog.cellsOf 23 = 1 := by kernel_rfl
  have h4 : Try.prog.cellsOf 34 = 4 := by kernel_rfl
  rw [h4] at hl
  match cs, hl with
  | [v0, v1, v2, v3], _ =>
    match xs, hx with
    | [y0, y1, y2, y3], _ =>
      have f0 : DataW.trod enc Try.prog W base (fun _ => true) held m 3 (([v0, v1, v2, v3].drop 0).take (Try.prog.cellsOf 3)) = some y0 := hall 0 _ rfl
      have f1 : DataW.trod enc Try.prog W base (fun _ => true) held m 3 (([v0, v1, v2, v3].drop 1).take (Try.prog.cellsOf 3)) = some y1 := hall 1 _ rfl
      have f2 : DataW.trod enc Try.prog W base (fun _ => true) held m 3 (([v0, v1, v2, v3].drop 2).take (Try.prog.cellsOf 3)) = some y2 := hall 2 _ rfl
      have f3 : DataW.trod enc Try.prog W base (fun _ => true) held m 23 (([v0, v1, v2, v3].drop 3).take (Try.prog.cellsOf 23)) = some y3 := hall 3 _ rfl
      rw [h1] at f0 f1 f2
      rw [hB] at f3
      obtain ⟨z0, e0, _, w0⟩ := DataW.trod_int Try.underlying3 f0
      obtain ⟨z1, e1, _, w1⟩ := DataW.trod_int Try.underlying3 f1
      obtain ⟨z2, e2, _, w2⟩ := DataW.trod_int Try.underlying3 f2
      obtain rfl : v0 = .int .i64 z0 := by simpa using e0
      obtain rfl : v1 = .int .i64 z1 := by simpa using e1
      obtain rfl : v2 = .int .i64 z2 := by simpa using e2
      have f3' : DataW.trod enc Try.prog W base (fun _ => true) held m 23 [v3] = some y3 := f3
      obtain ⟨a, len, cap, e3⟩ : ∃ a len cap, v3 = .slice a len cap := by
        rcases Go.ChangeShapes.open_ints Try.underlying23 Try.underlying5 (by kernel_rfl) f3' with ⟨hcs, _⟩ | ⟨ad, l, c, zs, hcs, _⟩
        · exact ⟨none, 0, 0, by simpa using hcs⟩
        · exact ⟨some ad, l, c, by simpa using hcs⟩
      subst e3
      obtain ⟨bs, hbs⟩ := open_bytes (enc := enc) (W := W) (base := base) (held := held) (a := a) (len := len) (cap := cap) (d := y3.1) (p := y3.2) ⟨m, f3'⟩
      exact ⟨⟨z0, z1, z2, a, len, cap, bs⟩, ⟨bounds_64 w0, bounds_64 w1, bounds_64 w2, hbs⟩, rfl⟩
theorem open_ops {a : Option Addr} {len cap : Nat} {d : DataW H} {p : List MemPlace} (h : DataW.Trod enc Try.prog W base (fun _ => true) held 22 (.slice a len cap) d p) : ∃ l, OReads W a len cap l := by
  obtain ⟨fuel, hf⟩ := h
  have h4 : Try.prog.cellsOf 34 = 4 := by kernel_rfl
  rcases Deep.open_slice Try.underlying22 hf with ⟨hcs, _⟩ | ⟨ad, len', cap', m, n, D, Pl, hcs, _, hl, hm, hmm, _, hx⟩
  · simp [Value.cells] at hcs
    obtain ⟨rfl, rfl, rfl⟩ := hcs
    exact ⟨[], rfl, Nat.le_refl _, by decide, (fun o ho => by cases ho), .inl rfl⟩
  · simp [Value.cells] at hcs
    obtain ⟨rfl, rfl, rfl⟩ := hcs
    have hlm : len ≤ m := by rw [hmm]; split <;> omega
    have hm' : cap ≤ 9223372036854775807 := by unfold maxLen at hm; omega
    have each : ∀ i, i < len → ∃ o : OpT, InO W o ∧ W.cell? (ad.add (i * 4)) = some (.int .i64 o.k) ∧ W.cell? (ad.add (i * 4 + 1)) = some (.int .i64 o.at_) ∧ W.cell? (ad.add (i * 4 + 2)) = some (.int .i64 o.n) ∧ W.cell? (ad.add (i * 4 + 3)) = some (.slice o.a o.len o.cap) := by
      intro i hi
      obtain ⟨cs', c1, c2⟩ := hx i (by omega)
      rw [h4] at c1
      obtain ⟨_, hlen, hcell⟩ := World.cells?_some c1
      obtain ⟨o, ho, rfl⟩ := open_op_cells c2
      have e0 := hcell 0 (by omega)
      have e1 := hcell 1 (by omega)
      have e2 := hcell 2 (by omega)
      have e3 := hcell 3 (by omega)
      rw [Deep.add_add] at e0 e1 e2 e3
      exact ⟨o, ho, by simpa [ocells] using e0, by simpa [ocells] using e1, by simpa [ocells] using e2, by simpa [ocells] using e3⟩
    haveI : Inhabited OpT := ⟨⟨0, 0, 0, none, 0, 0, []⟩⟩
    obtain ⟨F, hF⟩ := Deep.choose_lt each
    refine ⟨(List.range len).map F, by simp, hl, hm', ?_, ?_⟩
    · intro o ho
      obtain ⟨i, hi, rfl⟩ := List.mem_map.1 ho
      exact (hF i (List.mem_range.1 hi)).1
    · by_cases h0 : len = 0
      · left; rw [h0]; rfl
      · have hc := (hF 0 (by omega)).2.1
        obtain ⟨b, off, spot⟩ := ad
        have hspot : spot = none := by simpa [Addr.add] using World.cell?_spot hc
        subst hspot
        refine .inr ⟨b, off, rfl, ?_, fun i hi => ?_⟩
        · rw [add_plain] at hc
          exact World.block_lt_of_cell? _ _ hc
        · have hi' : i < len := by simpa using hi
          have := (hF i hi').2
          rw [add_plain, add_plain, add_plain, add_plain] at this
          simp only [List.getElem_map, List.getElem_range]
          exact this
theorem OReads.at {w : World} {a : Option Addr} {len cap : Nat} {l : List OpT} (h : OReads w a len cap l) (i : Nat) (hi : i < len) :
    ∃ b off o, a = some ⟨b, off, none⟩ ∧ b < w.heap.size ∧ l[i]? = some o ∧ InO w o ∧ w.cell? ⟨b, off + i * 4, none⟩ = some (.int .i64 o.k) ∧ w.cell? ⟨b, off + i * 4 + 1, none⟩ = some (.int .i64 o.at_) ∧ w.cell? ⟨b, off + i * 4 + 2, none⟩ = some (.int .i64 o.n) ∧ w.cell? ⟨b, off + i * 4 + 3, none⟩ = some (.slice o.a o.len o.cap) := by
  have hl : i < l.length := by rw [h.1]; exact hi
  rcases h.2.2.2.2 with h0 | ⟨b, off, e, hb, hc⟩
  · rw [h0] at hl; cases hl
  · exact ⟨b, off, l[i], e, hb, List.getElem?_eq_getElem hl, h.2.2.2.1 _ (List.getElem_mem hl), hc i hl⟩
end Go.Proofs.Yticljiffagobnab
