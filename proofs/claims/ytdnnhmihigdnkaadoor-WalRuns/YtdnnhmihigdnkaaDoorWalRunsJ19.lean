/- Texts of our own that the row of WalRuns leans on, part 19. -/
import Derived.Test.YtdnnhmihigdnkaaDoorWalRunsJ14
import Derived.Test.YtdnnhmihigdnkaaDoorWalRunsJ16
import Derived.Test.YtdnnhmihigdnkaaDoorWalRunsJ18
import Derived.Deep.Slices
import Derived.SliceStrings

/- What a slice of calls with texts reads as, a list of lists of texts, and those that came in. -/
namespace Go.Proofs.YtdnnhmihigdnkaaDoor
open Go.RowKit Nums Go.ChangeShapes
set_option linter.unusedVariables false
set_option linter.unusedSimpArgs false
set_option maxRecDepth 100000
/-- Texts with where they lie. -/
structure TxT where
  a : Option Addr
  len : Nat
  cap : Nat
  l : List ByteArray
structure InT (w : World) (t : TxT) : Prop where
  rd : Texts w t.a t.len t.l
  len : t.len ≤ maxLen
  size : ∀ s ∈ t.l, s.size ≤ maxLen
  cap : t.a = none → t.cap = 0
theorem InT.below {w w' : World} {t : TxT} (h : InT w t) (hb : Below w.heap.size w w') : InT w' t := ⟨h.rd.keep hb, h.len, h.size, h.cap⟩
/-- A call: its kind, number, what is kept, its texts. -/
structure OwT where
  k : Int
  n : Int
  keep : Int
  t : TxT
def owcells (o : OwT) : List Value := [.int .i64 o.k, .int .i64 o.n, .int .i64 o.keep, .slice o.t.a o.t.len o.t.cap]
structure InW (w : World) (o : OwT) : Prop where
  k : In64 o.k
  n : In64 o.n
  keep : In64 o.keep
  t : InT w o.t
theorem InW.below {w w' : World} {o : OwT} (h : InW w o) (hb : Below w.heap.size w w') : InW w' o := ⟨h.k, h.n, h.keep, h.t.below hb⟩
def WReads (w : World) (a : Option Addr) (len cap : Nat) (l : List OwT) : Prop :=
  l.length = len ∧ len ≤ cap ∧ cap ≤ 9223372036854775807 ∧ (∀ o ∈ l, InW w o) ∧
    (l = [] ∨ ∃ b off, a = some ⟨b, off, none⟩ ∧ b < w.heap.size ∧ ∀ (i : Nat) (h : i < l.length), w.cell? ⟨b, off + i * 4, none⟩ = some (.int .i64 l[i].k) ∧ w.cell? ⟨b, off + i * 4 + 1, none⟩ = some (.int .i64 l[i].n) ∧ w.cell? ⟨b, off + i * 4 + 2, none⟩ = some (.int .i64 l[i].keep) ∧ w.cell? ⟨b, off + i * 4 + 3, none⟩ = some (.slice l[i].t.a l[i].t.len l[i].t.cap))
def LLReads (w : World) (a : Option Addr) (len cap : Nat) (l : List TxT) : Prop :=
  l.length = len ∧ len ≤ cap ∧ cap ≤ 9223372036854775807 ∧ (∀ t ∈ l, InT w t) ∧
    (l = [] ∨ ∃ b off, a = some ⟨b, off, none⟩ ∧ b < w.heap.size ∧ ∀ (i : Nat) (h : i < l.length), w.cell? ⟨b, off + i, none⟩ = some (.slice l[i].a l[i].len l[i].cap))
variable {H : Type} {enc : TypeId × Value → H} {W : World} {base : Nat} {held : Bool} {fuel : Nat} {x : DataW H × List MemPlace}
theorem bounds_i64 {z : Int} (h : (Lit.int .i64 z).wf = true) : In64 z := by
  have e1 : IntKind.i64.min = -9223372036854775808 := rfl
  have e2 : IntKind.i64.max = 9223372036854775807 := rfl
  simp [Lit.wf, e1, e2] at h
  unfold In64
  omega
theorem open_texts_cells {cs : List Value} (hf : DataW.trod enc Tryd.prog W base (fun _ => true) held fuel 29 cs = some x) : ∃ t : TxT, InT W t ∧ cs = [.slice t.a t.len t.cap] := by
  rcases open_strings Tryd.underlying29 Tryd.underlying9 (show Tryd.prog.cellsOf 9 = 1 by kernel_rfl) hf with ⟨rfl, _⟩ | ⟨a', len, cap, ss, rfl, _, hl, hm, hz, _, hcell, hsz⟩
  · exact ⟨⟨none, 0, 0, []⟩, ⟨⟨rfl, .inl rfl⟩, Nat.zero_le _, (fun s hs => by simp at hs), fun _ => rfl⟩, rfl⟩
  · simp only [if_true] at hz
    obtain ⟨b, off, spot⟩ := a'
    refine ⟨⟨some ⟨b, off, spot⟩, len, cap, ss.take len⟩, ⟨⟨by simp; omega, ?_⟩, by show len ≤ maxLen; omega, fun s hs => hsz s (List.mem_of_mem_take hs), fun e => by cases e⟩, rfl⟩
    by_cases h0 : len = 0
    · exact .inl h0
    · have hspot : spot = none := by simpa [Addr.add] using World.cell?_spot (hcell 0 (by omega))
      subst hspot
      refine .inr ⟨b, off, rfl, ?_, fun i hi => ?_⟩
      · have := World.block_lt_of_cell? _ _ (hcell 0 (by omega))
        rw [add_plain] at this
        exact this
      · have hi' : i < ss.length := by simp at hi; omega
        have := hcell i hi'
        rw [add_plain] at this
        rw [this]
        simp [List.getD, List.getElem?_eq_getElem hi']
theorem open_ow_cells {cs : List Value} (hf : DataW.trod enc Tryd.prog W base (fun _ => true) held fuel 36 cs = some x) : ∃ o : OwT, InW W o ∧ cs = owcells o := by
  obtain ⟨xs, m, rfl, _, hl, hx, hall⟩ := DataW.trod_struct Tryd.underlying36 hf
  have h1 : Tryd.prog.cellsOf 3 = 1 := by kernel_rfl
  have hB : Tryd.prog.cellsOf 29 = 1 := by kernel_rfl
  have h4 : Tryd.prog.cellsOf 36 = 4 := by kernel_rfl
  rw [h4] at hl
  match cs, hl with
  | [v0, v1, v2, v3], _ =>
    match xs, hx with
    | [y0, y1, y2, y3], _ =>
      have f0 : DataW.trod enc Tryd.prog W base (fun _ => true) held m 3 (([v0, v1, v2, v3].drop 0).take (Tryd.prog.cellsOf 3)) = some y0 := hall 0 _ rfl
      have f1 : DataW.trod enc Tryd.prog W base (fun _ => true) held m 3 (([v0, v1, v2, v3].drop 1).take (Tryd.prog.cellsOf 3)) = some y1 := hall 1 _ rfl
      have f2 : DataW.trod enc Tryd.prog W base (fun _ => true) held m 3 (([v0, v1, v2, v3].drop 2).take (Tryd.prog.cellsOf 3)) = some y2 := hall 2 _ rfl
      have f3 : DataW.trod enc Tryd.prog W base (fun _ => true) held m 29 (([v0, v1, v2, v3].drop 3).take (Tryd.prog.cellsOf 29)) = some y3 := hall 3 _ rfl
      rw [h1] at f0 f1 f2
      rw [hB] at f3
      obtain ⟨z0, e0, _, w0⟩ := DataW.trod_int Tryd.underlying3 f0
      obtain ⟨z1, e1, _, w1⟩ := DataW.trod_int Tryd.underlying3 f1
      obtain ⟨z2, e2, _, w2⟩ := DataW.trod_int Tryd.underlying3 f2
      obtain rfl : v0 = .int .i64 z0 := by simpa using e0
      obtain rfl : v1 = .int .i64 z1 := by simpa using e1
      obtain rfl : v2 = .int .i64 z2 := by simpa using e2
      have f3' : DataW.trod enc Tryd.prog W base (fun _ => true) held m 29 [v3] = some y3 := f3
      obtain ⟨t, ht, e3⟩ := open_texts_cells f3'
      obtain rfl : v3 = .slice t.a t.len t.cap := by simpa using e3
      exact ⟨⟨z0, z1, z2, t⟩, ⟨bounds_i64 w0, bounds_i64 w1, bounds_i64 w2, ht⟩, rfl⟩
theorem open_ows {a : Option Addr} {len cap : Nat} {d : DataW H} {p : List MemPlace} (h : DataW.Trod enc Tryd.prog W base (fun _ => true) held 22 (.slice a len cap) d p) : ∃ l, WReads W a len cap l := by
  obtain ⟨fuel, hf⟩ := h
  have h4 : Tryd.prog.cellsOf 36 = 4 := by kernel_rfl
  rcases Deep.open_slice Tryd.underlying22 hf with ⟨hcs, _⟩ | ⟨ad, len', cap', m, n, D, Pl, hcs, _, hl, hm, hmm, _, hx⟩
  · simp [Value.cells] at hcs
    obtain ⟨rfl, rfl, rfl⟩ := hcs
    exact ⟨[], rfl, Nat.le_refl _, by decide, (fun o ho => by cases ho), .inl rfl⟩
  · simp [Value.cells] at hcs
    obtain ⟨rfl, rfl, rfl⟩ := hcs
    have hlm : len ≤ m := by rw [hmm]; split <;> omega
    have hm' : cap ≤ 9223372036854775807 := by unfold maxLen at hm; omega
    have each : ∀ i, i < len → ∃ o : OwT, InW W o ∧ W.cell? (ad.add (i * 4)) = some (.int .i64 o.k) ∧ W.cell? (ad.add (i * 4 + 1)) = some (.int .i64 o.n) ∧ W.cell? (ad.add (i * 4 + 2)) = some (.int .i64 o.keep) ∧ W.cell? (ad.add (i * 4 + 3)) = some (.slice o.t.a o.t.len o.t.cap) := by
      intro i hi
      obtain ⟨cs', c1, c2⟩ := hx i (by omega)
      rw [h4] at c1
      obtain ⟨_, hlen, hcell⟩ := World.cells?_some c1
      obtain ⟨o, ho, rfl⟩ := open_ow_cells c2
      have e0 := hcell 0 (by omega)
      have e1 := hcell 1 (by omega)
      have e2 := hcell 2 (by omega)
      have e3 := hcell 3 (by omega)
      rw [Deep.add_add] at e0 e1 e2 e3
      exact ⟨o, ho, by simpa [owcells] using e0, by simpa [owcells] using e1, by simpa [owcells] using e2, by simpa [owcells] using e3⟩
    haveI : Inhabited OwT := ⟨⟨0, 0, 0, none, 0, 0, []⟩⟩
    obtain ⟨F, hF⟩ := Deep.choose_lt each
    refine ⟨(List.range len).map F, by simp, hl, hm', ?_, ?_⟩
    · intro o ho
      obtain ⟨i, hi, rfl⟩ := List.mem_map.1 ho
      exact (hF i (List.mem_range.1 hi)).1
    · by_cases h0 : len = 0
      · left; rw [h0]; rfl
      · have hc := (hF 0 (by omega)).2.1
        obtain ⟨b, off, spot⟩ := ad
        have hspot : spot = none := by simpa [Addr.add] using World.cell?_spot hc
        subst hspot
        refine .inr ⟨b, off, rfl, ?_, fun i hi => ?_⟩
        · rw [add_plain] at hc
          exact World.block_lt_of_cell? _ _ hc
        · have hi' : i < len := by simpa using hi
          have := (hF i hi').2
          rw [add_plain, add_plain, add_plain, add_plain] at this
          simp only [List.getElem_map, List.getElem_range]
          exact this
theorem WReads.at {w : World} {a : Option Addr} {len cap : Nat} {l : List OwT} (h : WReads w a len cap l) (i : Nat) (hi : i < len) :
    ∃ b off o, a = some ⟨b, off, none⟩ ∧ b < w.heap.size ∧ l[i]? = some o ∧ o ∈ l ∧ InW w o ∧ w.cell? ⟨b, off + i * 4, none⟩ = some (.int .i64 o.k) ∧ w.cell? ⟨b, off + i * 4 + 1, none⟩ = some (.int .i64 o.n) ∧ w.cell? ⟨b, off + i * 4 + 2, none⟩ = some (.int .i64 o.keep) ∧ w.cell? ⟨b, off + i * 4 + 3, none⟩ = some (.slice o.t.a o.t.len o.t.cap) := by
  have hl : i < l.length := by rw [h.1]; exact hi
  rcases h.2.2.2.2 with h0 | ⟨b, off, e, hb, hc⟩
  · rw [h0] at hl; cases hl
  · exact ⟨b, off, l[i], e, hb, List.getElem?_eq_getElem hl, List.getElem_mem hl, h.2.2.2.1 _ (List.getElem_mem hl), hc i hl⟩
theorem LLReads.at {w : World} {a : Option Addr} {len cap : Nat} {l : List TxT} (h : LLReads w a len cap l) (i : Nat) (hi : i < len) :
    ∃ b off t, a = some ⟨b, off, none⟩ ∧ b < w.heap.size ∧ l[i]? = some t ∧ t ∈ l ∧ InT w t ∧ w.cell? ⟨b, off + i, none⟩ = some (.slice t.a t.len t.cap) := by
  have hl : i < l.length := by rw [h.1]; exact hi
  rcases h.2.2.2.2 with h0 | ⟨b, off, e, hb, hc⟩
  · rw [h0] at hl; cases hl
  · exact ⟨b, off, l[i], e, hb, List.getElem?_eq_getElem hl, List.getElem_mem hl, h.2.2.2.1 _ (List.getElem_mem hl), hc i hl⟩
theorem WReads.below {w w' : World} {a : Option Addr} {len cap : Nat} {l : List OwT} (h : WReads w a len cap l) (hb : Below w.heap.size w w') : WReads w' a len cap l := by
  refine ⟨h.1, h.2.1, h.2.2.1, fun o ho => (h.2.2.2.1 o ho).below hb, ?_⟩
  rcases h.2.2.2.2 with h0 | ⟨b, off, e, hlt, hc⟩
  · exact .inl h0
  · exact .inr ⟨b, off, e, Nat.lt_of_lt_of_le hlt hb.size, fun i hi => ⟨(hb.cell (p := ⟨b, off + i * 4, none⟩) hlt).trans (hc i hi).1, (hb.cell (p := ⟨b, off + i * 4 + 1, none⟩) hlt).trans (hc i hi).2.1, (hb.cell (p := ⟨b, off + i * 4 + 2, none⟩) hlt).trans (hc i hi).2.2.1, (hb.cell (p := ⟨b, off + i * 4 + 3, none⟩) hlt).trans (hc i hi).2.2.2⟩⟩
theorem LLReads.below {w w' : World} {a : Option Addr} {len cap : Nat} {l : List TxT} (h : LLReads w a len cap l) (hb : Below w.heap.size w w') : LLReads w' a len cap l := by
  refine ⟨h.1, h.2.1, h.2.2.1, fun o ho => (h.2.2.2.1 o ho).below hb, ?_⟩
  rcases h.2.2.2.2 with h0 | ⟨b, off, e, hlt, hc⟩
  · exact .inl h0
  · exact .inr ⟨b, off, e, Nat.lt_of_lt_of_le hlt hb.size, fun i hi => (hb.cell (p := ⟨b, off + i, none⟩) hlt).trans (hc i hi)⟩
end Go.Proofs.YtdnnhmihigdnkaaDoor

/- The statements' large. -/
namespace Go.Proofs.YtdnnhmihigdnkaaDoor
open Go.RowKit Nums
set_option linter.unusedVariables false
set_option linter.unusedSimpArgs false
set_option maxRecDepth 100000
theorem index_ow (b off len cap k : Nat) (hk : k < len) (V : World) : (Instr.indexAt 22 (.slice (some ⟨b, off, none⟩) len cap) (.int .i64 (k : Int))).run Tryd.prog V = .ok (.pointer (some ⟨b, off + k * 4, none⟩)) V := by
  have hz : ∀ w, (sizeOf 36).run Tryd.prog w = .ok 4 w := fun w => by
    have h : (Tryd.prog.info? 36).map (·.size) = some 4 := by kernel_rfl
    cases hq : Tryd.prog.info? 36 with
    | none => rw [hq] at h; cases h
    | some i =>
      rw [hq] at h
      simp only [Option.map_some, Option.some.injEq] at h
      simp [sizeOf, typeInfo, hq, h]
  simp [Instr.indexAt, asIntOf, run_underlying Tryd.underlying22, hz, hk]
  rw [add_plain]
/-- What large answers: no, only if it is little. -/
def LargeE (len : Nat) (l : List OwT) (W : World) (e : Ending) (w' : World) : Prop := ∃ x : Bool, e = .returned (.bool x) ∧ W = w' ∧ (x = false → len ≤ 60 ∧ ∀ o ∈ l, Small 30 5000 o.t.l)
set_option maxHeartbeats 8000000 in
theorem large10_any (a : Option Addr) (len cap : Nat) (l : List OwT) (w W : World) (h : WReads w a len cap l) (hb : Below w.heap.size w W) :
    Calls Tryd.prog 9 #[.slice a len cap] W (LargeE len l W) := by
  have HR := hidd (h.below hb)
  have hlen := h.1
  have hm : len ≤ 9223372036854775807 := by have h1 := h.2.1; have h2 := h.2.2.1; omega
  have HL := hidd hlen
  clear h hb hlen
  by_cases h60 : 60 < len
  · have hd : decide ((60 : Int) < (len : Int)) = true := by rw [decide_eq_true_eq]; omega
    go_enter Tryd.func9, Tryd.ntmps9
    go_wp2
    go_ret
    unfold LargeE; exact ⟨true, rfl, rfl, fun e => by cases e⟩
  · have hd : decide ((60 : Int) < (len : Int)) = false := by rw [decide_eq_false_iff_not]; omega
    go_enter Tryd.func9, Tryd.ntmps9
    go_wp2
    go_loop [3] (fun i => ∃ k : Nat, k ≤ len ∧ i = .int .i64 (k : Int) ∧ Hid (∀ o ∈ l.take k, Small 30 5000 o.t.l)) (fun i => len - (intOf i).toNat)
    case atStart => exact ⟨0, Nat.zero_le _, rfl, fun o ho => by simp at ho⟩
    case round =>
      obtain ⟨k, hk, rfl, HS⟩ := hrel
      by_cases hlt : k < len
      · obtain ⟨b, off, o, rfl, hbl, ho, hmem, hin, c0, c1, c2, c3⟩ := HR.out.at k hlt
        have hkl : k < l.length := by have := HL.out; omega
        have HOK : Hid (l[k] = o) := by rw [List.getElem?_eq_getElem hkl] at ho; exact Option.some.inj ho
        have ix := fun V => index_ow b off len cap k hlt V
        have hdk : decide ((k : Int) < (len : Int)) = true := by rw [decide_eq_true_eq]; omega
        have hw1 := wrap_int ((k : Int) + 1) (by omega) (by omega)
        obtain ⟨ok, on, okeep, ⟨ta, tl, tc, ts⟩⟩ := o
        have HIN := hidd hin.t
        have htl : tl ≤ maxLen := hin.t.len
        unfold maxLen at htl
        have htm : tl ≤ 9223372036854775807 := by omega
        dsimp only at c3 HIN
        clear hin ho hmem c0 c1 c2 hbl
        by_cases h30 : 30 < tl
        · have hd3 : decide ((30 : Int) < (tl : Int)) = true := by rw [decide_eq_true_eq]; omega
          go_wp2
          go_ret
          unfold LargeE; exact ⟨true, rfl, rfl, fun e => by cases e⟩
        · have hd3 : decide ((30 : Int) < (tl : Int)) = false := by rw [decide_eq_false_iff_not]; omega
          go_wp2
          go_loop [4] (fun i => ∃ j : Nat, j ≤ tl ∧ i = .int .i64 (j : Int) ∧ Hid (∀ s ∈ ts.take j, s.size ≤ 5000)) (fun i => tl - (intOf i).toNat)
          case atStart => exact ⟨0, Nat.zero_le _, rfl, fun o ho => by simp at ho⟩
          case round =>
            obtain ⟨j, hj, rfl, HT⟩ := hrel
            by_cases hjt : j < tl
            · obtain ⟨tb, toff, s, e, d0, hs⟩ := HIN.out.rd.cell j hjt
              have e' : ta = some ⟨tb, toff, none⟩ := e
              subst e'
              have hjl : j < ts.length := by have := HIN.out.rd.1; dsimp only at this; omega
              have HSK : Hid (ts[j] = s) := by rw [List.getElem?_eq_getElem hjl] at hs; exact Option.some.inj hs
              have hsz : s.size ≤ maxLen := by rw [← HSK.out]; exact HIN.out.size _ (List.getElem_mem hjl)
              unfold maxLen at hsz
              have hsm : s.size ≤ 9223372036854775807 := by omega
              have hdj : decide ((j : Int) < (tl : Int)) = true := by rw [decide_eq_true_eq]; omega
              have hw2 := wrap_int ((j : Int) + 1) (by omega) (by omega)
              clear hs e
              by_cases h5 : 5000 < s.size
              · have hd5 : decide ((5000 : Int) < (s.size : Int)) = true := by rw [decide_eq_true_eq]; omega
                go_wp2
                go_ret
                unfold LargeE; exact ⟨true, rfl, rfl, fun e => by cases e⟩
              · have hd5 : decide ((5000 : Int) < (s.size : Int)) = false := by rw [decide_eq_false_iff_not]; omega
                have HN : Hid (∀ s ∈ ts.take (j + 1), s.size ≤ 5000) := by
                  intro y hy
                  rw [take_succ_parts ts j hjl] at hy
                  rcases List.mem_append.1 hy with h | h
                  · exact HT.out y h
                  · obtain rfl : y = ts[j] := by simpa using h
                    rw [HSK.out]; omega
                go_wp2
                go_round
                case rel => exact ⟨j + 1, by omega, by go_num, HN⟩
                case measure => simp [intOf]; omega
            · obtain rfl : tl = j := by omega
              have hdj : decide ((tl : Int) < (tl : Int)) = false := by rw [decide_eq_false_iff_not]; omega
              have HN : Hid (∀ o ∈ l.take (k + 1), Small 30 5000 o.t.l) := by
                intro y hy
                rw [List.take_add_one, List.getElem?_eq_getElem hkl] at hy
                rcases List.mem_append.1 hy with h | h
                · exact HS.out y h
                · obtain rfl : y = l[k] := by simpa using h
                  have h1 := HIN.out.rd.1
                  have h2 := HT.out
                  dsimp only at h1
                  rw [List.take_of_length_le (by omega)] at h2
                  rw [HOK.out]
                  exact ⟨by show ts.length ≤ 30; omega, h2⟩
              go_wp2
              go_round
              case rel => exact ⟨k + 1, by omega, by go_num, HN⟩
              case measure => simp [intOf]; omega
      · obtain rfl : len = k := by omega
        have hdk : decide ((len : Int) < (len : Int)) = false := by rw [decide_eq_false_iff_not]; omega
        have HN : Hid (len ≤ 60 ∧ ∀ o ∈ l, Small 30 5000 o.t.l) := by
          have h2 := HS.out
          rw [List.take_of_length_le (by rw [HL.out]; omega)] at h2
          exact ⟨by omega, h2⟩
        go_wp2
        go_ret
        unfold LargeE; exact ⟨false, rfl, rfl, fun _ => HN.out⟩
end Go.Proofs.YtdnnhmihigdnkaaDoor
