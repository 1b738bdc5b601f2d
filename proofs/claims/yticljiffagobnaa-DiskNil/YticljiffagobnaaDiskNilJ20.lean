/- Texts of our own that the row of DiskNil leans on, part 20. -/
import Derived.Test.YticljiffagobnaaDiskNilJ9
import Derived.Test.YticljiffagobnaaDiskNilJ17
import Derived.Test.YticljiffagobnaaDiskNilJ19

/- The program's disk and the document's side by side; what the statements' large and call answer. -/
namespace Go.Proofs.Yticljiffagobnaa
open Go.RowKit Nums
set_option linter.unusedVariables false
set_option linter.unusedSimpArgs false
set_option maxRecDepth 100000
/-- The program's disk D and the document's disk M, both made since w; the blocks of K are neither's. -/
structure Two (At : World → Nat → DkT → (Nat → Prop) → Prop) (w W : World) (pd pm : Nat) (D M : DkT) (K : Nat → Prop) : Prop where
  two : ∃ Sm, MAt W pm M Sm ∧ (∀ b, Sm b → w.heap.size ≤ b) ∧ (∀ b, K b → ¬ Sm b) ∧ Lv At w W pd D (fun b => K b ∨ Sm b)
variable {At : World → Nat → DkT → (Nat → Prop) → Prop}
theorem Two.below {w W : World} {pd pm : Nat} {D M : DkT} {K : Nat → Prop} (h : Two At w W pd pm D M K) : Below w.heap.size w W := by obtain ⟨_, _, _, _, hl⟩ := h.two; exact hl.below
theorem Two.sub {w W : World} {pd pm : Nat} {D M : DkT} {K K' : Nat → Prop} (h : Two At w W pd pm D M K) (hk : ∀ b, K' b → K b) : Two At w W pd pm D M K' := by
  obtain ⟨Sm, h1, h2, h3, h4⟩ := h.two
  exact ⟨Sm, h1, h2, fun b e => h3 b (hk b e), h4.sub fun b e => by rcases e with e | e; exact .inl (hk b e); exact .inr e⟩
theorem Two.keep (dk : DiskC At) {w W W' : World} {pd pm : Nat} {D M : DkT} {K : Nat → Prop} (h : Two At w W pd pm D M K) (hb : Below W.heap.size W W') : Two At w W' pd pm D M (fun b => K b ∨ (W.heap.size ≤ b ∧ b < W'.heap.size)) := by
  obtain ⟨Sm, h1, h2, h3, h4⟩ := h.two
  refine ⟨Sm, h1.below hb, h2, fun b e hs => ?_, (h4.keep dk hb).sub fun b e => ?_⟩
  · rcases e with e | e
    · exact h3 b e hs
    · have := h1.lt b hs; omega
  · rcases e with (e | e) | e
    · exact .inl (.inl e)
    · exact .inr e
    · exact .inl (.inr e)
theorem Two.keepK (dk : DiskC At) {w W W' : World} {pd pm : Nat} {D M : DkT} {K : Nat → Prop} (h : Two At w W pd pm D M K) (hb : Below W.heap.size W W') : Two At w W' pd pm D M K := (h.keep dk hb).sub fun b e => .inl e
/-- A block that is neither's is written. -/
theorem Two.other (dk : DiskC At) {w W W' : World} {pd pm : Nat} {D M : DkT} {K : Nat → Prop} (h : Two At w W pd pm D M K) (g : Nat) (hg : K g) (hgw : w.heap.size ≤ g) (hw : W.grownBy W' (some g)) : Two At w W' pd pm D M K := by
  obtain ⟨Sm, h1, h2, h3, h4⟩ := h.two
  obtain ⟨Sd, hA, hS, hK⟩ := h4.live
  have bl : ∀ b, b < W.heap.size → b ≠ g → W'.heap[b]? = W.heap[b]? := fun b hb hn => hw.block b hb (fun e => hn (Option.some.inj e))
  refine ⟨Sm, h1.keep fun b e => bl b (h1.lt b e) (fun e2 => h3 b (by rw [e2]; exact hg) e), h2, h3, ⟨?_, Sd, dk.keep hA hw.size fun b e => bl b (dk.lt hA b e) (fun e2 => (hK b (.inl (by rw [e2]; exact hg))).1 e), hS, fun b e => ⟨(hK b e).1, Nat.lt_of_lt_of_le (hK b e).2 hw.size⟩⟩⟩
  exact h4.below.grown hw h4.below.size (by intro k hk; cases hk; exact hgw)
theorem Kept9.sub {K K' : Nat → Prop} {w w' : World} (h : Kept9 K w w') (hk : ∀ b, K' b → K b) : Kept9 K' w w' := ⟨h.os, h.tape, h.output, h.size, fun b hb hn => h.block b hb fun h2 => hn fun h3 => h2 (hk b h3)⟩
theorem Kept9.row {K : Nat → Prop} {w w' : World} (h : Kept9 K w w') {g : Nat} (hg : K g) {o : Obj} (hr : w.heap[g]? = some o) : w'.heap[g]? = some o := (h.block g (heap_lt hr) (fun hn => hn hg)).trans hr
theorem Two.prog (dk : DiskC At) {w W : World} {pd pm : Nat} {D D' M : DkT} {K : Nat → Prop} {f : Nat} {args : Array Value} {Q : Ending → Prop} (h : Two At w W pd pm D M K)
    (step : ∀ K', Lv At w W pd D K' → (∀ b, K b → K' b) → Calls Try.prog f args W fun e w' => Q e ∧ Lv At w w' pd D' K' ∧ Kept9 K' W w') : Calls Try.prog f args W fun e w' => Q e ∧ Two At w w' pd pm D' M K ∧ Kept9 K W w' := by
  obtain ⟨Sm, h1, h2, h3, h4⟩ := h.two
  refine (step _ h4 fun b e => .inl e).mono ?_
  rintro e w' ⟨hq, hl, hk⟩
  exact ⟨hq, ⟨Sm, h1.away hk fun b hb hn => hn (.inr hb), h2, h3, hl⟩, hk.sub fun b e => .inl e⟩
/-! large. -/
set_option maxHeartbeats 2000000 in
theorem large_any (a : Option Addr) (len cap : Nat) (l : List OpT) (w W : World) (h : OReads w a len cap l) (hb : Below w.heap.size w W) :
    Calls Try.prog 9 #[.slice a len cap] W fun e w' => ∃ x : Bool, e = .returned (.bool x) ∧ W = w' ∧ (x = false → len ≤ 60 ∧ ∀ o ∈ l, o.bs.length ≤ 300) := by
  have HR := hidd h
  have HB := hidd hb
  have hlen := h.1
  by_cases h60 : 60 < len
  · have hm : len ≤ 9223372036854775807 := by have h1 := h.2.1; have h2 := h.2.2.1; omega
    have d1 : decide ((60 : Int) < (len : Int)) = true := by rw [decide_eq_true_eq]; omega
    clear h hb
    go_enter Try.func9, Try.ntmps9
    go_wp2
    go_ret
    exact ⟨true, rfl, rfl, fun e => by cases e⟩
  · have d1 : decide ((60 : Int) < (len : Int)) = false := by rw [decide_eq_false_iff_not]; omega
    have hz : ∀ w, (sizeOf 36).run Try.prog w = .ok 4 w := fun w => by
      have h : (Try.prog.info? 36).map (·.size) = some 4 := by kernel_rfl
      cases hq : Try.prog.info? 36 with
      | none => rw [hq] at h; cases h
      | some i =>
        rw [hq] at h
        simp only [Option.map_some, Option.some.injEq] at h
        simp [sizeOf, typeInfo, hq, h]
    clear h hb
    go_enter Try.func9, Try.ntmps9
    go_wp2
    go_loopw [3] (fun i wr => ∃ k : Nat, k ≤ len ∧ i = .int .i64 k ∧ W = wr ∧ Hid (∀ j o, j < k → l[j]? = some o → o.bs.length ≤ 300)) (fun i _ => len - (intOf i).toNat)
    case atStart => exact ⟨0, by omega, rfl, rfl, fun j o hj => by omega⟩
    case round =>
      obtain ⟨k, hk, rfl, rfl, HK⟩ := hrel
      by_cases hlt : k < len
      · have hdk : decide ((k : Int) < (len : Int)) = true := by rw [decide_eq_true_eq]; omega
        have hw := wrap_int ((k : Int) + 1) (by omega) (by omega)
        obtain ⟨b, off, o, rfl, hbn, hlo, hio, c0, c1, c2, c3⟩ := HR.out.at k hlt
        have e3 := (HB.out.cell (p := ⟨b, off + k * 4 + 3, none⟩) hbn).trans c3
        have hol := hio.rd.1
        have hom : o.len ≤ 9223372036854775807 := by have h1 := hio.rd.2.1; have h2 := hio.rd.2.2.1; omega
        have ix : ∀ W, (Instr.indexAt 22 (.slice (some ⟨b, off, none⟩) len cap) (.int .i64 (k : Int))).run Try.prog W = .ok (.pointer (some ⟨b, off + k * 4, none⟩)) W := fun W => by
          simp [Instr.indexAt, asIntOf, run_underlying Try.underlying22, hz, hlt]
          rw [add_plain]
        obtain ⟨oa, ol, oc, hO⟩ : ∃ oa ol oc, Hid (oa = o.a ∧ ol = o.len ∧ oc = o.cap) := ⟨_, _, _, hidd ⟨rfl, rfl, rfl⟩⟩
        rw [← hO.out.1, ← hO.out.2.1, ← hO.out.2.2] at e3
        rw [← hO.out.2.1] at hom hol
        have HOL := hidd hol
        have HLO := hidd hlo
        clear c0 c1 c2 c3 hio hlo hol
        by_cases h300 : 300 < ol
        · have d3 : decide ((300 : Int) < (ol : Int)) = true := by rw [decide_eq_true_eq]; omega
          go_wp2
          go_ret
          exact ⟨true, rfl, rfl, fun e => by cases e⟩
        · have d3 : decide ((300 : Int) < (ol : Int)) = false := by rw [decide_eq_false_iff_not]; omega
          have HK2 : Hid (∀ j o, j < k + 1 → l[j]? = some o → o.bs.length ≤ 300) := fun j o' hj ho => by
            by_cases e : j = k
            · rw [e, HLO.out] at ho
              cases ho
              rw [HOL.out]; omega
            · exact HK.out j o' (by omega) ho
          go_wp2
          go_roundw
          case rel => exact ⟨k + 1, by omega, by go_num, (by trivial), HK2⟩
          case measure => simp [intOf]; omega
      · obtain rfl : len = k := by omega
        have hdk : decide ((len : Int) < (len : Int)) = false := by rw [decide_eq_false_iff_not]; omega
        go_wp2
        go_ret
        refine ⟨false, rfl, rfl, fun _ => ⟨by omega, fun o ho => ?_⟩⟩
        obtain ⟨j, hj, rfl⟩ := List.mem_iff_getElem.1 ho
        exact HK.out j _ (by omega) (List.getElem?_eq_getElem hj)
end Go.Proofs.Yticljiffagobnaa

/- What the statements' call answers: the program's disk and the document's go on alike. -/
namespace Go.Proofs.Yticljiffagobnaa
open Go.RowKit Nums
set_option linter.unusedVariables false
set_option linter.unusedSimpArgs false
set_option maxRecDepth 100000
variable {At : World → Nat → DkT → (Nat → Prop) → Prop}
/-- Bytes that may be written, one after the other. -/
structure Fill (g off len : Nat) (W : World) : Prop where
  cell : ∀ i, i < len → ∃ v, W.cell? ⟨g, off + i, none⟩ = some v
  free : ∀ i, i < len → W.frozen? ⟨g, off + i, none⟩ = false
theorem Fill.set {g off len : Nat} {W : World} (h : Fill g off len W) (i : Nat) (hi : i < len) (v : Value) : Fill g off len (W.setCell ⟨g, off + i, none⟩ v) := by
  refine ⟨fun j hj => ?_, fun j hj => ?_⟩
  · by_cases e : j = i
    · subst e
      obtain ⟨u, hu⟩ := h.cell j hj
      exact ⟨v, World.cell?_setCell_same _ _ _ hu⟩
    · obtain ⟨u, hu⟩ := h.cell j hj
      have hne : (⟨g, off + i, none⟩ : Addr) ≠ ⟨g, off + j, none⟩ := by intro h2; injection h2 with _ h3; omega
      exact ⟨u, (World.cell?_setCell_other (w := W) (v := v) (h := hne)).trans hu⟩
  · have := h.free j hj
    simpa using this
theorem orow {W : World} {g : Nat} {k a n : Int} {s : Value} (h : W.heap[g]? = some (.cells #[.int .i64 k, .int .i64 a, .int .i64 n, s] 36 (0, 0))) : W.cell? ⟨g, 0, none⟩ = some (.int .i64 k) ∧ W.cell? ⟨g, 1, none⟩ = some (.int .i64 a) ∧ W.cell? ⟨g, 2, none⟩ = some (.int .i64 n) ∧ W.cell? ⟨g, 3, none⟩ = some s :=
  ⟨by rw [cell_of_row W g 0 _ _ (0, 0) h]; rfl, by rw [cell_of_row W g 1 _ _ (0, 0) h]; rfl, by rw [cell_of_row W g 2 _ _ (0, 0) h]; rfl, by rw [cell_of_row W g 3 _ _ (0, 0) h]; rfl⟩
theorem Two.drew {w W : World} {pd pm : Nat} {D M : DkT} {K : Nat → Prop} (dk : DiskC At) (h : Two At w W pd pm D M K) : Two At w W.drew pd pm D M K := h.keepK dk (Below.refl _ _).drew
end Go.Proofs.Yticljiffagobnaa

/- Where the statements on a disk begin: two new disks, calls on both. -/
namespace Go.Proofs.Yticljiffagobnaa
open Go.RowKit Nums
set_option linter.unusedVariables false
set_option linter.unusedSimpArgs false
set_option maxRecDepth 100000
variable {At : World → Nat → DkT → (Nat → Prop) → Prop}
/-- A script's state: some calls were done on both. -/
def Ran (At : World → Nat → DkT → (Nat → Prop) → Prop) (w W : World) (pd pm room k : Nat) : Prop := ∃ D, Two At w W pd pm D D (fun b => b < w.heap.size) ∧ D.puts.length ≤ k ∧ D.safe.length = room
theorem Ran.below {w W : World} {pd pm room k : Nat} (h : Ran At w W pd pm room k) : Below w.heap.size w W := by obtain ⟨D, h1, _⟩ := h; exact h1.below
end Go.Proofs.Yticljiffagobnaa

/- Of DiskNil: the walk. -/
namespace Go.Proofs.Yticljiffagobnaa
open Go.RowKit Nums
set_option linter.unusedVariables false
set_option linter.unusedSimpArgs false
set_option maxRecDepth 100000
variable {At : World → Nat → DkT → (Nat → Prop) → Prop}
set_option maxHeartbeats 8000000 in
theorem diskNil_in (dk : DiskC At) (dn : DiskN) (o : OpT) (w : World) (ho : InO w o) :
    Calls Try.prog 7 #[.agg (ocells o).toArray] w fun e w' => e = .returned (.bool true) ∧ Below w.heap.size w w' := by
  have hnot : ∀ (x : Bool) (w : World), (Op.unary .not (.bool x)).run Try.prog w = .ok (.bool (!x)) w := fun _ _ => rfl
  obtain ⟨k, at_, n, a, len, cap, bs⟩ := o
  have hrd := ho.rd
  simp only at hrd
  have HRD := hidd hrd
  have HIO := hidd ho
  have DK : Hid (DiskC At) := dk
  have DN : Hid DiskN := dn
  have hb1 : Below w.heap.size w (w.alloc (.cells #[.int .i64 k, .int .i64 at_, .int .i64 n, .slice a len cap] 36)) := (Below.refl _ _).alloc (Nat.le_refl _) _
  have hb2 : Below w.heap.size w ((w.alloc (.cells #[.int .i64 k, .int .i64 at_, .int .i64 n, .slice a len cap] 36)).alloc (.cells #[.int .i64 k, .int .i64 at_, .int .i64 n, .slice a len cap] 36)) := hb1.alloc (by simp) _
  have HB2 := hidd hb2
  have hO1 := heap_alloc_new w (.cells #[.int .i64 k, .int .i64 at_, .int .i64 n, .slice a len cap] 36)
  have HO2 : Hid (((w.alloc (.cells #[.int .i64 k, .int .i64 at_, .int .i64 n, .slice a len cap] 36)).alloc (.cells #[.int .i64 k, .int .i64 at_, .int .i64 n, .slice a len cap] 36)).heap[w.heap.size]? = some (.cells #[.int .i64 k, .int .i64 at_, .int .i64 n, .slice a len cap] 36 (0, 0))) := heap_keep hO1
  obtain ⟨c0, c1, c2, c3⟩ := orow hO1
  have HOR : Hid (OReads ((w.alloc (.cells #[.int .i64 k, .int .i64 at_, .int .i64 n, .slice a len cap] 36)).alloc (.cells #[.int .i64 k, .int .i64 at_, .int .i64 n, .slice a len cap] 36)) (some ⟨w.heap.size + 1, 0, none⟩) 1 1 [⟨k, at_, n, a, len, cap, bs⟩]) := by
    have hn := heap_alloc_new (w.alloc (.cells #[.int .i64 k, .int .i64 at_, .int .i64 n, .slice a len cap] 36)) (.cells #[.int .i64 k, .int .i64 at_, .int .i64 n, .slice a len cap] 36)
    rw [World.size_alloc] at hn
    obtain ⟨e0, e1, e2, e3⟩ := orow hn
    refine ⟨rfl, Nat.le_refl _, by omega, ?_, .inr ⟨w.heap.size + 1, 0, rfl, by simp, fun i hi => ?_⟩⟩
    · intro o ho
      obtain rfl : o = ⟨k, at_, n, a, len, cap, bs⟩ := by simpa using ho
      exact HIO.out.below hb2
    · obtain rfl : i = 0 := by simpa using hi
      exact ⟨e0, e1, e2, e3⟩
  have LG := hidd (large_any (some ⟨w.heap.size + 1, 0, none⟩) 1 1 [⟨k, at_, n, a, len, cap, bs⟩] _ _ HOR.out (Below.refl _ _))
  have AW : Hid (∀ W, Calls Try.prog 11 #[] W fun e w' => e = .returned (.bool true) ∧ Below W.heap.size W w') := fun W => awake_true DK.out W
  have R1 : Hid (∀ W, Calls Try.prog 16 #[.pointer none, .int .i64 at_, .int .i64 n] W fun e w' => (∃ a cap, e = .returned (.tuple #[.slice a 0 cap, .int .i64 3])) ∧ Below W.heap.size W w') := fun W => DN.out.read W at_ n
  have R2 : Hid (∀ W, Below w.heap.size w W → Calls Try.prog 18 #[.pointer none, .int .i64 at_, .slice a len cap] W fun e w' => e = .returned (.int .i64 3) ∧ Below W.heap.size W w') := fun W hb => DN.out.write W at_ a len cap bs (HRD.out.below hb)
  have R3 : Hid (∀ W, Calls Try.prog 19 #[.pointer none] W fun e w' => e = .returned (.int .i64 3) ∧ Below W.heap.size W w') := fun W => DN.out.sync W
  have R4 : Hid (∀ W, Calls Try.prog 21 #[.pointer none, .int .i64 n] W fun e w' => e = .returned (.int .i64 3) ∧ Below W.heap.size W w') := fun W => DN.out.stop W n
  have R5 : Hid (∀ W, Calls Try.prog 20 #[.pointer none, .int .i64 at_, .int .i64 n] W fun e w' => e = .returned (.int .i64 3) ∧ Below W.heap.size W w') := fun W => DN.out.crash W at_ n
  have R6 : Hid (∀ W, Calls Try.prog 12 #[.pointer none] W fun e w' => e = .returned (.int .i64 0) ∧ Below W.heap.size W w') := fun W => DN.out.room W
  have R7 : Hid (∀ W, Calls Try.prog 15 #[.pointer none] W fun e w' => e = .returned (.bool false) ∧ Below W.heap.size W w') := fun W => DN.out.down W
  show Calls Try.prog 7 #[.agg #[.int .i64 k, .int .i64 at_, .int .i64 n, .slice a len cap]] w _
  clear dk dn DK DN HOR HIO HRD hrd ho hb1 hb2 hO1
  go_enter Try.func7, Try.ntmps7
  go_wp2_with fail
  refine LG.out.mono ?_
  rintro e W0 ⟨x, rfl, rfl, hx⟩
  clear LG hx c0 c1 c2 c3
  obtain ⟨e0, e1, e2, e3⟩ := orow HO2.out
  cases x
  case true =>
    go_wp2
    go_ret
    exact ⟨rfl, HB2.out⟩
  go_wp2_with fail
  refine (R1.out _).mono ?_
  rintro e V1 ⟨⟨a1, c1, rfl⟩, hb⟩
  replace HB2 := hidd (HB2.out.trans (hb.mono HB2.out.size))
  replace HO2 := hidd ((hb.block _ (heap_lt HO2.out)).trans HO2.out)
  clear hb e0 e1 e2 e3
  obtain ⟨e0, e1, e2, e3⟩ := orow HO2.out
  go_wp2_with fail
  refine (AW.out _).mono ?_
  rintro e V2 ⟨rfl, hb⟩
  replace HB2 := hidd (HB2.out.trans (hb.mono HB2.out.size))
  replace HO2 := hidd ((hb.block _ (heap_lt HO2.out)).trans HO2.out)
  clear hb e0 e1 e2 e3
  obtain ⟨e0, e1, e2, e3⟩ := orow HO2.out
  go_wp2_with fail
  refine (R2.out _ HB2.out).mono ?_
  rintro e V3 ⟨rfl, hb⟩
  replace HB2 := hidd (HB2.out.trans (hb.mono HB2.out.size))
  replace HO2 := hidd ((hb.block _ (heap_lt HO2.out)).trans HO2.out)
  clear hb e0 e1 e2 e3
  obtain ⟨e0, e1, e2, e3⟩ := orow HO2.out
  go_wp2_with fail
  refine (R3.out _).mono ?_
  rintro e V4 ⟨rfl, hb⟩
  replace HB2 := hidd (HB2.out.trans (hb.mono HB2.out.size))
  replace HO2 := hidd ((hb.block _ (heap_lt HO2.out)).trans HO2.out)
  clear hb e0 e1 e2 e3
  obtain ⟨e0, e1, e2, e3⟩ := orow HO2.out
  go_wp2_with fail
  refine (R4.out _).mono ?_
  rintro e V5 ⟨rfl, hb⟩
  replace HB2 := hidd (HB2.out.trans (hb.mono HB2.out.size))
  replace HO2 := hidd ((hb.block _ (heap_lt HO2.out)).trans HO2.out)
  clear hb e0 e1 e2 e3
  obtain ⟨e0, e1, e2, e3⟩ := orow HO2.out
  go_wp2_with fail
  refine (R5.out _).mono ?_
  rintro e V6 ⟨rfl, hb⟩
  replace HB2 := hidd (HB2.out.trans (hb.mono HB2.out.size))
  replace HO2 := hidd ((hb.block _ (heap_lt HO2.out)).trans HO2.out)
  clear hb e0 e1 e2 e3
  obtain ⟨e0, e1, e2, e3⟩ := orow HO2.out
  go_wp2_with fail
  refine (R6.out _).mono ?_
  rintro e V7 ⟨rfl, hb⟩
  replace HB2 := hidd (HB2.out.trans (hb.mono HB2.out.size))
  replace HO2 := hidd ((hb.block _ (heap_lt HO2.out)).trans HO2.out)
  clear hb e0 e1 e2 e3
  obtain ⟨e0, e1, e2, e3⟩ := orow HO2.out
  go_wp2_with fail
  refine (R7.out _).mono ?_
  rintro e V8 ⟨rfl, hb⟩
  replace HB2 := hidd (HB2.out.trans (hb.mono HB2.out.size))
  replace HO2 := hidd ((hb.block _ (heap_lt HO2.out)).trans HO2.out)
  clear hb e0 e1 e2 e3
  obtain ⟨e0, e1, e2, e3⟩ := orow HO2.out
  go_wp2
  go_ret
  exact ⟨rfl, HB2.out⟩
end Go.Proofs.Yticljiffagobnaa

/- Parts of bytes that are read. -/
namespace Go.Proofs.Yticljiffagobnaa
open Go.RowKit Nums
set_option linter.unusedVariables false
set_option linter.unusedSimpArgs false
set_option maxRecDepth 100000
variable {At : World → Nat → DkT → (Nat → Prop) → Prop}
/-- Where a part of a slice lies. -/
def subA (a : Option Addr) (cap lo : Nat) : Option Addr := if cap = lo then a else a.map (·.add lo)
theorem slice_back (W : World) (a : Option Addr) (len cap lo : Nat) (h : lo ≤ len) (hc : len ≤ cap) : (Instr.sliceAt 34 (.slice a len cap) (some (.int .i64 lo)) none none).run Try.prog W = .ok (.slice (subA a cap lo) (len - lo) (cap - lo)) W := by
  have hz : ∀ w, (sizeOf 5).run Try.prog w = .ok 1 w := fun w => by
    have h : (Try.prog.info? 5).map (·.size) = some 1 := by kernel_rfl
    cases hq : Try.prog.info? 5 with
    | none => rw [hq] at h; cases h
    | some i =>
      rw [hq] at h
      simp only [Option.map_some, Option.some.injEq] at h
      simp [sizeOf, typeInfo, hq, h]
  simp [Instr.sliceAt, Instr.slice, Instr.sliceBounds, Instr.sliceBound, asIntOf, run_underlying Try.underlying34, hz, h, hc, subA]
theorem Reads.part {W : World} {a : Option Addr} {len cap : Nat} {l : List UInt8} (h : Reads W a len cap l) (lo hi : Nat) (h1 : lo ≤ hi) (h2 : hi ≤ len) : Reads W (subA a cap lo) (hi - lo) (cap - lo) ((l.drop lo).take (hi - lo)) := by
  obtain ⟨e1, e2, e3, e4⟩ := h
  refine ⟨by rw [List.length_take, List.length_drop]; omega, by omega, by omega, ?_⟩
  unfold subA
  rcases e4 with ⟨rfl, h0⟩ | ⟨ad, rfl, h0⟩ | ⟨b, off, rfl, hlt, hc⟩
  · exact .inl ⟨by split <;> rfl, by omega⟩
  · refine .inr (.inl ?_)
    split
    · exact ⟨ad, rfl, by omega⟩
    · exact ⟨ad.add lo, rfl, by omega⟩
  · by_cases hcl : cap = lo
    · rw [if_pos hcl]; exact .inr (.inl ⟨_, rfl, by omega⟩)
    · rw [if_neg hcl]
      refine .inr (.inr ⟨b, off + lo, by show some (Addr.add ⟨b, off, none⟩ lo) = some _; rw [add_plain], hlt, fun i hi => ?_⟩)
      have hi' : lo + i < l.length := by rw [List.length_take, List.length_drop] at hi; omega
      have := hc (lo + i) hi'
      rw [← Nat.add_assoc] at this
      rw [this]
      simp
end Go.Proofs.Yticljiffagobnaa
