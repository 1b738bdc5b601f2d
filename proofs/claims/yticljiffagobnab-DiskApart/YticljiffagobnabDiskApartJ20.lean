/- Texts of our own that the row of DiskApart leans on, part 20. -/
import Derived.Test.YticljiffagobnabDiskApartJ9
import Derived.Test.YticljiffagobnabDiskApartJ17
import Derived.Test.YticljiffagobnabDiskApartJ19

/- The program's disk and the document's side by side; what the statements' large and call answer. -/
namespace Go.Proofs.Yticljiffagobnab
open Go.RowKit Nums
set_option linter.unusedVariables false
set_option linter.unusedSimpArgs false
set_option maxRecDepth 100000
/-- The program's disk D and the document's disk M, both made since w; the blocks of K are neither's. -/
structure Two (At : World → Nat → DkT → (Nat → Prop) → Prop) (w W : World) (pd pm : Nat) (D M : DkT) (K : Nat → Prop) : Prop where
  two : ∃ Sm, MAt W pm M Sm ∧ (∀ b, Sm b → w.heap.size ≤ b) ∧ (∀ b, K b → ¬ Sm b) ∧ Lv At w W pd D (fun b => K b ∨ Sm b)
variable {At : World → Nat → DkT → (Nat → Prop) → Prop}
theorem Two.below {w W : World} {pd pm : Nat} {D M : DkT} {K : Nat → Prop} (h : Two At w W pd pm D M K) : Below w.heap.size w W := by obtain ⟨_, _, _, _, hl⟩ := h.two; exact hl.below
theorem Two.okd (dk : DiskC At) {w W : World} {pd pm : Nat} {D M : DkT} {K : Nat → Prop} (h : Two At w W pd pm D M K) : OkD D := by obtain ⟨_, _, _, _, hl⟩ := h.two; exact hl.ok dk
theorem Two.lv {w W : World} {pd pm : Nat} {D M : DkT} {K : Nat → Prop} (h : Two At w W pd pm D M K) : Lv At w W pd D K := by obtain ⟨_, _, _, _, hl⟩ := h.two; exact hl.sub fun b e => .inl e
theorem Two.sub {w W : World} {pd pm : Nat} {D M : DkT} {K K' : Nat → Prop} (h : Two At w W pd pm D M K) (hk : ∀ b, K' b → K b) : Two At w W pd pm D M K' := by
  obtain ⟨Sm, h1, h2, h3, h4⟩ := h.two
  exact ⟨Sm, h1, h2, fun b e => h3 b (hk b e), h4.sub fun b e => by rcases e with e | e; exact .inl (hk b e); exact .inr e⟩
theorem Two.keep (dk : DiskC At) {w W W' : World} {pd pm : Nat} {D M : DkT} {K : Nat → Prop} (h : Two At w W pd pm D M K) (hb : Below W.heap.size W W') : Two At w W' pd pm D M (fun b => K b ∨ (W.heap.size ≤ b ∧ b < W'.heap.size)) := by
  obtain ⟨Sm, h1, h2, h3, h4⟩ := h.two
  refine ⟨Sm, h1.below hb, h2, fun b e hs => ?_, (h4.keep dk hb).sub fun b e => ?_⟩
  · rcases e with e | e
    · exact h3 b e hs
    · have := h1.lt b hs; omega
  · rcases e with (e | e) | e
    · exact .inl (.inl e)
    · exact .inr e
    · exact .inl (.inr e)
theorem Two.keepK (dk : DiskC At) {w W W' : World} {pd pm : Nat} {D M : DkT} {K : Nat → Prop} (h : Two At w W pd pm D M K) (hb : Below W.heap.size W W') : Two At w W' pd pm D M K := (h.keep dk hb).sub fun b e => .inl e
/-- A block that is neither's is written. -/
theorem Two.other (dk : DiskC At) {w W W' : World} {pd pm : Nat} {D M : DkT} {K : Nat → Prop} (h : Two At w W pd pm D M K) (g : Nat) (hg : K g) (hgw : w.heap.size ≤ g) (hw : W.grownBy W' (some g)) : Two At w W' pd pm D M K := by
  obtain ⟨Sm, h1, h2, h3, h4⟩ := h.two
  obtain ⟨Sd, hA, hS, hK⟩ := h4.live
  have bl : ∀ b, b < W.heap.size → b ≠ g → W'.heap[b]? = W.heap[b]? := fun b hb hn => hw.block b hb (fun e => hn (Option.some.inj e))
  refine ⟨Sm, h1.keep fun b e => bl b (h1.lt b e) (fun e2 => h3 b (by rw [e2]; exact hg) e), h2, h3, ⟨?_, Sd, dk.keep hA hw.size fun b e => bl b (dk.lt hA b e) (fun e2 => (hK b (.inl (by rw [e2]; exact hg))).1 e), hS, fun b e => ⟨(hK b e).1, Nat.lt_of_lt_of_le (hK b e).2 hw.size⟩⟩⟩
  exact h4.below.grown hw h4.below.size (by intro k hk; cases hk; exact hgw)
theorem Kept9.sub {K K' : Nat → Prop} {w w' : World} (h : Kept9 K w w') (hk : ∀ b, K' b → K b) : Kept9 K' w w' := ⟨h.os, h.tape, h.output, h.size, fun b hb hn => h.block b hb fun h2 => hn fun h3 => h2 (hk b h3)⟩
theorem Kept9.row {K : Nat → Prop} {w w' : World} (h : Kept9 K w w') {g : Nat} (hg : K g) {o : Obj} (hr : w.heap[g]? = some o) : w'.heap[g]? = some o := (h.block g (heap_lt hr) (fun hn => hn hg)).trans hr
theorem Two.prog (dk : DiskC At) {w W : World} {pd pm : Nat} {D D' M : DkT} {K : Nat → Prop} {f : Nat} {args : Array Value} {Q : Ending → Prop} (h : Two At w W pd pm D M K)
    (step : ∀ K', Lv At w W pd D K' → (∀ b, K b → K' b) → Calls Try.prog f args W fun e w' => Q e ∧ Lv At w w' pd D' K' ∧ Kept9 K' W w') : Calls Try.prog f args W fun e w' => Q e ∧ Two At w w' pd pm D' M K ∧ Kept9 K W w' := by
  obtain ⟨Sm, h1, h2, h3, h4⟩ := h.two
  refine (step _ h4 fun b e => .inl e).mono ?_
  rintro e w' ⟨hq, hl, hk⟩
  exact ⟨hq, ⟨Sm, h1.away hk fun b hb hn => hn (.inr hb), h2, h3, hl⟩, hk.sub fun b e => .inl e⟩
theorem Two.ref (dk : DiskC At) {w W : World} {pd pm : Nat} {D M M' : DkT} {K : Nat → Prop} {f : Nat} {args : Array Value} {Q : Ending → Prop} (h : Two At w W pd pm D M K)
    (step : ∀ Sm, MAt W pm M Sm → (∀ b, K b → ¬ Sm b) → Calls Try.prog f args W fun e w' => Q e ∧ (∃ S', MAt w' pm M' S' ∧ ∀ b, S' b → Sm b ∨ W.heap.size ≤ b) ∧ Away Sm W w') : Calls Try.prog f args W fun e w' => Q e ∧ Two At w w' pd pm D M' K ∧ Kept9 K W w' := by
  obtain ⟨Sm, h1, h2, h3, h4⟩ := h.two
  obtain ⟨Sd, hA, hS, hK⟩ := h4.live
  refine (step Sm h1 h3).mono ?_
  rintro e w' ⟨hq, ⟨S', hm, hs'⟩, haw⟩
  refine ⟨hq, ⟨S', hm, fun b hb => ?_, fun b hb hs => ?_, ⟨haw.below h4.below h4.below.size h2, Sd, dk.keep hA haw.size fun b e => haw.block b (dk.lt hA b e) (fun hs => (hK b (.inr hs)).1 e), hS, fun b hb => ?_⟩⟩, ⟨haw.os, haw.tape, haw.output, haw.size, fun k hk hn => haw.block k hk fun hs => hn fun h5 => h3 k h5 hs⟩⟩
  · rcases hs' b hb with e | e
    · exact h2 b e
    · exact Nat.le_trans h4.below.size e
  · rcases hs' b hs with e | e
    · exact h3 b hb e
    · have := (hK b (.inl hb)).2; omega
  · rcases hb with hb | hb
    · exact ⟨(hK b (.inl hb)).1, Nat.lt_of_lt_of_le (hK b (.inl hb)).2 haw.size⟩
    · refine ⟨fun hd => ?_, hm.lt b hb⟩
      rcases hs' b hb with e | e
      · exact (hK b (.inr e)).1 hd
      · have := dk.lt hA b hd; omega
/-! large. -/
set_option maxHeartbeats 2000000 in
theorem large_any (a : Option Addr) (len cap : Nat) (l : List OpT) (w W : World) (h : OReads w a len cap l) (hb : Below w.heap.size w W) :
    Calls Try.prog 4 #[.slice a len cap] W fun e w' => ∃ x : Bool, e = .returned (.bool x) ∧ W = w' ∧ (x = false → len ≤ 60 ∧ ∀ o ∈ l, o.bs.length ≤ 300) := by
  have HR := hidd h
  have HB := hidd hb
  have hlen := h.1
  by_cases h60 : 60 < len
  · have hm : len ≤ 9223372036854775807 := by have h1 := h.2.1; have h2 := h.2.2.1; omega
    have d1 : decide ((60 : Int) < (len : Int)) = true := by rw [decide_eq_true_eq]; omega
    clear h hb
    go_enter Try.func4, Try.ntmps4
    go_wp2
    go_ret
    exact ⟨true, rfl, rfl, fun e => by cases e⟩
  · have d1 : decide ((60 : Int) < (len : Int)) = false := by rw [decide_eq_false_iff_not]; omega
    have hz : ∀ w, (sizeOf 34).run Try.prog w = .ok 4 w := fun w => by
      have h : (Try.prog.info? 34).map (·.size) = some 4 := by kernel_rfl
      cases hq : Try.prog.info? 34 with
      | none => rw [hq] at h; cases h
      | some i =>
        rw [hq] at h
        simp only [Option.map_some, Option.some.injEq] at h
        simp [sizeOf, typeInfo, hq, h]
    clear h hb
    go_enter Try.func4, Try.ntmps4
    go_wp2
    go_loopw [3] (fun i wr => ∃ k : Nat, k ≤ len ∧ i = .int .i64 k ∧ W = wr ∧ Hid (∀ j o, j < k → l[j]? = some o → o.bs.length ≤ 300)) (fun i _ => len - (intOf i).toNat)
    case atStart => exact ⟨0, by omega, rfl, rfl, fun j o hj => by omega⟩
    case round =>
      obtain ⟨k, hk, rfl, rfl, HK⟩ := hrel
      by_cases hlt : k < len
      · have hdk : decide ((k : Int) < (len : Int)) = true := by rw [decide_eq_true_eq]; omega
        have hw := wrap_int ((k : Int) + 1) (by omega) (by omega)
        obtain ⟨b, off, o, rfl, hbn, hlo, hio, c0, c1, c2, c3⟩ := HR.out.at k hlt
        have e3 := (HB.out.cell (p := ⟨b, off + k * 4 + 3, none⟩) hbn).trans c3
        have hol := hio.rd.1
        have hom : o.len ≤ 9223372036854775807 := by have h1 := hio.rd.2.1; have h2 := hio.rd.2.2.1; omega
        have ix : ∀ W, (Instr.indexAt 22 (.slice (some ⟨b, off, none⟩) len cap) (.int .i64 (k : Int))).run Try.prog W = .ok (.pointer (some ⟨b, off + k * 4, none⟩)) W := fun W => by
          simp [Instr.indexAt, asIntOf, run_underlying Try.underlying22, hz, hlt]
          rw [add_plain]
        obtain ⟨oa, ol, oc, hO⟩ : ∃ oa ol oc, Hid (oa = o.a ∧ ol = o.len ∧ oc = o.cap) := ⟨_, _, _, hidd ⟨rfl, rfl, rfl⟩⟩
        rw [← hO.out.1, ← hO.out.2.1, ← hO.out.2.2] at e3
        rw [← hO.out.2.1] at hom hol
        have HOL := hidd hol
        have HLO := hidd hlo
        clear c0 c1 c2 c3 hio hlo hol
        by_cases h300 : 300 < ol
        · have d3 : decide ((300 : Int) < (ol : Int)) = true := by rw [decide_eq_true_eq]; omega
          go_wp2
          go_ret
          exact ⟨true, rfl, rfl, fun e => by cases e⟩
        · have d3 : decide ((300 : Int) < (ol : Int)) = false := by rw [decide_eq_false_iff_not]; omega
          have HK2 : Hid (∀ j o, j < k + 1 → l[j]? = some o → o.bs.length ≤ 300) := fun j o' hj ho => by
            by_cases e : j = k
            · rw [e, HLO.out] at ho
              cases ho
              rw [HOL.out]; omega
            · exact HK.out j o' (by omega) ho
          go_wp2
          go_roundw
          case rel => exact ⟨k + 1, by omega, by go_num, (by trivial), HK2⟩
          case measure => simp [intOf]; omega
      · obtain rfl : len = k := by omega
        have hdk : decide ((len : Int) < (len : Int)) = false := by rw [decide_eq_false_iff_not]; omega
        go_wp2
        go_ret
        refine ⟨false, rfl, rfl, fun _ => ⟨by omega, fun o ho => ?_⟩⟩
        obtain ⟨j, hj, rfl⟩ := List.mem_iff_getElem.1 ho
        exact HK.out j _ (by omega) (List.getElem?_eq_getElem hj)
end Go.Proofs.Yticljiffagobnab

/- What the statements' call answers: the program's disk and the document's go on alike. -/
namespace Go.Proofs.Yticljiffagobnab
open Go.RowKit Nums
set_option linter.unusedVariables false
set_option linter.unusedSimpArgs false
set_option maxRecDepth 100000
variable {At : World → Nat → DkT → (Nat → Prop) → Prop}
/-- What a call makes of a disk. -/
def opD (D : DkT) (o : OpT) : DkT := if o.k = 1 then writeD D o.at_ o.bs else if o.k = 2 then syncD D else if o.k = 4 then stopD D o.n else if o.k = 5 then crashD D o.at_ o.n else D
/-- Bytes that may be written, one after the other. -/
structure Fill (g off len : Nat) (W : World) : Prop where
  cell : ∀ i, i < len → ∃ v, W.cell? ⟨g, off + i, none⟩ = some v
  free : ∀ i, i < len → W.frozen? ⟨g, off + i, none⟩ = false
theorem Fill.set {g off len : Nat} {W : World} (h : Fill g off len W) (i : Nat) (hi : i < len) (v : Value) : Fill g off len (W.setCell ⟨g, off + i, none⟩ v) := by
  refine ⟨fun j hj => ?_, fun j hj => ?_⟩
  · by_cases e : j = i
    · subst e
      obtain ⟨u, hu⟩ := h.cell j hj
      exact ⟨v, World.cell?_setCell_same _ _ _ hu⟩
    · obtain ⟨u, hu⟩ := h.cell j hj
      have hne : (⟨g, off + i, none⟩ : Addr) ≠ ⟨g, off + j, none⟩ := by intro h2; injection h2 with _ h3; omega
      exact ⟨u, (World.cell?_setCell_other (w := W) (v := v) (h := hne)).trans hu⟩
  · have := h.free j hj
    simpa using this
theorem orow {W : World} {g : Nat} {k a n : Int} {s : Value} (h : W.heap[g]? = some (.cells #[.int .i64 k, .int .i64 a, .int .i64 n, s] 34 (0, 0))) : W.cell? ⟨g, 0, none⟩ = some (.int .i64 k) ∧ W.cell? ⟨g, 1, none⟩ = some (.int .i64 a) ∧ W.cell? ⟨g, 2, none⟩ = some (.int .i64 n) ∧ W.cell? ⟨g, 3, none⟩ = some s :=
  ⟨by rw [cell_of_row W g 0 _ _ (0, 0) h]; rfl, by rw [cell_of_row W g 1 _ _ (0, 0) h]; rfl, by rw [cell_of_row W g 2 _ _ (0, 0) h]; rfl, by rw [cell_of_row W g 3 _ _ (0, 0) h]; rfl⟩
theorem Two.drew {w W : World} {pd pm : Nat} {D M : DkT} {K : Nat → Prop} (dk : DiskC At) (h : Two At w W pd pm D M K) : Two At w W.drew pd pm D M K := h.keepK dk (Below.refl _ _).drew
theorem refStopS_any (w : World) (p : Nat) (D : DkT) (S : Nat → Prop) (h : MAt w p D S) (n : Int) :
    Calls Try.prog 18 #[.pointer (some ⟨p, 0, none⟩), .int .i64 n] w fun e w' => e = .returned (.int .i64 (stopE D n)) ∧ (∃ S', MAt w' p (stopD D n) S' ∧ ∀ b, S' b → S b ∨ w.heap.size ≤ b) ∧ Away S w w' := by
  obtain ⟨ok, v, hr, hSv⟩ := h
  refine (refStop_any w p D v hr n).mono ?_
  rintro e w' ⟨rfl, hm, hg⟩
  exact ⟨rfl, MAt.mk' (w := w) hSv (stopD_ok ok n) hm (.inr (.inl rfl)), away_grown hg ((hSv p).2 (.inl rfl))⟩
set_option maxHeartbeats 8000000 in
theorem call_2 (dk : DiskC At) (w W : World) (pd pm : Nat) (D : DkT) (K : Nat → Prop) (h : Two At w W pd pm D D K) (hK : ∀ b, b < w.heap.size → K b) (hp : D.puts.length ≤ 1000) (o : OpT) (ho : InO w o) (hk : o.k = 2) :
    Calls Try.prog 7 #[.pointer (some ⟨pd, 0, none⟩), .pointer (some ⟨pm, 0, none⟩), .agg #[.int .i64 o.k, .int .i64 o.at_, .int .i64 o.n, .slice o.a o.len o.cap]] W fun e w' => e = .returned (.bool true) ∧ Two At w w' pd pm (opD D o) (opD D o) K := by
  have DK : Hid (DiskC At) := dk
  obtain ⟨k, at_, n, a, len, cap, bs⟩ := o
  simp only at hk
  have hat := ho.at_
  have hn := ho.n
  have hrd := ho.rd
  simp only at hat hn hrd
  have HT0 := hidd (h.keep dk ((Below.refl W.heap.size W).alloc (Nat.le_refl _) (.cells #[.int .i64 k, .int .i64 at_, .int .i64 n, .slice a len cap] 34)))
  have HO0 := hidd (heap_alloc_new W (.cells #[.int .i64 k, .int .i64 at_, .int .i64 n, .slice a len cap] 34))
  have hsz : (W.alloc (.cells #[.int .i64 k, .int .i64 at_, .int .i64 n, .slice a len cap] 34)).heap.size = W.heap.size + 1 := by simp
  rw [hsz] at HT0
  obtain ⟨K1, HK1⟩ : ∃ K1, Hid (K1 = fun b => K b ∨ W.heap.size ≤ b ∧ b < W.heap.size + 1) := ⟨_, hidd rfl⟩
  rw [← HK1.out] at HT0
  have HKo : Hid (K1 W.heap.size) := by rw [HK1.out]; exact .inr ⟨Nat.le_refl _, Nat.lt_succ_self _⟩
  have HKs : Hid (∀ b, K b → K1 b) := fun b e => by rw [HK1.out]; exact .inl e
  have HKw : Hid (∀ b, b < w.heap.size → K1 b) := fun b e => HKs.out b (hK b e)
  have HRD := hidd hrd
  have hbw := h.below.size
  simp only [opD]
  subst hk
  rw [if_neg (by omega), if_pos rfl]
  obtain ⟨c0, c1, c2, c3⟩ := orow HO0.out
  obtain ⟨E, HE⟩ : ∃ E, Hid (E = syncE D) := ⟨_, hidd rfl⟩
  have P1 : Hid (∀ V, Two At w V pd pm D D K1 → Calls Try.prog 14 #[.pointer (some ⟨pd, 0, none⟩)] V fun e w' => e = .returned (.int .i64 E) ∧ Two At w w' pd pm (syncD D) D K1 ∧ Kept9 K1 V w') := fun V hV => hV.prog DK.out (Q := fun e => e = .returned (.int .i64 E)) fun K' hl _ => lv_sync DK.out hl (syncD D) rfl E HE.out
  have R1 : Hid (∀ V, Two At w V pd pm (syncD D) D K1 → Calls Try.prog 15 #[.pointer (some ⟨pm, 0, none⟩)] V fun e w' => e = .returned (.int .i64 E) ∧ Two At w w' pd pm (syncD D) (syncD D) K1 ∧ Kept9 K1 V w') := fun V hV => hV.ref DK.out (Q := fun e => e = .returned (.int .i64 E)) fun Sm hm _ => by rw [HE.out]; exact refSync_any V pm D Sm hm
  clear h ho hK hat hn hrd DK dk HE hsz c1 c2 c3
  go_enter Try.func7, Try.ntmps7
  go_wp2_with fail
  refine (P1.out _ HT0.out).mono ?_
  rintro e w1 ⟨rfl, ht, _⟩
  have HT1 := hidd ht
  clear ht P1 HT0
  go_wp2_with fail
  refine (R1.out _ HT1.out).mono ?_
  rintro e w2 ⟨rfl, ht, _⟩
  have HT2 := hidd (ht.sub HKs.out)
  clear ht R1 HT1
  go_wp2
  go_ret
  exact ⟨by simp, HT2.out⟩
set_option maxHeartbeats 8000000 in
theorem call_0 (dk : DiskC At) (w W : World) (pd pm : Nat) (D : DkT) (K : Nat → Prop) (h : Two At w W pd pm D D K) (hK : ∀ b, b < w.heap.size → K b) (hp : D.puts.length ≤ 1000) (o : OpT) (ho : InO w o) (hk : ¬ o.k = 1 ∧ ¬ o.k = 2 ∧ ¬ o.k = 3 ∧ ¬ o.k = 4 ∧ ¬ o.k = 5) :
    Calls Try.prog 7 #[.pointer (some ⟨pd, 0, none⟩), .pointer (some ⟨pm, 0, none⟩), .agg #[.int .i64 o.k, .int .i64 o.at_, .int .i64 o.n, .slice o.a o.len o.cap]] W fun e w' => e = .returned (.bool true) ∧ Two At w w' pd pm (opD D o) (opD D o) K := by
  have DK : Hid (DiskC At) := dk
  obtain ⟨k, at_, n, a, len, cap, bs⟩ := o
  simp only at hk
  have hat := ho.at_
  have hn := ho.n
  have hrd := ho.rd
  simp only at hat hn hrd
  have HT0 := hidd (h.keep dk ((Below.refl W.heap.size W).alloc (Nat.le_refl _) (.cells #[.int .i64 k, .int .i64 at_, .int .i64 n, .slice a len cap] 34)))
  have HO0 := hidd (heap_alloc_new W (.cells #[.int .i64 k, .int .i64 at_, .int .i64 n, .slice a len cap] 34))
  have hsz : (W.alloc (.cells #[.int .i64 k, .int .i64 at_, .int .i64 n, .slice a len cap] 34)).heap.size = W.heap.size + 1 := by simp
  rw [hsz] at HT0
  obtain ⟨K1, HK1⟩ : ∃ K1, Hid (K1 = fun b => K b ∨ W.heap.size ≤ b ∧ b < W.heap.size + 1) := ⟨_, hidd rfl⟩
  rw [← HK1.out] at HT0
  have HKo : Hid (K1 W.heap.size) := by rw [HK1.out]; exact .inr ⟨Nat.le_refl _, Nat.lt_succ_self _⟩
  have HKs : Hid (∀ b, K b → K1 b) := fun b e => by rw [HK1.out]; exact .inl e
  have HKw : Hid (∀ b, b < w.heap.size → K1 b) := fun b e => HKs.out b (hK b e)
  have HRD := hidd hrd
  have hbw := h.below.size
  simp only [opD]
  obtain ⟨h1, h2, h3, h4, h5⟩ := hk
  rw [if_neg h1, if_neg h2, if_neg h4, if_neg h5]
  obtain ⟨c0, c1, c2, c3⟩ := orow HO0.out
  have q1 : (k == 1) = false := by rw [beq_eq_false_iff_ne]; exact h1
  have q2 : (k == 2) = false := by rw [beq_eq_false_iff_ne]; exact h2
  have q3 : (k == 3) = false := by rw [beq_eq_false_iff_ne]; exact h3
  have q4 : (k == 4) = false := by rw [beq_eq_false_iff_ne]; exact h4
  have q5 : (k == 5) = false := by rw [beq_eq_false_iff_ne]; exact h5
  have HT1 := hidd (HT0.out.sub HKs.out)
  clear h ho hK hat hn hrd DK dk hsz c1 c2 c3 HT0
  go_enter Try.func7, Try.ntmps7
  go_wp2
  go_ret
  exact ⟨rfl, HT1.out⟩
set_option maxHeartbeats 8000000 in
theorem call_5 (dk : DiskC At) (w W : World) (pd pm : Nat) (D : DkT) (K : Nat → Prop) (h : Two At w W pd pm D D K) (hK : ∀ b, b < w.heap.size → K b) (hp : D.puts.length ≤ 1000) (o : OpT) (ho : InO w o) (hk : o.k = 5) :
    Calls Try.prog 7 #[.pointer (some ⟨pd, 0, none⟩), .pointer (some ⟨pm, 0, none⟩), .agg #[.int .i64 o.k, .int .i64 o.at_, .int .i64 o.n, .slice o.a o.len o.cap]] W fun e w' => e = .returned (.bool true) ∧ Two At w w' pd pm (opD D o) (opD D o) K := by
  have DK : Hid (DiskC At) := dk
  obtain ⟨k, at_, n, a, len, cap, bs⟩ := o
  simp only at hk
  have hat := ho.at_
  have hn := ho.n
  have hrd := ho.rd
  simp only at hat hn hrd
  have HT0 := hidd (h.keep dk ((Below.refl W.heap.size W).alloc (Nat.le_refl _) (.cells #[.int .i64 k, .int .i64 at_, .int .i64 n, .slice a len cap] 34)))
  have HO0 := hidd (heap_alloc_new W (.cells #[.int .i64 k, .int .i64 at_, .int .i64 n, .slice a len cap] 34))
  have hsz : (W.alloc (.cells #[.int .i64 k, .int .i64 at_, .int .i64 n, .slice a len cap] 34)).heap.size = W.heap.size + 1 := by simp
  rw [hsz] at HT0
  obtain ⟨K1, HK1⟩ : ∃ K1, Hid (K1 = fun b => K b ∨ W.heap.size ≤ b ∧ b < W.heap.size + 1) := ⟨_, hidd rfl⟩
  rw [← HK1.out] at HT0
  have HKo : Hid (K1 W.heap.size) := by rw [HK1.out]; exact .inr ⟨Nat.le_refl _, Nat.lt_succ_self _⟩
  have HKs : Hid (∀ b, K b → K1 b) := fun b e => by rw [HK1.out]; exact .inl e
  have HKw : Hid (∀ b, b < w.heap.size → K1 b) := fun b e => HKs.out b (hK b e)
  have HRD := hidd hrd
  have hbw := h.below.size
  simp only [opD]
  subst hk
  rw [if_neg (by omega), if_neg (by omega), if_neg (by omega), if_pos rfl]
  obtain ⟨c0, c1, c2, c3⟩ := orow HO0.out
  have P1 : Hid (∀ V, Two At w V pd pm D (crashD D at_ n) K1 → Calls Try.prog 20 #[.pointer (some ⟨pd, 0, none⟩), .int .i64 at_, .int .i64 n] V fun e w' => e = .returned (.int .i64 0) ∧ Two At w w' pd pm (crashD D at_ n) (crashD D at_ n) K1 ∧ Kept9 K1 V w') := fun V hV => hV.prog DK.out (Q := fun e => e = .returned (.int .i64 0)) fun K' hl _ => lv_crash DK.out hl (by omega) at_ n hat hn (crashD D at_ n) rfl
  have R1 : Hid (∀ V, Two At w V pd pm D D K1 → Calls Try.prog 19 #[.pointer (some ⟨pm, 0, none⟩), .int .i64 at_, .int .i64 n] V fun e w' => e = .returned (.tuple #[]) ∧ Two At w w' pd pm D (crashD D at_ n) K1 ∧ Kept9 K1 V w') := fun V hV => hV.ref DK.out (Q := fun e => e = .returned (.tuple #[])) fun Sm hm _ => refCrash_any V pm D Sm hm at_ n hat hn
  clear h ho hK hat hn hrd DK dk hsz c3
  go_enter Try.func7, Try.ntmps7
  go_wp2_with fail
  refine (R1.out _ HT0.out).mono ?_
  rintro e w1 ⟨rfl, ht, hk⟩
  have HT1 := hidd ht
  obtain ⟨d0, d1, d2, d3⟩ := orow (hk.row HKo.out HO0.out)
  clear ht R1 HT0 hk d0 d3
  go_wp2_with fail
  refine (P1.out _ HT1.out).mono ?_
  rintro e w2 ⟨rfl, ht, _⟩
  have HT2 := hidd (ht.sub HKs.out)
  clear ht P1 HT1
  go_wp2
  go_ret
  exact ⟨rfl, HT2.out⟩
set_option maxHeartbeats 8000000 in
theorem call_4 (dk : DiskC At) (w W : World) (pd pm : Nat) (D : DkT) (K : Nat → Prop) (h : Two At w W pd pm D D K) (hK : ∀ b, b < w.heap.size → K b) (hp : D.puts.length ≤ 1000) (o : OpT) (ho : InO w o) (hk : o.k = 4) :
    Calls Try.prog 7 #[.pointer (some ⟨pd, 0, none⟩), .pointer (some ⟨pm, 0, none⟩), .agg #[.int .i64 o.k, .int .i64 o.at_, .int .i64 o.n, .slice o.a o.len o.cap]] W fun e w' => e = .returned (.bool true) ∧ Two At w w' pd pm (opD D o) (opD D o) K := by
  have DK : Hid (DiskC At) := dk
  obtain ⟨k, at_, n, a, len, cap, bs⟩ := o
  simp only at hk
  have hat := ho.at_
  have hn := ho.n
  have hrd := ho.rd
  simp only at hat hn hrd
  have HT0 := hidd (h.keep dk ((Below.refl W.heap.size W).alloc (Nat.le_refl _) (.cells #[.int .i64 k, .int .i64 at_, .int .i64 n, .slice a len cap] 34)))
  have HO0 := hidd (heap_alloc_new W (.cells #[.int .i64 k, .int .i64 at_, .int .i64 n, .slice a len cap] 34))
  have hsz : (W.alloc (.cells #[.int .i64 k, .int .i64 at_, .int .i64 n, .slice a len cap] 34)).heap.size = W.heap.size + 1 := by simp
  rw [hsz] at HT0
  obtain ⟨K1, HK1⟩ : ∃ K1, Hid (K1 = fun b => K b ∨ W.heap.size ≤ b ∧ b < W.heap.size + 1) := ⟨_, hidd rfl⟩
  rw [← HK1.out] at HT0
  have HKo : Hid (K1 W.heap.size) := by rw [HK1.out]; exact .inr ⟨Nat.le_refl _, Nat.lt_succ_self _⟩
  have HKs : Hid (∀ b, K b → K1 b) := fun b e => by rw [HK1.out]; exact .inl e
  have HKw : Hid (∀ b, b < w.heap.size → K1 b) := fun b e => HKs.out b (hK b e)
  have HRD := hidd hrd
  have hbw := h.below.size
  simp only [opD]
  subst hk
  rw [if_neg (by omega), if_neg (by omega), if_pos rfl]
  obtain ⟨c0, c1, c2, c3⟩ := orow HO0.out
  obtain ⟨E, HE⟩ : ∃ E, Hid (E = stopE D n) := ⟨_, hidd rfl⟩
  have P1 : Hid (∀ V, Two At w V pd pm D D K1 → Calls Try.prog 17 #[.pointer (some ⟨pd, 0, none⟩), .int .i64 n] V fun e w' => e = .returned (.int .i64 E) ∧ Two At w w' pd pm (stopD D n) D K1 ∧ Kept9 K1 V w') := fun V hV => hV.prog DK.out (Q := fun e => e = .returned (.int .i64 E)) fun K' hl _ => lv_stop DK.out hl n hn (stopD D n) rfl E HE.out
  have R1 : Hid (∀ V, Two At w V pd pm (stopD D n) D K1 → Calls Try.prog 18 #[.pointer (some ⟨pm, 0, none⟩), .int .i64 n] V fun e w' => e = .returned (.int .i64 E) ∧ Two At w w' pd pm (stopD D n) (stopD D n) K1 ∧ Kept9 K1 V w') := fun V hV => hV.ref DK.out (Q := fun e => e = .returned (.int .i64 E)) fun Sm hm _ => by
    rw [HE.out]
    exact refStopS_any V pm D Sm hm n
  have HT0d := hidd (HT0.out.drew DK.out)
  clear h ho hK hat hn hrd DK dk hsz c1 c3 HE
  go_enter Try.func7, Try.ntmps7
  go_wp2
  refine wp_region_held_drew (S := (fun V => V.heap[W.heap.size]? = some (.cells #[.int .i64 4, .int .i64 at_, .int .i64 n, .slice a len cap] 34 (0, 0)))) (by kernel_rfl) HO0.out (fun hHeld => ?_)
  refine wpAnyH_take (i := 0) (oi := { dst := some 101, op := Op.move (Operand.tmp 0), type := 25, pos := "law.go:71", after := #[], guard := none }) (v := .pointer (some ⟨pd, 0, none⟩)) rfl (by kernel_rfl) (by kernel_rfl) (by kernel_rfl) (fun _ _ _ h => h) (Or.inl ⟨by rfl, by intro W hSw; go_simp⟩) hHeld ?_
  try simp only [Act.put, List.setIfInBounds_toArray, List.set_cons_zero, List.set_cons_succ]
  refine wpAnyH_take (i := 1) (oi := { dst := some 102, op := Op.fieldAddr 34 (Operand.tmp 5) 2, type := 0, pos := "law.go:71", after := #[], guard := none }) (v := .pointer (some ⟨W.heap.size, 2, none⟩)) rfl (by kernel_rfl) (by kernel_rfl) (by kernel_rfl) (fun _ _ _ h => h) (Or.inl ⟨by rfl, by intro W hSw; go_simp⟩) hHeld ?_
  try simp only [Act.put, List.setIfInBounds_toArray, List.set_cons_zero, List.set_cons_succ]
  refine wpAnyH_take (i := 2) (oi := { dst := some 103, op := Op.load 3 (Operand.tmp 102), type := 3, pos := "law.go:71", after := #[{ on := 1, ground := Ground.data }], guard := none }) (v := .int .i64 n) rfl (by kernel_rfl) (by kernel_rfl) (by kernel_rfl) (fun _ _ _ h => h) (Or.inl ⟨by rfl, by intro V hSw; have h1 := (orow hSw).2.2.1; go_simp⟩) hHeld ?_
  try simp only [Act.put, List.setIfInBounds_toArray, List.set_cons_zero, List.set_cons_succ]
  refine wpAnyH_take (i := 4) (oi := { dst := some 105, op := Op.move (Operand.tmp 1), type := 29, pos := "law.go:71", after := #[], guard := none }) (v := .pointer (some ⟨pm, 0, none⟩)) rfl (by kernel_rfl) (by kernel_rfl) (by kernel_rfl) (fun _ _ _ h => h) (Or.inl ⟨by rfl, by intro W hSw; go_simp⟩) hHeld ?_
  try simp only [Act.put, List.setIfInBounds_toArray, List.set_cons_zero, List.set_cons_succ]
  refine wpAnyH_take (i := 5) (oi := { dst := some 106, op := Op.fieldAddr 34 (Operand.tmp 5) 2, type := 0, pos := "law.go:71", after := #[], guard := none }) (v := .pointer (some ⟨W.heap.size, 2, none⟩)) rfl (by kernel_rfl) (by kernel_rfl) (by kernel_rfl) (fun _ _ _ h => h) (Or.inl ⟨by rfl, by intro W hSw; go_simp⟩) hHeld ?_
  try simp only [Act.put, List.setIfInBounds_toArray, List.set_cons_zero, List.set_cons_succ]
  refine wpAnyH_take (i := 6) (oi := { dst := some 107, op := Op.load 3 (Operand.tmp 106), type := 3, pos := "law.go:71", after := #[{ on := 5, ground := Ground.data }], guard := none }) (v := .int .i64 n) rfl (by kernel_rfl) (by kernel_rfl) (by kernel_rfl) (fun _ _ _ h => h) (Or.inl ⟨by rfl, by intro V hSw; have h1 := (orow hSw).2.2.1; go_simp⟩) hHeld ?_
  try simp only [Act.put, List.setIfInBounds_toArray, List.set_cons_zero, List.set_cons_succ]
  refine wpAnyH_ready (rs := [3]) (by kernel_rfl) (by simp) ?_
  refine (AllReadyH.cons (o := { dst := some 104, op := Op.call { callee := Callee.value (Operand.func 17), args := #[Operand.tmp 101, Operand.tmp 103], argTypes := #[25, 3] }, type := 26, pos := "law.go:71", after := #[{ on := 0, ground := Ground.data }, { on := 2, ground := Ground.data }], guard := none }) rfl (fun K hK => ?_) AllReadyH.nil)
  go_simp
  refine (P1.out _ (HT0d.out)).mono ?_
  rintro e w3 ⟨rfl, ht, hkk⟩
  have HT1 := hidd ht
  go_wp2_with fail
  refine hK.out _ _ (hkk.row HKo.out hHeld) (fun hHeld => ?_)
  clear hK K
  try simp only [Act.put, List.setIfInBounds_toArray, List.set_cons_zero, List.set_cons_succ]
  refine wpAnyH_ready (rs := [7]) (by kernel_rfl) (by simp) ?_
  refine (AllReadyH.cons (o := { dst := some 108, op := Op.call { callee := Callee.value (Operand.func 18), args := #[Operand.tmp 105, Operand.tmp 107], argTypes := #[29, 3] }, type := 26, pos := "law.go:71", after := #[{ on := 4, ground := Ground.data }, { on := 6, ground := Ground.data }, { on := 3, ground := Ground.chain }], guard := none }) rfl (fun K hK => ?_) AllReadyH.nil)
  go_simp
  refine (R1.out _ HT1.out).mono ?_
  rintro e w7 ⟨rfl, ht, hkk⟩
  have HT2 := hidd (ht.sub HKs.out)
  go_wp2_with fail
  refine hK.out _ _ (hkk.row HKo.out hHeld) (fun hHeld => ?_)
  clear hK K
  try simp only [Act.put, List.setIfInBounds_toArray, List.set_cons_zero, List.set_cons_succ]
  refine wpAnyH_take (i := 8) (oi := { dst := some 109, op := Op.binOp BinOp.eql 26 (Operand.tmp 104) (Operand.tmp 108) 26, type := 4, pos := "law.go:71", after := #[{ on := 3, ground := Ground.data }, { on := 7, ground := Ground.data }], guard := none }) (v := .bool true) rfl (by kernel_rfl) (by kernel_rfl) (by kernel_rfl) (fun _ _ _ h => h) (Or.inl ⟨by rfl, by intro V hSw; go_simp⟩) hHeld ?_
  try simp only [Act.put, List.setIfInBounds_toArray, List.set_cons_zero, List.set_cons_succ]
  refine wpAnyH_take (i := 9) (oi := { dst := some 6, op := Op.assign (Operand.tmp 109), type := 4, pos := "law.go:71", after := #[{ on := 8, ground := Ground.data }, { on := 7, ground := Ground.chain }, { on := 0, ground := Ground.phase }, { on := 1, ground := Ground.phase }, { on := 2, ground := Ground.phase }, { on := 3, ground := Ground.phase }, { on := 4, ground := Ground.phase }, { on := 5, ground := Ground.phase }, { on := 6, ground := Ground.phase }, { on := 7, ground := Ground.phase }, { on := 8, ground := Ground.phase }], guard := none }) (v := .bool true) rfl (by kernel_rfl) (by kernel_rfl) (by kernel_rfl) (fun _ _ _ h => h) (Or.inl ⟨by rfl, by intro W hSw; go_simp⟩) hHeld ?_
  try simp only [Act.put, List.setIfInBounds_toArray, List.set_cons_zero, List.set_cons_succ]
  refine wpAnyH_done (by kernel_rfl) ?_ _
  go_wp2
  go_ret
  exact ⟨by simp, HT2.out⟩
set_option maxHeartbeats 8000000 in
theorem call_1 (dk : DiskC At) (w W : World) (pd pm : Nat) (D : DkT) (K : Nat → Prop) (h : Two At w W pd pm D D K) (hK : ∀ b, b < w.heap.size → K b) (hp : D.puts.length ≤ 1000) (o : OpT) (ho : InO w o) (hk : o.k = 1) (hl : o.len ≤ 300) :
    Calls Try.prog 7 #[.pointer (some ⟨pd, 0, none⟩), .pointer (some ⟨pm, 0, none⟩), .agg #[.int .i64 o.k, .int .i64 o.at_, .int .i64 o.n, .slice o.a o.len o.cap]] W fun e w' => e = .returned (.bool true) ∧ Two At w w' pd pm (opD D o) (opD D o) K := by
  have DK : Hid (DiskC At) := dk
  obtain ⟨k, at_, n, a, len, cap, bs⟩ := o
  simp only at hk
  have hat := ho.at_
  have hn := ho.n
  have hrd := ho.rd
  simp only at hat hn hrd
  have HT0 := hidd (h.keep dk ((Below.refl W.heap.size W).alloc (Nat.le_refl _) (.cells #[.int .i64 k, .int .i64 at_, .int .i64 n, .slice a len cap] 34)))
  have HO0 := hidd (heap_alloc_new W (.cells #[.int .i64 k, .int .i64 at_, .int .i64 n, .slice a len cap] 34))
  have hsz : (W.alloc (.cells #[.int .i64 k, .int .i64 at_, .int .i64 n, .slice a len cap] 34)).heap.size = W.heap.size + 1 := by simp
  rw [hsz] at HT0
  obtain ⟨K1, HK1⟩ : ∃ K1, Hid (K1 = fun b => K b ∨ W.heap.size ≤ b ∧ b < W.heap.size + 1) := ⟨_, hidd rfl⟩
  rw [← HK1.out] at HT0
  have HKo : Hid (K1 W.heap.size) := by rw [HK1.out]; exact .inr ⟨Nat.le_refl _, Nat.lt_succ_self _⟩
  have HKs : Hid (∀ b, K b → K1 b) := fun b e => by rw [HK1.out]; exact .inl e
  have HKw : Hid (∀ b, b < w.heap.size → K1 b) := fun b e => HKs.out b (hK b e)
  have HRD := hidd hrd
  have hbw := h.below.size
  simp only [opD]
  subst hk
  rw [if_pos rfl]
  simp only at hl
  have hbl : bs.length = len := hrd.1
  obtain ⟨c0, c1, c2, c3⟩ := orow HO0.out
  obtain ⟨E, HE⟩ : ∃ E, Hid (E = writeE D at_ bs) := ⟨_, hidd rfl⟩
  have L1 : Hid (∀ V, Below w.heap.size w V → Calls Try.prog 11 #[.slice a len cap] V fun e w' => ∃ g c, e = .returned (.slice (some ⟨g, 0, none⟩) len c) ∧ V.heap.size ≤ g ∧ g < w'.heap.size ∧ Reads w' (some ⟨g, 0, none⟩) (len + 7) c (bs ++ marks 7) ∧ Fill g 0 len w' ∧ Below V.heap.size V w') := fun V hb => by
    refine (lent_any a len cap bs V (HRD.out.below hb) (by omega)).mono ?_
    rintro e w' ⟨g, c, he, hg, hc, hm, hown, hb'⟩
    have hlm : (bs ++ marks 7).length = len + 7 := by rw [List.length_append, hbl]; rfl
    rw [← hlm] at hown
    obtain ⟨a2, c2, e2, hr2⟩ := reads_own hown
    cases e2
    obtain ⟨g', cap', cur, e3, _, hgr, hnc, hcm, hcs, htk⟩ : ∃ g' cap' cur, (Value.slice (some ⟨g, 0, none⟩) (bs ++ marks 7).length c) = .slice (some ⟨g', 0, none⟩) (bs ++ marks 7).length cap' ∧ V.heap.size ≤ g' ∧ w'.heap[g']? = some (.cells cur 5 (0, 0)) ∧ (bs ++ marks 7).length ≤ cap' ∧ cap' ≤ maxLen ∧ cur.size = cap' * 1 ∧ cur.toList.take ((bs ++ marks 7).length * 1) = cellsOf (bs ++ marks 7) := by
      rcases hown.2 with ⟨h0, _⟩ | ⟨g', cap', cur, e3, h4, h5, h6, h7, h8, h9⟩
      · cases h0
      · exact ⟨g', cap', cur, e3, h4, h5, h6, h7, h8, h9⟩
    cases e3
    refine ⟨g, c, he, hg, heap_lt hgr, by rw [← hlm]; exact hr2, ⟨fun i hi => ?_, fun i hi => frozen_of_row w' g (0 + i) _ _ hgr⟩, hb'⟩
    rw [cell_of_row w' g (0 + i) cur 5 (0, 0) hgr]
    exact ⟨cur[0 + i]'(by omega), Array.getElem?_eq_getElem _⟩
  have P1 : Hid (∀ V g c (K2 : Nat → Prop), Two At w V pd pm D D K2 → K2 g → Reads V (some ⟨g, 0, none⟩) len c bs → Calls Try.prog 9 #[.pointer (some ⟨pd, 0, none⟩), .int .i64 at_, .slice (some ⟨g, 0, none⟩) len c] V fun e w' => e = .returned (.int .i64 E) ∧ Two At w w' pd pm (writeD D at_ bs) D K2 ∧ Kept9 K2 V w') := fun V g c K2 hV hg hr => hV.prog DK.out (Q := fun e => e = .returned (.int .i64 E)) fun K' hl2 hsub => lv_write DK.out hl2 (by omega) at_ hat _ len c bs hr (by omega) (fun b off e _ => by cases e; exact hsub _ hg) (writeD D at_ bs) rfl E HE.out
  have R1 : Hid (∀ V (K2 : Nat → Prop), Two At w V pd pm (writeD D at_ bs) D K2 → (∀ b, b < w.heap.size → K2 b) → Calls Try.prog 13 #[.pointer (some ⟨pm, 0, none⟩), .int .i64 at_, .slice a len cap] V fun e w' => e = .returned (.int .i64 E) ∧ Two At w w' pd pm (writeD D at_ bs) (writeD D at_ bs) K2 ∧ Kept9 K2 V w') := fun V K2 hV hw2 => hV.ref DK.out (Q := fun e => e = .returned (.int .i64 E)) fun Sm hm hks => by
    rw [HE.out]
    refine refWrite_any V pm D Sm hm (by omega) at_ hat a len cap bs (HRD.out.below hV.below) (by omega) fun b off e h0 hs => ?_
    rcases HRD.out.2.2.2 with ⟨e2, _⟩ | ⟨ad, e2, h2⟩ | ⟨b', off', e2, hlt, _⟩
    · rw [e2] at e; cases e
    · omega
    · rw [e2] at e; cases e; exact hks _ (hw2 _ hlt) hs
  have Q1 : Hid (∀ V g c, Reads V (some ⟨g, 0, none⟩) (len + 7) c (bs ++ marks 7) → Below w.heap.size w V → Calls Try.prog 12 #[.slice (some ⟨g, 0, none⟩) len c, .slice a len cap] V fun e w' => e = .returned (.bool true) ∧ V = w') := fun V g c hr hb => kept_any g c a len cap bs V hr (HRD.out.below hb) (by omega)
  have KN : Hid (∀ V V', Two At w V pd pm D D K1 → Below V.heap.size V V' → Two At w V' pd pm D D (fun b => K1 b ∨ (V.heap.size ≤ b ∧ b < V'.heap.size))) := fun V V' hV hb => hV.keep DK.out hb
  have OT : Hid (∀ V V' g K2, Two At w V pd pm (writeD D at_ bs) D K2 → K2 g → w.heap.size ≤ g → V.grownBy V' (some g) → Two At w V' pd pm (writeD D at_ bs) D K2) := fun V V' g K2 hV h1 h2 h3 => hV.other DK.out g h1 h2 h3
  have FR : Hid (∀ V g c, Reads V (some ⟨g, 0, none⟩) (len + 7) c (bs ++ marks 7) → Reads V (some ⟨g, 0, none⟩) len c bs) := fun V g c hr => reads_front hr hbl
  have hz5 : ∀ w, (sizeOf 5).run Try.prog w = .ok 1 w := fun w => by
    have h : (Try.prog.info? 5).map (·.size) = some 1 := by kernel_rfl
    cases hq : Try.prog.info? 5 with
    | none => rw [hq] at h; cases h
    | some i =>
      rw [hq] at h
      simp only [Option.map_some, Option.some.injEq] at h
      simp [sizeOf, typeInfo, hq, h]
  clear h ho hK hat hn hrd DK dk HE hsz c1 c2 HRD hp hbl
  go_enter Try.func7, Try.ntmps7
  go_wp2_with fail
  refine (L1.out _ HT0.out.below).mono ?_
  rintro e w1 ⟨g, c, rfl, hg, hg1, hr1, hf1, hb1⟩
  obtain ⟨K2, HK2⟩ : ∃ K2, Hid (K2 = fun b => K1 b ∨ ((W.alloc (.cells #[.int .i64 1, .int .i64 at_, .int .i64 n, .slice a len cap] 34)).heap.size ≤ b ∧ b < w1.heap.size)) := ⟨_, hidd rfl⟩
  have HT1 := hidd (KN.out _ _ HT0.out hb1)
  rw [← HK2.out] at HT1
  have HG2 : Hid (K2 g) := by rw [HK2.out]; exact .inr ⟨hg, hg1⟩
  have HO2 : Hid (K2 W.heap.size) := by rw [HK2.out]; exact .inl HKo.out
  have HS2 : Hid (∀ b, K1 b → K2 b) := fun b e => by rw [HK2.out]; exact .inl e
  have HGw : Hid (w.heap.size ≤ g) := Nat.le_trans hbw (Nat.le_trans (by simp) hg)
  have HGo : Hid (W.heap.size < g) := by have := hg; simp at this; exact this
  have HO1 := hidd ((hb1.block _ (by simp)).trans HO0.out)
  obtain ⟨d0, d1, d2, d3⟩ := orow HO1.out
  have HR1 := hidd hr1
  have HF1 := hidd hf1
  clear hg hg1 hr1 hf1 hb1 HT0 L1 KN HO0 c0 c3 HK2 d0 d2
  go_wp2_with fail
  refine (P1.out _ _ _ _ HT1.out HG2.out (FR.out _ _ _ HR1.out)).mono ?_
  rintro e w2 ⟨rfl, ht, hk⟩
  have HT2 := hidd ht
  have HR2 := hidd (hk.reads HR1.out fun b off e _ => by cases e; exact HG2.out)
  have HO3 := hidd (hk.row HO2.out HO1.out)
  have HF2 : Hid (Fill g 0 len w2) := ⟨fun i hi => by
      obtain ⟨v, hv⟩ := HF1.out.cell i hi
      exact ⟨v, (World.cell?_of_block (a := ⟨g, 0 + i, none⟩) (hk.block g (World.block_lt_of_cell? _ _ hv) (fun hn => hn HG2.out))).trans hv⟩, fun i hi => by
      obtain ⟨v, hv⟩ := HF1.out.cell i hi
      exact (World.frozen?_of_block (a := ⟨g, 0 + i, none⟩) (hk.block g (World.block_lt_of_cell? _ _ hv) (fun hn => hn HG2.out))).trans (HF1.out.free i hi)⟩
  obtain ⟨f0, f1, f2, f3⟩ := orow HO3.out
  clear ht hk P1 HT1 HR1 HF1 HO1 d1 d3 f0 f2
  go_wp2_with fail
  refine (Q1.out _ _ _ HR2.out HT2.out.below).mono ?_
  rintro e w3 ⟨rfl, rfl⟩
  clear Q1 HR2 FR f1 f3
  go_wp2
  go_loopw [10] (fun v wr => ∃ i : Nat, i ≤ len ∧ v = .int .i64 i ∧ Hid (Two At w wr pd pm (writeD D at_ bs) D K2 ∧ Fill g 0 len wr ∧ wr.heap[W.heap.size]? = some (.cells #[.int .i64 1, .int .i64 at_, .int .i64 n, .slice a len cap] 34 (0, 0)))) (fun v _ => len - (intOf v).toNat)
  case atStart => exact ⟨0, by omega, rfl, HT2.out, HF2.out, HO3.out⟩
  case round =>
    obtain ⟨i, hi, rfl, HI⟩ := hrel
    clear HT2 HF2 HO3
    by_cases hlt : i < len
    · have hdi : decide ((i : Int) < (len : Int)) = true := by rw [decide_eq_true_eq]; omega
      have hw := wrap_int ((i : Int) + 1) (by omega) (by omega)
      obtain ⟨v, hv⟩ := HI.out.2.1.cell i hlt
      have hf := HI.out.2.1.free i hlt
      rw [Nat.zero_add] at hv hf
      have hgo : g ≠ W.heap.size := by have := HGo.out; omega
      have HI2 : Hid (Two At w (wr.setCell ⟨g, i, none⟩ (.int .u8 85)) pd pm (writeD D at_ bs) D K2 ∧ Fill g 0 len (wr.setCell ⟨g, i, none⟩ (.int .u8 85)) ∧ (wr.setCell ⟨g, i, none⟩ (.int .u8 85)).heap[W.heap.size]? = some (.cells #[.int .i64 1, .int .i64 at_, .int .i64 n, .slice a len cap] 34 (0, 0))) := by
        refine ⟨OT.out _ _ _ _ HI.out.1 HG2.out HGw.out (Lib.grownBy_setCell wr g i (.int .u8 85)), ?_, ?_⟩
        · have := HI.out.2.1.set i hlt (.int .u8 85)
          rwa [Nat.zero_add] at this
        · rw [Below.heap_setCell wr ⟨g, i, none⟩ (.int .u8 85) W.heap.size (by show W.heap.size ≠ g; exact fun e => hgo e.symm)]; exact HI.out.2.2
      have ix : ∀ V, (Instr.indexAt 23 (.slice (some ⟨g, 0, none⟩) len c) (.int .i64 (i : Int))).run Try.prog V = .ok (.pointer (some ⟨g, i, none⟩)) V := fun V => by
        simp [Instr.indexAt, asIntOf, run_underlying Try.underlying23, hz5, hlt]
        rw [add_plain, Nat.zero_add]
      clear HI OT
      go_wp2
      go_roundw
      case rel => exact ⟨i + 1, by omega, by go_num, HI2⟩
      case measure => simp [intOf]; omega
    · obtain rfl : len = i := by omega
      have hdi : decide ((len : Int) < (len : Int)) = false := by rw [decide_eq_false_iff_not]; omega
      obtain ⟨f0, f1, f2, f3⟩ := orow HI.out.2.2
      have HT3 := hidd HI.out.1
      have HW2 : Hid (∀ b, b < w.heap.size → K2 b) := fun b e => HS2.out b (HKw.out b e)
      clear HI OT f0 f2
      go_wp2_with fail
      refine (R1.out _ _ HT3.out HW2.out).mono ?_
      rintro e w5 ⟨rfl, ht, _⟩
      have HT4 := hidd (ht.sub fun b e => HS2.out b (HKs.out b e))
      clear ht R1 HT3
      go_wp2
      go_ret
      exact ⟨by simp, HT4.out⟩
set_option maxHeartbeats 8000000 in
theorem call_3 (dk : DiskC At) (w W : World) (pd pm : Nat) (D : DkT) (K : Nat → Prop) (h : Two At w W pd pm D D K) (hK : ∀ b, b < w.heap.size → K b) (hp : D.puts.length ≤ 1000) (o : OpT) (ho : InO w o) (hk : o.k = 3) :
    Calls Try.prog 7 #[.pointer (some ⟨pd, 0, none⟩), .pointer (some ⟨pm, 0, none⟩), .agg #[.int .i64 o.k, .int .i64 o.at_, .int .i64 o.n, .slice o.a o.len o.cap]] W fun e w' => e = .returned (.bool true) ∧ Two At w w' pd pm (opD D o) (opD D o) K := by
  have DK : Hid (DiskC At) := dk
  obtain ⟨k, at_, n, a, len, cap, bs⟩ := o
  simp only at hk
  have hat := ho.at_
  have hn := ho.n
  have hrd := ho.rd
  simp only at hat hn hrd
  have HT0 := hidd (h.keep dk ((Below.refl W.heap.size W).alloc (Nat.le_refl _) (.cells #[.int .i64 k, .int .i64 at_, .int .i64 n, .slice a len cap] 34)))
  have HO0 := hidd (heap_alloc_new W (.cells #[.int .i64 k, .int .i64 at_, .int .i64 n, .slice a len cap] 34))
  have hsz : (W.alloc (.cells #[.int .i64 k, .int .i64 at_, .int .i64 n, .slice a len cap] 34)).heap.size = W.heap.size + 1 := by simp
  rw [hsz] at HT0
  obtain ⟨K1, HK1⟩ : ∃ K1, Hid (K1 = fun b => K b ∨ W.heap.size ≤ b ∧ b < W.heap.size + 1) := ⟨_, hidd rfl⟩
  rw [← HK1.out] at HT0
  have HKo : Hid (K1 W.heap.size) := by rw [HK1.out]; exact .inr ⟨Nat.le_refl _, Nat.lt_succ_self _⟩
  have HKs : Hid (∀ b, K b → K1 b) := fun b e => by rw [HK1.out]; exact .inl e
  have HKw : Hid (∀ b, b < w.heap.size → K1 b) := fun b e => HKs.out b (hK b e)
  have HRD := hidd hrd
  have hbw := h.below.size
  simp only [opD]
  subst hk
  rw [if_neg (by omega), if_neg (by omega), if_neg (by omega), if_neg (by omega)]
  obtain ⟨c0, c1, c2, c3⟩ := orow HO0.out
  obtain ⟨E, HE⟩ : ∃ E, Hid (E = rdE D at_ n) := ⟨_, hidd rfl⟩
  obtain ⟨l, Hl⟩ : ∃ l, Hid (l = rdB D at_ n) := ⟨_, hidd rfl⟩
  obtain ⟨T, HT⟩ : ∃ T, Hid (T = bD l) := ⟨_, hidd rfl⟩
  have P1 : Hid (∀ V, Two At w V pd pm D D K1 → Calls Try.prog 8 #[.pointer (some ⟨pd, 0, none⟩), .int .i64 at_, .int .i64 n] V fun e w' => ∃ ab cb, e = .returned (.tuple #[.slice ab l.length cb, .int .i64 E]) ∧ OutB V.heap.size w' ab cb l ∧ Two At w w' pd pm D D (fun b => K1 b ∨ (V.heap.size ≤ b ∧ b < w'.heap.size)) ∧ Below V.heap.size V w') := fun V hV => by
    refine (lv_read DK.out hV.lv at_ n hat hn l Hl.out E HE.out).mono ?_
    rintro e w' ⟨ab, cb, he, ho, _, hb⟩
    exact ⟨ab, cb, he, ho, hV.keep DK.out hb, hb⟩
  have R1 : Hid (∀ V (K2 : Nat → Prop), Two At w V pd pm D D K2 → Calls Try.prog 16 #[.pointer (some ⟨pm, 0, none⟩), .int .i64 at_, .int .i64 n] V fun e w' => e = .returned (.tuple #[.string T, .int .i64 E]) ∧ Two At w w' pd pm D D K2 ∧ Below V.heap.size V w') := fun V K2 hV => by
    obtain ⟨Sm, hm, _⟩ := hV.two
    obtain ⟨ok, v, hr, _⟩ := hm
    rw [HE.out]
    refine (refRead_any V pm D v hr ok at_ n hat hn T (by rw [HT.out, Hl.out]; exact hidd rfl)).mono ?_
    rintro e w' ⟨he, hb⟩
    exact ⟨he, hV.keepK DK.out hb, hb⟩
  have OT : Hid (∀ V V' g K2, Two At w V pd pm D D K2 → K2 g → w.heap.size ≤ g → V.grownBy V' (some g) → Two At w V' pd pm D D K2) := fun V V' g K2 hV h1 h2 h3 => hV.other DK.out g h1 h2 h3
  have CV : Hid (∀ V ab cb, Reads V ab l.length cb l → Sem.run Try.prog (convert 23 9 (.slice ab l.length cb)) V = .ok (.string T) V) := fun V ab cb hr => by rw [HT.out]; exact conv_reads hr
  obtain ⟨m, Hm⟩ : ∃ m, Hid (m = l.length) := ⟨_, hidd rfl⟩
  have hml : m ≤ 1000000 := by
    rw [Hm.out, Hl.out]
    unfold rdB
    split
    · have h1 := (h.okd DK.out).room.2
      have h2 := nowB_length (h.okd DK.out)
      rw [List.length_take, List.length_drop]
      omega
    · exact Nat.zero_le _
  rw [← Hm.out] at P1 CV
  have hz5 : ∀ w, (sizeOf 5).run Try.prog w = .ok 1 w := fun w => by
    have h : (Try.prog.info? 5).map (·.size) = some 1 := by kernel_rfl
    cases hq : Try.prog.info? 5 with
    | none => rw [hq] at h; cases h
    | some i =>
      rw [hq] at h
      simp only [Option.map_some, Option.some.injEq] at h
      simp [sizeOf, typeInfo, hq, h]
  have HBW := hidd hbw
  clear h ho hK hat hn hrd DK dk HE hsz c3 HRD hp Hl HT hbw
  go_enter Try.func7, Try.ntmps7
  go_wp2_with fail
  refine (P1.out _ HT0.out).mono ?_
  rintro e w1 ⟨ab, cb, rfl, ho1, ht, hb1⟩
  obtain ⟨K2, HK2⟩ : ∃ K2, Hid (K2 = fun b => K1 b ∨ ((W.alloc (.cells #[.int .i64 3, .int .i64 at_, .int .i64 n, .slice a len cap] 34)).heap.size ≤ b ∧ b < w1.heap.size)) := ⟨_, hidd rfl⟩
  rw [← HK2.out] at ht
  have HT1 := hidd ht
  have HOB := hidd ho1
  have HS2 : Hid (∀ b, K1 b → K2 b) := fun b e => by rw [HK2.out]; exact .inl e
  obtain ⟨d0, d1, d2, d3⟩ := orow ((hb1.block _ (by simp)).trans HO0.out)
  have HBB : Hid (∀ b off, ab = some ⟨b, off, none⟩ → 0 < m → K2 b ∧ w.heap.size ≤ b) := fun b off e h0 => by
    have := HOB.out.blk b off e (by rw [← Hm.out]; exact h0)
    rw [HK2.out]
    exact ⟨.inr this, by have h1 := this.1; have h2 := HBW.out; simp at h1; omega⟩
  have HFL : Hid (m = 0 ∨ ∃ g off, ab = some ⟨g, off, none⟩ ∧ Fill g off m w1) := by
    by_cases h0 : m = 0
    · exact .inl h0
    · rcases HOB.out.2 with e | ⟨g, off, e, hg, hfz⟩
      · exact absurd (by rw [Hm.out, e]; rfl) h0
      · refine .inr ⟨g, off, e, fun i hi => ?_, fun i hi => hfz i (by rw [← Hm.out]; exact hi)⟩
        rcases HOB.out.1.2.2.2 with ⟨e2, _⟩ | ⟨ad, e2, h2⟩ | ⟨b', off', e2, hlt, hc⟩
        · rw [e] at e2; cases e2
        · rw [← Hm.out] at h2; omega
        · rw [e] at e2; cases e2; exact ⟨_, hc i (by rw [← Hm.out]; exact hi)⟩
  have HRb : Hid (Reads w1 ab m cb l) := by show Reads _ _ _ _ _; rw [Hm.out]; exact HOB.out.1
  clear ht ho1 hb1 P1 HT0 HO0 c0 c1 c2 d0 d3 HOB HK2
  go_wp2_with fail
  refine (R1.out _ _ HT1.out).mono ?_
  rintro e w2 ⟨rfl, ht, hb2⟩
  have HT2 := hidd ht
  have cv := CV.out w2 ab cb (HRb.out.below hb2)
  have HFL2 : Hid (m = 0 ∨ ∃ g off, ab = some ⟨g, off, none⟩ ∧ Fill g off m w2) := by
    rcases HFL.out with h0 | ⟨g, off, e, hf⟩
    · exact .inl h0
    · refine .inr ⟨g, off, e, fun i hi => ?_, fun i hi => ?_⟩
      · obtain ⟨v, hv⟩ := hf.cell i hi
        exact ⟨v, (hb2.cell (World.block_lt_of_cell? _ _ hv)).trans hv⟩
      · obtain ⟨v, hv⟩ := hf.cell i hi
        exact (World.frozen?_of_block (a := ⟨g, off + i, none⟩) (hb2.block g (World.block_lt_of_cell? _ _ hv))).trans (hf.free i hi)
  clear ht hb2 R1 HT1 HFL HRb d1 d2 CV
  go_wp2
  go_loopw [16] (fun v wr => ∃ i : Nat, i ≤ m ∧ v = .int .i64 i ∧ Hid (Two At w wr pd pm D D K2 ∧ (m = 0 ∨ ∃ g off, ab = some ⟨g, off, none⟩ ∧ Fill g off m wr))) (fun v _ => m - (intOf v).toNat)
  case atStart => exact ⟨0, by omega, rfl, HT2.out, HFL2.out⟩
  case round =>
    obtain ⟨i, hi, rfl, HI⟩ := hrel
    clear HT2 HFL2
    by_cases hlt : i < m
    · have hdi : decide ((i : Int) < (m : Int)) = true := by rw [decide_eq_true_eq]; omega
      have hw := wrap_int ((i : Int) + 1) (by omega) (by omega)
      obtain ⟨g, off, rfl, hfl⟩ : ∃ g off, ab = some ⟨g, off, none⟩ ∧ Fill g off m wr := by
        rcases HI.out.2 with h0 | h0
        · omega
        · exact h0
      obtain ⟨v, hv⟩ := hfl.cell i hlt
      have hf := hfl.free i hlt
      have hgk := HBB.out g off rfl (by omega)
      have HI2 : Hid (Two At w (wr.setCell ⟨g, off + i, none⟩ (.int .u8 85)) pd pm D D K2 ∧ (m = 0 ∨ ∃ g' off', (some ⟨g, off, none⟩ : Option Addr) = some ⟨g', off', none⟩ ∧ Fill g' off' m (wr.setCell ⟨g, off + i, none⟩ (.int .u8 85)))) :=
        ⟨OT.out _ _ _ _ HI.out.1 hgk.1 hgk.2 (Lib.grownBy_setCell wr g (off + i) (.int .u8 85)), .inr ⟨g, off, rfl, hfl.set i hlt (.int .u8 85)⟩⟩
      have ix : ∀ V, (Instr.indexAt 23 (.slice (some ⟨g, off, none⟩) m cb) (.int .i64 (i : Int))).run Try.prog V = .ok (.pointer (some ⟨g, off + i, none⟩)) V := fun V => by
        simp [Instr.indexAt, asIntOf, run_underlying Try.underlying23, hz5, hlt]
        rw [add_plain]
      clear HI OT hgk hfl
      go_wp2
      go_roundw
      case rel => exact ⟨i + 1, by omega, by go_num, HI2⟩
      case measure => simp [intOf]; omega
    · obtain rfl : m = i := by omega
      have hdi : decide ((m : Int) < (m : Int)) = false := by rw [decide_eq_false_iff_not]; omega
      have HT4 := hidd (HI.out.1.sub fun b e => HS2.out b (HKs.out b e))
      clear HI OT
      go_wp2
      go_ret
      exact ⟨rfl, HT4.out⟩
theorem opD_room {D : DkT} (ok : OkD D) (o : OpT) : (opD D o).safe.length = D.safe.length := by
  unfold opD
  split
  · rw [writeD_room]
  split
  · exact syncD_room ok
  split
  · rw [(stopD_safe D o.n).1]
  split
  · exact crashD_room ok _ _
  rfl
theorem opD_puts (D : DkT) (o : OpT) : (opD D o).puts.length ≤ D.puts.length + 1 := by
  unfold opD
  split
  · exact writeD_puts _ _ _
  split
  · have := syncD_puts D; omega
  split
  · rw [(stopD_safe D o.n).2]; omega
  split
  · show ([] : List (Nat × List UInt8)).length ≤ _; exact Nat.zero_le _
  omega
/-- Whatever the call is. -/
theorem call_true (dk : DiskC At) (w W : World) (pd pm : Nat) (D : DkT) (K : Nat → Prop) (h : Two At w W pd pm D D K) (hK : ∀ b, b < w.heap.size → K b) (hp : D.puts.length ≤ 1000) (o : OpT) (ho : InO w o) (hl : o.len ≤ 300) :
    Calls Try.prog 7 #[.pointer (some ⟨pd, 0, none⟩), .pointer (some ⟨pm, 0, none⟩), .agg #[.int .i64 o.k, .int .i64 o.at_, .int .i64 o.n, .slice o.a o.len o.cap]] W fun e w' => e = .returned (.bool true) ∧ Two At w w' pd pm (opD D o) (opD D o) K := by
  by_cases h1 : o.k = 1
  · exact call_1 dk w W pd pm D K h hK hp o ho h1 hl
  by_cases h2 : o.k = 2
  · exact call_2 dk w W pd pm D K h hK hp o ho h2
  by_cases h3 : o.k = 3
  · exact call_3 dk w W pd pm D K h hK hp o ho h3
  by_cases h4 : o.k = 4
  · exact call_4 dk w W pd pm D K h hK hp o ho h4
  by_cases h5 : o.k = 5
  · exact call_5 dk w W pd pm D K h hK hp o ho h5
  exact call_0 dk w W pd pm D K h hK hp o ho ⟨h1, h2, h3, h4, h5⟩
end Go.Proofs.Yticljiffagobnab

/- Where the statements on a disk begin: two new disks, calls on both. -/
namespace Go.Proofs.Yticljiffagobnab
open Go.RowKit Nums
set_option linter.unusedVariables false
set_option linter.unusedSimpArgs false
set_option maxRecDepth 100000
variable {At : World → Nat → DkT → (Nat → Prop) → Prop}
theorem two_start (dk : DiskC At) {w W V : World} {pd pm n : Nat} {D : DkT} {S : Nat → Prop} {K : Nat → Prop} (h : Lv At w W pd D K) (hK : ∀ b, b < w.heap.size → K b) (hm : MAt V pm (newD n) S) (hS : ∀ b, S b → W.heap.size ≤ b) (hb : Below W.heap.size W V) : Two At w V pd pm D (newD n) (fun b => b < w.heap.size) := by
  refine ⟨S, hm, fun b e => Nat.le_trans h.below.size (hS b e), fun b e hs => ?_, (h.keep dk hb).sub fun b e => ?_⟩
  · have h1 := hS b hs
    have h2 := h.below.size
    omega
  · rcases e with e | e
    · exact .inl (hK b e)
    · exact .inr ⟨hS b e, hm.lt b e⟩
/-- A script's state: some calls were done on both. -/
def Ran (At : World → Nat → DkT → (Nat → Prop) → Prop) (w W : World) (pd pm room k : Nat) : Prop := ∃ D, Two At w W pd pm D D (fun b => b < w.heap.size) ∧ D.puts.length ≤ k ∧ D.safe.length = room
/-- One call of a script. -/
theorem ran_call (dk : DiskC At) (w W : World) (pd pm room k : Nat) (h : Ran At w W pd pm room k) (hk : k ≤ 100) (o : OpT) (ho : InO w o) (hl : o.bs.length ≤ 300) :
    Calls Try.prog 7 #[.pointer (some ⟨pd, 0, none⟩), .pointer (some ⟨pm, 0, none⟩), .agg #[.int .i64 o.k, .int .i64 o.at_, .int .i64 o.n, .slice o.a o.len o.cap]] W fun e w' => e = .returned (.bool true) ∧ Ran At w w' pd pm room (k + 1) := by
  obtain ⟨D, h1, h2, h3⟩ := h
  have hlen := ho.rd.1
  refine (call_true dk w W pd pm D _ h1 (fun b e => e) (by omega) o ho (by omega)).mono ?_
  rintro e w' ⟨rfl, ht⟩
  exact ⟨rfl, opD D o, ht, by have := opD_puts D o; omega, by rw [opD_room (h1.okd dk), h3]⟩
theorem op_index (W : World) (b off len cap i : Nat) (h : i < len) : (Instr.indexAt 22 (.slice (some ⟨b, off, none⟩) len cap) (.int .i64 (i : Int))).run Try.prog W = .ok (.pointer (some ⟨b, off + i * 4, none⟩)) W := by
  have hz : ∀ w, (sizeOf 34).run Try.prog w = .ok 4 w := fun w => by
    have h : (Try.prog.info? 34).map (·.size) = some 4 := by kernel_rfl
    cases hq : Try.prog.info? 34 with
    | none => rw [hq] at h; cases h
    | some i =>
      rw [hq] at h
      simp only [Option.map_some, Option.some.injEq] at h
      simp [sizeOf, typeInfo, hq, h]
  simp [Instr.indexAt, asIntOf, run_underlying Try.underlying22, hz, h]
  rw [add_plain]
/-- What one call of a script is, in any later world. -/
theorem op_there {w W : World} {a : Option Addr} {len cap : Nat} {l : List OpT} (h : OReads w a len cap l) (hb : Below w.heap.size w W) (h300 : ∀ o ∈ l, o.bs.length ≤ 300) (i : Nat) (hi : i < len) :
    ∃ b off, ∃ o : OpT, a = some ⟨b, off, none⟩ ∧ InO w o ∧ l[i]? = some o ∧ o.bs.length ≤ 300 ∧ W.cell? ⟨b, off + i * 4, none⟩ = some (.int .i64 o.k) ∧ W.cell? ⟨b, off + i * 4 + 1, none⟩ = some (.int .i64 o.at_) ∧ W.cell? ⟨b, off + i * 4 + 2, none⟩ = some (.int .i64 o.n) ∧ W.cell? ⟨b, off + i * 4 + 3, none⟩ = some (.slice o.a o.len o.cap) := by
  obtain ⟨b, off, o, e, hbn, hlo, hio, c0, c1, c2, c3⟩ := h.at i hi
  exact ⟨b, off, o, e, hio, hlo, h300 o (List.mem_of_getElem? hlo), (hb.cell (p := ⟨b, off + i * 4, none⟩) hbn).trans c0, (hb.cell (p := ⟨b, off + i * 4 + 1, none⟩) hbn).trans c1, (hb.cell (p := ⟨b, off + i * 4 + 2, none⟩) hbn).trans c2, (hb.cell (p := ⟨b, off + i * 4 + 3, none⟩) hbn).trans c3⟩
theorem Ran.below {w W : World} {pd pm room k : Nat} (h : Ran At w W pd pm room k) : Below w.heap.size w W := by obtain ⟨D, h1, _⟩ := h; exact h1.below
theorem rdB_all {D : DkT} (ok : OkD D) {n : Nat} (h : D.safe.length = n) : rdB D 0 n = nowB D ∧ rdE D 0 n = 0 := by
  have hi : inB D.safe.length 0 n = true := by rw [inB_iff]; omega
  unfold rdB rdE
  rw [if_pos hi, if_pos hi]
  refine ⟨?_, rfl⟩
  show ((nowB D).drop 0).take n = _
  rw [List.drop_zero, List.take_of_length_le (by rw [nowB_length ok, h]; exact Nat.le_refl _)]
end Go.Proofs.Yticljiffagobnab

/- Parts of bytes that are read. -/
namespace Go.Proofs.Yticljiffagobnab
open Go.RowKit Nums
set_option linter.unusedVariables false
set_option linter.unusedSimpArgs false
set_option maxRecDepth 100000
variable {At : World → Nat → DkT → (Nat → Prop) → Prop}
/-- Where a part of a slice lies. -/
def subA (a : Option Addr) (cap lo : Nat) : Option Addr := if cap = lo then a else a.map (·.add lo)
theorem slice_mid (W : World) (a : Option Addr) (len cap lo hi : Nat) (h : lo ≤ hi) (hc : hi ≤ cap) : (Instr.sliceAt 23 (.slice a len cap) (some (.int .i64 lo)) (some (.int .i64 hi)) none).run Try.prog W = .ok (.slice (subA a cap lo) (hi - lo) (cap - lo)) W := by
  have hz : ∀ w, (sizeOf 5).run Try.prog w = .ok 1 w := fun w => by
    have h : (Try.prog.info? 5).map (·.size) = some 1 := by kernel_rfl
    cases hq : Try.prog.info? 5 with
    | none => rw [hq] at h; cases h
    | some i =>
      rw [hq] at h
      simp only [Option.map_some, Option.some.injEq] at h
      simp [sizeOf, typeInfo, hq, h]
  simp [Instr.sliceAt, Instr.slice, Instr.sliceBounds, Instr.sliceBound, asIntOf, run_underlying Try.underlying23, hz, h, hc, subA]
theorem slice_front (W : World) (a : Option Addr) (len cap hi : Nat) (hc : hi ≤ cap) : (Instr.sliceAt 23 (.slice a len cap) none (some (.int .i64 hi)) none).run Try.prog W = .ok (.slice (subA a cap 0) hi cap) W := by
  have hz : ∀ w, (sizeOf 5).run Try.prog w = .ok 1 w := fun w => by
    have h : (Try.prog.info? 5).map (·.size) = some 1 := by kernel_rfl
    cases hq : Try.prog.info? 5 with
    | none => rw [hq] at h; cases h
    | some i =>
      rw [hq] at h
      simp only [Option.map_some, Option.some.injEq] at h
      simp [sizeOf, typeInfo, hq, h]
  simp [Instr.sliceAt, Instr.slice, Instr.sliceBounds, Instr.sliceBound, asIntOf, run_underlying Try.underlying23, hz, hc, subA]
theorem slice_back (W : World) (a : Option Addr) (len cap lo : Nat) (h : lo ≤ len) (hc : len ≤ cap) : (Instr.sliceAt 23 (.slice a len cap) (some (.int .i64 lo)) none none).run Try.prog W = .ok (.slice (subA a cap lo) (len - lo) (cap - lo)) W := by
  have hz : ∀ w, (sizeOf 5).run Try.prog w = .ok 1 w := fun w => by
    have h : (Try.prog.info? 5).map (·.size) = some 1 := by kernel_rfl
    cases hq : Try.prog.info? 5 with
    | none => rw [hq] at h; cases h
    | some i =>
      rw [hq] at h
      simp only [Option.map_some, Option.some.injEq] at h
      simp [sizeOf, typeInfo, hq, h]
  simp [Instr.sliceAt, Instr.slice, Instr.sliceBounds, Instr.sliceBound, asIntOf, run_underlying Try.underlying23, hz, h, hc, subA]
theorem Reads.part {W : World} {a : Option Addr} {len cap : Nat} {l : List UInt8} (h : Reads W a len cap l) (lo hi : Nat) (h1 : lo ≤ hi) (h2 : hi ≤ len) : Reads W (subA a cap lo) (hi - lo) (cap - lo) ((l.drop lo).take (hi - lo)) := by
  obtain ⟨e1, e2, e3, e4⟩ := h
  refine ⟨by rw [List.length_take, List.length_drop]; omega, by omega, by omega, ?_⟩
  unfold subA
  rcases e4 with ⟨rfl, h0⟩ | ⟨ad, rfl, h0⟩ | ⟨b, off, rfl, hlt, hc⟩
  · exact .inl ⟨by split <;> rfl, by omega⟩
  · refine .inr (.inl ?_)
    split
    · exact ⟨ad, rfl, by omega⟩
    · exact ⟨ad.add lo, rfl, by omega⟩
  · by_cases hcl : cap = lo
    · rw [if_pos hcl]; exact .inr (.inl ⟨_, rfl, by omega⟩)
    · rw [if_neg hcl]
      refine .inr (.inr ⟨b, off + lo, by show some (Addr.add ⟨b, off, none⟩ lo) = some _; rw [add_plain], hlt, fun i hi => ?_⟩)
      have hi' : lo + i < l.length := by rw [List.length_take, List.length_drop] at hi; omega
      have := hc (lo + i) hi'
      rw [← Nat.add_assoc] at this
      rw [this]
      simp
end Go.Proofs.Yticljiffagobnab

/- Of DiskApart: the walk. -/
namespace Go.Proofs.Yticljiffagobnab
open Go.RowKit Nums
set_option linter.unusedVariables false
set_option linter.unusedSimpArgs false
set_option maxRecDepth 100000
variable {At : World → Nat → DkT → (Nat → Prop) → Prop}
set_option maxHeartbeats 16000000 in
theorem diskApart_in (dk : DiskC At) (a0 : Option Addr) (len0 cap0 : Nat) (z0 : List OpT) (a1 : Int) (a2 : Option Addr) (len2 cap2 : Nat) (z2 : List UInt8) (w : World) (w0 : OReads w a0 len0 cap0 z0) (w1 : In64 a1) (w2 : Reads w a2 len2 cap2 z2) :
    Calls Try.prog 3 #[.slice a0 len0 cap0, .int .i64 a1, .slice a2 len2 cap2] w fun e w' => e = .returned (.bool true) ∧ Below w.heap.size w w' := by
  have HS0 := hidd w0
  have HR2 := hidd w2
  have hz2 : z2.length = len2 := w2.1
  have hm2 : len2 ≤ 9223372036854775807 := by have h1 := w2.2.1; have h2 := w2.2.2.1; omega
  have DK : Hid (DiskC At) := dk
  have N1 : Hid (∀ W, Below w.heap.size w W → Calls Try.prog 5 #[.int .i64 64] W fun e w' => ∃ p, e = .returned (.tuple #[.pointer (some ⟨p, 0, none⟩), .int .i64 0]) ∧ Lv At w w' p (newD 64) (fun b => b < w.heap.size)) := fun W hb => (lv_new DK.out 64 (by omega) w W hb).mono (by rintro e w' ⟨p, he, hl, _⟩; exact ⟨p, he, hl.sub fun b e => Nat.lt_of_lt_of_le e hb.size⟩)
  have M1 : Hid (∀ W pd, Lv At w W pd (newD 64) (fun b => b < w.heap.size) → Calls Try.prog 6 #[.int .i64 64] W fun e w' => ∃ pm, e = .returned (.tuple #[.pointer (some ⟨pm, 0, none⟩), .int .i64 0]) ∧ Ran At w w' pd pm 64 0) := fun W pd hl => (refNew_any 64 (by omega) W).mono (by
    rintro e w' ⟨pm, S, he, hm, hS, hb⟩
    exact ⟨pm, he, newD 64, two_start DK.out hl (fun b e => e) hm hS hb, Nat.zero_le _, by show (List.replicate 64 (0 : UInt8)).length = 64; rfl⟩)
  have CA : Hid (∀ W pd pm k (o : OpT), Ran At w W pd pm 64 k → k ≤ 100 → InO w o → o.bs.length ≤ 300 → Calls Try.prog 7 #[.pointer (some ⟨pd, 0, none⟩), .pointer (some ⟨pm, 0, none⟩), .agg #[.int .i64 o.k, .int .i64 o.at_, .int .i64 o.n, .slice o.a o.len o.cap]] W fun e w' => e = .returned (.bool true) ∧ Ran At w w' pd pm 64 (k + 1)) := fun W pd pm k o h hk ho hl => ran_call DK.out w W pd pm 64 k h hk o ho hl
  have AW : Hid (∀ W, Calls Try.prog 10 #[] W fun e w' => e = .returned (.bool true) ∧ Below W.heap.size W w') := fun W => awake_true DK.out W
  have LG := hidd (large_any a0 len0 cap0 z0 w w w0 (Below.refl _ _))
  clear w0 w2
  go_enter Try.func3, Try.ntmps3
  go_wp2_with fail
  refine LG.out.mono ?_
  rintro e W0 ⟨x, rfl, rfl, hx⟩
  clear LG
  cases x
  case true =>
    clear hx
    go_wp2
    go_ret
    exact ⟨rfl, Below.refl _ _⟩
  obtain ⟨h60, h300⟩ := hx rfl
  have H300 := hidd h300
  clear hx h300
  by_cases hl2 : 300 < len2
  · have d2 : decide ((300 : Int) < (len2 : Int)) = true := by rw [decide_eq_true_eq]; omega
    go_wp2
    go_ret
    exact ⟨rfl, Below.refl _ _⟩
  have d2 : decide ((300 : Int) < (len2 : Int)) = false := by rw [decide_eq_false_iff_not]; omega
  go_wp2_with fail
  refine (N1.out _ (Below.refl _ _)).mono ?_
  rintro e W1 ⟨pd, rfl, hl1⟩
  have HL1 := hidd hl1
  clear hl1 N1
  go_wp2_with fail
  refine (M1.out _ _ HL1.out).mono ?_
  rintro e W2 ⟨pm, rfl, hr⟩
  have HRN := hidd hr
  clear hr M1 HL1
  go_wp2
  go_loopw [11] (fun v wr => ∃ k : Nat, k ≤ len0 ∧ v = .int .i64 k ∧ Hid (Ran At w wr pd pm 64 k)) (fun v _ => len0 - (intOf v).toNat)
  case atStart => exact ⟨0, by omega, rfl, HRN⟩
  case round =>
    obtain ⟨k, hk, rfl, HK⟩ := hrel
    clear HRN
    by_cases hlt : k < len0
    · have hdk : decide ((k : Int) < (len0 : Int)) = true := by rw [decide_eq_true_eq]; omega
      have hw := wrap_int ((k : Int) + 1) (by omega) (by omega)
      obtain ⟨b, off, o, rfl, hio, hlo, h3, c0, c1, c2, c3⟩ := op_there HS0.out HK.out.below H300.out k hlt
      have CL := hidd (CA.out wr pd pm k o HK.out (by omega) hio h3)
      have ix := fun V => op_index V b off len0 cap0 k hlt
      obtain ⟨ok, oa, on, ox, ol, oc, ob⟩ := o
      simp only at c0 c1 c2 c3 CL
      clear HK hio hlo h3 CA
      go_wp2_with fail
      refine CL.out.mono ?_
      rintro e w5 ⟨rfl, hr⟩
      have HR2 := hidd hr
      clear hr CL
      go_wp2
      go_roundw
      case rel => exact ⟨k + 1, by omega, by go_num, HR2⟩
      case measure => simp [intOf]; omega
    · obtain rfl : len0 = k := by omega
      have hdk : decide ((len0 : Int) < (len0 : Int)) = false := by rw [decide_eq_false_iff_not]; omega
      obtain ⟨D, hT, hpl, hroom⟩ := HK.out
      have ok := hT.okd DK.out
      have HL := hidd hT.lv
      clear HK CA hT
      obtain ⟨l, Hl⟩ : ∃ l, Hid (l = nowB D) := ⟨_, hidd rfl⟩
      have hll : l.length = 64 := by rw [Hl.out, nowB_length ok, hroom]
      have hrd := rdB_all ok hroom
      have i0 : ∀ z : Int, 0 ≤ z → z ≤ 100 → In64 z := fun z h1 h2 => by unfold In64; omega
      obtain ⟨D1, HD1⟩ : ∃ D1, Hid (D1 = writeD D a1 z2) := ⟨_, hidd rfl⟩
      obtain ⟨E, HE⟩ : ∃ E, Hid (E = writeE D a1 z2) := ⟨_, hidd rfl⟩
      have ok1 : OkD D1 := by rw [HD1.out]; exact writeD_ok ok _ _
      have hrm1 : D1.safe.length = 64 := by rw [HD1.out, writeD_room]; exact hroom
      obtain ⟨l1, Hl1⟩ : ∃ l, Hid (l = nowB D1) := ⟨_, hidd rfl⟩
      have hll1 : l1.length = 64 := by rw [Hl1.out, nowB_length ok1, hrm1]
      have hrd1 := rdB_all ok1 hrm1
      have hE3 := writeE_two D a1 z2
      rw [← HE.out, hroom, hz2] at hE3
      have HNW : Hid (E = 0 → l1 = doneB l (a1.toNat, z2)) := fun h => by rw [Hl1.out, HD1.out, Hl.out]; exact nowB_write (by rw [← HE.out]; exact h)
      have HNO : Hid (E ≠ 0 → l1 = l) := fun h => by rw [Hl1.out, HD1.out, Hl.out, nowB_refused (by rw [← HE.out]; exact h)]
      obtain ⟨T, HT⟩ : ∃ T : ByteArray, Hid (T = ⟨l.toArray⟩) := ⟨_, hidd rfl⟩
      obtain ⟨T1, HT1⟩ : ∃ T : ByteArray, Hid (T = ⟨l1.toArray⟩) := ⟨_, hidd rfl⟩
      have B0 : Hid (∀ V K, Lv At w V pd D K → Calls Try.prog 8 #[.pointer (some ⟨pd, 0, none⟩), .int .i64 0, .int .i64 64] V fun e w' => ∃ a cap, e = .returned (.tuple #[.slice a 64 cap, .int .i64 0]) ∧ OutB V.heap.size w' a cap l ∧ Lv At w w' pd D (fun b => K b ∨ (V.heap.size ≤ b ∧ b < w'.heap.size)) ∧ Below V.heap.size V w') := fun V K h => by
        have := lv_read DK.out h 0 64 (i0 0 (by omega) (by omega)) (i0 64 (by omega) (by omega)) l (by rw [Hl.out]; exact hrd.1.symm) 0 hrd.2.symm
        rwa [hll] at this
      have B1 : Hid (∀ V K, Lv At w V pd D1 K → Calls Try.prog 8 #[.pointer (some ⟨pd, 0, none⟩), .int .i64 0, .int .i64 64] V fun e w' => ∃ a cap, e = .returned (.tuple #[.slice a 64 cap, .int .i64 0]) ∧ OutB V.heap.size w' a cap l1 ∧ Lv At w w' pd D1 (fun b => K b ∨ (V.heap.size ≤ b ∧ b < w'.heap.size)) ∧ Below V.heap.size V w') := fun V K h => by
        have := lv_read DK.out h 0 64 (i0 0 (by omega) (by omega)) (i0 64 (by omega) (by omega)) l1 (by rw [Hl1.out]; exact hrd1.1.symm) 0 hrd1.2.symm
        rwa [hll1] at this
      have A2 : Hid (∀ V K, Lv At w V pd D K → (∀ b, b < w.heap.size → K b) → Calls Try.prog 9 #[.pointer (some ⟨pd, 0, none⟩), .int .i64 a1, .slice a2 len2 cap2] V fun e w' => e = .returned (.int .i64 E) ∧ Lv At w w' pd D1 K ∧ Kept9 K V w') := fun V K h hK => by
        refine lv_write DK.out h (by omega) a1 w1 a2 len2 cap2 z2 (HR2.out.below h.below) (by omega) (fun b off e h0 => ?_) D1 HD1.out E HE.out
        rcases HR2.out.2.2.2 with ⟨e2, _⟩ | ⟨ad, e2, h2⟩ | ⟨b', off', e2, hlt, _⟩
        · rw [e2] at e; cases e
        · omega
        · rw [e2] at e; cases e; exact hK _ hlt
      have CV : Hid (∀ V a c, Reads V a 64 c l → Sem.run Try.prog (convert 23 9 (.slice a 64 c)) V = .ok (.string T) V) := fun V a c h => by rw [HT.out]; exact conv_reads h
      have CV1 : Hid (∀ V a c, Reads V a 64 c l1 → Sem.run Try.prog (convert 23 9 (.slice a 64 c)) V = .ok (.string T1) V) := fun V a c h => by rw [HT1.out]; exact conv_reads h
      clear DK dk ok ok1 hrm1 hrd hrd1 hroom hpl HD1 HE i0 HS0 H300 Hl Hl1
      go_wp2_with fail
      refine (B0.out _ _ HL.out).mono ?_
      rintro e V1 ⟨b1, c1, rfl, ho, hl, _⟩
      have HRb : Hid (Reads V1 b1 64 c1 l) := by have := ho.1; rwa [hll] at this
      have HBb := hidd ho.blk
      replace HL := hidd hl
      obtain ⟨K2, HK2⟩ : ∃ K2 : Nat → Prop, Hid (K2 = fun b => (fun b => b < w.heap.size) b ∨ (wr.heap.size ≤ b ∧ b < V1.heap.size)) := ⟨_, hidd rfl⟩
      have HLk : Hid (Lv At w V1 pd D K2) := by show Lv _ _ _ _ _ _; rw [HK2.out]; exact HL.out
      have HKw2 : Hid (∀ b, b < w.heap.size → K2 b) := fun b e => by rw [HK2.out]; exact .inl e
      have HKb2 : Hid (∀ b off, b1 = some ⟨b, off, none⟩ → 0 < 64 → K2 b) := fun b off e _ => by rw [HK2.out]; exact .inr (HBb.out b off e (by rw [hll]; omega))
      clear hl ho HBb HL HK2 B0
      go_wp2_with fail
      refine (A2.out _ _ HLk.out HKw2.out).mono ?_
      rintro e V2 ⟨rfl, hl, hk⟩
      replace HLk := hidd hl
      replace HRb := hidd (hk.reads HRb.out HKb2.out)
      clear hl hk A2
      go_wp2_with fail
      refine (B1.out _ _ HLk.out).mono ?_
      rintro e V3 ⟨b3, c3, rfl, ho, hl, hb⟩
      replace HRb := hidd (HRb.out.below hb)
      have HRc : Hid (Reads V3 b3 64 c3 l1) := by have := ho.1; rwa [hll1] at this
      have HBl := hidd hl.below
      have h3c : 64 ≤ c3 := HRc.out.2.1
      have h1c : 64 ≤ c1 := HRb.out.2.1
      clear hl ho hb B1 HLk
      by_cases hE : E = 0
      · have hne := HNW.out hE
        have hin : 0 ≤ a1 ∧ a1 ≤ 64 ∧ (len2 : Int) ≤ 64 - a1 := by
          rcases hE3 with ⟨_, _, h⟩ | ⟨h, _⟩ | ⟨h, _⟩
          · have := (inB_iff _ _ _).1 h; omega
          · omega
          · omega
        subst hE
        clear hE3
        obtain ⟨q, rfl⟩ : ∃ q : Nat, a1 = (q : Int) := ⟨a1.toNat, by omega⟩
        have hN : q + len2 ≤ 64 := by omega
        have hw1 := wrap_int ((q : Int) + (len2 : Int)) (by omega) (by omega)
        have hq0 : decide ((0 : Int) ≤ (q : Int)) = true := by rw [decide_eq_true_eq]; omega
        have hq1 : decide ((q : Int) + (len2 : Int) ≤ 64) = true := by rw [decide_eq_true_eq]; omega
        rw [show ((q : Int)).toNat = q by omega] at hne
        have hfit : q + z2.length ≤ l.length := by omega
        have hin1 : (l1.drop q).take len2 = z2 := by have := doneB_in (s := l) (p := (q, z2)) hfit; rw [hne, ← hz2]; exact this
        have htk : l1.take q = l.take q := by
          have := part_same (a := l1) (b := l) 0 q fun k _ h2 => by rw [hne]; exact doneB_at hfit k (.inl (by show k < q; omega))
          simpa using this
        have hdr : l1.drop (q + len2) = l.drop (q + len2) := by
          have := part_same (a := l1) (b := l) (q + len2) 64 fun k h1 _ => by rw [hne]; exact doneB_at hfit k (.inr (by show q + z2.length ≤ k; omega))
          rw [List.take_of_length_le (by rw [List.length_drop]; omega), List.take_of_length_le (by rw [List.length_drop]; omega)] at this
          exact this
        obtain ⟨P, HP⟩ : ∃ T : ByteArray, Hid (T = ⟨(l.take q).toArray⟩) := ⟨_, hidd rfl⟩
        obtain ⟨Z, HZ⟩ : ∃ T : ByteArray, Hid (T = ⟨z2.toArray⟩) := ⟨_, hidd rfl⟩
        obtain ⟨R, HRr⟩ : ∃ T : ByteArray, Hid (T = ⟨(l.drop (q + len2)).toArray⟩) := ⟨_, hidd rfl⟩
        obtain ⟨m33, Hm33⟩ : ∃ m, Hid (m = 64 - (q + len2)) := ⟨_, hidd rfl⟩
        have PT : Hid (∀ V b c (l' : List UInt8), Reads V b 64 c l' → l'.take q = l.take q → Sem.run Try.prog (convert 23 9 (.slice (subA b c 0) q c)) V = .ok (.string P) V) := fun V b c l' h he => by
          have := conv_reads (h.part 0 q (by omega) (by omega))
          simp only [Nat.sub_zero, List.drop_zero] at this
          rw [this, HP.out, he]
        have BT : Hid (∀ V b c (l' : List UInt8), Reads V b 64 c l' → l'.drop (q + len2) = l.drop (q + len2) → l'.length = 64 → Sem.run Try.prog (convert 23 9 (.slice (subA b c (q + len2)) m33 (c - (q + len2)))) V = .ok (.string R) V) := fun V b c l' h he hl' => by
          have := conv_reads (h.part (q + len2) 64 (by omega) (by omega))
          rw [Hm33.out, this, HRr.out, List.take_of_length_le (by rw [List.length_drop]; omega), he]
        obtain ⟨x12, H12⟩ : ∃ x, Hid (x = subA b3 c3 0) := ⟨_, hidd rfl⟩
        obtain ⟨x16, H16⟩ : ∃ x, Hid (x = subA b1 c1 0) := ⟨_, hidd rfl⟩
        obtain ⟨x24, H24⟩ : ∃ x, Hid (x = subA b3 c3 q) := ⟨_, hidd rfl⟩
        obtain ⟨x33, H33⟩ : ∃ x, Hid (x = subA b3 c3 (q + len2)) := ⟨_, hidd rfl⟩
        obtain ⟨x37, H37⟩ : ∃ x, Hid (x = subA b1 c1 (q + len2)) := ⟨_, hidd rfl⟩
        obtain ⟨c24, G24⟩ : ∃ x, Hid (x = c3 - q) := ⟨_, hidd rfl⟩
        obtain ⟨c33, G33⟩ : ∃ x, Hid (x = c3 - (q + len2)) := ⟨_, hidd rfl⟩
        obtain ⟨c37, G37⟩ : ∃ x, Hid (x = c1 - (q + len2)) := ⟨_, hidd rfl⟩
        have hcast : ((q + len2 : Nat) : Int) = (q : Int) + (len2 : Int) := by omega
        have S12 : Hid (∀ V : World, (Instr.sliceAt 23 (.slice b3 64 c3) none (some (.int .i64 (q : Int))) none).run Try.prog V = .ok (.slice x12 q c3) V) := fun V => by rw [H12.out]; exact slice_front V b3 64 c3 q (by omega)
        have S16 : Hid (∀ V : World, (Instr.sliceAt 23 (.slice b1 64 c1) none (some (.int .i64 (q : Int))) none).run Try.prog V = .ok (.slice x16 q c1) V) := fun V => by rw [H16.out]; exact slice_front V b1 64 c1 q (by omega)
        have S24 : Hid (∀ V : World, (Instr.sliceAt 23 (.slice b3 64 c3) (some (.int .i64 (q : Int))) (some (.int .i64 ((q : Int) + (len2 : Int)))) none).run Try.prog V = .ok (.slice x24 len2 c24) V) := fun V => by
          have := slice_mid V b3 64 c3 q (q + len2) (by omega) (by omega)
          rw [hcast, show q + len2 - q = len2 by omega] at this
          rw [H24.out, G24.out]; exact this
        have S33 : Hid (∀ V : World, (Instr.sliceAt 23 (.slice b3 64 c3) (some (.int .i64 ((q : Int) + (len2 : Int)))) none none).run Try.prog V = .ok (.slice x33 m33 c33) V) := fun V => by
          have := slice_back V b3 64 c3 (q + len2) (by omega) (by omega)
          rw [hcast] at this
          rw [H33.out, G33.out, Hm33.out]; exact this
        have S37 : Hid (∀ V : World, (Instr.sliceAt 23 (.slice b1 64 c1) (some (.int .i64 ((q : Int) + (len2 : Int)))) none none).run Try.prog V = .ok (.slice x37 m33 c37) V) := fun V => by
          have := slice_back V b1 64 c1 (q + len2) (by omega) (by omega)
          rw [hcast] at this
          rw [H37.out, G37.out, Hm33.out]; exact this
        have C13 : Hid (∀ V, Reads V b3 64 c3 l1 → Sem.run Try.prog (convert 23 9 (.slice x12 q c3)) V = .ok (.string P) V) := fun V h => by rw [H12.out]; exact PT.out V b3 c3 l1 h htk
        have C17 : Hid (∀ V, Reads V b1 64 c1 l → Sem.run Try.prog (convert 23 9 (.slice x16 q c1)) V = .ok (.string P) V) := fun V h => by rw [H16.out]; exact PT.out V b1 c1 l h rfl
        have C25 : Hid (∀ V, Reads V b3 64 c3 l1 → Sem.run Try.prog (convert 23 9 (.slice x24 len2 c24)) V = .ok (.string Z) V) := fun V h => by
          have := conv_reads (h.part q (q + len2) (by omega) (by omega))
          rw [show q + len2 - q = len2 by omega, hin1] at this
          rw [H24.out, G24.out, HZ.out]; exact this
        have C27 : Hid (∀ V, Reads V a2 len2 cap2 z2 → Sem.run Try.prog (convert 23 9 (.slice a2 len2 cap2)) V = .ok (.string Z) V) := fun V h => by rw [HZ.out]; exact conv_reads h
        have C34 : Hid (∀ V, Reads V b3 64 c3 l1 → Sem.run Try.prog (convert 23 9 (.slice x33 m33 c33)) V = .ok (.string R) V) := fun V h => by rw [H33.out, G33.out]; exact BT.out V b3 c3 l1 h hdr hll1
        have C38 : Hid (∀ V, Reads V b1 64 c1 l → Sem.run Try.prog (convert 23 9 (.slice x37 m33 c37)) V = .ok (.string R) V) := fun V h => by rw [H37.out, G37.out]; exact BT.out V b1 c1 l h rfl hll
        have HR23 := hidd (HR2.out.below HBl.out)
        clear HNW HNO hne hin1 htk hdr HP HZ HRr Hm33 PT BT H12 H16 H24 H33 H37 G24 G33 G37 hcast hfit hin HT HT1 CV CV1
        go_wp2
        refine wp_region_held_drew (S := (fun V => Reads V b1 64 c1 l ∧ Reads V b3 64 c3 l1 ∧ Reads V a2 len2 cap2 z2)) (by kernel_rfl) ⟨HRb.out, HRc.out, HR23.out⟩ (fun hHeld => ?_)
        refine wpAnyH_ready (rs := [0]) (by kernel_rfl) (by simp) ?_
        refine (AllReadyH.cons (o := { dst := some 100, op := Op.call { callee := Callee.value (Operand.func 10), args := #[], argTypes := #[] }, type := 4, pos := "law.go:255", after := #[], guard := none }) rfl (fun K hK => ?_) AllReadyH.nil)
        go_simp
        refine (AW.out _).mono ?_
        rintro e V4 ⟨rfl, hb4⟩
        have HF := hidd (HBl.out.drew.trans (hb4.mono HBl.out.size))
        go_wp2_with fail
        refine hK.out _ _ ⟨hHeld.1.below hb4, hHeld.2.1.below hb4, hHeld.2.2.below hb4⟩ (fun hHeld => ?_)
        clear hK K
        try simp only [Act.put, List.setIfInBounds_toArray, List.set_cons_zero, List.set_cons_succ]
        refine wpAnyH_take (i := 1) (oi := { dst := some 101, op := Op.move (Operand.tmp 100), type := 4, pos := "law.go:255", after := #[{ on := 0, ground := Ground.data }, { on := 0, ground := Ground.chain }], guard := none }) (v := .bool true) rfl (by kernel_rfl) (by kernel_rfl) (by kernel_rfl) (fun _ _ _ h => h) (Or.inl ⟨by rfl, by intro W hSw; go_simp⟩) hHeld ?_
        try simp only [Act.put, List.setIfInBounds_toArray, List.set_cons_zero, List.set_cons_succ]
        refine wpAnyH_take (i := 2) (oi := { dst := some 102, op := Op.move (Operand.tmp 1), type := 3, pos := "law.go:255", after := #[{ on := 1, ground := Ground.guard }], guard := some (1, true) }) (v := .int .i64 q) rfl (by kernel_rfl) (by kernel_rfl) (by kernel_rfl) (fun _ _ _ h => h) (Or.inl ⟨by rfl, by intro W hSw; go_simp⟩) hHeld ?_
        try simp only [Act.put, List.setIfInBounds_toArray, List.set_cons_zero, List.set_cons_succ]
        refine wpAnyH_take (i := 3) (oi := { dst := some 103, op := Op.binOp BinOp.geq 3 (Operand.tmp 102) (Operand.const (Value.int IntKind.i64 0)) 3, type := 4, pos := "law.go:255", after := #[{ on := 2, ground := Ground.data }, { on := 1, ground := Ground.guard }], guard := some (1, true) }) (v := .bool true) rfl (by kernel_rfl) (by kernel_rfl) (by kernel_rfl) (fun _ _ _ h => h) (Or.inl ⟨by rfl, by intro W hSw; go_simp⟩) hHeld ?_
        try simp only [Act.put, List.setIfInBounds_toArray, List.set_cons_zero, List.set_cons_succ]
        refine wpAnyH_take (i := 4) (oi := { dst := some 104, op := Op.pick (Operand.tmp 101) (Operand.tmp 103) (Operand.const (Value.bool false)), type := 4, pos := "law.go:255", after := #[{ on := 1, ground := Ground.data }, { on := 3, ground := Ground.data }], guard := none }) (v := .bool true) rfl (by kernel_rfl) (by kernel_rfl) (by kernel_rfl) (fun _ _ _ h => h) (Or.inl ⟨by rfl, by intro W hSw; go_simp⟩) hHeld ?_
        try simp only [Act.put, List.setIfInBounds_toArray, List.set_cons_zero, List.set_cons_succ]
        refine wpAnyH_take (i := 5) (oi := { dst := some 105, op := Op.move (Operand.tmp 104), type := 4, pos := "law.go:255", after := #[{ on := 4, ground := Ground.data }, { on := 1, ground := Ground.chain }], guard := none }) (v := .bool true) rfl (by kernel_rfl) (by kernel_rfl) (by kernel_rfl) (fun _ _ _ h => h) (Or.inl ⟨by rfl, by intro W hSw; go_simp⟩) hHeld ?_
        try simp only [Act.put, List.setIfInBounds_toArray, List.set_cons_zero, List.set_cons_succ]
        refine wpAnyH_take (i := 6) (oi := { dst := some 106, op := Op.move (Operand.tmp 17), type := 3, pos := "law.go:255", after := #[{ on := 5, ground := Ground.guard }], guard := some (5, true) }) (v := .int .i64 ((q : Int) + (len2 : Int))) rfl (by kernel_rfl) (by kernel_rfl) (by kernel_rfl) (fun _ _ _ h => h) (Or.inl ⟨by rfl, by intro W hSw; go_simp⟩) hHeld ?_
        try simp only [Act.put, List.setIfInBounds_toArray, List.set_cons_zero, List.set_cons_succ]
        refine wpAnyH_take (i := 7) (oi := { dst := some 107, op := Op.binOp BinOp.leq 3 (Operand.tmp 106) (Operand.const (Value.int IntKind.i64 64)) 3, type := 4, pos := "law.go:255", after := #[{ on := 6, ground := Ground.data }, { on := 5, ground := Ground.guard }], guard := some (5, true) }) (v := .bool true) rfl (by kernel_rfl) (by kernel_rfl) (by kernel_rfl) (fun _ _ _ h => h) (Or.inl ⟨by rfl, by intro W hSw; go_simp⟩) hHeld ?_
        try simp only [Act.put, List.setIfInBounds_toArray, List.set_cons_zero, List.set_cons_succ]
        refine wpAnyH_take (i := 8) (oi := { dst := some 108, op := Op.pick (Operand.tmp 105) (Operand.tmp 107) (Operand.const (Value.bool false)), type := 4, pos := "law.go:255", after := #[{ on := 5, ground := Ground.data }, { on := 7, ground := Ground.data }], guard := none }) (v := .bool true) rfl (by kernel_rfl) (by kernel_rfl) (by kernel_rfl) (fun _ _ _ h => h) (Or.inl ⟨by rfl, by intro W hSw; go_simp⟩) hHeld ?_
        try simp only [Act.put, List.setIfInBounds_toArray, List.set_cons_zero, List.set_cons_succ]
        refine wpAnyH_take (i := 9) (oi := { dst := some 109, op := Op.move (Operand.tmp 108), type := 4, pos := "law.go:255", after := #[{ on := 8, ground := Ground.data }, { on := 5, ground := Ground.chain }], guard := none }) (v := .bool true) rfl (by kernel_rfl) (by kernel_rfl) (by kernel_rfl) (fun _ _ _ h => h) (Or.inl ⟨by rfl, by intro W hSw; go_simp⟩) hHeld ?_
        try simp only [Act.put, List.setIfInBounds_toArray, List.set_cons_zero, List.set_cons_succ]
        refine wpAnyH_take (i := 10) (oi := { dst := some 110, op := Op.move (Operand.tmp 15), type := 23, pos := "law.go:255", after := #[{ on := 9, ground := Ground.guard }], guard := some (9, true) }) (v := .slice b3 64 c3) rfl (by kernel_rfl) (by kernel_rfl) (by kernel_rfl) (fun _ _ _ h => h) (Or.inl ⟨by rfl, by intro W hSw; go_simp⟩) hHeld ?_
        try simp only [Act.put, List.setIfInBounds_toArray, List.set_cons_zero, List.set_cons_succ]
        refine wpAnyH_take (i := 11) (oi := { dst := some 111, op := Op.move (Operand.tmp 1), type := 3, pos := "law.go:255", after := #[{ on := 9, ground := Ground.guard }], guard := some (9, true) }) (v := .int .i64 q) rfl (by kernel_rfl) (by kernel_rfl) (by kernel_rfl) (fun _ _ _ h => h) (Or.inl ⟨by rfl, by intro W hSw; go_simp⟩) hHeld ?_
        try simp only [Act.put, List.setIfInBounds_toArray, List.set_cons_zero, List.set_cons_succ]
        refine wpAnyH_take (i := 12) (oi := { dst := some 112, op := Op.slice 23 (Operand.tmp 110) none (some (Operand.tmp 111)) none, type := 23, pos := "law.go:255", after := #[{ on := 10, ground := Ground.data }, { on := 11, ground := Ground.data }, { on := 9, ground := Ground.guard }], guard := some (9, true) }) (v := .slice x12 q c3) rfl (by kernel_rfl) (by kernel_rfl) (by kernel_rfl) (fun _ _ _ h => h) (Or.inl ⟨by rfl, by intro V hSw; have h1 := S12.out V; go_simp⟩) hHeld ?_
        try simp only [Act.put, List.setIfInBounds_toArray, List.set_cons_zero, List.set_cons_succ]
        refine wpAnyH_take (i := 13) (oi := { dst := some 113, op := Op.convert 23 9 (Operand.tmp 112), type := 9, pos := "law.go:255", after := #[{ on := 12, ground := Ground.data }, { on := 9, ground := Ground.guard }], guard := some (9, true) }) (v := .string P) rfl (by kernel_rfl) (by kernel_rfl) (by kernel_rfl) (fun _ _ _ h => h) (Or.inl ⟨by rfl, by intro V hSw; have h1 := C13.out V hSw.2.1; go_simp⟩) hHeld ?_
        try simp only [Act.put, List.setIfInBounds_toArray, List.set_cons_zero, List.set_cons_succ]
        refine wpAnyH_take (i := 14) (oi := { dst := some 114, op := Op.move (Operand.tmp 12), type := 23, pos := "law.go:255", after := #[{ on := 9, ground := Ground.guard }], guard := some (9, true) }) (v := .slice b1 64 c1) rfl (by kernel_rfl) (by kernel_rfl) (by kernel_rfl) (fun _ _ _ h => h) (Or.inl ⟨by rfl, by intro W hSw; go_simp⟩) hHeld ?_
        try simp only [Act.put, List.setIfInBounds_toArray, List.set_cons_zero, List.set_cons_succ]
        refine wpAnyH_take (i := 15) (oi := { dst := some 115, op := Op.move (Operand.tmp 1), type := 3, pos := "law.go:255", after := #[{ on := 9, ground := Ground.guard }], guard := some (9, true) }) (v := .int .i64 q) rfl (by kernel_rfl) (by kernel_rfl) (by kernel_rfl) (fun _ _ _ h => h) (Or.inl ⟨by rfl, by intro W hSw; go_simp⟩) hHeld ?_
        try simp only [Act.put, List.setIfInBounds_toArray, List.set_cons_zero, List.set_cons_succ]
        refine wpAnyH_take (i := 16) (oi := { dst := some 116, op := Op.slice 23 (Operand.tmp 114) none (some (Operand.tmp 115)) none, type := 23, pos := "law.go:255", after := #[{ on := 14, ground := Ground.data }, { on := 15, ground := Ground.data }, { on := 9, ground := Ground.guard }], guard := some (9, true) }) (v := .slice x16 q c1) rfl (by kernel_rfl) (by kernel_rfl) (by kernel_rfl) (fun _ _ _ h => h) (Or.inl ⟨by rfl, by intro V hSw; have h1 := S16.out V; go_simp⟩) hHeld ?_
        try simp only [Act.put, List.setIfInBounds_toArray, List.set_cons_zero, List.set_cons_succ]
        refine wpAnyH_take (i := 17) (oi := { dst := some 117, op := Op.convert 23 9 (Operand.tmp 116), type := 9, pos := "law.go:255", after := #[{ on := 16, ground := Ground.data }, { on := 9, ground := Ground.guard }], guard := some (9, true) }) (v := .string P) rfl (by kernel_rfl) (by kernel_rfl) (by kernel_rfl) (fun _ _ _ h => h) (Or.inl ⟨by rfl, by intro V hSw; have h1 := C17.out V hSw.1; go_simp⟩) hHeld ?_
        try simp only [Act.put, List.setIfInBounds_toArray, List.set_cons_zero, List.set_cons_succ]
        refine wpAnyH_take (i := 18) (oi := { dst := some 118, op := Op.binOp BinOp.eql 9 (Operand.tmp 113) (Operand.tmp 117) 9, type := 4, pos := "law.go:255", after := #[{ on := 13, ground := Ground.data }, { on := 17, ground := Ground.data }, { on := 9, ground := Ground.guard }], guard := some (9, true) }) (v := .bool true) rfl (by kernel_rfl) (by kernel_rfl) (by kernel_rfl) (fun _ _ _ h => h) (Or.inl ⟨by rfl, by intro W hSw; go_simp⟩) hHeld ?_
        try simp only [Act.put, List.setIfInBounds_toArray, List.set_cons_zero, List.set_cons_succ]
        refine wpAnyH_take (i := 19) (oi := { dst := some 119, op := Op.pick (Operand.tmp 109) (Operand.tmp 118) (Operand.const (Value.bool false)), type := 4, pos := "law.go:255", after := #[{ on := 9, ground := Ground.data }, { on := 18, ground := Ground.data }], guard := none }) (v := .bool true) rfl (by kernel_rfl) (by kernel_rfl) (by kernel_rfl) (fun _ _ _ h => h) (Or.inl ⟨by rfl, by intro W hSw; go_simp⟩) hHeld ?_
        try simp only [Act.put, List.setIfInBounds_toArray, List.set_cons_zero, List.set_cons_succ]
        refine wpAnyH_take (i := 20) (oi := { dst := some 120, op := Op.move (Operand.tmp 119), type := 4, pos := "law.go:255", after := #[{ on := 19, ground := Ground.data }, { on := 9, ground := Ground.chain }], guard := none }) (v := .bool true) rfl (by kernel_rfl) (by kernel_rfl) (by kernel_rfl) (fun _ _ _ h => h) (Or.inl ⟨by rfl, by intro W hSw; go_simp⟩) hHeld ?_
        try simp only [Act.put, List.setIfInBounds_toArray, List.set_cons_zero, List.set_cons_succ]
        refine wpAnyH_take (i := 21) (oi := { dst := some 121, op := Op.move (Operand.tmp 15), type := 23, pos := "law.go:255", after := #[{ on := 20, ground := Ground.guard }], guard := some (20, true) }) (v := .slice b3 64 c3) rfl (by kernel_rfl) (by kernel_rfl) (by kernel_rfl) (fun _ _ _ h => h) (Or.inl ⟨by rfl, by intro W hSw; go_simp⟩) hHeld ?_
        try simp only [Act.put, List.setIfInBounds_toArray, List.set_cons_zero, List.set_cons_succ]
        refine wpAnyH_take (i := 22) (oi := { dst := some 122, op := Op.move (Operand.tmp 1), type := 3, pos := "law.go:255", after := #[{ on := 20, ground := Ground.guard }], guard := some (20, true) }) (v := .int .i64 q) rfl (by kernel_rfl) (by kernel_rfl) (by kernel_rfl) (fun _ _ _ h => h) (Or.inl ⟨by rfl, by intro W hSw; go_simp⟩) hHeld ?_
        try simp only [Act.put, List.setIfInBounds_toArray, List.set_cons_zero, List.set_cons_succ]
        refine wpAnyH_take (i := 23) (oi := { dst := some 123, op := Op.move (Operand.tmp 17), type := 3, pos := "law.go:255", after := #[{ on := 20, ground := Ground.guard }], guard := some (20, true) }) (v := .int .i64 ((q : Int) + (len2 : Int))) rfl (by kernel_rfl) (by kernel_rfl) (by kernel_rfl) (fun _ _ _ h => h) (Or.inl ⟨by rfl, by intro W hSw; go_simp⟩) hHeld ?_
        try simp only [Act.put, List.setIfInBounds_toArray, List.set_cons_zero, List.set_cons_succ]
        refine wpAnyH_take (i := 24) (oi := { dst := some 124, op := Op.slice 23 (Operand.tmp 121) (some (Operand.tmp 122)) (some (Operand.tmp 123)) none, type := 23, pos := "law.go:255", after := #[{ on := 21, ground := Ground.data }, { on := 22, ground := Ground.data }, { on := 23, ground := Ground.data }, { on := 20, ground := Ground.guard }], guard := some (20, true) }) (v := .slice x24 len2 c24) rfl (by kernel_rfl) (by kernel_rfl) (by kernel_rfl) (fun _ _ _ h => h) (Or.inl ⟨by rfl, by intro V hSw; have h1 := S24.out V; go_simp⟩) hHeld ?_
        try simp only [Act.put, List.setIfInBounds_toArray, List.set_cons_zero, List.set_cons_succ]
        refine wpAnyH_take (i := 25) (oi := { dst := some 125, op := Op.convert 23 9 (Operand.tmp 124), type := 9, pos := "law.go:255", after := #[{ on := 24, ground := Ground.data }, { on := 20, ground := Ground.guard }], guard := some (20, true) }) (v := .string Z) rfl (by kernel_rfl) (by kernel_rfl) (by kernel_rfl) (fun _ _ _ h => h) (Or.inl ⟨by rfl, by intro V hSw; have h1 := C25.out V hSw.2.1; go_simp⟩) hHeld ?_
        try simp only [Act.put, List.setIfInBounds_toArray, List.set_cons_zero, List.set_cons_succ]
        refine wpAnyH_take (i := 26) (oi := { dst := some 126, op := Op.move (Operand.tmp 2), type := 23, pos := "law.go:255", after := #[{ on := 20, ground := Ground.guard }], guard := some (20, true) }) (v := .slice a2 len2 cap2) rfl (by kernel_rfl) (by kernel_rfl) (by kernel_rfl) (fun _ _ _ h => h) (Or.inl ⟨by rfl, by intro W hSw; go_simp⟩) hHeld ?_
        try simp only [Act.put, List.setIfInBounds_toArray, List.set_cons_zero, List.set_cons_succ]
        refine wpAnyH_take (i := 27) (oi := { dst := some 127, op := Op.convert 23 9 (Operand.tmp 126), type := 9, pos := "law.go:255", after := #[{ on := 26, ground := Ground.data }, { on := 20, ground := Ground.guard }], guard := some (20, true) }) (v := .string Z) rfl (by kernel_rfl) (by kernel_rfl) (by kernel_rfl) (fun _ _ _ h => h) (Or.inl ⟨by rfl, by intro V hSw; have h1 := C27.out V hSw.2.2; go_simp⟩) hHeld ?_
        try simp only [Act.put, List.setIfInBounds_toArray, List.set_cons_zero, List.set_cons_succ]
        refine wpAnyH_take (i := 28) (oi := { dst := some 128, op := Op.binOp BinOp.eql 9 (Operand.tmp 125) (Operand.tmp 127) 9, type := 4, pos := "law.go:255", after := #[{ on := 25, ground := Ground.data }, { on := 27, ground := Ground.data }, { on := 20, ground := Ground.guard }], guard := some (20, true) }) (v := .bool true) rfl (by kernel_rfl) (by kernel_rfl) (by kernel_rfl) (fun _ _ _ h => h) (Or.inl ⟨by rfl, by intro W hSw; go_simp⟩) hHeld ?_
        try simp only [Act.put, List.setIfInBounds_toArray, List.set_cons_zero, List.set_cons_succ]
        refine wpAnyH_take (i := 29) (oi := { dst := some 129, op := Op.pick (Operand.tmp 120) (Operand.tmp 128) (Operand.const (Value.bool false)), type := 4, pos := "law.go:255", after := #[{ on := 20, ground := Ground.data }, { on := 28, ground := Ground.data }], guard := none }) (v := .bool true) rfl (by kernel_rfl) (by kernel_rfl) (by kernel_rfl) (fun _ _ _ h => h) (Or.inl ⟨by rfl, by intro W hSw; go_simp⟩) hHeld ?_
        try simp only [Act.put, List.setIfInBounds_toArray, List.set_cons_zero, List.set_cons_succ]
        refine wpAnyH_take (i := 30) (oi := { dst := some 130, op := Op.move (Operand.tmp 129), type := 4, pos := "law.go:255", after := #[{ on := 29, ground := Ground.data }, { on := 20, ground := Ground.chain }], guard := none }) (v := .bool true) rfl (by kernel_rfl) (by kernel_rfl) (by kernel_rfl) (fun _ _ _ h => h) (Or.inl ⟨by rfl, by intro W hSw; go_simp⟩) hHeld ?_
        try simp only [Act.put, List.setIfInBounds_toArray, List.set_cons_zero, List.set_cons_succ]
        refine wpAnyH_take (i := 31) (oi := { dst := some 131, op := Op.move (Operand.tmp 15), type := 23, pos := "law.go:255", after := #[{ on := 30, ground := Ground.guard }], guard := some (30, true) }) (v := .slice b3 64 c3) rfl (by kernel_rfl) (by kernel_rfl) (by kernel_rfl) (fun _ _ _ h => h) (Or.inl ⟨by rfl, by intro W hSw; go_simp⟩) hHeld ?_
        try simp only [Act.put, List.setIfInBounds_toArray, List.set_cons_zero, List.set_cons_succ]
        refine wpAnyH_take (i := 32) (oi := { dst := some 132, op := Op.move (Operand.tmp 17), type := 3, pos := "law.go:255", after := #[{ on := 30, ground := Ground.guard }], guard := some (30, true) }) (v := .int .i64 ((q : Int) + (len2 : Int))) rfl (by kernel_rfl) (by kernel_rfl) (by kernel_rfl) (fun _ _ _ h => h) (Or.inl ⟨by rfl, by intro W hSw; go_simp⟩) hHeld ?_
        try simp only [Act.put, List.setIfInBounds_toArray, List.set_cons_zero, List.set_cons_succ]
        refine wpAnyH_take (i := 33) (oi := { dst := some 133, op := Op.slice 23 (Operand.tmp 131) (some (Operand.tmp 132)) none none, type := 23, pos := "law.go:255", after := #[{ on := 31, ground := Ground.data }, { on := 32, ground := Ground.data }, { on := 30, ground := Ground.guard }], guard := some (30, true) }) (v := .slice x33 m33 c33) rfl (by kernel_rfl) (by kernel_rfl) (by kernel_rfl) (fun _ _ _ h => h) (Or.inl ⟨by rfl, by intro V hSw; have h1 := S33.out V; go_simp⟩) hHeld ?_
        try simp only [Act.put, List.setIfInBounds_toArray, List.set_cons_zero, List.set_cons_succ]
        refine wpAnyH_take (i := 34) (oi := { dst := some 134, op := Op.convert 23 9 (Operand.tmp 133), type := 9, pos := "law.go:255", after := #[{ on := 33, ground := Ground.data }, { on := 30, ground := Ground.guard }], guard := some (30, true) }) (v := .string R) rfl (by kernel_rfl) (by kernel_rfl) (by kernel_rfl) (fun _ _ _ h => h) (Or.inl ⟨by rfl, by intro V hSw; have h1 := C34.out V hSw.2.1; go_simp⟩) hHeld ?_
        try simp only [Act.put, List.setIfInBounds_toArray, List.set_cons_zero, List.set_cons_succ]
        refine wpAnyH_take (i := 35) (oi := { dst := some 135, op := Op.move (Operand.tmp 12), type := 23, pos := "law.go:255", after := #[{ on := 30, ground := Ground.guard }], guard := some (30, true) }) (v := .slice b1 64 c1) rfl (by kernel_rfl) (by kernel_rfl) (by kernel_rfl) (fun _ _ _ h => h) (Or.inl ⟨by rfl, by intro W hSw; go_simp⟩) hHeld ?_
        try simp only [Act.put, List.setIfInBounds_toArray, List.set_cons_zero, List.set_cons_succ]
        refine wpAnyH_take (i := 36) (oi := { dst := some 136, op := Op.move (Operand.tmp 17), type := 3, pos := "law.go:255", after := #[{ on := 30, ground := Ground.guard }], guard := some (30, true) }) (v := .int .i64 ((q : Int) + (len2 : Int))) rfl (by kernel_rfl) (by kernel_rfl) (by kernel_rfl) (fun _ _ _ h => h) (Or.inl ⟨by rfl, by intro W hSw; go_simp⟩) hHeld ?_
        try simp only [Act.put, List.setIfInBounds_toArray, List.set_cons_zero, List.set_cons_succ]
        refine wpAnyH_take (i := 37) (oi := { dst := some 137, op := Op.slice 23 (Operand.tmp 135) (some (Operand.tmp 136)) none none, type := 23, pos := "law.go:255", after := #[{ on := 35, ground := Ground.data }, { on := 36, ground := Ground.data }, { on := 30, ground := Ground.guard }], guard := some (30, true) }) (v := .slice x37 m33 c37) rfl (by kernel_rfl) (by kernel_rfl) (by kernel_rfl) (fun _ _ _ h => h) (Or.inl ⟨by rfl, by intro V hSw; have h1 := S37.out V; go_simp⟩) hHeld ?_
        try simp only [Act.put, List.setIfInBounds_toArray, List.set_cons_zero, List.set_cons_succ]
        refine wpAnyH_take (i := 38) (oi := { dst := some 138, op := Op.convert 23 9 (Operand.tmp 137), type := 9, pos := "law.go:255", after := #[{ on := 37, ground := Ground.data }, { on := 30, ground := Ground.guard }], guard := some (30, true) }) (v := .string R) rfl (by kernel_rfl) (by kernel_rfl) (by kernel_rfl) (fun _ _ _ h => h) (Or.inl ⟨by rfl, by intro V hSw; have h1 := C38.out V hSw.1; go_simp⟩) hHeld ?_
        try simp only [Act.put, List.setIfInBounds_toArray, List.set_cons_zero, List.set_cons_succ]
        refine wpAnyH_take (i := 39) (oi := { dst := some 139, op := Op.binOp BinOp.eql 9 (Operand.tmp 134) (Operand.tmp 138) 9, type := 4, pos := "law.go:255", after := #[{ on := 34, ground := Ground.data }, { on := 38, ground := Ground.data }, { on := 30, ground := Ground.guard }], guard := some (30, true) }) (v := .bool true) rfl (by kernel_rfl) (by kernel_rfl) (by kernel_rfl) (fun _ _ _ h => h) (Or.inl ⟨by rfl, by intro W hSw; go_simp⟩) hHeld ?_
        try simp only [Act.put, List.setIfInBounds_toArray, List.set_cons_zero, List.set_cons_succ]
        refine wpAnyH_take (i := 40) (oi := { dst := some 140, op := Op.pick (Operand.tmp 130) (Operand.tmp 139) (Operand.const (Value.bool false)), type := 4, pos := "law.go:255", after := #[{ on := 30, ground := Ground.data }, { on := 39, ground := Ground.data }], guard := none }) (v := .bool true) rfl (by kernel_rfl) (by kernel_rfl) (by kernel_rfl) (fun _ _ _ h => h) (Or.inl ⟨by rfl, by intro W hSw; go_simp⟩) hHeld ?_
        try simp only [Act.put, List.setIfInBounds_toArray, List.set_cons_zero, List.set_cons_succ]
        refine wpAnyH_take (i := 41) (oi := { dst := some 6, op := Op.assign (Operand.tmp 140), type := 4, pos := "law.go:255", after := #[{ on := 40, ground := Ground.data }, { on := 30, ground := Ground.chain }, { on := 0, ground := Ground.phase }, { on := 1, ground := Ground.phase }, { on := 2, ground := Ground.phase }, { on := 3, ground := Ground.phase }, { on := 4, ground := Ground.phase }, { on := 5, ground := Ground.phase }, { on := 6, ground := Ground.phase }, { on := 7, ground := Ground.phase }, { on := 8, ground := Ground.phase }, { on := 9, ground := Ground.phase }, { on := 10, ground := Ground.phase }, { on := 11, ground := Ground.phase }, { on := 12, ground := Ground.phase }, { on := 13, ground := Ground.phase }, { on := 14, ground := Ground.phase }, { on := 15, ground := Ground.phase }, { on := 16, ground := Ground.phase }, { on := 17, ground := Ground.phase }, { on := 18, ground := Ground.phase }, { on := 19, ground := Ground.phase }, { on := 20, ground := Ground.phase }, { on := 21, ground := Ground.phase }, { on := 22, ground := Ground.phase }, { on := 23, ground := Ground.phase }, { on := 24, ground := Ground.phase }, { on := 25, ground := Ground.phase }, { on := 26, ground := Ground.phase }, { on := 27, ground := Ground.phase }, { on := 28, ground := Ground.phase }, { on := 29, ground := Ground.phase }, { on := 30, ground := Ground.phase }, { on := 31, ground := Ground.phase }, { on := 32, ground := Ground.phase }, { on := 33, ground := Ground.phase }, { on := 34, ground := Ground.phase }, { on := 35, ground := Ground.phase }, { on := 36, ground := Ground.phase }, { on := 37, ground := Ground.phase }, { on := 38, ground := Ground.phase }, { on := 39, ground := Ground.phase }, { on := 40, ground := Ground.phase }], guard := none }) (v := .bool true) rfl (by kernel_rfl) (by kernel_rfl) (by kernel_rfl) (fun _ _ _ h => h) (Or.inl ⟨by rfl, by intro W hSw; go_simp⟩) hHeld ?_
        try simp only [Act.put, List.setIfInBounds_toArray, List.set_cons_zero, List.set_cons_succ]
        refine wpAnyH_done (by kernel_rfl) ?_ _
        go_wp2
        go_ret
        exact ⟨rfl, HF.out⟩
      · have hne := HNO.out hE
        have hE' : (E == 0) = false := by rw [beq_eq_false_iff_ne]; exact hE
        have HTT : Hid (T1 = T) := by show _ = _; rw [HT.out, HT1.out, hne]
        rw [HTT.out] at CV1
        clear hE3 HNW HNO hne HTT
        go_wp2_with fail
        refine (AW.out _).mono ?_
        rintro e V4 ⟨rfl, hb4⟩
        have cv1 := CV.out V4 _ _ (HRb.out.below hb4)
        have cv2 := CV1.out V4 _ _ (HRc.out.below hb4)
        have HF := hidd (HBl.out.trans (hb4.mono HBl.out.size))
        clear hb4 AW HRb HRc CV CV1
        go_wp2
        go_ret
        exact ⟨rfl, HF.out⟩
end Go.Proofs.Yticljiffagobnab
