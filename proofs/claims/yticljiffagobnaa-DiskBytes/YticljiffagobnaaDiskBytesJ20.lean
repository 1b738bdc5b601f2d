/- Texts of our own that the row of DiskBytes leans on, part 20. -/
import Derived.Test.YticljiffagobnaaDiskBytesJ9
import Derived.Test.YticljiffagobnaaDiskBytesJ17
import Derived.Test.YticljiffagobnaaDiskBytesJ19

/- The program's disk and the document's side by side; what the statements' large and call answer. -/
namespace Go.Proofs.Yticljiffagobnaa
open Go.RowKit Nums
set_option linter.unusedVariables false
set_option linter.unusedSimpArgs false
set_option maxRecDepth 100000
/-- The program's disk D and the document's disk M, both made since w; the blocks of K are neither's. -/
structure Two (At : World → Nat → DkT → (Nat → Prop) → Prop) (w W : World) (pd pm : Nat) (D M : DkT) (K : Nat → Prop) : Prop where
  two : ∃ Sm, MAt W pm M Sm ∧ (∀ b, Sm b → w.heap.size ≤ b) ∧ (∀ b, K b → ¬ Sm b) ∧ Lv At w W pd D (fun b => K b ∨ Sm b)
variable {At : World → Nat → DkT → (Nat → Prop) → Prop}
theorem Two.below {w W : World} {pd pm : Nat} {D M : DkT} {K : Nat → Prop} (h : Two At w W pd pm D M K) : Below w.heap.size w W := by obtain ⟨_, _, _, _, hl⟩ := h.two; exact hl.below
theorem Two.okd (dk : DiskC At) {w W : World} {pd pm : Nat} {D M : DkT} {K : Nat → Prop} (h : Two At w W pd pm D M K) : OkD D := by obtain ⟨_, _, _, _, hl⟩ := h.two; exact hl.ok dk
theorem Two.lv {w W : World} {pd pm : Nat} {D M : DkT} {K : Nat → Prop} (h : Two At w W pd pm D M K) : Lv At w W pd D K := by obtain ⟨_, _, _, _, hl⟩ := h.two; exact hl.sub fun b e => .inl e
theorem Two.sub {w W : World} {pd pm : Nat} {D M : DkT} {K K' : Nat → Prop} (h : Two At w W pd pm D M K) (hk : ∀ b, K' b → K b) : Two At w W pd pm D M K' := by
  obtain ⟨Sm, h1, h2, h3, h4⟩ := h.two
  exact ⟨Sm, h1, h2, fun b e => h3 b (hk b e), h4.sub fun b e => by rcases e with e | e; exact .inl (hk b e); exact .inr e⟩
theorem Two.keep (dk : DiskC At) {w W W' : World} {pd pm : Nat} {D M : DkT} {K : Nat → Prop} (h : Two At w W pd pm D M K) (hb : Below W.heap.size W W') : Two At w W' pd pm D M (fun b => K b ∨ (W.heap.size ≤ b ∧ b < W'.heap.size)) := by
  obtain ⟨Sm, h1, h2, h3, h4⟩ := h.two
  refine ⟨Sm, h1.below hb, h2, fun b e hs => ?_, (h4.keep dk hb).sub fun b e => ?_⟩
  · rcases e with e | e
    · exact h3 b e hs
    · have := h1.lt b hs; omega
  · rcases e with (e | e) | e
    · exact .inl (.inl e)
    · exact .inr e
    · exact .inl (.inr e)
theorem Two.keepK (dk : DiskC At) {w W W' : World} {pd pm : Nat} {D M : DkT} {K : Nat → Prop} (h : Two At w W pd pm D M K) (hb : Below W.heap.size W W') : Two At w W' pd pm D M K := (h.keep dk hb).sub fun b e => .inl e
/-- A block that is neither's is written. -/
theorem Two.other (dk : DiskC At) {w W W' : World} {pd pm : Nat} {D M : DkT} {K : Nat → Prop} (h : Two At w W pd pm D M K) (g : Nat) (hg : K g) (hgw : w.heap.size ≤ g) (hw : W.grownBy W' (some g)) : Two At w W' pd pm D M K := by
  obtain ⟨Sm, h1, h2, h3, h4⟩ := h.two
  obtain ⟨Sd, hA, hS, hK⟩ := h4.live
  have bl : ∀ b, b < W.heap.size → b ≠ g → W'.heap[b]? = W.heap[b]? := fun b hb hn => hw.block b hb (fun e => hn (Option.some.inj e))
  refine ⟨Sm, h1.keep fun b e => bl b (h1.lt b e) (fun e2 => h3 b (by rw [e2]; exact hg) e), h2, h3, ⟨?_, Sd, dk.keep hA hw.size fun b e => bl b (dk.lt hA b e) (fun e2 => (hK b (.inl (by rw [e2]; exact hg))).1 e), hS, fun b e => ⟨(hK b e).1, Nat.lt_of_lt_of_le (hK b e).2 hw.size⟩⟩⟩
  exact h4.below.grown hw h4.below.size (by intro k hk; cases hk; exact hgw)
theorem Kept9.sub {K K' : Nat → Prop} {w w' : World} (h : Kept9 K w w') (hk : ∀ b, K' b → K b) : Kept9 K' w w' := ⟨h.os, h.tape, h.output, h.size, fun b hb hn => h.block b hb fun h2 => hn fun h3 => h2 (hk b h3)⟩
theorem Kept9.row {K : Nat → Prop} {w w' : World} (h : Kept9 K w w') {g : Nat} (hg : K g) {o : Obj} (hr : w.heap[g]? = some o) : w'.heap[g]? = some o := (h.block g (heap_lt hr) (fun hn => hn hg)).trans hr
theorem Two.prog (dk : DiskC At) {w W : World} {pd pm : Nat} {D D' M : DkT} {K : Nat → Prop} {f : Nat} {args : Array Value} {Q : Ending → Prop} (h : Two At w W pd pm D M K)
    (step : ∀ K', Lv At w W pd D K' → (∀ b, K b → K' b) → Calls Try.prog f args W fun e w' => Q e ∧ Lv At w w' pd D' K' ∧ Kept9 K' W w') : Calls Try.prog f args W fun e w' => Q e ∧ Two At w w' pd pm D' M K ∧ Kept9 K W w' := by
  obtain ⟨Sm, h1, h2, h3, h4⟩ := h.two
  refine (step _ h4 fun b e => .inl e).mono ?_
  rintro e w' ⟨hq, hl, hk⟩
  exact ⟨hq, ⟨Sm, h1.away hk fun b hb hn => hn (.inr hb), h2, h3, hl⟩, hk.sub fun b e => .inl e⟩
theorem Two.ref (dk : DiskC At) {w W : World} {pd pm : Nat} {D M M' : DkT} {K : Nat → Prop} {f : Nat} {args : Array Value} {Q : Ending → Prop} (h : Two At w W pd pm D M K)
    (step : ∀ Sm, MAt W pm M Sm → (∀ b, K b → ¬ Sm b) → Calls Try.prog f args W fun e w' => Q e ∧ (∃ S', MAt w' pm M' S' ∧ ∀ b, S' b → Sm b ∨ W.heap.size ≤ b) ∧ Away Sm W w') : Calls Try.prog f args W fun e w' => Q e ∧ Two At w w' pd pm D M' K ∧ Kept9 K W w' := by
  obtain ⟨Sm, h1, h2, h3, h4⟩ := h.two
  obtain ⟨Sd, hA, hS, hK⟩ := h4.live
  refine (step Sm h1 h3).mono ?_
  rintro e w' ⟨hq, ⟨S', hm, hs'⟩, haw⟩
  refine ⟨hq, ⟨S', hm, fun b hb => ?_, fun b hb hs => ?_, ⟨haw.below h4.below h4.below.size h2, Sd, dk.keep hA haw.size fun b e => haw.block b (dk.lt hA b e) (fun hs => (hK b (.inr hs)).1 e), hS, fun b hb => ?_⟩⟩, ⟨haw.os, haw.tape, haw.output, haw.size, fun k hk hn => haw.block k hk fun hs => hn fun h5 => h3 k h5 hs⟩⟩
  · rcases hs' b hb with e | e
    · exact h2 b e
    · exact Nat.le_trans h4.below.size e
  · rcases hs' b hs with e | e
    · exact h3 b hb e
    · have := (hK b (.inl hb)).2; omega
  · rcases hb with hb | hb
    · exact ⟨(hK b (.inl hb)).1, Nat.lt_of_lt_of_le (hK b (.inl hb)).2 haw.size⟩
    · refine ⟨fun hd => ?_, hm.lt b hb⟩
      rcases hs' b hb with e | e
      · exact (hK b (.inr e)).1 hd
      · have := dk.lt hA b hd; omega
/-! large. -/
set_option maxHeartbeats 2000000 in
theorem large_any (a : Option Addr) (len cap : Nat) (l : List OpT) (w W : World) (h : OReads w a len cap l) (hb : Below w.heap.size w W) :
    Calls Try.prog 9 #[.slice a len cap] W fun e w' => ∃ x : Bool, e = .returned (.bool x) ∧ W = w' ∧ (x = false → len ≤ 60 ∧ ∀ o ∈ l, o.bs.length ≤ 300) := by
  have HR := hidd h
  have HB := hidd hb
  have hlen := h.1
  by_cases h60 : 60 < len
  · have hm : len ≤ 9223372036854775807 := by have h1 := h.2.1; have h2 := h.2.2.1; omega
    have d1 : decide ((60 : Int) < (len : Int)) = true := by rw [decide_eq_true_eq]; omega
    clear h hb
    go_enter Try.func9, Try.ntmps9
    go_wp2
    go_ret
    exact ⟨true, rfl, rfl, fun e => by cases e⟩
  · have d1 : decide ((60 : Int) < (len : Int)) = false := by rw [decide_eq_false_iff_not]; omega
    have hz : ∀ w, (sizeOf 36).run Try.prog w = .ok 4 w := fun w => by
      have h : (Try.prog.info? 36).map (·.size) = some 4 := by kernel_rfl
      cases hq : Try.prog.info? 36 with
      | none => rw [hq] at h; cases h
      | some i =>
        rw [hq] at h
        simp only [Option.map_some, Option.some.injEq] at h
        simp [sizeOf, typeInfo, hq, h]
    clear h hb
    go_enter Try.func9, Try.ntmps9
    go_wp2
    go_loopw [3] (fun i wr => ∃ k : Nat, k ≤ len ∧ i = .int .i64 k ∧ W = wr ∧ Hid (∀ j o, j < k → l[j]? = some o → o.bs.length ≤ 300)) (fun i _ => len - (intOf i).toNat)
    case atStart => exact ⟨0, by omega, rfl, rfl, fun j o hj => by omega⟩
    case round =>
      obtain ⟨k, hk, rfl, rfl, HK⟩ := hrel
      by_cases hlt : k < len
      · have hdk : decide ((k : Int) < (len : Int)) = true := by rw [decide_eq_true_eq]; omega
        have hw := wrap_int ((k : Int) + 1) (by omega) (by omega)
        obtain ⟨b, off, o, rfl, hbn, hlo, hio, c0, c1, c2, c3⟩ := HR.out.at k hlt
        have e3 := (HB.out.cell (p := ⟨b, off + k * 4 + 3, none⟩) hbn).trans c3
        have hol := hio.rd.1
        have hom : o.len ≤ 9223372036854775807 := by have h1 := hio.rd.2.1; have h2 := hio.rd.2.2.1; omega
        have ix : ∀ W, (Instr.indexAt 22 (.slice (some ⟨b, off, none⟩) len cap) (.int .i64 (k : Int))).run Try.prog W = .ok (.pointer (some ⟨b, off + k * 4, none⟩)) W := fun W => by
          simp [Instr.indexAt, asIntOf, run_underlying Try.underlying22, hz, hlt]
          rw [add_plain]
        obtain ⟨oa, ol, oc, hO⟩ : ∃ oa ol oc, Hid (oa = o.a ∧ ol = o.len ∧ oc = o.cap) := ⟨_, _, _, hidd ⟨rfl, rfl, rfl⟩⟩
        rw [← hO.out.1, ← hO.out.2.1, ← hO.out.2.2] at e3
        rw [← hO.out.2.1] at hom hol
        have HOL := hidd hol
        have HLO := hidd hlo
        clear c0 c1 c2 c3 hio hlo hol
        by_cases h300 : 300 < ol
        · have d3 : decide ((300 : Int) < (ol : Int)) = true := by rw [decide_eq_true_eq]; omega
          go_wp2
          go_ret
          exact ⟨true, rfl, rfl, fun e => by cases e⟩
        · have d3 : decide ((300 : Int) < (ol : Int)) = false := by rw [decide_eq_false_iff_not]; omega
          have HK2 : Hid (∀ j o, j < k + 1 → l[j]? = some o → o.bs.length ≤ 300) := fun j o' hj ho => by
            by_cases e : j = k
            · rw [e, HLO.out] at ho
              cases ho
              rw [HOL.out]; omega
            · exact HK.out j o' (by omega) ho
          go_wp2
          go_roundw
          case rel => exact ⟨k + 1, by omega, by go_num, (by trivial), HK2⟩
          case measure => simp [intOf]; omega
      · obtain rfl : len = k := by omega
        have hdk : decide ((len : Int) < (len : Int)) = false := by rw [decide_eq_false_iff_not]; omega
        go_wp2
        go_ret
        refine ⟨false, rfl, rfl, fun _ => ⟨by omega, fun o ho => ?_⟩⟩
        obtain ⟨j, hj, rfl⟩ := List.mem_iff_getElem.1 ho
        exact HK.out j _ (by omega) (List.getElem?_eq_getElem hj)
end Go.Proofs.Yticljiffagobnaa

/- What the statements' call answers: the program's disk and the document's go on alike. -/
namespace Go.Proofs.Yticljiffagobnaa
open Go.RowKit Nums
set_option linter.unusedVariables false
set_option linter.unusedSimpArgs false
set_option maxRecDepth 100000
variable {At : World → Nat → DkT → (Nat → Prop) → Prop}
/-- What a call makes of a disk. -/
def opD (D : DkT) (o : OpT) : DkT := if o.k = 1 then writeD D o.at_ o.bs else if o.k = 2 then syncD D else if o.k = 4 then stopD D o.n else if o.k = 5 then crashD D o.at_ o.n else D
/-- Bytes that may be written, one after the other. -/
structure Fill (g off len : Nat) (W : World) : Prop where
  cell : ∀ i, i < len → ∃ v, W.cell? ⟨g, off + i, none⟩ = some v
  free : ∀ i, i < len → W.frozen? ⟨g, off + i, none⟩ = false
theorem Fill.set {g off len : Nat} {W : World} (h : Fill g off len W) (i : Nat) (hi : i < len) (v : Value) : Fill g off len (W.setCell ⟨g, off + i, none⟩ v) := by
  refine ⟨fun j hj => ?_, fun j hj => ?_⟩
  · by_cases e : j = i
    · subst e
      obtain ⟨u, hu⟩ := h.cell j hj
      exact ⟨v, World.cell?_setCell_same _ _ _ hu⟩
    · obtain ⟨u, hu⟩ := h.cell j hj
      have hne : (⟨g, off + i, none⟩ : Addr) ≠ ⟨g, off + j, none⟩ := by intro h2; injection h2 with _ h3; omega
      exact ⟨u, (World.cell?_setCell_other (w := W) (v := v) (h := hne)).trans hu⟩
  · have := h.free j hj
    simpa using this
theorem orow {W : World} {g : Nat} {k a n : Int} {s : Value} (h : W.heap[g]? = some (.cells #[.int .i64 k, .int .i64 a, .int .i64 n, s] 36 (0, 0))) : W.cell? ⟨g, 0, none⟩ = some (.int .i64 k) ∧ W.cell? ⟨g, 1, none⟩ = some (.int .i64 a) ∧ W.cell? ⟨g, 2, none⟩ = some (.int .i64 n) ∧ W.cell? ⟨g, 3, none⟩ = some s :=
  ⟨by rw [cell_of_row W g 0 _ _ (0, 0) h]; rfl, by rw [cell_of_row W g 1 _ _ (0, 0) h]; rfl, by rw [cell_of_row W g 2 _ _ (0, 0) h]; rfl, by rw [cell_of_row W g 3 _ _ (0, 0) h]; rfl⟩
theorem Two.drew {w W : World} {pd pm : Nat} {D M : DkT} {K : Nat → Prop} (dk : DiskC At) (h : Two At w W pd pm D M K) : Two At w W.drew pd pm D M K := h.keepK dk (Below.refl _ _).drew
theorem refStopS_any (w : World) (p : Nat) (D : DkT) (S : Nat → Prop) (h : MAt w p D S) (n : Int) :
    Calls Try.prog 27 #[.pointer (some ⟨p, 0, none⟩), .int .i64 n] w fun e w' => e = .returned (.int .i64 (stopE D n)) ∧ (∃ S', MAt w' p (stopD D n) S' ∧ ∀ b, S' b → S b ∨ w.heap.size ≤ b) ∧ Away S w w' := by
  obtain ⟨ok, v, hr, hSv⟩ := h
  refine (refStop_any w p D v hr n).mono ?_
  rintro e w' ⟨rfl, hm, hg⟩
  exact ⟨rfl, MAt.mk' (w := w) hSv (stopD_ok ok n) hm (.inr (.inl rfl)), away_grown hg ((hSv p).2 (.inl rfl))⟩
set_option maxHeartbeats 8000000 in
theorem call_2 (dk : DiskC At) (w W : World) (pd pm : Nat) (D : DkT) (K : Nat → Prop) (h : Two At w W pd pm D D K) (hK : ∀ b, b < w.heap.size → K b) (hp : D.puts.length ≤ 1000) (o : OpT) (ho : InO w o) (hk : o.k = 2) :
    Calls Try.prog 14 #[.pointer (some ⟨pd, 0, none⟩), .pointer (some ⟨pm, 0, none⟩), .agg #[.int .i64 o.k, .int .i64 o.at_, .int .i64 o.n, .slice o.a o.len o.cap]] W fun e w' => e = .returned (.bool true) ∧ Two At w w' pd pm (opD D o) (opD D o) K := by
  have DK : Hid (DiskC At) := dk
  obtain ⟨k, at_, n, a, len, cap, bs⟩ := o
  simp only at hk
  have hat := ho.at_
  have hn := ho.n
  have hrd := ho.rd
  simp only at hat hn hrd
  have HT0 := hidd (h.keep dk ((Below.refl W.heap.size W).alloc (Nat.le_refl _) (.cells #[.int .i64 k, .int .i64 at_, .int .i64 n, .slice a len cap] 36)))
  have HO0 := hidd (heap_alloc_new W (.cells #[.int .i64 k, .int .i64 at_, .int .i64 n, .slice a len cap] 36))
  have hsz : (W.alloc (.cells #[.int .i64 k, .int .i64 at_, .int .i64 n, .slice a len cap] 36)).heap.size = W.heap.size + 1 := by simp
  rw [hsz] at HT0
  obtain ⟨K1, HK1⟩ : ∃ K1, Hid (K1 = fun b => K b ∨ W.heap.size ≤ b ∧ b < W.heap.size + 1) := ⟨_, hidd rfl⟩
  rw [← HK1.out] at HT0
  have HKo : Hid (K1 W.heap.size) := by rw [HK1.out]; exact .inr ⟨Nat.le_refl _, Nat.lt_succ_self _⟩
  have HKs : Hid (∀ b, K b → K1 b) := fun b e => by rw [HK1.out]; exact .inl e
  have HKw : Hid (∀ b, b < w.heap.size → K1 b) := fun b e => HKs.out b (hK b e)
  have HRD := hidd hrd
  have hbw := h.below.size
  simp only [opD]
  subst hk
  rw [if_neg (by omega), if_pos rfl]
  obtain ⟨c0, c1, c2, c3⟩ := orow HO0.out
  obtain ⟨E, HE⟩ : ∃ E, Hid (E = syncE D) := ⟨_, hidd rfl⟩
  have P1 : Hid (∀ V, Two At w V pd pm D D K1 → Calls Try.prog 19 #[.pointer (some ⟨pd, 0, none⟩)] V fun e w' => e = .returned (.int .i64 E) ∧ Two At w w' pd pm (syncD D) D K1 ∧ Kept9 K1 V w') := fun V hV => hV.prog DK.out (Q := fun e => e = .returned (.int .i64 E)) fun K' hl _ => lv_sync DK.out hl (syncD D) rfl E HE.out
  have R1 : Hid (∀ V, Two At w V pd pm (syncD D) D K1 → Calls Try.prog 25 #[.pointer (some ⟨pm, 0, none⟩)] V fun e w' => e = .returned (.int .i64 E) ∧ Two At w w' pd pm (syncD D) (syncD D) K1 ∧ Kept9 K1 V w') := fun V hV => hV.ref DK.out (Q := fun e => e = .returned (.int .i64 E)) fun Sm hm _ => by rw [HE.out]; exact refSync_any V pm D Sm hm
  clear h ho hK hat hn hrd DK dk HE hsz c1 c2 c3
  go_enter Try.func14, Try.ntmps14
  go_wp2_with fail
  refine (P1.out _ HT0.out).mono ?_
  rintro e w1 ⟨rfl, ht, _⟩
  have HT1 := hidd ht
  clear ht P1 HT0
  go_wp2_with fail
  refine (R1.out _ HT1.out).mono ?_
  rintro e w2 ⟨rfl, ht, _⟩
  have HT2 := hidd (ht.sub HKs.out)
  clear ht R1 HT1
  go_wp2
  go_ret
  exact ⟨by simp, HT2.out⟩
set_option maxHeartbeats 8000000 in
theorem call_0 (dk : DiskC At) (w W : World) (pd pm : Nat) (D : DkT) (K : Nat → Prop) (h : Two At w W pd pm D D K) (hK : ∀ b, b < w.heap.size → K b) (hp : D.puts.length ≤ 1000) (o : OpT) (ho : InO w o) (hk : ¬ o.k = 1 ∧ ¬ o.k = 2 ∧ ¬ o.k = 3 ∧ ¬ o.k = 4 ∧ ¬ o.k = 5) :
    Calls Try.prog 14 #[.pointer (some ⟨pd, 0, none⟩), .pointer (some ⟨pm, 0, none⟩), .agg #[.int .i64 o.k, .int .i64 o.at_, .int .i64 o.n, .slice o.a o.len o.cap]] W fun e w' => e = .returned (.bool true) ∧ Two At w w' pd pm (opD D o) (opD D o) K := by
  have DK : Hid (DiskC At) := dk
  obtain ⟨k, at_, n, a, len, cap, bs⟩ := o
  simp only at hk
  have hat := ho.at_
  have hn := ho.n
  have hrd := ho.rd
  simp only at hat hn hrd
  have HT0 := hidd (h.keep dk ((Below.refl W.heap.size W).alloc (Nat.le_refl _) (.cells #[.int .i64 k, .int .i64 at_, .int .i64 n, .slice a len cap] 36)))
  have HO0 := hidd (heap_alloc_new W (.cells #[.int .i64 k, .int .i64 at_, .int .i64 n, .slice a len cap] 36))
  have hsz : (W.alloc (.cells #[.int .i64 k, .int .i64 at_, .int .i64 n, .slice a len cap] 36)).heap.size = W.heap.size + 1 := by simp
  rw [hsz] at HT0
  obtain ⟨K1, HK1⟩ : ∃ K1, Hid (K1 = fun b => K b ∨ W.heap.size ≤ b ∧ b < W.heap.size + 1) := ⟨_, hidd rfl⟩
  rw [← HK1.out] at HT0
  have HKo : Hid (K1 W.heap.size) := by rw [HK1.out]; exact .inr ⟨Nat.le_refl _, Nat.lt_succ_self _⟩
  have HKs : Hid (∀ b, K b → K1 b) := fun b e => by rw [HK1.out]; exact .inl e
  have HKw : Hid (∀ b, b < w.heap.size → K1 b) := fun b e => HKs.out b (hK b e)
  have HRD := hidd hrd
  have hbw := h.below.size
  simp only [opD]
  obtain ⟨h1, h2, h3, h4, h5⟩ := hk
  rw [if_neg h1, if_neg h2, if_neg h4, if_neg h5]
  obtain ⟨c0, c1, c2, c3⟩ := orow HO0.out
  have q1 : (k == 1) = false := by rw [beq_eq_false_iff_ne]; exact h1
  have q2 : (k == 2) = false := by rw [beq_eq_false_iff_ne]; exact h2
  have q3 : (k == 3) = false := by rw [beq_eq_false_iff_ne]; exact h3
  have q4 : (k == 4) = false := by rw [beq_eq_false_iff_ne]; exact h4
  have q5 : (k == 5) = false := by rw [beq_eq_false_iff_ne]; exact h5
  have HT1 := hidd (HT0.out.sub HKs.out)
  clear h ho hK hat hn hrd DK dk hsz c1 c2 c3 HT0
  go_enter Try.func14, Try.ntmps14
  go_wp2
  go_ret
  exact ⟨rfl, HT1.out⟩
set_option maxHeartbeats 8000000 in
theorem call_5 (dk : DiskC At) (w W : World) (pd pm : Nat) (D : DkT) (K : Nat → Prop) (h : Two At w W pd pm D D K) (hK : ∀ b, b < w.heap.size → K b) (hp : D.puts.length ≤ 1000) (o : OpT) (ho : InO w o) (hk : o.k = 5) :
    Calls Try.prog 14 #[.pointer (some ⟨pd, 0, none⟩), .pointer (some ⟨pm, 0, none⟩), .agg #[.int .i64 o.k, .int .i64 o.at_, .int .i64 o.n, .slice o.a o.len o.cap]] W fun e w' => e = .returned (.bool true) ∧ Two At w w' pd pm (opD D o) (opD D o) K := by
  have DK : Hid (DiskC At) := dk
  obtain ⟨k, at_, n, a, len, cap, bs⟩ := o
  simp only at hk
  have hat := ho.at_
  have hn := ho.n
  have hrd := ho.rd
  simp only at hat hn hrd
  have HT0 := hidd (h.keep dk ((Below.refl W.heap.size W).alloc (Nat.le_refl _) (.cells #[.int .i64 k, .int .i64 at_, .int .i64 n, .slice a len cap] 36)))
  have HO0 := hidd (heap_alloc_new W (.cells #[.int .i64 k, .int .i64 at_, .int .i64 n, .slice a len cap] 36))
  have hsz : (W.alloc (.cells #[.int .i64 k, .int .i64 at_, .int .i64 n, .slice a len cap] 36)).heap.size = W.heap.size + 1 := by simp
  rw [hsz] at HT0
  obtain ⟨K1, HK1⟩ : ∃ K1, Hid (K1 = fun b => K b ∨ W.heap.size ≤ b ∧ b < W.heap.size + 1) := ⟨_, hidd rfl⟩
  rw [← HK1.out] at HT0
  have HKo : Hid (K1 W.heap.size) := by rw [HK1.out]; exact .inr ⟨Nat.le_refl _, Nat.lt_succ_self _⟩
  have HKs : Hid (∀ b, K b → K1 b) := fun b e => by rw [HK1.out]; exact .inl e
  have HKw : Hid (∀ b, b < w.heap.size → K1 b) := fun b e => HKs.out b (hK b e)
  have HRD := hidd hrd
  have hbw := h.below.size
  simp only [opD]
  subst hk
  rw [if_neg (by omega), if_neg (by omega), if_neg (by omega), if_pos rfl]
  obtain ⟨c0, c1, c2, c3⟩ := orow HO0.out
  have P1 : Hid (∀ V, Two At w V pd pm D (crashD D at_ n) K1 → Calls Try.prog 20 #[.pointer (some ⟨pd, 0, none⟩), .int .i64 at_, .int .i64 n] V fun e w' => e = .returned (.int .i64 0) ∧ Two At w w' pd pm (crashD D at_ n) (crashD D at_ n) K1 ∧ Kept9 K1 V w') := fun V hV => hV.prog DK.out (Q := fun e => e = .returned (.int .i64 0)) fun K' hl _ => lv_crash DK.out hl (by omega) at_ n hat hn (crashD D at_ n) rfl
  have R1 : Hid (∀ V, Two At w V pd pm D D K1 → Calls Try.prog 28 #[.pointer (some ⟨pm, 0, none⟩), .int .i64 at_, .int .i64 n] V fun e w' => e = .returned (.tuple #[]) ∧ Two At w w' pd pm D (crashD D at_ n) K1 ∧ Kept9 K1 V w') := fun V hV => hV.ref DK.out (Q := fun e => e = .returned (.tuple #[])) fun Sm hm _ => refCrash_any V pm D Sm hm at_ n hat hn
  clear h ho hK hat hn hrd DK dk hsz c3
  go_enter Try.func14, Try.ntmps14
  go_wp2_with fail
  refine (R1.out _ HT0.out).mono ?_
  rintro e w1 ⟨rfl, ht, hk⟩
  have HT1 := hidd ht
  obtain ⟨d0, d1, d2, d3⟩ := orow (hk.row HKo.out HO0.out)
  clear ht R1 HT0 hk d0 d3
  go_wp2_with fail
  refine (P1.out _ HT1.out).mono ?_
  rintro e w2 ⟨rfl, ht, _⟩
  have HT2 := hidd (ht.sub HKs.out)
  clear ht P1 HT1
  go_wp2
  go_ret
  exact ⟨rfl, HT2.out⟩
set_option maxHeartbeats 8000000 in
theorem call_4 (dk : DiskC At) (w W : World) (pd pm : Nat) (D : DkT) (K : Nat → Prop) (h : Two At w W pd pm D D K) (hK : ∀ b, b < w.heap.size → K b) (hp : D.puts.length ≤ 1000) (o : OpT) (ho : InO w o) (hk : o.k = 4) :
    Calls Try.prog 14 #[.pointer (some ⟨pd, 0, none⟩), .pointer (some ⟨pm, 0, none⟩), .agg #[.int .i64 o.k, .int .i64 o.at_, .int .i64 o.n, .slice o.a o.len o.cap]] W fun e w' => e = .returned (.bool true) ∧ Two At w w' pd pm (opD D o) (opD D o) K := by
  have DK : Hid (DiskC At) := dk
  obtain ⟨k, at_, n, a, len, cap, bs⟩ := o
  simp only at hk
  have hat := ho.at_
  have hn := ho.n
  have hrd := ho.rd
  simp only at hat hn hrd
  have HT0 := hidd (h.keep dk ((Below.refl W.heap.size W).alloc (Nat.le_refl _) (.cells #[.int .i64 k, .int .i64 at_, .int .i64 n, .slice a len cap] 36)))
  have HO0 := hidd (heap_alloc_new W (.cells #[.int .i64 k, .int .i64 at_, .int .i64 n, .slice a len cap] 36))
  have hsz : (W.alloc (.cells #[.int .i64 k, .int .i64 at_, .int .i64 n, .slice a len cap] 36)).heap.size = W.heap.size + 1 := by simp
  rw [hsz] at HT0
  obtain ⟨K1, HK1⟩ : ∃ K1, Hid (K1 = fun b => K b ∨ W.heap.size ≤ b ∧ b < W.heap.size + 1) := ⟨_, hidd rfl⟩
  rw [← HK1.out] at HT0
  have HKo : Hid (K1 W.heap.size) := by rw [HK1.out]; exact .inr ⟨Nat.le_refl _, Nat.lt_succ_self _⟩
  have HKs : Hid (∀ b, K b → K1 b) := fun b e => by rw [HK1.out]; exact .inl e
  have HKw : Hid (∀ b, b < w.heap.size → K1 b) := fun b e => HKs.out b (hK b e)
  have HRD := hidd hrd
  have hbw := h.below.size
  simp only [opD]
  subst hk
  rw [if_neg (by omega), if_neg (by omega), if_pos rfl]
  obtain ⟨c0, c1, c2, c3⟩ := orow HO0.out
  obtain ⟨E, HE⟩ : ∃ E, Hid (E = stopE D n) := ⟨_, hidd rfl⟩
  have P1 : Hid (∀ V, Two At w V pd pm D D K1 → Calls Try.prog 21 #[.pointer (some ⟨pd, 0, none⟩), .int .i64 n] V fun e w' => e = .returned (.int .i64 E) ∧ Two At w w' pd pm (stopD D n) D K1 ∧ Kept9 K1 V w') := fun V hV => hV.prog DK.out (Q := fun e => e = .returned (.int .i64 E)) fun K' hl _ => lv_stop DK.out hl n hn (stopD D n) rfl E HE.out
  have R1 : Hid (∀ V, Two At w V pd pm (stopD D n) D K1 → Calls Try.prog 27 #[.pointer (some ⟨pm, 0, none⟩), .int .i64 n] V fun e w' => e = .returned (.int .i64 E) ∧ Two At w w' pd pm (stopD D n) (stopD D n) K1 ∧ Kept9 K1 V w') := fun V hV => hV.ref DK.out (Q := fun e => e = .returned (.int .i64 E)) fun Sm hm _ => by
    rw [HE.out]
    exact refStopS_any V pm D Sm hm n
  have HT0d := hidd (HT0.out.drew DK.out)
  clear h ho hK hat hn hrd DK dk hsz c1 c3 HE
  go_enter Try.func14, Try.ntmps14
  go_wp2
  refine wp_region_held_drew (S := (fun V => V.heap[W.heap.size]? = some (.cells #[.int .i64 4, .int .i64 at_, .int .i64 n, .slice a len cap] 36 (0, 0)))) (by kernel_rfl) HO0.out (fun hHeld => ?_)
  refine wpAnyH_take (i := 0) (oi := { dst := some 101, op := Op.move (Operand.tmp 0), type := 24, pos := "law.go:71", after := #[], guard := none }) (v := .pointer (some ⟨pd, 0, none⟩)) rfl (by kernel_rfl) (by kernel_rfl) (by kernel_rfl) (fun _ _ _ h => h) (Or.inl ⟨by rfl, by intro W hSw; go_simp⟩) hHeld ?_
  try simp only [Act.put, List.setIfInBounds_toArray, List.set_cons_zero, List.set_cons_succ]
  refine wpAnyH_take (i := 1) (oi := { dst := some 102, op := Op.fieldAddr 36 (Operand.tmp 5) 2, type := 0, pos := "law.go:71", after := #[], guard := none }) (v := .pointer (some ⟨W.heap.size, 2, none⟩)) rfl (by kernel_rfl) (by kernel_rfl) (by kernel_rfl) (fun _ _ _ h => h) (Or.inl ⟨by rfl, by intro W hSw; go_simp⟩) hHeld ?_
  try simp only [Act.put, List.setIfInBounds_toArray, List.set_cons_zero, List.set_cons_succ]
  refine wpAnyH_take (i := 2) (oi := { dst := some 103, op := Op.load 3 (Operand.tmp 102), type := 3, pos := "law.go:71", after := #[{ on := 1, ground := Ground.data }], guard := none }) (v := .int .i64 n) rfl (by kernel_rfl) (by kernel_rfl) (by kernel_rfl) (fun _ _ _ h => h) (Or.inl ⟨by rfl, by intro V hSw; have h1 := (orow hSw).2.2.1; go_simp⟩) hHeld ?_
  try simp only [Act.put, List.setIfInBounds_toArray, List.set_cons_zero, List.set_cons_succ]
  refine wpAnyH_take (i := 4) (oi := { dst := some 105, op := Op.move (Operand.tmp 1), type := 30, pos := "law.go:71", after := #[], guard := none }) (v := .pointer (some ⟨pm, 0, none⟩)) rfl (by kernel_rfl) (by kernel_rfl) (by kernel_rfl) (fun _ _ _ h => h) (Or.inl ⟨by rfl, by intro W hSw; go_simp⟩) hHeld ?_
  try simp only [Act.put, List.setIfInBounds_toArray, List.set_cons_zero, List.set_cons_succ]
  refine wpAnyH_take (i := 5) (oi := { dst := some 106, op := Op.fieldAddr 36 (Operand.tmp 5) 2, type := 0, pos := "law.go:71", after := #[], guard := none }) (v := .pointer (some ⟨W.heap.size, 2, none⟩)) rfl (by kernel_rfl) (by kernel_rfl) (by kernel_rfl) (fun _ _ _ h => h) (Or.inl ⟨by rfl, by intro W hSw; go_simp⟩) hHeld ?_
  try simp only [Act.put, List.setIfInBounds_toArray, List.set_cons_zero, List.set_cons_succ]
  refine wpAnyH_take (i := 6) (oi := { dst := some 107, op := Op.load 3 (Operand.tmp 106), type := 3, pos := "law.go:71", after := #[{ on := 5, ground := Ground.data }], guard := none }) (v := .int .i64 n) rfl (by kernel_rfl) (by kernel_rfl) (by kernel_rfl) (fun _ _ _ h => h) (Or.inl ⟨by rfl, by intro V hSw; have h1 := (orow hSw).2.2.1; go_simp⟩) hHeld ?_
  try simp only [Act.put, List.setIfInBounds_toArray, List.set_cons_zero, List.set_cons_succ]
  refine wpAnyH_ready (rs := [3]) (by kernel_rfl) (by simp) ?_
  refine (AllReadyH.cons (o := { dst := some 104, op := Op.call { callee := Callee.value (Operand.func 21), args := #[Operand.tmp 101, Operand.tmp 103], argTypes := #[24, 3] }, type := 25, pos := "law.go:71", after := #[{ on := 0, ground := Ground.data }, { on := 2, ground := Ground.data }], guard := none }) rfl (fun K hK => ?_) AllReadyH.nil)
  go_simp
  refine (P1.out _ (HT0d.out)).mono ?_
  rintro e w3 ⟨rfl, ht, hkk⟩
  have HT1 := hidd ht
  go_wp2_with fail
  refine hK.out _ _ (hkk.row HKo.out hHeld) (fun hHeld => ?_)
  clear hK K
  try simp only [Act.put, List.setIfInBounds_toArray, List.set_cons_zero, List.set_cons_succ]
  refine wpAnyH_ready (rs := [7]) (by kernel_rfl) (by simp) ?_
  refine (AllReadyH.cons (o := { dst := some 108, op := Op.call { callee := Callee.value (Operand.func 27), args := #[Operand.tmp 105, Operand.tmp 107], argTypes := #[30, 3] }, type := 25, pos := "law.go:71", after := #[{ on := 4, ground := Ground.data }, { on := 6, ground := Ground.data }, { on := 3, ground := Ground.chain }], guard := none }) rfl (fun K hK => ?_) AllReadyH.nil)
  go_simp
  refine (R1.out _ HT1.out).mono ?_
  rintro e w7 ⟨rfl, ht, hkk⟩
  have HT2 := hidd (ht.sub HKs.out)
  go_wp2_with fail
  refine hK.out _ _ (hkk.row HKo.out hHeld) (fun hHeld => ?_)
  clear hK K
  try simp only [Act.put, List.setIfInBounds_toArray, List.set_cons_zero, List.set_cons_succ]
  refine wpAnyH_take (i := 8) (oi := { dst := some 109, op := Op.binOp BinOp.eql 25 (Operand.tmp 104) (Operand.tmp 108) 25, type := 4, pos := "law.go:71", after := #[{ on := 3, ground := Ground.data }, { on := 7, ground := Ground.data }], guard := none }) (v := .bool true) rfl (by kernel_rfl) (by kernel_rfl) (by kernel_rfl) (fun _ _ _ h => h) (Or.inl ⟨by rfl, by intro V hSw; go_simp⟩) hHeld ?_
  try simp only [Act.put, List.setIfInBounds_toArray, List.set_cons_zero, List.set_cons_succ]
  refine wpAnyH_take (i := 9) (oi := { dst := some 6, op := Op.assign (Operand.tmp 109), type := 4, pos := "law.go:71", after := #[{ on := 8, ground := Ground.data }, { on := 7, ground := Ground.chain }, { on := 0, ground := Ground.phase }, { on := 1, ground := Ground.phase }, { on := 2, ground := Ground.phase }, { on := 3, ground := Ground.phase }, { on := 4, ground := Ground.phase }, { on := 5, ground := Ground.phase }, { on := 6, ground := Ground.phase }, { on := 7, ground := Ground.phase }, { on := 8, ground := Ground.phase }], guard := none }) (v := .bool true) rfl (by kernel_rfl) (by kernel_rfl) (by kernel_rfl) (fun _ _ _ h => h) (Or.inl ⟨by rfl, by intro W hSw; go_simp⟩) hHeld ?_
  try simp only [Act.put, List.setIfInBounds_toArray, List.set_cons_zero, List.set_cons_succ]
  refine wpAnyH_done (by kernel_rfl) ?_ _
  go_wp2
  go_ret
  exact ⟨by simp, HT2.out⟩
set_option maxHeartbeats 8000000 in
theorem call_1 (dk : DiskC At) (w W : World) (pd pm : Nat) (D : DkT) (K : Nat → Prop) (h : Two At w W pd pm D D K) (hK : ∀ b, b < w.heap.size → K b) (hp : D.puts.length ≤ 1000) (o : OpT) (ho : InO w o) (hk : o.k = 1) (hl : o.len ≤ 300) :
    Calls Try.prog 14 #[.pointer (some ⟨pd, 0, none⟩), .pointer (some ⟨pm, 0, none⟩), .agg #[.int .i64 o.k, .int .i64 o.at_, .int .i64 o.n, .slice o.a o.len o.cap]] W fun e w' => e = .returned (.bool true) ∧ Two At w w' pd pm (opD D o) (opD D o) K := by
  have DK : Hid (DiskC At) := dk
  obtain ⟨k, at_, n, a, len, cap, bs⟩ := o
  simp only at hk
  have hat := ho.at_
  have hn := ho.n
  have hrd := ho.rd
  simp only at hat hn hrd
  have HT0 := hidd (h.keep dk ((Below.refl W.heap.size W).alloc (Nat.le_refl _) (.cells #[.int .i64 k, .int .i64 at_, .int .i64 n, .slice a len cap] 36)))
  have HO0 := hidd (heap_alloc_new W (.cells #[.int .i64 k, .int .i64 at_, .int .i64 n, .slice a len cap] 36))
  have hsz : (W.alloc (.cells #[.int .i64 k, .int .i64 at_, .int .i64 n, .slice a len cap] 36)).heap.size = W.heap.size + 1 := by simp
  rw [hsz] at HT0
  obtain ⟨K1, HK1⟩ : ∃ K1, Hid (K1 = fun b => K b ∨ W.heap.size ≤ b ∧ b < W.heap.size + 1) := ⟨_, hidd rfl⟩
  rw [← HK1.out] at HT0
  have HKo : Hid (K1 W.heap.size) := by rw [HK1.out]; exact .inr ⟨Nat.le_refl _, Nat.lt_succ_self _⟩
  have HKs : Hid (∀ b, K b → K1 b) := fun b e => by rw [HK1.out]; exact .inl e
  have HKw : Hid (∀ b, b < w.heap.size → K1 b) := fun b e => HKs.out b (hK b e)
  have HRD := hidd hrd
  have hbw := h.below.size
  simp only [opD]
  subst hk
  rw [if_pos rfl]
  simp only at hl
  have hbl : bs.length = len := hrd.1
  obtain ⟨c0, c1, c2, c3⟩ := orow HO0.out
  obtain ⟨E, HE⟩ : ∃ E, Hid (E = writeE D at_ bs) := ⟨_, hidd rfl⟩
  have L1 : Hid (∀ V, Below w.heap.size w V → Calls Try.prog 22 #[.slice a len cap] V fun e w' => ∃ g c, e = .returned (.slice (some ⟨g, 0, none⟩) len c) ∧ V.heap.size ≤ g ∧ g < w'.heap.size ∧ Reads w' (some ⟨g, 0, none⟩) (len + 7) c (bs ++ marks 7) ∧ Fill g 0 len w' ∧ Below V.heap.size V w') := fun V hb => by
    refine (lent_any a len cap bs V (HRD.out.below hb) (by omega)).mono ?_
    rintro e w' ⟨g, c, he, hg, hc, hm, hown, hb'⟩
    have hlm : (bs ++ marks 7).length = len + 7 := by rw [List.length_append, hbl]; rfl
    rw [← hlm] at hown
    obtain ⟨a2, c2, e2, hr2⟩ := reads_own hown
    cases e2
    obtain ⟨g', cap', cur, e3, _, hgr, hnc, hcm, hcs, htk⟩ : ∃ g' cap' cur, (Value.slice (some ⟨g, 0, none⟩) (bs ++ marks 7).length c) = .slice (some ⟨g', 0, none⟩) (bs ++ marks 7).length cap' ∧ V.heap.size ≤ g' ∧ w'.heap[g']? = some (.cells cur 5 (0, 0)) ∧ (bs ++ marks 7).length ≤ cap' ∧ cap' ≤ maxLen ∧ cur.size = cap' * 1 ∧ cur.toList.take ((bs ++ marks 7).length * 1) = cellsOf (bs ++ marks 7) := by
      rcases hown.2 with ⟨h0, _⟩ | ⟨g', cap', cur, e3, h4, h5, h6, h7, h8, h9⟩
      · cases h0
      · exact ⟨g', cap', cur, e3, h4, h5, h6, h7, h8, h9⟩
    cases e3
    refine ⟨g, c, he, hg, heap_lt hgr, by rw [← hlm]; exact hr2, ⟨fun i hi => ?_, fun i hi => frozen_of_row w' g (0 + i) _ _ hgr⟩, hb'⟩
    rw [cell_of_row w' g (0 + i) cur 5 (0, 0) hgr]
    exact ⟨cur[0 + i]'(by omega), Array.getElem?_eq_getElem _⟩
  have P1 : Hid (∀ V g c (K2 : Nat → Prop), Two At w V pd pm D D K2 → K2 g → Reads V (some ⟨g, 0, none⟩) len c bs → Calls Try.prog 18 #[.pointer (some ⟨pd, 0, none⟩), .int .i64 at_, .slice (some ⟨g, 0, none⟩) len c] V fun e w' => e = .returned (.int .i64 E) ∧ Two At w w' pd pm (writeD D at_ bs) D K2 ∧ Kept9 K2 V w') := fun V g c K2 hV hg hr => hV.prog DK.out (Q := fun e => e = .returned (.int .i64 E)) fun K' hl2 hsub => lv_write DK.out hl2 (by omega) at_ hat _ len c bs hr (by omega) (fun b off e _ => by cases e; exact hsub _ hg) (writeD D at_ bs) rfl E HE.out
  have R1 : Hid (∀ V (K2 : Nat → Prop), Two At w V pd pm (writeD D at_ bs) D K2 → (∀ b, b < w.heap.size → K2 b) → Calls Try.prog 24 #[.pointer (some ⟨pm, 0, none⟩), .int .i64 at_, .slice a len cap] V fun e w' => e = .returned (.int .i64 E) ∧ Two At w w' pd pm (writeD D at_ bs) (writeD D at_ bs) K2 ∧ Kept9 K2 V w') := fun V K2 hV hw2 => hV.ref DK.out (Q := fun e => e = .returned (.int .i64 E)) fun Sm hm hks => by
    rw [HE.out]
    refine refWrite_any V pm D Sm hm (by omega) at_ hat a len cap bs (HRD.out.below hV.below) (by omega) fun b off e h0 hs => ?_
    rcases HRD.out.2.2.2 with ⟨e2, _⟩ | ⟨ad, e2, h2⟩ | ⟨b', off', e2, hlt, _⟩
    · rw [e2] at e; cases e
    · omega
    · rw [e2] at e; cases e; exact hks _ (hw2 _ hlt) hs
  have Q1 : Hid (∀ V g c, Reads V (some ⟨g, 0, none⟩) (len + 7) c (bs ++ marks 7) → Below w.heap.size w V → Calls Try.prog 23 #[.slice (some ⟨g, 0, none⟩) len c, .slice a len cap] V fun e w' => e = .returned (.bool true) ∧ V = w') := fun V g c hr hb => kept_any g c a len cap bs V hr (HRD.out.below hb) (by omega)
  have KN : Hid (∀ V V', Two At w V pd pm D D K1 → Below V.heap.size V V' → Two At w V' pd pm D D (fun b => K1 b ∨ (V.heap.size ≤ b ∧ b < V'.heap.size))) := fun V V' hV hb => hV.keep DK.out hb
  have OT : Hid (∀ V V' g K2, Two At w V pd pm (writeD D at_ bs) D K2 → K2 g → w.heap.size ≤ g → V.grownBy V' (some g) → Two At w V' pd pm (writeD D at_ bs) D K2) := fun V V' g K2 hV h1 h2 h3 => hV.other DK.out g h1 h2 h3
  have FR : Hid (∀ V g c, Reads V (some ⟨g, 0, none⟩) (len + 7) c (bs ++ marks 7) → Reads V (some ⟨g, 0, none⟩) len c bs) := fun V g c hr => reads_front hr hbl
  have hz5 : ∀ w, (sizeOf 5).run Try.prog w = .ok 1 w := fun w => by
    have h : (Try.prog.info? 5).map (·.size) = some 1 := by kernel_rfl
    cases hq : Try.prog.info? 5 with
    | none => rw [hq] at h; cases h
    | some i =>
      rw [hq] at h
      simp only [Option.map_some, Option.some.injEq] at h
      simp [sizeOf, typeInfo, hq, h]
  clear h ho hK hat hn hrd DK dk HE hsz c1 c2 HRD hp hbl
  go_enter Try.func14, Try.ntmps14
  go_wp2_with fail
  refine (L1.out _ HT0.out.below).mono ?_
  rintro e w1 ⟨g, c, rfl, hg, hg1, hr1, hf1, hb1⟩
  obtain ⟨K2, HK2⟩ : ∃ K2, Hid (K2 = fun b => K1 b ∨ ((W.alloc (.cells #[.int .i64 1, .int .i64 at_, .int .i64 n, .slice a len cap] 36)).heap.size ≤ b ∧ b < w1.heap.size)) := ⟨_, hidd rfl⟩
  have HT1 := hidd (KN.out _ _ HT0.out hb1)
  rw [← HK2.out] at HT1
  have HG2 : Hid (K2 g) := by rw [HK2.out]; exact .inr ⟨hg, hg1⟩
  have HO2 : Hid (K2 W.heap.size) := by rw [HK2.out]; exact .inl HKo.out
  have HS2 : Hid (∀ b, K1 b → K2 b) := fun b e => by rw [HK2.out]; exact .inl e
  have HGw : Hid (w.heap.size ≤ g) := Nat.le_trans hbw (Nat.le_trans (by simp) hg)
  have HGo : Hid (W.heap.size < g) := by have := hg; simp at this; exact this
  have HO1 := hidd ((hb1.block _ (by simp)).trans HO0.out)
  obtain ⟨d0, d1, d2, d3⟩ := orow HO1.out
  have HR1 := hidd hr1
  have HF1 := hidd hf1
  clear hg hg1 hr1 hf1 hb1 HT0 L1 KN HO0 c0 c3 HK2 d0 d2
  go_wp2_with fail
  refine (P1.out _ _ _ _ HT1.out HG2.out (FR.out _ _ _ HR1.out)).mono ?_
  rintro e w2 ⟨rfl, ht, hk⟩
  have HT2 := hidd ht
  have HR2 := hidd (hk.reads HR1.out fun b off e _ => by cases e; exact HG2.out)
  have HO3 := hidd (hk.row HO2.out HO1.out)
  have HF2 : Hid (Fill g 0 len w2) := ⟨fun i hi => by
      obtain ⟨v, hv⟩ := HF1.out.cell i hi
      exact ⟨v, (World.cell?_of_block (a := ⟨g, 0 + i, none⟩) (hk.block g (World.block_lt_of_cell? _ _ hv) (fun hn => hn HG2.out))).trans hv⟩, fun i hi => by
      obtain ⟨v, hv⟩ := HF1.out.cell i hi
      exact (World.frozen?_of_block (a := ⟨g, 0 + i, none⟩) (hk.block g (World.block_lt_of_cell? _ _ hv) (fun hn => hn HG2.out))).trans (HF1.out.free i hi)⟩
  obtain ⟨f0, f1, f2, f3⟩ := orow HO3.out
  clear ht hk P1 HT1 HR1 HF1 HO1 d1 d3 f0 f2
  go_wp2_with fail
  refine (Q1.out _ _ _ HR2.out HT2.out.below).mono ?_
  rintro e w3 ⟨rfl, rfl⟩
  clear Q1 HR2 FR f1 f3
  go_wp2
  go_loopw [10] (fun v wr => ∃ i : Nat, i ≤ len ∧ v = .int .i64 i ∧ Hid (Two At w wr pd pm (writeD D at_ bs) D K2 ∧ Fill g 0 len wr ∧ wr.heap[W.heap.size]? = some (.cells #[.int .i64 1, .int .i64 at_, .int .i64 n, .slice a len cap] 36 (0, 0)))) (fun v _ => len - (intOf v).toNat)
  case atStart => exact ⟨0, by omega, rfl, HT2.out, HF2.out, HO3.out⟩
  case round =>
    obtain ⟨i, hi, rfl, HI⟩ := hrel
    clear HT2 HF2 HO3
    by_cases hlt : i < len
    · have hdi : decide ((i : Int) < (len : Int)) = true := by rw [decide_eq_true_eq]; omega
      have hw := wrap_int ((i : Int) + 1) (by omega) (by omega)
      obtain ⟨v, hv⟩ := HI.out.2.1.cell i hlt
      have hf := HI.out.2.1.free i hlt
      rw [Nat.zero_add] at hv hf
      have hgo : g ≠ W.heap.size := by have := HGo.out; omega
      have HI2 : Hid (Two At w (wr.setCell ⟨g, i, none⟩ (.int .u8 85)) pd pm (writeD D at_ bs) D K2 ∧ Fill g 0 len (wr.setCell ⟨g, i, none⟩ (.int .u8 85)) ∧ (wr.setCell ⟨g, i, none⟩ (.int .u8 85)).heap[W.heap.size]? = some (.cells #[.int .i64 1, .int .i64 at_, .int .i64 n, .slice a len cap] 36 (0, 0))) := by
        refine ⟨OT.out _ _ _ _ HI.out.1 HG2.out HGw.out (Lib.grownBy_setCell wr g i (.int .u8 85)), ?_, ?_⟩
        · have := HI.out.2.1.set i hlt (.int .u8 85)
          rwa [Nat.zero_add] at this
        · rw [Below.heap_setCell wr ⟨g, i, none⟩ (.int .u8 85) W.heap.size (by show W.heap.size ≠ g; exact fun e => hgo e.symm)]; exact HI.out.2.2
      have ix : ∀ V, (Instr.indexAt 34 (.slice (some ⟨g, 0, none⟩) len c) (.int .i64 (i : Int))).run Try.prog V = .ok (.pointer (some ⟨g, i, none⟩)) V := fun V => by
        simp [Instr.indexAt, asIntOf, run_underlying Try.underlying34, hz5, hlt]
        rw [add_plain, Nat.zero_add]
      clear HI OT
      go_wp2
      go_roundw
      case rel => exact ⟨i + 1, by omega, by go_num, HI2⟩
      case measure => simp [intOf]; omega
    · obtain rfl : len = i := by omega
      have hdi : decide ((len : Int) < (len : Int)) = false := by rw [decide_eq_false_iff_not]; omega
      obtain ⟨f0, f1, f2, f3⟩ := orow HI.out.2.2
      have HT3 := hidd HI.out.1
      have HW2 : Hid (∀ b, b < w.heap.size → K2 b) := fun b e => HS2.out b (HKw.out b e)
      clear HI OT f0 f2
      go_wp2_with fail
      refine (R1.out _ _ HT3.out HW2.out).mono ?_
      rintro e w5 ⟨rfl, ht, _⟩
      have HT4 := hidd (ht.sub fun b e => HS2.out b (HKs.out b e))
      clear ht R1 HT3
      go_wp2
      go_ret
      exact ⟨by simp, HT4.out⟩
set_option maxHeartbeats 8000000 in
theorem call_3 (dk : DiskC At) (w W : World) (pd pm : Nat) (D : DkT) (K : Nat → Prop) (h : Two At w W pd pm D D K) (hK : ∀ b, b < w.heap.size → K b) (hp : D.puts.length ≤ 1000) (o : OpT) (ho : InO w o) (hk : o.k = 3) :
    Calls Try.prog 14 #[.pointer (some ⟨pd, 0, none⟩), .pointer (some ⟨pm, 0, none⟩), .agg #[.int .i64 o.k, .int .i64 o.at_, .int .i64 o.n, .slice o.a o.len o.cap]] W fun e w' => e = .returned (.bool true) ∧ Two At w w' pd pm (opD D o) (opD D o) K := by
  have DK : Hid (DiskC At) := dk
  obtain ⟨k, at_, n, a, len, cap, bs⟩ := o
  simp only at hk
  have hat := ho.at_
  have hn := ho.n
  have hrd := ho.rd
  simp only at hat hn hrd
  have HT0 := hidd (h.keep dk ((Below.refl W.heap.size W).alloc (Nat.le_refl _) (.cells #[.int .i64 k, .int .i64 at_, .int .i64 n, .slice a len cap] 36)))
  have HO0 := hidd (heap_alloc_new W (.cells #[.int .i64 k, .int .i64 at_, .int .i64 n, .slice a len cap] 36))
  have hsz : (W.alloc (.cells #[.int .i64 k, .int .i64 at_, .int .i64 n, .slice a len cap] 36)).heap.size = W.heap.size + 1 := by simp
  rw [hsz] at HT0
  obtain ⟨K1, HK1⟩ : ∃ K1, Hid (K1 = fun b => K b ∨ W.heap.size ≤ b ∧ b < W.heap.size + 1) := ⟨_, hidd rfl⟩
  rw [← HK1.out] at HT0
  have HKo : Hid (K1 W.heap.size) := by rw [HK1.out]; exact .inr ⟨Nat.le_refl _, Nat.lt_succ_self _⟩
  have HKs : Hid (∀ b, K b → K1 b) := fun b e => by rw [HK1.out]; exact .inl e
  have HKw : Hid (∀ b, b < w.heap.size → K1 b) := fun b e => HKs.out b (hK b e)
  have HRD := hidd hrd
  have hbw := h.below.size
  simp only [opD]
  subst hk
  rw [if_neg (by omega), if_neg (by omega), if_neg (by omega), if_neg (by omega)]
  obtain ⟨c0, c1, c2, c3⟩ := orow HO0.out
  obtain ⟨E, HE⟩ : ∃ E, Hid (E = rdE D at_ n) := ⟨_, hidd rfl⟩
  obtain ⟨l, Hl⟩ : ∃ l, Hid (l = rdB D at_ n) := ⟨_, hidd rfl⟩
  obtain ⟨T, HT⟩ : ∃ T, Hid (T = bD l) := ⟨_, hidd rfl⟩
  have P1 : Hid (∀ V, Two At w V pd pm D D K1 → Calls Try.prog 16 #[.pointer (some ⟨pd, 0, none⟩), .int .i64 at_, .int .i64 n] V fun e w' => ∃ ab cb, e = .returned (.tuple #[.slice ab l.length cb, .int .i64 E]) ∧ OutB V.heap.size w' ab cb l ∧ Two At w w' pd pm D D (fun b => K1 b ∨ (V.heap.size ≤ b ∧ b < w'.heap.size)) ∧ Below V.heap.size V w') := fun V hV => by
    refine (lv_read DK.out hV.lv at_ n hat hn l Hl.out E HE.out).mono ?_
    rintro e w' ⟨ab, cb, he, ho, _, hb⟩
    exact ⟨ab, cb, he, ho, hV.keep DK.out hb, hb⟩
  have R1 : Hid (∀ V (K2 : Nat → Prop), Two At w V pd pm D D K2 → Calls Try.prog 26 #[.pointer (some ⟨pm, 0, none⟩), .int .i64 at_, .int .i64 n] V fun e w' => e = .returned (.tuple #[.string T, .int .i64 E]) ∧ Two At w w' pd pm D D K2 ∧ Below V.heap.size V w') := fun V K2 hV => by
    obtain ⟨Sm, hm, _⟩ := hV.two
    obtain ⟨ok, v, hr, _⟩ := hm
    rw [HE.out]
    refine (refRead_any V pm D v hr ok at_ n hat hn T (by rw [HT.out, Hl.out]; exact hidd rfl)).mono ?_
    rintro e w' ⟨he, hb⟩
    exact ⟨he, hV.keepK DK.out hb, hb⟩
  have OT : Hid (∀ V V' g K2, Two At w V pd pm D D K2 → K2 g → w.heap.size ≤ g → V.grownBy V' (some g) → Two At w V' pd pm D D K2) := fun V V' g K2 hV h1 h2 h3 => hV.other DK.out g h1 h2 h3
  have CV : Hid (∀ V ab cb, Reads V ab l.length cb l → Sem.run Try.prog (convert 34 9 (.slice ab l.length cb)) V = .ok (.string T) V) := fun V ab cb hr => by rw [HT.out]; exact conv_reads hr
  obtain ⟨m, Hm⟩ : ∃ m, Hid (m = l.length) := ⟨_, hidd rfl⟩
  have hml : m ≤ 1000000 := by
    rw [Hm.out, Hl.out]
    unfold rdB
    split
    · have h1 := (h.okd DK.out).room.2
      have h2 := nowB_length (h.okd DK.out)
      rw [List.length_take, List.length_drop]
      omega
    · exact Nat.zero_le _
  rw [← Hm.out] at P1 CV
  have hz5 : ∀ w, (sizeOf 5).run Try.prog w = .ok 1 w := fun w => by
    have h : (Try.prog.info? 5).map (·.size) = some 1 := by kernel_rfl
    cases hq : Try.prog.info? 5 with
    | none => rw [hq] at h; cases h
    | some i =>
      rw [hq] at h
      simp only [Option.map_some, Option.some.injEq] at h
      simp [sizeOf, typeInfo, hq, h]
  have HBW := hidd hbw
  clear h ho hK hat hn hrd DK dk HE hsz c3 HRD hp Hl HT hbw
  go_enter Try.func14, Try.ntmps14
  go_wp2_with fail
  refine (P1.out _ HT0.out).mono ?_
  rintro e w1 ⟨ab, cb, rfl, ho1, ht, hb1⟩
  obtain ⟨K2, HK2⟩ : ∃ K2, Hid (K2 = fun b => K1 b ∨ ((W.alloc (.cells #[.int .i64 3, .int .i64 at_, .int .i64 n, .slice a len cap] 36)).heap.size ≤ b ∧ b < w1.heap.size)) := ⟨_, hidd rfl⟩
  rw [← HK2.out] at ht
  have HT1 := hidd ht
  have HOB := hidd ho1
  have HS2 : Hid (∀ b, K1 b → K2 b) := fun b e => by rw [HK2.out]; exact .inl e
  obtain ⟨d0, d1, d2, d3⟩ := orow ((hb1.block _ (by simp)).trans HO0.out)
  have HBB : Hid (∀ b off, ab = some ⟨b, off, none⟩ → 0 < m → K2 b ∧ w.heap.size ≤ b) := fun b off e h0 => by
    have := HOB.out.blk b off e (by rw [← Hm.out]; exact h0)
    rw [HK2.out]
    exact ⟨.inr this, by have h1 := this.1; have h2 := HBW.out; simp at h1; omega⟩
  have HFL : Hid (m = 0 ∨ ∃ g off, ab = some ⟨g, off, none⟩ ∧ Fill g off m w1) := by
    by_cases h0 : m = 0
    · exact .inl h0
    · rcases HOB.out.2 with e | ⟨g, off, e, hg, hfz⟩
      · exact absurd (by rw [Hm.out, e]; rfl) h0
      · refine .inr ⟨g, off, e, fun i hi => ?_, fun i hi => hfz i (by rw [← Hm.out]; exact hi)⟩
        rcases HOB.out.1.2.2.2 with ⟨e2, _⟩ | ⟨ad, e2, h2⟩ | ⟨b', off', e2, hlt, hc⟩
        · rw [e] at e2; cases e2
        · rw [← Hm.out] at h2; omega
        · rw [e] at e2; cases e2; exact ⟨_, hc i (by rw [← Hm.out]; exact hi)⟩
  have HRb : Hid (Reads w1 ab m cb l) := by show Reads _ _ _ _ _; rw [Hm.out]; exact HOB.out.1
  clear ht ho1 hb1 P1 HT0 HO0 c0 c1 c2 d0 d3 HOB HK2
  go_wp2_with fail
  refine (R1.out _ _ HT1.out).mono ?_
  rintro e w2 ⟨rfl, ht, hb2⟩
  have HT2 := hidd ht
  have cv := CV.out w2 ab cb (HRb.out.below hb2)
  have HFL2 : Hid (m = 0 ∨ ∃ g off, ab = some ⟨g, off, none⟩ ∧ Fill g off m w2) := by
    rcases HFL.out with h0 | ⟨g, off, e, hf⟩
    · exact .inl h0
    · refine .inr ⟨g, off, e, fun i hi => ?_, fun i hi => ?_⟩
      · obtain ⟨v, hv⟩ := hf.cell i hi
        exact ⟨v, (hb2.cell (World.block_lt_of_cell? _ _ hv)).trans hv⟩
      · obtain ⟨v, hv⟩ := hf.cell i hi
        exact (World.frozen?_of_block (a := ⟨g, off + i, none⟩) (hb2.block g (World.block_lt_of_cell? _ _ hv))).trans (hf.free i hi)
  clear ht hb2 R1 HT1 HFL HRb d1 d2 CV
  go_wp2
  go_loopw [16] (fun v wr => ∃ i : Nat, i ≤ m ∧ v = .int .i64 i ∧ Hid (Two At w wr pd pm D D K2 ∧ (m = 0 ∨ ∃ g off, ab = some ⟨g, off, none⟩ ∧ Fill g off m wr))) (fun v _ => m - (intOf v).toNat)
  case atStart => exact ⟨0, by omega, rfl, HT2.out, HFL2.out⟩
  case round =>
    obtain ⟨i, hi, rfl, HI⟩ := hrel
    clear HT2 HFL2
    by_cases hlt : i < m
    · have hdi : decide ((i : Int) < (m : Int)) = true := by rw [decide_eq_true_eq]; omega
      have hw := wrap_int ((i : Int) + 1) (by omega) (by omega)
      obtain ⟨g, off, rfl, hfl⟩ : ∃ g off, ab = some ⟨g, off, none⟩ ∧ Fill g off m wr := by
        rcases HI.out.2 with h0 | h0
        · omega
        · exact h0
      obtain ⟨v, hv⟩ := hfl.cell i hlt
      have hf := hfl.free i hlt
      have hgk := HBB.out g off rfl (by omega)
      have HI2 : Hid (Two At w (wr.setCell ⟨g, off + i, none⟩ (.int .u8 85)) pd pm D D K2 ∧ (m = 0 ∨ ∃ g' off', (some ⟨g, off, none⟩ : Option Addr) = some ⟨g', off', none⟩ ∧ Fill g' off' m (wr.setCell ⟨g, off + i, none⟩ (.int .u8 85)))) :=
        ⟨OT.out _ _ _ _ HI.out.1 hgk.1 hgk.2 (Lib.grownBy_setCell wr g (off + i) (.int .u8 85)), .inr ⟨g, off, rfl, hfl.set i hlt (.int .u8 85)⟩⟩
      have ix : ∀ V, (Instr.indexAt 34 (.slice (some ⟨g, off, none⟩) m cb) (.int .i64 (i : Int))).run Try.prog V = .ok (.pointer (some ⟨g, off + i, none⟩)) V := fun V => by
        simp [Instr.indexAt, asIntOf, run_underlying Try.underlying34, hz5, hlt]
        rw [add_plain]
      clear HI OT hgk hfl
      go_wp2
      go_roundw
      case rel => exact ⟨i + 1, by omega, by go_num, HI2⟩
      case measure => simp [intOf]; omega
    · obtain rfl : m = i := by omega
      have hdi : decide ((m : Int) < (m : Int)) = false := by rw [decide_eq_false_iff_not]; omega
      have HT4 := hidd (HI.out.1.sub fun b e => HS2.out b (HKs.out b e))
      clear HI OT
      go_wp2
      go_ret
      exact ⟨rfl, HT4.out⟩
theorem opD_room {D : DkT} (ok : OkD D) (o : OpT) : (opD D o).safe.length = D.safe.length := by
  unfold opD
  split
  · rw [writeD_room]
  split
  · exact syncD_room ok
  split
  · rw [(stopD_safe D o.n).1]
  split
  · exact crashD_room ok _ _
  rfl
theorem opD_puts (D : DkT) (o : OpT) : (opD D o).puts.length ≤ D.puts.length + 1 := by
  unfold opD
  split
  · exact writeD_puts _ _ _
  split
  · have := syncD_puts D; omega
  split
  · rw [(stopD_safe D o.n).2]; omega
  split
  · show ([] : List (Nat × List UInt8)).length ≤ _; exact Nat.zero_le _
  omega
/-- Whatever the call is. -/
theorem call_true (dk : DiskC At) (w W : World) (pd pm : Nat) (D : DkT) (K : Nat → Prop) (h : Two At w W pd pm D D K) (hK : ∀ b, b < w.heap.size → K b) (hp : D.puts.length ≤ 1000) (o : OpT) (ho : InO w o) (hl : o.len ≤ 300) :
    Calls Try.prog 14 #[.pointer (some ⟨pd, 0, none⟩), .pointer (some ⟨pm, 0, none⟩), .agg #[.int .i64 o.k, .int .i64 o.at_, .int .i64 o.n, .slice o.a o.len o.cap]] W fun e w' => e = .returned (.bool true) ∧ Two At w w' pd pm (opD D o) (opD D o) K := by
  by_cases h1 : o.k = 1
  · exact call_1 dk w W pd pm D K h hK hp o ho h1 hl
  by_cases h2 : o.k = 2
  · exact call_2 dk w W pd pm D K h hK hp o ho h2
  by_cases h3 : o.k = 3
  · exact call_3 dk w W pd pm D K h hK hp o ho h3
  by_cases h4 : o.k = 4
  · exact call_4 dk w W pd pm D K h hK hp o ho h4
  by_cases h5 : o.k = 5
  · exact call_5 dk w W pd pm D K h hK hp o ho h5
  exact call_0 dk w W pd pm D K h hK hp o ho ⟨h1, h2, h3, h4, h5⟩
end Go.Proofs.Yticljiffagobnaa

/- Where the statements on a disk begin: two new disks, calls on both. -/
namespace Go.Proofs.Yticljiffagobnaa
open Go.RowKit Nums
set_option linter.unusedVariables false
set_option linter.unusedSimpArgs false
set_option maxRecDepth 100000
variable {At : World → Nat → DkT → (Nat → Prop) → Prop}
theorem two_start (dk : DiskC At) {w W V : World} {pd pm n : Nat} {D : DkT} {S : Nat → Prop} {K : Nat → Prop} (h : Lv At w W pd D K) (hK : ∀ b, b < w.heap.size → K b) (hm : MAt V pm (newD n) S) (hS : ∀ b, S b → W.heap.size ≤ b) (hb : Below W.heap.size W V) : Two At w V pd pm D (newD n) (fun b => b < w.heap.size) := by
  refine ⟨S, hm, fun b e => Nat.le_trans h.below.size (hS b e), fun b e hs => ?_, (h.keep dk hb).sub fun b e => ?_⟩
  · have h1 := hS b hs
    have h2 := h.below.size
    omega
  · rcases e with e | e
    · exact .inl (hK b e)
    · exact .inr ⟨hS b e, hm.lt b e⟩
/-- A script's state: some calls were done on both. -/
def Ran (At : World → Nat → DkT → (Nat → Prop) → Prop) (w W : World) (pd pm room k : Nat) : Prop := ∃ D, Two At w W pd pm D D (fun b => b < w.heap.size) ∧ D.puts.length ≤ k ∧ D.safe.length = room
/-- One call of a script. -/
theorem ran_call (dk : DiskC At) (w W : World) (pd pm room k : Nat) (h : Ran At w W pd pm room k) (hk : k ≤ 100) (o : OpT) (ho : InO w o) (hl : o.bs.length ≤ 300) :
    Calls Try.prog 14 #[.pointer (some ⟨pd, 0, none⟩), .pointer (some ⟨pm, 0, none⟩), .agg #[.int .i64 o.k, .int .i64 o.at_, .int .i64 o.n, .slice o.a o.len o.cap]] W fun e w' => e = .returned (.bool true) ∧ Ran At w w' pd pm room (k + 1) := by
  obtain ⟨D, h1, h2, h3⟩ := h
  have hlen := ho.rd.1
  refine (call_true dk w W pd pm D _ h1 (fun b e => e) (by omega) o ho (by omega)).mono ?_
  rintro e w' ⟨rfl, ht⟩
  exact ⟨rfl, opD D o, ht, by have := opD_puts D o; omega, by rw [opD_room (h1.okd dk), h3]⟩
theorem op_index (W : World) (b off len cap i : Nat) (h : i < len) : (Instr.indexAt 22 (.slice (some ⟨b, off, none⟩) len cap) (.int .i64 (i : Int))).run Try.prog W = .ok (.pointer (some ⟨b, off + i * 4, none⟩)) W := by
  have hz : ∀ w, (sizeOf 36).run Try.prog w = .ok 4 w := fun w => by
    have h : (Try.prog.info? 36).map (·.size) = some 4 := by kernel_rfl
    cases hq : Try.prog.info? 36 with
    | none => rw [hq] at h; cases h
    | some i =>
      rw [hq] at h
      simp only [Option.map_some, Option.some.injEq] at h
      simp [sizeOf, typeInfo, hq, h]
  simp [Instr.indexAt, asIntOf, run_underlying Try.underlying22, hz, h]
  rw [add_plain]
/-- What one call of a script is, in any later world. -/
theorem op_there {w W : World} {a : Option Addr} {len cap : Nat} {l : List OpT} (h : OReads w a len cap l) (hb : Below w.heap.size w W) (h300 : ∀ o ∈ l, o.bs.length ≤ 300) (i : Nat) (hi : i < len) :
    ∃ b off, ∃ o : OpT, a = some ⟨b, off, none⟩ ∧ InO w o ∧ l[i]? = some o ∧ o.bs.length ≤ 300 ∧ W.cell? ⟨b, off + i * 4, none⟩ = some (.int .i64 o.k) ∧ W.cell? ⟨b, off + i * 4 + 1, none⟩ = some (.int .i64 o.at_) ∧ W.cell? ⟨b, off + i * 4 + 2, none⟩ = some (.int .i64 o.n) ∧ W.cell? ⟨b, off + i * 4 + 3, none⟩ = some (.slice o.a o.len o.cap) := by
  obtain ⟨b, off, o, e, hbn, hlo, hio, c0, c1, c2, c3⟩ := h.at i hi
  exact ⟨b, off, o, e, hio, hlo, h300 o (List.mem_of_getElem? hlo), (hb.cell (p := ⟨b, off + i * 4, none⟩) hbn).trans c0, (hb.cell (p := ⟨b, off + i * 4 + 1, none⟩) hbn).trans c1, (hb.cell (p := ⟨b, off + i * 4 + 2, none⟩) hbn).trans c2, (hb.cell (p := ⟨b, off + i * 4 + 3, none⟩) hbn).trans c3⟩
theorem Ran.below {w W : World} {pd pm room k : Nat} (h : Ran At w W pd pm room k) : Below w.heap.size w W := by obtain ⟨D, h1, _⟩ := h; exact h1.below
end Go.Proofs.Yticljiffagobnaa

/- More on disks: places that no write touches, a call in a variable of its own. -/
namespace Go.Proofs.Yticljiffagobnaa
open Go.RowKit Nums
set_option linter.unusedVariables false
set_option linter.unusedSimpArgs false
set_option maxRecDepth 100000
variable {At : World → Nat → DkT → (Nat → Prop) → Prop}
theorem write_puts {D : DkT} {at_ : Int} {b : List UInt8} (h : writeE D at_ b = 0) : (writeD D at_ b).puts = D.puts ++ [(at_.toNat, b)] := by
  unfold writeD
  rw [if_pos h, (stepD_safe _).2.1]
  rfl
theorem crash_two (keep torn : Int) (s : List UInt8) (q pl : Nat) (b : List UInt8) (x : UInt8) (h1 : q + b.length ≤ s.length) (h2 : pl < s.length) (h3 : pl < q ∨ q + b.length ≤ pl) :
    (crashL keep torn 0 s [(q, b), (pl, [x])])[pl]? = s[pl]? ∨ ((crashL keep torn 0 s [(q, b), (pl, [x])])[pl]? = some x ∧ ((crashL keep torn 0 s [(q, b), (pl, [x])]).drop q).take b.length = b) := by
  show (crashS keep torn 1 (crashS keep torn 0 s (q, b)) (pl, [x]))[pl]? = _ ∨ ((crashS keep torn 1 (crashS keep torn 0 s (q, b)) (pl, [x]))[pl]? = _ ∧ ((crashS keep torn 1 (crashS keep torn 0 s (q, b)) (pl, [x])).drop q).take b.length = b)
  have e1 := crashS_at (keep := keep) (torn := torn) (i := 0) (s := s) (p := (q, b)) h1 pl h3
  have el := crashS_length (keep := keep) (torn := torn) (i := 0) (s := s) (p := (q, b)) h1
  by_cases hk : 1 < keep
  · right
    have e0 : crashS keep torn 0 s (q, b) = doneB s (q, b) := by unfold crashS; rw [if_pos (by omega)]
    have hl := doneB_length (s := s) (p := (q, b)) h1
    have e2 : crashS keep torn 1 (doneB s (q, b)) (pl, [x]) = doneB (doneB s (q, b)) (pl, [x]) := by unfold crashS; rw [if_pos (by omega)]
    rw [e0, e2]
    have hfit : (pl, [x]).1 + (pl, [x]).2.length ≤ (doneB s (q, b)).length := by show pl + 1 ≤ _; omega
    refine ⟨?_, ?_⟩
    · have := doneB_in hfit
      have h5 : (((doneB (doneB s (q, b)) (pl, [x])).drop pl).take 1)[0]? = some x := by
        have h6 : ((doneB (doneB s (q, b)) (pl, [x])).drop pl).take 1 = [x] := this
        rw [h6]; rfl
      rw [List.getElem?_take_of_lt (by omega), List.getElem?_drop, Nat.add_zero] at h5
      exact h5
    · have h4 := part_same (a := doneB (doneB s (q, b)) (pl, [x])) (b := doneB s (q, b)) q b.length fun k hk1 hk2 => doneB_at hfit k (by show k < pl ∨ pl + 1 ≤ k; omega)
      rw [h4]
      exact doneB_in (s := s) (p := (q, b)) h1
  · left
    have e2 : ∀ t : List UInt8, crashS keep torn 1 t (pl, [x]) = t := fun t => by
      unfold crashS
      rw [if_neg (by omega)]
      split
      · unfold tornB doneB
        have e0 : (min (max torn 0) ((([x] : List UInt8).length : Int) - 1)).toNat = 0 := by
          have : (([x] : List UInt8).length : Int) = 1 := rfl
          omega
        show t.take pl ++ ([x].take (min (max torn 0) ((([x] : List UInt8).length : Int) - 1)).toNat) ++ t.drop (pl + ([x].take (min (max torn 0) ((([x] : List UInt8).length : Int) - 1)).toNat).length) = t
        rw [e0, List.take_zero]
        simp
      · rfl
    rw [e2]
    exact e1
/-- A disk that is not about to stop. -/
theorem write_calm {D : DkT} (h : D.stops = false) (at_ : Int) (b : List UInt8) : (writeD D at_ b).stops = false ∧ (writeD D at_ b).down = D.down := by
  unfold writeD
  split
  · unfold stepD
    rw [if_neg (by show ¬ (putD D at_ b).stops = true; show ¬ D.stops = true; rw [h]; decide)]
    exact ⟨h, rfl⟩
  · exact ⟨h, rfl⟩
theorem part_one (l : List UInt8) (k : Nat) (h : k < l.length) : (l.drop k).take 1 = [l[k]] := by
  rw [List.drop_eq_getElem_cons h]
  rfl
theorem reads_one {W : World} {a : Option Addr} {cap : Nat} {v : UInt8} (h : Reads W a 1 cap [v]) : ∃ b off, a = some ⟨b, off, none⟩ ∧ W.cell? ⟨b, off, none⟩ = some (.int .u8 v.toNat) := by
  obtain ⟨h1, h2, _, h4⟩ := h
  rcases h4 with ⟨_, e⟩ | ⟨ad, _, e⟩ | ⟨b, off, e, _, hc⟩
  · omega
  · omega
  · exact ⟨b, off, e, hc 0 (by show 0 < 1; omega)⟩
theorem index_one (W : World) (b off cap : Nat) : (Instr.indexAt 34 (.slice (some ⟨b, off, none⟩) 1 cap) (.int .i64 0)).run Try.prog W = .ok (.pointer (some ⟨b, off, none⟩)) W := by
  have hz : ∀ w, (sizeOf 5).run Try.prog w = .ok 1 w := fun w => by
    have h : (Try.prog.info? 5).map (·.size) = some 1 := by kernel_rfl
    cases hq : Try.prog.info? 5 with
    | none => rw [hq] at h; cases h
    | some i =>
      rw [hq] at h
      simp only [Option.map_some, Option.some.injEq] at h
      simp [sizeOf, typeInfo, hq, h]
  simp [Instr.indexAt, asIntOf, run_underlying Try.underlying34, hz]
  rw [add_plain]
  rfl
end Go.Proofs.Yticljiffagobnaa

/- Of DiskBytes: the walk. -/
namespace Go.Proofs.Yticljiffagobnaa
open Go.RowKit Nums
set_option linter.unusedVariables false
set_option linter.unusedSimpArgs false
set_option maxRecDepth 100000
variable {At : World → Nat → DkT → (Nat → Prop) → Prop}
set_option maxHeartbeats 16000000 in
theorem diskBytes_in (dk : DiskC At) (a0 : Option Addr) (len0 cap0 : Nat) (z0 : List OpT) (a1 : Int) (a2 : Option Addr) (len2 cap2 : Nat) (z2 : List UInt8) (a3 : Int) (x : UInt8) (a5 a6 : Int) (w : World) (w0 : OReads w a0 len0 cap0 z0) (w1 : In64 a1) (w2 : Reads w a2 len2 cap2 z2) (w3 : In64 a3) (w5 : In64 a5) (w6 : In64 a6) :
    Calls Try.prog 5 #[.slice a0 len0 cap0, .int .i64 a1, .slice a2 len2 cap2, .int .i64 a3, .int .u8 (x.toNat : Int), .int .i64 a5, .int .i64 a6] w fun e w' => e = .returned (.bool true) ∧ Below w.heap.size w w' := by
  have HS0 := hidd w0
  have HR2 := hidd w2
  have hz2 : z2.length = len2 := w2.1
  have hm2 : len2 ≤ 9223372036854775807 := by have h1 := w2.2.1; have h2 := w2.2.2.1; omega
  obtain ⟨zx, HZX⟩ : ∃ z : Int, Hid (z = (x.toNat : Int)) := ⟨_, hidd rfl⟩
  rw [← HZX.out]
  have DK : Hid (DiskC At) := dk
  have N1 : Hid (∀ W, Below w.heap.size w W → Calls Try.prog 10 #[.int .i64 64] W fun e w' => ∃ p, e = .returned (.tuple #[.pointer (some ⟨p, 0, none⟩), .int .i64 0]) ∧ Lv At w w' p (newD 64) (fun b => b < w.heap.size)) := fun W hb => (lv_new DK.out 64 (by omega) w W hb).mono (by rintro e w' ⟨p, he, hl, _⟩; exact ⟨p, he, hl.sub fun b e => Nat.lt_of_lt_of_le e hb.size⟩)
  have M1 : Hid (∀ W pd, Lv At w W pd (newD 64) (fun b => b < w.heap.size) → Calls Try.prog 13 #[.int .i64 64] W fun e w' => ∃ pm, e = .returned (.tuple #[.pointer (some ⟨pm, 0, none⟩), .int .i64 0]) ∧ Ran At w w' pd pm 64 0) := fun W pd hl => (refNew_any 64 (by omega) W).mono (by
    rintro e w' ⟨pm, S, he, hm, hS, hb⟩
    exact ⟨pm, he, newD 64, two_start DK.out hl (fun b e => e) hm hS hb, Nat.zero_le _, by show (List.replicate 64 (0 : UInt8)).length = 64; rfl⟩)
  have CA : Hid (∀ W pd pm k (o : OpT), Ran At w W pd pm 64 k → k ≤ 100 → InO w o → o.bs.length ≤ 300 → Calls Try.prog 14 #[.pointer (some ⟨pd, 0, none⟩), .pointer (some ⟨pm, 0, none⟩), .agg #[.int .i64 o.k, .int .i64 o.at_, .int .i64 o.n, .slice o.a o.len o.cap]] W fun e w' => e = .returned (.bool true) ∧ Ran At w w' pd pm 64 (k + 1)) := fun W pd pm k o h hk ho hl => ran_call DK.out w W pd pm 64 k h hk o ho hl
  have AW : Hid (∀ W, Calls Try.prog 11 #[] W fun e w' => e = .returned (.bool true) ∧ Below W.heap.size W w') := fun W => awake_true DK.out W
  have LG := hidd (large_any a0 len0 cap0 z0 w w w0 (Below.refl _ _))
  clear w0 w2
  go_enter Try.func5, Try.ntmps5
  go_wp2_with fail
  refine LG.out.mono ?_
  rintro e W0 ⟨x_, rfl, rfl, hx⟩
  clear LG
  cases x_
  case true =>
    clear hx
    go_wp2_with fail
    refine (AW.out _).mono ?_
    rintro e Vx ⟨rfl, hbx⟩
    clear AW
    go_wp2
    go_ret
    exact ⟨rfl, hbx⟩
  obtain ⟨h60, h300⟩ := hx rfl
  have H300 := hidd h300
  clear hx h300
  by_cases hl2 : 100 < len2
  · have d2 : decide ((100 : Int) < (len2 : Int)) = true := by rw [decide_eq_true_eq]; omega
    go_wp2_with fail
    refine (AW.out _).mono ?_
    rintro e Vx ⟨rfl, hbx⟩
    clear AW
    go_wp2
    go_ret
    exact ⟨rfl, hbx⟩
  have d2 : decide ((100 : Int) < (len2 : Int)) = false := by rw [decide_eq_false_iff_not]; omega
  by_cases h1 : a1 < 0
  · have d3 : decide (a1 < (0 : Int)) = true := by rw [decide_eq_true_eq]; omega
    go_wp2_with fail
    refine (AW.out _).mono ?_
    rintro e Vx ⟨rfl, hbx⟩
    clear AW
    go_wp2
    go_ret
    exact ⟨rfl, hbx⟩
  have d3 : decide (a1 < (0 : Int)) = false := by rw [decide_eq_false_iff_not]; omega
  by_cases h2 : 64 < a1
  · have d4 : decide ((64 : Int) < a1) = true := by rw [decide_eq_true_eq]; omega
    go_wp2_with fail
    refine (AW.out _).mono ?_
    rintro e Vx ⟨rfl, hbx⟩
    clear AW
    go_wp2
    go_ret
    exact ⟨rfl, hbx⟩
  have d4 : decide ((64 : Int) < a1) = false := by rw [decide_eq_false_iff_not]; omega
  by_cases h3 : a3 < 0
  · have d5 : decide (a3 < (0 : Int)) = true := by rw [decide_eq_true_eq]; omega
    go_wp2_with fail
    refine (AW.out _).mono ?_
    rintro e Vx ⟨rfl, hbx⟩
    clear AW
    go_wp2
    go_ret
    exact ⟨rfl, hbx⟩
  have d5 : decide (a3 < (0 : Int)) = false := by rw [decide_eq_false_iff_not]; omega
  by_cases h4 : 64 < a3
  · have d6 : decide ((64 : Int) < a3) = true := by rw [decide_eq_true_eq]; omega
    go_wp2_with fail
    refine (AW.out _).mono ?_
    rintro e Vx ⟨rfl, hbx⟩
    clear AW
    go_wp2
    go_ret
    exact ⟨rfl, hbx⟩
  have d6 : decide ((64 : Int) < a3) = false := by rw [decide_eq_false_iff_not]; omega
  by_cases h5 : a1 ≤ a3 ∧ a3 - a1 < (len2 : Int)
  · have d7 : decide (a1 ≤ a3) = true := by rw [decide_eq_true_eq]; omega
    have hw7 := wrap_int (a3 - a1) (by omega) (by omega)
    have d8 : decide (a3 - a1 < (len2 : Int)) = true := by rw [decide_eq_true_eq]; omega
    go_wp2_with fail
    refine (AW.out _).mono ?_
    rintro e Vx ⟨rfl, hbx⟩
    clear AW
    go_wp2
    go_ret
    exact ⟨rfl, hbx⟩
  have hg : (decide (a1 ≤ a3) = false ∧ True) ∨ (decide (a1 ≤ a3) = true ∧ decide (a3 - a1 < (len2 : Int)) = false) := by
    by_cases h : a1 ≤ a3
    · right
      refine ⟨by rw [decide_eq_true_eq]; omega, by rw [decide_eq_false_iff_not]; omega⟩
    · left
      exact ⟨by rw [decide_eq_false_iff_not]; omega, trivial⟩
  have hw7 := wrap_int (a3 - a1) (by omega) (by omega)
  have HOUT : Hid (a3 < a1 ∨ a1 + len2 ≤ a3) := by show _ ∨ _; omega
  have HRG : Hid ((0 ≤ a1 ∧ a1 ≤ 64) ∧ (0 ≤ a3 ∧ a3 ≤ 64)) := ⟨by omega, by omega⟩
  clear h1 h2 h3 h4 h5
  rcases hg with ⟨d7, d8⟩ | ⟨d7, d8⟩
  · go_wp2_with fail
    obtain ⟨⟨hq1, hq2⟩, hp1_, hp2_⟩ := HRG.out
    clear d3 d4 d5 d6 d7 d8 hw7 HRG
    obtain ⟨q, rfl⟩ : ∃ q : Nat, a1 = (q : Int) := ⟨a1.toNat, by omega⟩
    obtain ⟨pl, rfl⟩ : ∃ pl : Nat, a3 = (pl : Int) := ⟨a3.toNat, by omega⟩
    have hq : q ≤ 64 := by omega
    have hpp : pl ≤ 64 := by omega
    clear hq1 hq2 hp1_ hp2_
    refine (N1.out _ (Below.refl _ _)).mono ?_
    rintro e W1 ⟨pd, rfl, hl1⟩
    have HL1 := hidd hl1
    clear hl1 N1
    go_wp2_with fail
    refine (M1.out _ _ HL1.out).mono ?_
    rintro e W2 ⟨pm, rfl, hr⟩
    have HRN := hidd hr
    clear hr M1 HL1
    go_wp2
    go_loopw [19] (fun v wr => ∃ k : Nat, k ≤ len0 ∧ v = .int .i64 k ∧ Hid (Ran At w wr pd pm 64 k)) (fun v _ => len0 - (intOf v).toNat)
    case atStart => exact ⟨0, by omega, rfl, HRN⟩
    case round =>
      obtain ⟨k, hk, rfl, HK⟩ := hrel
      clear HRN
      by_cases hlt : k < len0
      · have hdk : decide ((k : Int) < (len0 : Int)) = true := by rw [decide_eq_true_eq]; omega
        have hw := wrap_int ((k : Int) + 1) (by omega) (by omega)
        obtain ⟨b, off, o, rfl, hio, hlo, h3, c0, c1, c2, c3⟩ := op_there HS0.out HK.out.below H300.out k hlt
        have CL := hidd (CA.out wr pd pm k o HK.out (by omega) hio h3)
        have ix := fun V => op_index V b off len0 cap0 k hlt
        obtain ⟨ok, oa, on, ox, ol, oc, ob⟩ := o
        simp only at c0 c1 c2 c3 CL
        clear HK hio hlo h3 CA
        go_wp2_with fail
        refine CL.out.mono ?_
        rintro e w5 ⟨rfl, hr⟩
        have HR2 := hidd hr
        clear hr CL
        go_wp2
        go_roundw
        case rel => exact ⟨k + 1, by omega, by go_num, HR2⟩
        case measure => simp [intOf]; omega
      · obtain rfl : len0 = k := by omega
        have hdk : decide ((len0 : Int) < (len0 : Int)) = false := by rw [decide_eq_false_iff_not]; omega
        obtain ⟨D, hT, hpl, hroom⟩ := HK.out
        have ok := hT.okd DK.out
        have HL := hidd hT.lv
        clear HK CA hT
        obtain ⟨D0, HD0⟩ : ∃ D1, Hid (D1 = crashD D 1000 0) := ⟨_, hidd rfl⟩
        have ok0 : OkD D0 := by rw [HD0.out]; exact crashD_ok ok _ _
        have hrm0 : D0.safe.length = 64 := by rw [HD0.out, crashD_room ok]; exact hroom
        obtain ⟨hp0, hs0, hd0⟩ : D0.puts = [] ∧ D0.stops = false ∧ D0.down = false := by rw [HD0.out]; exact ⟨rfl, rfl, rfl⟩
        obtain ⟨s, HS⟩ : ∃ s, Hid (s = D0.safe) := ⟨_, hidd rfl⟩
        have hsl : s.length = 64 := by rw [HS.out, hrm0]
        have hn0 : nowB D0 = s := by unfold nowB; rw [hp0, HS.out]; rfl
        have A0 : Hid (∀ V K, Lv At w V pd D K → Calls Try.prog 20 #[.pointer (some ⟨pd, 0, none⟩), .int .i64 1000, .int .i64 0] V fun e w' => e = .returned (.int .i64 0) ∧ Lv At w w' pd D0 K ∧ Kept9 K V w') := fun V K h => lv_crash DK.out h (by omega) 1000 0 (by unfold In64; omega) (by unfold In64; omega) D0 HD0.out
        have i1 : In64 1 := by unfold In64; omega
        go_wp2_with fail
        refine (A0.out _ _ HL.out).mono ?_
        rintro e V1 ⟨rfl, hl, _⟩
        replace HL := hidd hl
        clear hl A0 hpl ok HD0 hroom
        by_cases hp64 : pl = 64
        · subst hp64
          have hr : inB D0.safe.length 64 1 = false := by
            cases hi : inB D0.safe.length 64 1
            · rfl
            · have := (inB_iff _ _ _).1 hi; rw [hrm0] at this; omega
          have B0 : Hid (∀ V K, Lv At w V pd D0 K → Calls Try.prog 16 #[.pointer (some ⟨pd, 0, none⟩), .int .i64 64, .int .i64 1] V fun e w' => ∃ a cap, e = .returned (.tuple #[.slice a 0 cap, .int .i64 81]) ∧ Below w.heap.size w w') := fun V K h => by
            refine (lv_read DK.out h 64 1 (by unfold In64; omega) i1 [] (by unfold rdB; rw [if_neg (by rw [hr]; decide)]) 81 (by unfold rdE; rw [if_neg (by rw [hr]; decide)])).mono ?_
            rintro e w' ⟨a, cap, he, _, hl, _⟩
            exact ⟨a, cap, he, hl.below⟩
          go_wp2_with fail
          refine (B0.out _ _ HL.out).mono ?_
          rintro e V2 ⟨b1, c1, rfl, hb2⟩
          have HBl := hidd hb2
          clear hb2 B0
          go_wp2_with fail
          refine (AW.out _).mono ?_
          rintro e Vx ⟨rfl, hbx⟩
          clear AW
          go_wp2
          go_ret
          exact ⟨rfl, HBl.out.trans (hbx.mono HBl.out.size)⟩
        have hpl : pl < s.length := by omega
        clear hp64
        obtain ⟨v0, Hv0⟩ : ∃ v, Hid (s[pl]? = some v) := ⟨_, hidd (List.getElem?_eq_getElem hpl)⟩
        have hr0 : inB D0.safe.length (pl : Int) 1 = true := by rw [inB_iff, hrm0]; omega
        have hrd0 : rdB D0 (pl : Int) 1 = [v0] := by
          unfold rdB
          rw [if_pos hr0, hn0]
          show (s.drop pl).take 1 = [v0]
          rw [part_one s pl hpl]
          have := Hv0.out
          rw [List.getElem?_eq_getElem hpl] at this
          rw [Option.some.inj this]
        have B0 : Hid (∀ V K, Lv At w V pd D0 K → Calls Try.prog 16 #[.pointer (some ⟨pd, 0, none⟩), .int .i64 pl, .int .i64 1] V fun e w' => ∃ a cap, e = .returned (.tuple #[.slice a 1 cap, .int .i64 0]) ∧ OutB V.heap.size w' a cap [v0] ∧ Lv At w w' pd D0 (fun b => K b ∨ (V.heap.size ≤ b ∧ b < w'.heap.size))) := fun V K h => by
          refine (lv_read DK.out h pl 1 w3 i1 [v0] hrd0.symm 0 (by unfold rdE; rw [if_pos hr0])).mono ?_
          rintro e w' ⟨a, cap, he, ho, hl, _⟩
          exact ⟨a, cap, he, ho, hl⟩
        go_wp2_with fail
        refine (B0.out _ _ HL.out).mono ?_
        rintro e V2 ⟨b1, c1, rfl, ho, hl⟩
        replace HL := hidd hl
        have HB2 := hidd ho.blk
        have HRb : Hid (Reads V2 b1 1 c1 [v0]) := ho.1
        obtain ⟨K2, HK2⟩ : ∃ K2 : Nat → Prop, Hid (K2 = fun b => (fun b => b < w.heap.size) b ∨ (V1.heap.size ≤ b ∧ b < V2.heap.size)) := ⟨_, hidd rfl⟩
        have HLk : Hid (Lv At w V2 pd D0 K2) := by show Lv _ _ _ _ _ _; rw [HK2.out]; exact HL.out
        have HKw2 : Hid (∀ b, b < w.heap.size → K2 b) := fun b e => by rw [HK2.out]; exact .inl e
        have HKb2 : Hid (∀ b off, b1 = some ⟨b, off, none⟩ → 0 < 1 → K2 b) := fun b off e h => by rw [HK2.out]; exact .inr (HB2.out b off e (by show 0 < 1; omega))
        clear hl ho HB2 HL HK2 B0 hrd0 hr0 hn0
        obtain ⟨E1, HE1⟩ : ∃ E, Hid (E = writeE D0 q z2) := ⟨_, hidd rfl⟩
        obtain ⟨D1, HD1⟩ : ∃ E, Hid (E = writeD D0 q z2) := ⟨_, hidd rfl⟩
        have hE3 := writeE_two D0 q z2
        rw [← HE1.out, hrm0, hz2] at hE3
        have A1 : Hid (∀ V K, Lv At w V pd D0 K → (∀ b, b < w.heap.size → K b) → Calls Try.prog 18 #[.pointer (some ⟨pd, 0, none⟩), .int .i64 q, .slice a2 len2 cap2] V fun e w' => e = .returned (.int .i64 E1) ∧ Lv At w w' pd D1 K ∧ Kept9 K V w') := fun V K h hK => by
          refine lv_write DK.out h (by rw [hp0]; exact Nat.zero_le _) q w1 a2 len2 cap2 z2 (HR2.out.below h.below) (by omega) (fun b off e h0 => ?_) D1 HD1.out E1 HE1.out
          rcases HR2.out.2.2.2 with ⟨e2, _⟩ | ⟨ad, e2, h2⟩ | ⟨b', off', e2, hlt, _⟩
          · rw [e2] at e; cases e
          · omega
          · rw [e2] at e; cases e; exact hK _ hlt
        go_wp2_with fail
        refine (A1.out _ _ HLk.out HKw2.out).mono ?_
        rintro e V3 ⟨rfl, hl, hk⟩
        replace HLk := hidd hl
        replace HRb := hidd (hk.reads HRb.out HKb2.out)
        clear hl hk A1
        by_cases hE : E1 = 0
        · have hfit : q + len2 ≤ 64 := by
            rcases hE3 with ⟨_, _, h⟩ | ⟨h, _⟩ | ⟨h, _⟩
            · have := (inB_iff _ _ _).1 h; omega
            · omega
            · omega
          have hp1 : D1.puts = [(q, z2)] := by
            rw [HD1.out, write_puts (by rw [← HE1.out]; exact hE), hp0]
            rfl
          subst hE
          obtain ⟨hs1, hd1⟩ := write_calm hs0 (q : Int) z2
          rw [← HD1.out] at hs1 hd1
          rw [hd0] at hd1
          have hsf1 : D1.safe = s := by rw [HD1.out, writeD_room, HS.out]
          have hrm1 : D1.safe.length = 64 := by rw [hsf1]; exact hsl
          have ok1 : OkD D1 := by rw [HD1.out]; exact writeD_ok ok0 _ _
          have hE2 : writeE D1 (pl : Int) [x] = 0 := by
            unfold writeE
            rw [if_neg (by rw [hd1]; decide), if_pos (by rw [inB_iff, hrm1]; show 0 ≤ (pl : Int) ∧ (0 : Int) ≤ 1 ∧ (pl : Int) ≤ (64 : Nat) ∧ (1 : Int) ≤ (64 : Nat) - (pl : Int); omega)]
          obtain ⟨D2, HD2⟩ : ∃ E, Hid (E = writeD D1 pl [x]) := ⟨_, hidd rfl⟩
          have hp2 : D2.puts = [(q, z2), (pl, [x])] := by
            rw [HD2.out, write_puts hE2, hp1]
            rfl
          have hsf2 : D2.safe = s := by rw [HD2.out, writeD_room]; exact hsf1
          have ok2 : OkD D2 := by rw [HD2.out]; exact writeD_ok ok1 _ _
          obtain ⟨D3, HD3⟩ : ∃ D3, Hid (D3 = crashD D2 a5 a6) := ⟨_, hidd rfl⟩
          obtain ⟨r, Hr⟩ : ∃ r, Hid (r = crashL a5 a6 0 s [(q, z2), (pl, [x])]) := ⟨_, hidd rfl⟩
          have hn3 : nowB D3 = r := by rw [HD3.out, nowB_crash, Hr.out]; unfold crashB; rw [hsf2, hp2]
          have hrm3 : D3.safe.length = 64 := by rw [HD3.out, crashD_room ok2, hsf2]; exact hsl
          have ok3 : OkD D3 := by rw [HD3.out]; exact crashD_ok ok2 _ _
          have hrl : r.length = 64 := by rw [← hn3, nowB_length ok3, hrm3]
          obtain ⟨v3, Hv3⟩ : ∃ v, Hid (r[pl]? = some v) := ⟨_, hidd (List.getElem?_eq_getElem (by omega))⟩
          have hr3 : inB D3.safe.length (pl : Int) 1 = true := by rw [inB_iff, hrm3]; omega
          have hrd3 : rdB D3 (pl : Int) 1 = [v3] := by
            unfold rdB
            rw [if_pos hr3, hn3]
            show (r.drop pl).take 1 = [v3]
            rw [part_one r pl (by omega)]
            have := Hv3.out
            rw [List.getElem?_eq_getElem (by omega)] at this
            rw [Option.some.inj this]
          obtain ⟨l, Hl⟩ : ∃ l, Hid (l = (r.drop q).take len2) := ⟨_, hidd rfl⟩
          have hra : inB D3.safe.length (q : Int) (len2 : Int) = true := by rw [inB_iff, hrm3]; omega
          have hrda : rdB D3 (q : Int) (len2 : Int) = l := by
            unfold rdB
            rw [if_pos hra, hn3, Hl.out]
            rfl
          have hll : l.length = len2 := by rw [Hl.out, List.length_take, List.length_drop]; omega
          have hor : v3 = v0 ∨ (v3 = x ∧ l = z2) := by
            have := crash_two a5 a6 s q pl z2 x (by omega) (by omega) (by have := HOUT.out; omega)
            rw [← Hr.out, Hv3.out, Hv0.out, hz2, ← Hl.out] at this
            rcases this with h | ⟨h, h2⟩
            · exact .inl (Option.some.inj h)
            · exact .inr ⟨Option.some.inj h, h2⟩
          have A2 : Hid (∀ V K, Lv At w V pd D1 K → Calls Try.prog 18 #[.pointer (some ⟨pd, 0, none⟩), .int .i64 pl, .slice (some ⟨V.heap.size, 0, none⟩) 1 1] (V.alloc (.cells #[.int .u8 zx] 5)) fun e w' => e = .returned (.int .i64 0) ∧ Lv At w w' pd D2 K ∧ Kept9 K V w') := fun V K h => lv_write_lit DK.out h (by rw [hp1]; show 1 ≤ 1000000; omega) pl w3 #[.int .u8 zx] (0, 0) 1 [x] (by rw [HZX.out]; rfl) rfl (by omega) D2 HD2.out 0 hE2.symm
          have A3 : Hid (∀ V K, Lv At w V pd D2 K → Calls Try.prog 20 #[.pointer (some ⟨pd, 0, none⟩), .int .i64 a5, .int .i64 a6] V fun e w' => e = .returned (.int .i64 0) ∧ Lv At w w' pd D3 K ∧ Kept9 K V w') := fun V K h => lv_crash DK.out h (by rw [hp2]; show 2 ≤ 1000000; omega) a5 a6 w5 w6 D3 HD3.out
          have B3 : Hid (∀ V K, Lv At w V pd D3 K → Calls Try.prog 16 #[.pointer (some ⟨pd, 0, none⟩), .int .i64 pl, .int .i64 1] V fun e w' => ∃ a cap, e = .returned (.tuple #[.slice a 1 cap, .int .i64 0]) ∧ Reads w' a 1 cap [v3] ∧ Lv At w w' pd D3 K ∧ Below V.heap.size V w') := fun V K h => by
            refine (lv_read DK.out h pl 1 w3 i1 [v3] hrd3.symm 0 (by unfold rdE; rw [if_pos hr3])).mono ?_
            rintro e w' ⟨a, cap, he, ho, hl, hb⟩
            exact ⟨a, cap, he, ho.1, hl.sub fun b e => .inl e, hb⟩
          have B4 : Hid (∀ V K, Lv At w V pd D3 K → Calls Try.prog 16 #[.pointer (some ⟨pd, 0, none⟩), .int .i64 q, .int .i64 len2] V fun e w' => ∃ a cap, e = .returned (.tuple #[.slice a len2 cap, .int .i64 0]) ∧ Reads w' a len2 cap l ∧ Lv At w w' pd D3 K ∧ Below V.heap.size V w') := fun V K h => by
            have := lv_read DK.out h q len2 w1 (by unfold In64; omega) l hrda.symm 0 (by unfold rdE; rw [if_pos hra])
            rw [hll] at this
            refine this.mono ?_
            rintro e w' ⟨a, cap, he, ho, hl, hb⟩
            have h1 := ho.1
            rw [hll] at h1
            exact ⟨a, cap, he, h1, hl.sub fun b e => .inl e, hb⟩
          obtain ⟨y0, HY0⟩ : ∃ z : Int, Hid (z = (v0.toNat : Int)) := ⟨_, hidd rfl⟩
          obtain ⟨y3, HY3⟩ : ∃ z : Int, Hid (z = (v3.toNat : Int)) := ⟨_, hidd rfl⟩
          have HOR : Hid (y3 = y0 ∨ ((y3 == y0) = false ∧ y3 = zx ∧ l = z2)) := by
            by_cases h : y3 = y0
            · exact .inl h
            · rcases hor with h2 | ⟨h2, h3⟩
              · exact absurd (by rw [HY3.out, HY0.out, h2]) h
              · exact .inr ⟨by rw [beq_eq_false_iff_ne]; exact h, by rw [HY3.out, HZX.out, h2], h3⟩
          clear dk DK hE3 HE1 HD1 hs1 hd1 hsf1 hrm1 ok1 hE2 HD2 hp1 hp2 hsf2 ok2 HD3 hn3 hrm3 ok3 hrl hr3 hrd3 hra hrda hor Hr Hl Hv3 Hv0 HS hsl ok0 hrm0 hp0 hs0 hd0 hpl HZX HOUT
          go_wp2_with fail
          refine (A2.out _ _ HLk.out).mono ?_
          rintro e V4 ⟨rfl, hl, hk⟩
          replace HLk := hidd hl
          replace HRb := hidd (hk.reads HRb.out HKb2.out)
          clear hl hk A2
          go_wp2_with fail
          refine (A3.out _ _ HLk.out).mono ?_
          rintro e V5 ⟨rfl, hl, hk⟩
          replace HLk := hidd hl
          replace HRb := hidd (hk.reads HRb.out HKb2.out)
          clear hl hk A3
          go_wp2_with fail
          refine (B3.out _ _ HLk.out).mono ?_
          rintro e V6 ⟨b6, c6, rfl, hr, hl, hb⟩
          replace HLk := hidd hl
          replace HRb := hidd (HRb.out.below hb)
          have HRn := hidd hr
          clear hl hb hr B3
          go_wp2_with fail
          refine (B4.out _ _ HLk.out).mono ?_
          rintro e V7 ⟨b7, c7, rfl, hr, hl, hb⟩
          replace HRb := hidd (HRb.out.below hb)
          replace HRn := hidd (HRn.out.below hb)
          have HRa := hidd hr
          have HBl := hidd hl.below
          clear hl hb hr B4 HLk
          obtain ⟨g1, o1, rfl, -⟩ := reads_one HRb.out
          obtain ⟨g6, o6, rfl, -⟩ := reads_one HRn.out
          have HR27 := hidd (HR2.out.below HBl.out)
          have IX1 : Hid (∀ V : World, (Instr.indexAt 34 (.slice (some ⟨g1, o1, none⟩) 1 c1) (.int .i64 0)).run Try.prog V = .ok (.pointer (some ⟨g1, o1, none⟩)) V) := fun V => index_one V g1 o1 c1
          have IX6 : Hid (∀ V : World, (Instr.indexAt 34 (.slice (some ⟨g6, o6, none⟩) 1 c6) (.int .i64 0)).run Try.prog V = .ok (.pointer (some ⟨g6, o6, none⟩)) V) := fun V => index_one V g6 o6 c6
          have CL1 : Hid (∀ V : World, Reads V (some ⟨g1, o1, none⟩) 1 c1 [v0] → V.cell? ⟨g1, o1, none⟩ = some (.int .u8 y0)) := fun V h => by
            obtain ⟨b, off, e, hc⟩ := reads_one h
            cases e; rw [HY0.out]; exact hc
          have CL6 : Hid (∀ V : World, Reads V (some ⟨g6, o6, none⟩) 1 c6 [v3] → V.cell? ⟨g6, o6, none⟩ = some (.int .u8 y3)) := fun V h => by
            obtain ⟨b, off, e, hc⟩ := reads_one h
            cases e; rw [HY3.out]; exact hc
          clear HY0 HY3
          rcases HOR.out with hy | ⟨hy, hyx, hlz⟩
          · clear HOR
            subst hy
            go_wp2
            refine wp_region_held_drew (S := (fun V => Reads V (some ⟨g1, o1, none⟩) 1 c1 [v0] ∧ Reads V (some ⟨g6, o6, none⟩) 1 c6 [v3])) (by kernel_rfl) ⟨HRb.out, HRn.out⟩ (fun hHeld => ?_)
            refine wpAnyH_ready (rs := [0]) (by kernel_rfl) (by simp) ?_
            refine (AllReadyH.cons (o := { dst := some 154, op := Op.call { callee := Callee.value (Operand.func 11), args := #[], argTypes := #[] }, type := 4, pos := "law.go:162", after := #[], guard := none }) rfl (fun K hK => ?_) AllReadyH.nil)
            go_simp
            refine (AW.out _).mono ?_
            rintro e V8 ⟨rfl, hb8⟩
            have HF := hidd (HBl.out.drew.trans (hb8.mono HBl.out.size))
            go_wp2_with fail
            refine hK.out _ _ ⟨hHeld.1.below hb8, hHeld.2.below hb8⟩ (fun hHeld => ?_)
            clear hK K
            try simp only [Act.put, List.setIfInBounds_toArray, List.set_cons_zero, List.set_cons_succ]
            refine wpAnyH_take (i := 1) (oi := { dst := some 155, op := Op.move (Operand.tmp 154), type := 4, pos := "law.go:162", after := #[{ on := 0, ground := Ground.data }, { on := 0, ground := Ground.chain }], guard := none }) (v := .bool true) rfl (by kernel_rfl) (by kernel_rfl) (by kernel_rfl) (fun _ _ _ h => h) (Or.inl ⟨by rfl, by intro W hSw; go_simp⟩) hHeld ?_
            try simp only [Act.put, List.setIfInBounds_toArray, List.set_cons_zero, List.set_cons_succ]
            refine wpAnyH_take (i := 2) (oi := { dst := some 156, op := Op.move (Operand.tmp 22), type := 34, pos := "law.go:162", after := #[{ on := 1, ground := Ground.guard }], guard := some (1, true) }) (v := .slice (some ⟨g6, o6, none⟩) 1 c6) rfl (by kernel_rfl) (by kernel_rfl) (by kernel_rfl) (fun _ _ _ h => h) (Or.inl ⟨by rfl, by intro W hSw; go_simp⟩) hHeld ?_
            try simp only [Act.put, List.setIfInBounds_toArray, List.set_cons_zero, List.set_cons_succ]
            refine wpAnyH_take (i := 3) (oi := { dst := some 157, op := Op.indexAddr 34 (Operand.tmp 156) (Operand.const (Value.int IntKind.i64 0)), type := 0, pos := "law.go:162", after := #[{ on := 2, ground := Ground.data }, { on := 1, ground := Ground.guard }], guard := some (1, true) }) (v := .pointer (some ⟨g6, o6, none⟩)) rfl (by kernel_rfl) (by kernel_rfl) (by kernel_rfl) (fun _ _ _ h => h) (Or.inl ⟨by rfl, by intro V hSw; have h1 := IX6.out V; go_simp⟩) hHeld ?_
            try simp only [Act.put, List.setIfInBounds_toArray, List.set_cons_zero, List.set_cons_succ]
            refine wpAnyH_take (i := 4) (oi := { dst := some 158, op := Op.load 5 (Operand.tmp 157), type := 5, pos := "law.go:162", after := #[{ on := 3, ground := Ground.data }, { on := 1, ground := Ground.guard }], guard := some (1, true) }) (v := .int .u8 y3) rfl (by kernel_rfl) (by kernel_rfl) (by kernel_rfl) (fun _ _ _ h => h) (Or.inl ⟨by rfl, by intro V hSw; have h1 := CL6.out V hSw.2; go_simp⟩) hHeld ?_
            try simp only [Act.put, List.setIfInBounds_toArray, List.set_cons_zero, List.set_cons_succ]
            refine wpAnyH_take (i := 5) (oi := { dst := some 159, op := Op.move (Operand.tmp 20), type := 34, pos := "law.go:162", after := #[{ on := 1, ground := Ground.guard }], guard := some (1, true) }) (v := .slice (some ⟨g1, o1, none⟩) 1 c1) rfl (by kernel_rfl) (by kernel_rfl) (by kernel_rfl) (fun _ _ _ h => h) (Or.inl ⟨by rfl, by intro W hSw; go_simp⟩) hHeld ?_
            try simp only [Act.put, List.setIfInBounds_toArray, List.set_cons_zero, List.set_cons_succ]
            refine wpAnyH_take (i := 6) (oi := { dst := some 160, op := Op.indexAddr 34 (Operand.tmp 159) (Operand.const (Value.int IntKind.i64 0)), type := 0, pos := "law.go:162", after := #[{ on := 5, ground := Ground.data }, { on := 1, ground := Ground.guard }], guard := some (1, true) }) (v := .pointer (some ⟨g1, o1, none⟩)) rfl (by kernel_rfl) (by kernel_rfl) (by kernel_rfl) (fun _ _ _ h => h) (Or.inl ⟨by rfl, by intro V hSw; have h1 := IX1.out V; go_simp⟩) hHeld ?_
            try simp only [Act.put, List.setIfInBounds_toArray, List.set_cons_zero, List.set_cons_succ]
            refine wpAnyH_take (i := 7) (oi := { dst := some 161, op := Op.load 5 (Operand.tmp 160), type := 5, pos := "law.go:162", after := #[{ on := 6, ground := Ground.data }, { on := 1, ground := Ground.guard }], guard := some (1, true) }) (v := .int .u8 y3) rfl (by kernel_rfl) (by kernel_rfl) (by kernel_rfl) (fun _ _ _ h => h) (Or.inl ⟨by rfl, by intro V hSw; have h1 := CL1.out V hSw.1; go_simp⟩) hHeld ?_
            try simp only [Act.put, List.setIfInBounds_toArray, List.set_cons_zero, List.set_cons_succ]
            refine wpAnyH_take (i := 8) (oi := { dst := some 162, op := Op.binOp BinOp.eql 5 (Operand.tmp 158) (Operand.tmp 161) 5, type := 4, pos := "law.go:162", after := #[{ on := 4, ground := Ground.data }, { on := 7, ground := Ground.data }, { on := 1, ground := Ground.guard }], guard := some (1, true) }) (v := .bool true) rfl (by kernel_rfl) (by kernel_rfl) (by kernel_rfl) (fun _ _ _ h => h) (Or.inl ⟨by rfl, by intro W hSw; go_simp⟩) hHeld ?_
            try simp only [Act.put, List.setIfInBounds_toArray, List.set_cons_zero, List.set_cons_succ]
            refine wpAnyH_take (i := 9) (oi := { dst := some 163, op := Op.move (Operand.tmp 162), type := 4, pos := "law.go:162", after := #[{ on := 8, ground := Ground.data }, { on := 1, ground := Ground.chain }, { on := 1, ground := Ground.guard }], guard := some (1, true) }) (v := .bool true) rfl (by kernel_rfl) (by kernel_rfl) (by kernel_rfl) (fun _ _ _ h => h) (Or.inl ⟨by rfl, by intro W hSw; go_simp⟩) hHeld ?_
            try simp only [Act.put, List.setIfInBounds_toArray, List.set_cons_zero, List.set_cons_succ]
            refine wpAnyH_take (i := 10) (oi := { dst := some 164, op := Op.move (Operand.tmp 22), type := 34, pos := "law.go:162", after := #[{ on := 9, ground := Ground.guard }], guard := some (9, false) }) (v := undef) rfl (by kernel_rfl) (by kernel_rfl) (by kernel_rfl) (fun _ _ _ h => h) (Or.inr ⟨by rfl, rfl⟩) hHeld ?_
            try simp only [Act.put, List.setIfInBounds_toArray, List.set_cons_zero, List.set_cons_succ]
            refine wpAnyH_take (i := 11) (oi := { dst := some 165, op := Op.indexAddr 34 (Operand.tmp 164) (Operand.const (Value.int IntKind.i64 0)), type := 0, pos := "law.go:162", after := #[{ on := 10, ground := Ground.data }, { on := 9, ground := Ground.guard }], guard := some (9, false) }) (v := undef) rfl (by kernel_rfl) (by kernel_rfl) (by kernel_rfl) (fun _ _ _ h => h) (Or.inr ⟨by rfl, rfl⟩) hHeld ?_
            try simp only [Act.put, List.setIfInBounds_toArray, List.set_cons_zero, List.set_cons_succ]
            refine wpAnyH_take (i := 12) (oi := { dst := some 166, op := Op.load 5 (Operand.tmp 165), type := 5, pos := "law.go:162", after := #[{ on := 11, ground := Ground.data }, { on := 9, ground := Ground.guard }], guard := some (9, false) }) (v := undef) rfl (by kernel_rfl) (by kernel_rfl) (by kernel_rfl) (fun _ _ _ h => h) (Or.inr ⟨by rfl, rfl⟩) hHeld ?_
            try simp only [Act.put, List.setIfInBounds_toArray, List.set_cons_zero, List.set_cons_succ]
            refine wpAnyH_take (i := 13) (oi := { dst := some 167, op := Op.move (Operand.tmp 4), type := 5, pos := "law.go:162", after := #[{ on := 9, ground := Ground.guard }], guard := some (9, false) }) (v := undef) rfl (by kernel_rfl) (by kernel_rfl) (by kernel_rfl) (fun _ _ _ h => h) (Or.inr ⟨by rfl, rfl⟩) hHeld ?_
            try simp only [Act.put, List.setIfInBounds_toArray, List.set_cons_zero, List.set_cons_succ]
            refine wpAnyH_take (i := 14) (oi := { dst := some 168, op := Op.binOp BinOp.eql 5 (Operand.tmp 166) (Operand.tmp 167) 5, type := 4, pos := "law.go:162", after := #[{ on := 12, ground := Ground.data }, { on := 13, ground := Ground.data }, { on := 9, ground := Ground.guard }], guard := some (9, false) }) (v := undef) rfl (by kernel_rfl) (by kernel_rfl) (by kernel_rfl) (fun _ _ _ h => h) (Or.inr ⟨by rfl, rfl⟩) hHeld ?_
            try simp only [Act.put, List.setIfInBounds_toArray, List.set_cons_zero, List.set_cons_succ]
            refine wpAnyH_take (i := 15) (oi := { dst := some 169, op := Op.move (Operand.tmp 168), type := 4, pos := "law.go:162", after := #[{ on := 14, ground := Ground.data }, { on := 9, ground := Ground.chain }, { on := 9, ground := Ground.guard }], guard := some (9, false) }) (v := undef) rfl (by kernel_rfl) (by kernel_rfl) (by kernel_rfl) (fun _ _ _ h => h) (Or.inr ⟨by rfl, rfl⟩) hHeld ?_
            try simp only [Act.put, List.setIfInBounds_toArray, List.set_cons_zero, List.set_cons_succ]
            refine wpAnyH_take (i := 16) (oi := { dst := some 170, op := Op.move (Operand.tmp 24), type := 34, pos := "law.go:162", after := #[{ on := 15, ground := Ground.guard }], guard := some (15, true) }) (v := undef) rfl (by kernel_rfl) (by kernel_rfl) (by kernel_rfl) (fun _ _ _ h => h) (Or.inr ⟨by rfl, rfl⟩) hHeld ?_
            try simp only [Act.put, List.setIfInBounds_toArray, List.set_cons_zero, List.set_cons_succ]
            refine wpAnyH_take (i := 17) (oi := { dst := some 171, op := Op.convert 34 9 (Operand.tmp 170), type := 9, pos := "law.go:162", after := #[{ on := 16, ground := Ground.data }, { on := 15, ground := Ground.guard }], guard := some (15, true) }) (v := undef) rfl (by kernel_rfl) (by kernel_rfl) (by kernel_rfl) (fun _ _ _ h => h) (Or.inr ⟨by rfl, rfl⟩) hHeld ?_
            try simp only [Act.put, List.setIfInBounds_toArray, List.set_cons_zero, List.set_cons_succ]
            refine wpAnyH_take (i := 18) (oi := { dst := some 172, op := Op.move (Operand.tmp 2), type := 34, pos := "law.go:162", after := #[{ on := 15, ground := Ground.guard }], guard := some (15, true) }) (v := undef) rfl (by kernel_rfl) (by kernel_rfl) (by kernel_rfl) (fun _ _ _ h => h) (Or.inr ⟨by rfl, rfl⟩) hHeld ?_
            try simp only [Act.put, List.setIfInBounds_toArray, List.set_cons_zero, List.set_cons_succ]
            refine wpAnyH_take (i := 19) (oi := { dst := some 173, op := Op.convert 34 9 (Operand.tmp 172), type := 9, pos := "law.go:162", after := #[{ on := 18, ground := Ground.data }, { on := 15, ground := Ground.guard }], guard := some (15, true) }) (v := undef) rfl (by kernel_rfl) (by kernel_rfl) (by kernel_rfl) (fun _ _ _ h => h) (Or.inr ⟨by rfl, rfl⟩) hHeld ?_
            try simp only [Act.put, List.setIfInBounds_toArray, List.set_cons_zero, List.set_cons_succ]
            refine wpAnyH_take (i := 20) (oi := { dst := some 174, op := Op.binOp BinOp.eql 9 (Operand.tmp 171) (Operand.tmp 173) 9, type := 4, pos := "law.go:162", after := #[{ on := 17, ground := Ground.data }, { on := 19, ground := Ground.data }, { on := 15, ground := Ground.guard }], guard := some (15, true) }) (v := undef) rfl (by kernel_rfl) (by kernel_rfl) (by kernel_rfl) (fun _ _ _ h => h) (Or.inr ⟨by rfl, rfl⟩) hHeld ?_
            try simp only [Act.put, List.setIfInBounds_toArray, List.set_cons_zero, List.set_cons_succ]
            refine wpAnyH_take (i := 21) (oi := { dst := some 175, op := Op.pick (Operand.tmp 169) (Operand.tmp 174) (Operand.const (Value.bool false)), type := 4, pos := "law.go:162", after := #[{ on := 15, ground := Ground.data }, { on := 20, ground := Ground.data }, { on := 9, ground := Ground.guard }], guard := some (9, false) }) (v := undef) rfl (by kernel_rfl) (by kernel_rfl) (by kernel_rfl) (fun _ _ _ h => h) (Or.inr ⟨by rfl, rfl⟩) hHeld ?_
            try simp only [Act.put, List.setIfInBounds_toArray, List.set_cons_zero, List.set_cons_succ]
            refine wpAnyH_take (i := 22) (oi := { dst := some 176, op := Op.pick (Operand.tmp 163) (Operand.const (Value.bool true)) (Operand.tmp 175), type := 4, pos := "law.go:162", after := #[{ on := 9, ground := Ground.data }, { on := 21, ground := Ground.data }, { on := 1, ground := Ground.guard }], guard := some (1, true) }) (v := .bool true) rfl (by kernel_rfl) (by kernel_rfl) (by kernel_rfl) (fun _ _ _ h => h) (Or.inl ⟨by rfl, by intro W hSw; go_simp⟩) hHeld ?_
            try simp only [Act.put, List.setIfInBounds_toArray, List.set_cons_zero, List.set_cons_succ]
            refine wpAnyH_take (i := 23) (oi := { dst := some 177, op := Op.pick (Operand.tmp 155) (Operand.tmp 176) (Operand.const (Value.bool false)), type := 4, pos := "law.go:162", after := #[{ on := 1, ground := Ground.data }, { on := 22, ground := Ground.data }], guard := none }) (v := .bool true) rfl (by kernel_rfl) (by kernel_rfl) (by kernel_rfl) (fun _ _ _ h => h) (Or.inl ⟨by rfl, by intro W hSw; go_simp⟩) hHeld ?_
            try simp only [Act.put, List.setIfInBounds_toArray, List.set_cons_zero, List.set_cons_succ]
            refine wpAnyH_take (i := 24) (oi := { dst := some 14, op := Op.assign (Operand.tmp 177), type := 4, pos := "law.go:162", after := #[{ on := 23, ground := Ground.data }, { on := 15, ground := Ground.chain }, { on := 0, ground := Ground.phase }, { on := 1, ground := Ground.phase }, { on := 2, ground := Ground.phase }, { on := 3, ground := Ground.phase }, { on := 4, ground := Ground.phase }, { on := 5, ground := Ground.phase }, { on := 6, ground := Ground.phase }, { on := 7, ground := Ground.phase }, { on := 8, ground := Ground.phase }, { on := 9, ground := Ground.phase }, { on := 10, ground := Ground.phase }, { on := 11, ground := Ground.phase }, { on := 12, ground := Ground.phase }, { on := 13, ground := Ground.phase }, { on := 14, ground := Ground.phase }, { on := 15, ground := Ground.phase }, { on := 16, ground := Ground.phase }, { on := 17, ground := Ground.phase }, { on := 18, ground := Ground.phase }, { on := 19, ground := Ground.phase }, { on := 20, ground := Ground.phase }, { on := 21, ground := Ground.phase }, { on := 22, ground := Ground.phase }, { on := 23, ground := Ground.phase }], guard := none }) (v := .bool true) rfl (by kernel_rfl) (by kernel_rfl) (by kernel_rfl) (fun _ _ _ h => h) (Or.inl ⟨by rfl, by intro W hSw; go_simp⟩) hHeld ?_
            try simp only [Act.put, List.setIfInBounds_toArray, List.set_cons_zero, List.set_cons_succ]
            refine wpAnyH_done (by kernel_rfl) ?_ _
            go_wp2
            go_ret
            exact ⟨rfl, HF.out⟩
          · clear HOR
            subst hyx
            subst hlz
            obtain ⟨T, HT⟩ : ∃ T : ByteArray, Hid (T = ⟨l.toArray⟩) := ⟨_, hidd rfl⟩
            have CV : Hid (∀ V a c, Reads V a len2 c l → Sem.run Try.prog (convert 34 9 (.slice a len2 c)) V = .ok (.string T) V) := fun V a c h => by rw [HT.out]; exact conv_reads h
            clear HT
            go_wp2
            refine wp_region_held_drew (S := (fun V => Reads V (some ⟨g1, o1, none⟩) 1 c1 [v0] ∧ Reads V (some ⟨g6, o6, none⟩) 1 c6 [v3] ∧ Reads V b7 len2 c7 l ∧ Reads V a2 len2 cap2 l)) (by kernel_rfl) ⟨HRb.out, HRn.out, HRa.out, HR27.out⟩ (fun hHeld => ?_)
            refine wpAnyH_ready (rs := [0]) (by kernel_rfl) (by simp) ?_
            refine (AllReadyH.cons (o := { dst := some 154, op := Op.call { callee := Callee.value (Operand.func 11), args := #[], argTypes := #[] }, type := 4, pos := "law.go:162", after := #[], guard := none }) rfl (fun K hK => ?_) AllReadyH.nil)
            go_simp
            refine (AW.out _).mono ?_
            rintro e V8 ⟨rfl, hb8⟩
            have HF := hidd (HBl.out.drew.trans (hb8.mono HBl.out.size))
            go_wp2_with fail
            refine hK.out _ _ ⟨hHeld.1.below hb8, hHeld.2.1.below hb8, hHeld.2.2.1.below hb8, hHeld.2.2.2.below hb8⟩ (fun hHeld => ?_)
            clear hK K
            try simp only [Act.put, List.setIfInBounds_toArray, List.set_cons_zero, List.set_cons_succ]
            refine wpAnyH_take (i := 1) (oi := { dst := some 155, op := Op.move (Operand.tmp 154), type := 4, pos := "law.go:162", after := #[{ on := 0, ground := Ground.data }, { on := 0, ground := Ground.chain }], guard := none }) (v := .bool true) rfl (by kernel_rfl) (by kernel_rfl) (by kernel_rfl) (fun _ _ _ h => h) (Or.inl ⟨by rfl, by intro W hSw; go_simp⟩) hHeld ?_
            try simp only [Act.put, List.setIfInBounds_toArray, List.set_cons_zero, List.set_cons_succ]
            refine wpAnyH_take (i := 2) (oi := { dst := some 156, op := Op.move (Operand.tmp 22), type := 34, pos := "law.go:162", after := #[{ on := 1, ground := Ground.guard }], guard := some (1, true) }) (v := .slice (some ⟨g6, o6, none⟩) 1 c6) rfl (by kernel_rfl) (by kernel_rfl) (by kernel_rfl) (fun _ _ _ h => h) (Or.inl ⟨by rfl, by intro W hSw; go_simp⟩) hHeld ?_
            try simp only [Act.put, List.setIfInBounds_toArray, List.set_cons_zero, List.set_cons_succ]
            refine wpAnyH_take (i := 3) (oi := { dst := some 157, op := Op.indexAddr 34 (Operand.tmp 156) (Operand.const (Value.int IntKind.i64 0)), type := 0, pos := "law.go:162", after := #[{ on := 2, ground := Ground.data }, { on := 1, ground := Ground.guard }], guard := some (1, true) }) (v := .pointer (some ⟨g6, o6, none⟩)) rfl (by kernel_rfl) (by kernel_rfl) (by kernel_rfl) (fun _ _ _ h => h) (Or.inl ⟨by rfl, by intro V hSw; have h1 := IX6.out V; go_simp⟩) hHeld ?_
            try simp only [Act.put, List.setIfInBounds_toArray, List.set_cons_zero, List.set_cons_succ]
            refine wpAnyH_take (i := 4) (oi := { dst := some 158, op := Op.load 5 (Operand.tmp 157), type := 5, pos := "law.go:162", after := #[{ on := 3, ground := Ground.data }, { on := 1, ground := Ground.guard }], guard := some (1, true) }) (v := .int .u8 y3) rfl (by kernel_rfl) (by kernel_rfl) (by kernel_rfl) (fun _ _ _ h => h) (Or.inl ⟨by rfl, by intro V hSw; have h1 := CL6.out V hSw.2.1; go_simp⟩) hHeld ?_
            try simp only [Act.put, List.setIfInBounds_toArray, List.set_cons_zero, List.set_cons_succ]
            refine wpAnyH_take (i := 5) (oi := { dst := some 159, op := Op.move (Operand.tmp 20), type := 34, pos := "law.go:162", after := #[{ on := 1, ground := Ground.guard }], guard := some (1, true) }) (v := .slice (some ⟨g1, o1, none⟩) 1 c1) rfl (by kernel_rfl) (by kernel_rfl) (by kernel_rfl) (fun _ _ _ h => h) (Or.inl ⟨by rfl, by intro W hSw; go_simp⟩) hHeld ?_
            try simp only [Act.put, List.setIfInBounds_toArray, List.set_cons_zero, List.set_cons_succ]
            refine wpAnyH_take (i := 6) (oi := { dst := some 160, op := Op.indexAddr 34 (Operand.tmp 159) (Operand.const (Value.int IntKind.i64 0)), type := 0, pos := "law.go:162", after := #[{ on := 5, ground := Ground.data }, { on := 1, ground := Ground.guard }], guard := some (1, true) }) (v := .pointer (some ⟨g1, o1, none⟩)) rfl (by kernel_rfl) (by kernel_rfl) (by kernel_rfl) (fun _ _ _ h => h) (Or.inl ⟨by rfl, by intro V hSw; have h1 := IX1.out V; go_simp⟩) hHeld ?_
            try simp only [Act.put, List.setIfInBounds_toArray, List.set_cons_zero, List.set_cons_succ]
            refine wpAnyH_take (i := 7) (oi := { dst := some 161, op := Op.load 5 (Operand.tmp 160), type := 5, pos := "law.go:162", after := #[{ on := 6, ground := Ground.data }, { on := 1, ground := Ground.guard }], guard := some (1, true) }) (v := .int .u8 y0) rfl (by kernel_rfl) (by kernel_rfl) (by kernel_rfl) (fun _ _ _ h => h) (Or.inl ⟨by rfl, by intro V hSw; have h1 := CL1.out V hSw.1; go_simp⟩) hHeld ?_
            try simp only [Act.put, List.setIfInBounds_toArray, List.set_cons_zero, List.set_cons_succ]
            refine wpAnyH_take (i := 8) (oi := { dst := some 162, op := Op.binOp BinOp.eql 5 (Operand.tmp 158) (Operand.tmp 161) 5, type := 4, pos := "law.go:162", after := #[{ on := 4, ground := Ground.data }, { on := 7, ground := Ground.data }, { on := 1, ground := Ground.guard }], guard := some (1, true) }) (v := .bool false) rfl (by kernel_rfl) (by kernel_rfl) (by kernel_rfl) (fun _ _ _ h => h) (Or.inl ⟨by rfl, by intro W hSw; go_simp⟩) hHeld ?_
            try simp only [Act.put, List.setIfInBounds_toArray, List.set_cons_zero, List.set_cons_succ]
            refine wpAnyH_take (i := 9) (oi := { dst := some 163, op := Op.move (Operand.tmp 162), type := 4, pos := "law.go:162", after := #[{ on := 8, ground := Ground.data }, { on := 1, ground := Ground.chain }, { on := 1, ground := Ground.guard }], guard := some (1, true) }) (v := .bool false) rfl (by kernel_rfl) (by kernel_rfl) (by kernel_rfl) (fun _ _ _ h => h) (Or.inl ⟨by rfl, by intro W hSw; go_simp⟩) hHeld ?_
            try simp only [Act.put, List.setIfInBounds_toArray, List.set_cons_zero, List.set_cons_succ]
            refine wpAnyH_take (i := 10) (oi := { dst := some 164, op := Op.move (Operand.tmp 22), type := 34, pos := "law.go:162", after := #[{ on := 9, ground := Ground.guard }], guard := some (9, false) }) (v := .slice (some ⟨g6, o6, none⟩) 1 c6) rfl (by kernel_rfl) (by kernel_rfl) (by kernel_rfl) (fun _ _ _ h => h) (Or.inl ⟨by rfl, by intro W hSw; go_simp⟩) hHeld ?_
            try simp only [Act.put, List.setIfInBounds_toArray, List.set_cons_zero, List.set_cons_succ]
            refine wpAnyH_take (i := 11) (oi := { dst := some 165, op := Op.indexAddr 34 (Operand.tmp 164) (Operand.const (Value.int IntKind.i64 0)), type := 0, pos := "law.go:162", after := #[{ on := 10, ground := Ground.data }, { on := 9, ground := Ground.guard }], guard := some (9, false) }) (v := .pointer (some ⟨g6, o6, none⟩)) rfl (by kernel_rfl) (by kernel_rfl) (by kernel_rfl) (fun _ _ _ h => h) (Or.inl ⟨by rfl, by intro V hSw; have h1 := IX6.out V; go_simp⟩) hHeld ?_
            try simp only [Act.put, List.setIfInBounds_toArray, List.set_cons_zero, List.set_cons_succ]
            refine wpAnyH_take (i := 12) (oi := { dst := some 166, op := Op.load 5 (Operand.tmp 165), type := 5, pos := "law.go:162", after := #[{ on := 11, ground := Ground.data }, { on := 9, ground := Ground.guard }], guard := some (9, false) }) (v := .int .u8 y3) rfl (by kernel_rfl) (by kernel_rfl) (by kernel_rfl) (fun _ _ _ h => h) (Or.inl ⟨by rfl, by intro V hSw; have h1 := CL6.out V hSw.2.1; go_simp⟩) hHeld ?_
            try simp only [Act.put, List.setIfInBounds_toArray, List.set_cons_zero, List.set_cons_succ]
            refine wpAnyH_take (i := 13) (oi := { dst := some 167, op := Op.move (Operand.tmp 4), type := 5, pos := "law.go:162", after := #[{ on := 9, ground := Ground.guard }], guard := some (9, false) }) (v := .int .u8 y3) rfl (by kernel_rfl) (by kernel_rfl) (by kernel_rfl) (fun _ _ _ h => h) (Or.inl ⟨by rfl, by intro W hSw; go_simp⟩) hHeld ?_
            try simp only [Act.put, List.setIfInBounds_toArray, List.set_cons_zero, List.set_cons_succ]
            refine wpAnyH_take (i := 14) (oi := { dst := some 168, op := Op.binOp BinOp.eql 5 (Operand.tmp 166) (Operand.tmp 167) 5, type := 4, pos := "law.go:162", after := #[{ on := 12, ground := Ground.data }, { on := 13, ground := Ground.data }, { on := 9, ground := Ground.guard }], guard := some (9, false) }) (v := .bool true) rfl (by kernel_rfl) (by kernel_rfl) (by kernel_rfl) (fun _ _ _ h => h) (Or.inl ⟨by rfl, by intro W hSw; go_simp⟩) hHeld ?_
            try simp only [Act.put, List.setIfInBounds_toArray, List.set_cons_zero, List.set_cons_succ]
            refine wpAnyH_take (i := 15) (oi := { dst := some 169, op := Op.move (Operand.tmp 168), type := 4, pos := "law.go:162", after := #[{ on := 14, ground := Ground.data }, { on := 9, ground := Ground.chain }, { on := 9, ground := Ground.guard }], guard := some (9, false) }) (v := .bool true) rfl (by kernel_rfl) (by kernel_rfl) (by kernel_rfl) (fun _ _ _ h => h) (Or.inl ⟨by rfl, by intro W hSw; go_simp⟩) hHeld ?_
            try simp only [Act.put, List.setIfInBounds_toArray, List.set_cons_zero, List.set_cons_succ]
            refine wpAnyH_take (i := 16) (oi := { dst := some 170, op := Op.move (Operand.tmp 24), type := 34, pos := "law.go:162", after := #[{ on := 15, ground := Ground.guard }], guard := some (15, true) }) (v := .slice b7 len2 c7) rfl (by kernel_rfl) (by kernel_rfl) (by kernel_rfl) (fun _ _ _ h => h) (Or.inl ⟨by rfl, by intro W hSw; go_simp⟩) hHeld ?_
            try simp only [Act.put, List.setIfInBounds_toArray, List.set_cons_zero, List.set_cons_succ]
            refine wpAnyH_take (i := 17) (oi := { dst := some 171, op := Op.convert 34 9 (Operand.tmp 170), type := 9, pos := "law.go:162", after := #[{ on := 16, ground := Ground.data }, { on := 15, ground := Ground.guard }], guard := some (15, true) }) (v := .string T) rfl (by kernel_rfl) (by kernel_rfl) (by kernel_rfl) (fun _ _ _ h => h) (Or.inl ⟨by rfl, by intro V hSw; have h1 := CV.out V _ _ hSw.2.2.1; go_simp⟩) hHeld ?_
            try simp only [Act.put, List.setIfInBounds_toArray, List.set_cons_zero, List.set_cons_succ]
            refine wpAnyH_take (i := 18) (oi := { dst := some 172, op := Op.move (Operand.tmp 2), type := 34, pos := "law.go:162", after := #[{ on := 15, ground := Ground.guard }], guard := some (15, true) }) (v := .slice a2 len2 cap2) rfl (by kernel_rfl) (by kernel_rfl) (by kernel_rfl) (fun _ _ _ h => h) (Or.inl ⟨by rfl, by intro W hSw; go_simp⟩) hHeld ?_
            try simp only [Act.put, List.setIfInBounds_toArray, List.set_cons_zero, List.set_cons_succ]
            refine wpAnyH_take (i := 19) (oi := { dst := some 173, op := Op.convert 34 9 (Operand.tmp 172), type := 9, pos := "law.go:162", after := #[{ on := 18, ground := Ground.data }, { on := 15, ground := Ground.guard }], guard := some (15, true) }) (v := .string T) rfl (by kernel_rfl) (by kernel_rfl) (by kernel_rfl) (fun _ _ _ h => h) (Or.inl ⟨by rfl, by intro V hSw; have h1 := CV.out V _ _ hSw.2.2.2; go_simp⟩) hHeld ?_
            try simp only [Act.put, List.setIfInBounds_toArray, List.set_cons_zero, List.set_cons_succ]
            refine wpAnyH_take (i := 20) (oi := { dst := some 174, op := Op.binOp BinOp.eql 9 (Operand.tmp 171) (Operand.tmp 173) 9, type := 4, pos := "law.go:162", after := #[{ on := 17, ground := Ground.data }, { on := 19, ground := Ground.data }, { on := 15, ground := Ground.guard }], guard := some (15, true) }) (v := .bool true) rfl (by kernel_rfl) (by kernel_rfl) (by kernel_rfl) (fun _ _ _ h => h) (Or.inl ⟨by rfl, by intro W hSw; go_simp⟩) hHeld ?_
            try simp only [Act.put, List.setIfInBounds_toArray, List.set_cons_zero, List.set_cons_succ]
            refine wpAnyH_take (i := 21) (oi := { dst := some 175, op := Op.pick (Operand.tmp 169) (Operand.tmp 174) (Operand.const (Value.bool false)), type := 4, pos := "law.go:162", after := #[{ on := 15, ground := Ground.data }, { on := 20, ground := Ground.data }, { on := 9, ground := Ground.guard }], guard := some (9, false) }) (v := .bool true) rfl (by kernel_rfl) (by kernel_rfl) (by kernel_rfl) (fun _ _ _ h => h) (Or.inl ⟨by rfl, by intro W hSw; go_simp⟩) hHeld ?_
            try simp only [Act.put, List.setIfInBounds_toArray, List.set_cons_zero, List.set_cons_succ]
            refine wpAnyH_take (i := 22) (oi := { dst := some 176, op := Op.pick (Operand.tmp 163) (Operand.const (Value.bool true)) (Operand.tmp 175), type := 4, pos := "law.go:162", after := #[{ on := 9, ground := Ground.data }, { on := 21, ground := Ground.data }, { on := 1, ground := Ground.guard }], guard := some (1, true) }) (v := .bool true) rfl (by kernel_rfl) (by kernel_rfl) (by kernel_rfl) (fun _ _ _ h => h) (Or.inl ⟨by rfl, by intro W hSw; go_simp⟩) hHeld ?_
            try simp only [Act.put, List.setIfInBounds_toArray, List.set_cons_zero, List.set_cons_succ]
            refine wpAnyH_take (i := 23) (oi := { dst := some 177, op := Op.pick (Operand.tmp 155) (Operand.tmp 176) (Operand.const (Value.bool false)), type := 4, pos := "law.go:162", after := #[{ on := 1, ground := Ground.data }, { on := 22, ground := Ground.data }], guard := none }) (v := .bool true) rfl (by kernel_rfl) (by kernel_rfl) (by kernel_rfl) (fun _ _ _ h => h) (Or.inl ⟨by rfl, by intro W hSw; go_simp⟩) hHeld ?_
            try simp only [Act.put, List.setIfInBounds_toArray, List.set_cons_zero, List.set_cons_succ]
            refine wpAnyH_take (i := 24) (oi := { dst := some 14, op := Op.assign (Operand.tmp 177), type := 4, pos := "law.go:162", after := #[{ on := 23, ground := Ground.data }, { on := 15, ground := Ground.chain }, { on := 0, ground := Ground.phase }, { on := 1, ground := Ground.phase }, { on := 2, ground := Ground.phase }, { on := 3, ground := Ground.phase }, { on := 4, ground := Ground.phase }, { on := 5, ground := Ground.phase }, { on := 6, ground := Ground.phase }, { on := 7, ground := Ground.phase }, { on := 8, ground := Ground.phase }, { on := 9, ground := Ground.phase }, { on := 10, ground := Ground.phase }, { on := 11, ground := Ground.phase }, { on := 12, ground := Ground.phase }, { on := 13, ground := Ground.phase }, { on := 14, ground := Ground.phase }, { on := 15, ground := Ground.phase }, { on := 16, ground := Ground.phase }, { on := 17, ground := Ground.phase }, { on := 18, ground := Ground.phase }, { on := 19, ground := Ground.phase }, { on := 20, ground := Ground.phase }, { on := 21, ground := Ground.phase }, { on := 22, ground := Ground.phase }, { on := 23, ground := Ground.phase }], guard := none }) (v := .bool true) rfl (by kernel_rfl) (by kernel_rfl) (by kernel_rfl) (fun _ _ _ h => h) (Or.inl ⟨by rfl, by intro W hSw; go_simp⟩) hHeld ?_
            try simp only [Act.put, List.setIfInBounds_toArray, List.set_cons_zero, List.set_cons_succ]
            refine wpAnyH_done (by kernel_rfl) ?_ _
            go_wp2
            go_ret
            exact ⟨rfl, HF.out⟩
        · have hE' : (E1 == 0) = false := by rw [beq_eq_false_iff_ne]; exact hE
          have HBl := hidd HLk.out.below
          clear hE3 HLk HRb
          go_wp2_with fail
          refine (AW.out _).mono ?_
          rintro e Vx ⟨rfl, hbx⟩
          clear AW
          go_wp2
          go_ret
          exact ⟨rfl, HBl.out.trans (hbx.mono HBl.out.size)⟩
  · go_wp2_with fail
    obtain ⟨⟨hq1, hq2⟩, hp1_, hp2_⟩ := HRG.out
    clear d3 d4 d5 d6 d7 d8 hw7 HRG
    obtain ⟨q, rfl⟩ : ∃ q : Nat, a1 = (q : Int) := ⟨a1.toNat, by omega⟩
    obtain ⟨pl, rfl⟩ : ∃ pl : Nat, a3 = (pl : Int) := ⟨a3.toNat, by omega⟩
    have hq : q ≤ 64 := by omega
    have hpp : pl ≤ 64 := by omega
    clear hq1 hq2 hp1_ hp2_
    refine (N1.out _ (Below.refl _ _)).mono ?_
    rintro e W1 ⟨pd, rfl, hl1⟩
    have HL1 := hidd hl1
    clear hl1 N1
    go_wp2_with fail
    refine (M1.out _ _ HL1.out).mono ?_
    rintro e W2 ⟨pm, rfl, hr⟩
    have HRN := hidd hr
    clear hr M1 HL1
    go_wp2
    go_loopw [19] (fun v wr => ∃ k : Nat, k ≤ len0 ∧ v = .int .i64 k ∧ Hid (Ran At w wr pd pm 64 k)) (fun v _ => len0 - (intOf v).toNat)
    case atStart => exact ⟨0, by omega, rfl, HRN⟩
    case round =>
      obtain ⟨k, hk, rfl, HK⟩ := hrel
      clear HRN
      by_cases hlt : k < len0
      · have hdk : decide ((k : Int) < (len0 : Int)) = true := by rw [decide_eq_true_eq]; omega
        have hw := wrap_int ((k : Int) + 1) (by omega) (by omega)
        obtain ⟨b, off, o, rfl, hio, hlo, h3, c0, c1, c2, c3⟩ := op_there HS0.out HK.out.below H300.out k hlt
        have CL := hidd (CA.out wr pd pm k o HK.out (by omega) hio h3)
        have ix := fun V => op_index V b off len0 cap0 k hlt
        obtain ⟨ok, oa, on, ox, ol, oc, ob⟩ := o
        simp only at c0 c1 c2 c3 CL
        clear HK hio hlo h3 CA
        go_wp2_with fail
        refine CL.out.mono ?_
        rintro e w5 ⟨rfl, hr⟩
        have HR2 := hidd hr
        clear hr CL
        go_wp2
        go_roundw
        case rel => exact ⟨k + 1, by omega, by go_num, HR2⟩
        case measure => simp [intOf]; omega
      · obtain rfl : len0 = k := by omega
        have hdk : decide ((len0 : Int) < (len0 : Int)) = false := by rw [decide_eq_false_iff_not]; omega
        obtain ⟨D, hT, hpl, hroom⟩ := HK.out
        have ok := hT.okd DK.out
        have HL := hidd hT.lv
        clear HK CA hT
        obtain ⟨D0, HD0⟩ : ∃ D1, Hid (D1 = crashD D 1000 0) := ⟨_, hidd rfl⟩
        have ok0 : OkD D0 := by rw [HD0.out]; exact crashD_ok ok _ _
        have hrm0 : D0.safe.length = 64 := by rw [HD0.out, crashD_room ok]; exact hroom
        obtain ⟨hp0, hs0, hd0⟩ : D0.puts = [] ∧ D0.stops = false ∧ D0.down = false := by rw [HD0.out]; exact ⟨rfl, rfl, rfl⟩
        obtain ⟨s, HS⟩ : ∃ s, Hid (s = D0.safe) := ⟨_, hidd rfl⟩
        have hsl : s.length = 64 := by rw [HS.out, hrm0]
        have hn0 : nowB D0 = s := by unfold nowB; rw [hp0, HS.out]; rfl
        have A0 : Hid (∀ V K, Lv At w V pd D K → Calls Try.prog 20 #[.pointer (some ⟨pd, 0, none⟩), .int .i64 1000, .int .i64 0] V fun e w' => e = .returned (.int .i64 0) ∧ Lv At w w' pd D0 K ∧ Kept9 K V w') := fun V K h => lv_crash DK.out h (by omega) 1000 0 (by unfold In64; omega) (by unfold In64; omega) D0 HD0.out
        have i1 : In64 1 := by unfold In64; omega
        go_wp2_with fail
        refine (A0.out _ _ HL.out).mono ?_
        rintro e V1 ⟨rfl, hl, _⟩
        replace HL := hidd hl
        clear hl A0 hpl ok HD0 hroom
        by_cases hp64 : pl = 64
        · subst hp64
          have hr : inB D0.safe.length 64 1 = false := by
            cases hi : inB D0.safe.length 64 1
            · rfl
            · have := (inB_iff _ _ _).1 hi; rw [hrm0] at this; omega
          have B0 : Hid (∀ V K, Lv At w V pd D0 K → Calls Try.prog 16 #[.pointer (some ⟨pd, 0, none⟩), .int .i64 64, .int .i64 1] V fun e w' => ∃ a cap, e = .returned (.tuple #[.slice a 0 cap, .int .i64 81]) ∧ Below w.heap.size w w') := fun V K h => by
            refine (lv_read DK.out h 64 1 (by unfold In64; omega) i1 [] (by unfold rdB; rw [if_neg (by rw [hr]; decide)]) 81 (by unfold rdE; rw [if_neg (by rw [hr]; decide)])).mono ?_
            rintro e w' ⟨a, cap, he, _, hl, _⟩
            exact ⟨a, cap, he, hl.below⟩
          go_wp2_with fail
          refine (B0.out _ _ HL.out).mono ?_
          rintro e V2 ⟨b1, c1, rfl, hb2⟩
          have HBl := hidd hb2
          clear hb2 B0
          go_wp2_with fail
          refine (AW.out _).mono ?_
          rintro e Vx ⟨rfl, hbx⟩
          clear AW
          go_wp2
          go_ret
          exact ⟨rfl, HBl.out.trans (hbx.mono HBl.out.size)⟩
        have hpl : pl < s.length := by omega
        clear hp64
        obtain ⟨v0, Hv0⟩ : ∃ v, Hid (s[pl]? = some v) := ⟨_, hidd (List.getElem?_eq_getElem hpl)⟩
        have hr0 : inB D0.safe.length (pl : Int) 1 = true := by rw [inB_iff, hrm0]; omega
        have hrd0 : rdB D0 (pl : Int) 1 = [v0] := by
          unfold rdB
          rw [if_pos hr0, hn0]
          show (s.drop pl).take 1 = [v0]
          rw [part_one s pl hpl]
          have := Hv0.out
          rw [List.getElem?_eq_getElem hpl] at this
          rw [Option.some.inj this]
        have B0 : Hid (∀ V K, Lv At w V pd D0 K → Calls Try.prog 16 #[.pointer (some ⟨pd, 0, none⟩), .int .i64 pl, .int .i64 1] V fun e w' => ∃ a cap, e = .returned (.tuple #[.slice a 1 cap, .int .i64 0]) ∧ OutB V.heap.size w' a cap [v0] ∧ Lv At w w' pd D0 (fun b => K b ∨ (V.heap.size ≤ b ∧ b < w'.heap.size))) := fun V K h => by
          refine (lv_read DK.out h pl 1 w3 i1 [v0] hrd0.symm 0 (by unfold rdE; rw [if_pos hr0])).mono ?_
          rintro e w' ⟨a, cap, he, ho, hl, _⟩
          exact ⟨a, cap, he, ho, hl⟩
        go_wp2_with fail
        refine (B0.out _ _ HL.out).mono ?_
        rintro e V2 ⟨b1, c1, rfl, ho, hl⟩
        replace HL := hidd hl
        have HB2 := hidd ho.blk
        have HRb : Hid (Reads V2 b1 1 c1 [v0]) := ho.1
        obtain ⟨K2, HK2⟩ : ∃ K2 : Nat → Prop, Hid (K2 = fun b => (fun b => b < w.heap.size) b ∨ (V1.heap.size ≤ b ∧ b < V2.heap.size)) := ⟨_, hidd rfl⟩
        have HLk : Hid (Lv At w V2 pd D0 K2) := by show Lv _ _ _ _ _ _; rw [HK2.out]; exact HL.out
        have HKw2 : Hid (∀ b, b < w.heap.size → K2 b) := fun b e => by rw [HK2.out]; exact .inl e
        have HKb2 : Hid (∀ b off, b1 = some ⟨b, off, none⟩ → 0 < 1 → K2 b) := fun b off e h => by rw [HK2.out]; exact .inr (HB2.out b off e (by show 0 < 1; omega))
        clear hl ho HB2 HL HK2 B0 hrd0 hr0 hn0
        obtain ⟨E1, HE1⟩ : ∃ E, Hid (E = writeE D0 q z2) := ⟨_, hidd rfl⟩
        obtain ⟨D1, HD1⟩ : ∃ E, Hid (E = writeD D0 q z2) := ⟨_, hidd rfl⟩
        have hE3 := writeE_two D0 q z2
        rw [← HE1.out, hrm0, hz2] at hE3
        have A1 : Hid (∀ V K, Lv At w V pd D0 K → (∀ b, b < w.heap.size → K b) → Calls Try.prog 18 #[.pointer (some ⟨pd, 0, none⟩), .int .i64 q, .slice a2 len2 cap2] V fun e w' => e = .returned (.int .i64 E1) ∧ Lv At w w' pd D1 K ∧ Kept9 K V w') := fun V K h hK => by
          refine lv_write DK.out h (by rw [hp0]; exact Nat.zero_le _) q w1 a2 len2 cap2 z2 (HR2.out.below h.below) (by omega) (fun b off e h0 => ?_) D1 HD1.out E1 HE1.out
          rcases HR2.out.2.2.2 with ⟨e2, _⟩ | ⟨ad, e2, h2⟩ | ⟨b', off', e2, hlt, _⟩
          · rw [e2] at e; cases e
          · omega
          · rw [e2] at e; cases e; exact hK _ hlt
        go_wp2_with fail
        refine (A1.out _ _ HLk.out HKw2.out).mono ?_
        rintro e V3 ⟨rfl, hl, hk⟩
        replace HLk := hidd hl
        replace HRb := hidd (hk.reads HRb.out HKb2.out)
        clear hl hk A1
        by_cases hE : E1 = 0
        · have hfit : q + len2 ≤ 64 := by
            rcases hE3 with ⟨_, _, h⟩ | ⟨h, _⟩ | ⟨h, _⟩
            · have := (inB_iff _ _ _).1 h; omega
            · omega
            · omega
          have hp1 : D1.puts = [(q, z2)] := by
            rw [HD1.out, write_puts (by rw [← HE1.out]; exact hE), hp0]
            rfl
          subst hE
          obtain ⟨hs1, hd1⟩ := write_calm hs0 (q : Int) z2
          rw [← HD1.out] at hs1 hd1
          rw [hd0] at hd1
          have hsf1 : D1.safe = s := by rw [HD1.out, writeD_room, HS.out]
          have hrm1 : D1.safe.length = 64 := by rw [hsf1]; exact hsl
          have ok1 : OkD D1 := by rw [HD1.out]; exact writeD_ok ok0 _ _
          have hE2 : writeE D1 (pl : Int) [x] = 0 := by
            unfold writeE
            rw [if_neg (by rw [hd1]; decide), if_pos (by rw [inB_iff, hrm1]; show 0 ≤ (pl : Int) ∧ (0 : Int) ≤ 1 ∧ (pl : Int) ≤ (64 : Nat) ∧ (1 : Int) ≤ (64 : Nat) - (pl : Int); omega)]
          obtain ⟨D2, HD2⟩ : ∃ E, Hid (E = writeD D1 pl [x]) := ⟨_, hidd rfl⟩
          have hp2 : D2.puts = [(q, z2), (pl, [x])] := by
            rw [HD2.out, write_puts hE2, hp1]
            rfl
          have hsf2 : D2.safe = s := by rw [HD2.out, writeD_room]; exact hsf1
          have ok2 : OkD D2 := by rw [HD2.out]; exact writeD_ok ok1 _ _
          obtain ⟨D3, HD3⟩ : ∃ D3, Hid (D3 = crashD D2 a5 a6) := ⟨_, hidd rfl⟩
          obtain ⟨r, Hr⟩ : ∃ r, Hid (r = crashL a5 a6 0 s [(q, z2), (pl, [x])]) := ⟨_, hidd rfl⟩
          have hn3 : nowB D3 = r := by rw [HD3.out, nowB_crash, Hr.out]; unfold crashB; rw [hsf2, hp2]
          have hrm3 : D3.safe.length = 64 := by rw [HD3.out, crashD_room ok2, hsf2]; exact hsl
          have ok3 : OkD D3 := by rw [HD3.out]; exact crashD_ok ok2 _ _
          have hrl : r.length = 64 := by rw [← hn3, nowB_length ok3, hrm3]
          obtain ⟨v3, Hv3⟩ : ∃ v, Hid (r[pl]? = some v) := ⟨_, hidd (List.getElem?_eq_getElem (by omega))⟩
          have hr3 : inB D3.safe.length (pl : Int) 1 = true := by rw [inB_iff, hrm3]; omega
          have hrd3 : rdB D3 (pl : Int) 1 = [v3] := by
            unfold rdB
            rw [if_pos hr3, hn3]
            show (r.drop pl).take 1 = [v3]
            rw [part_one r pl (by omega)]
            have := Hv3.out
            rw [List.getElem?_eq_getElem (by omega)] at this
            rw [Option.some.inj this]
          obtain ⟨l, Hl⟩ : ∃ l, Hid (l = (r.drop q).take len2) := ⟨_, hidd rfl⟩
          have hra : inB D3.safe.length (q : Int) (len2 : Int) = true := by rw [inB_iff, hrm3]; omega
          have hrda : rdB D3 (q : Int) (len2 : Int) = l := by
            unfold rdB
            rw [if_pos hra, hn3, Hl.out]
            rfl
          have hll : l.length = len2 := by rw [Hl.out, List.length_take, List.length_drop]; omega
          have hor : v3 = v0 ∨ (v3 = x ∧ l = z2) := by
            have := crash_two a5 a6 s q pl z2 x (by omega) (by omega) (by have := HOUT.out; omega)
            rw [← Hr.out, Hv3.out, Hv0.out, hz2, ← Hl.out] at this
            rcases this with h | ⟨h, h2⟩
            · exact .inl (Option.some.inj h)
            · exact .inr ⟨Option.some.inj h, h2⟩
          have A2 : Hid (∀ V K, Lv At w V pd D1 K → Calls Try.prog 18 #[.pointer (some ⟨pd, 0, none⟩), .int .i64 pl, .slice (some ⟨V.heap.size, 0, none⟩) 1 1] (V.alloc (.cells #[.int .u8 zx] 5)) fun e w' => e = .returned (.int .i64 0) ∧ Lv At w w' pd D2 K ∧ Kept9 K V w') := fun V K h => lv_write_lit DK.out h (by rw [hp1]; show 1 ≤ 1000000; omega) pl w3 #[.int .u8 zx] (0, 0) 1 [x] (by rw [HZX.out]; rfl) rfl (by omega) D2 HD2.out 0 hE2.symm
          have A3 : Hid (∀ V K, Lv At w V pd D2 K → Calls Try.prog 20 #[.pointer (some ⟨pd, 0, none⟩), .int .i64 a5, .int .i64 a6] V fun e w' => e = .returned (.int .i64 0) ∧ Lv At w w' pd D3 K ∧ Kept9 K V w') := fun V K h => lv_crash DK.out h (by rw [hp2]; show 2 ≤ 1000000; omega) a5 a6 w5 w6 D3 HD3.out
          have B3 : Hid (∀ V K, Lv At w V pd D3 K → Calls Try.prog 16 #[.pointer (some ⟨pd, 0, none⟩), .int .i64 pl, .int .i64 1] V fun e w' => ∃ a cap, e = .returned (.tuple #[.slice a 1 cap, .int .i64 0]) ∧ Reads w' a 1 cap [v3] ∧ Lv At w w' pd D3 K ∧ Below V.heap.size V w') := fun V K h => by
            refine (lv_read DK.out h pl 1 w3 i1 [v3] hrd3.symm 0 (by unfold rdE; rw [if_pos hr3])).mono ?_
            rintro e w' ⟨a, cap, he, ho, hl, hb⟩
            exact ⟨a, cap, he, ho.1, hl.sub fun b e => .inl e, hb⟩
          have B4 : Hid (∀ V K, Lv At w V pd D3 K → Calls Try.prog 16 #[.pointer (some ⟨pd, 0, none⟩), .int .i64 q, .int .i64 len2] V fun e w' => ∃ a cap, e = .returned (.tuple #[.slice a len2 cap, .int .i64 0]) ∧ Reads w' a len2 cap l ∧ Lv At w w' pd D3 K ∧ Below V.heap.size V w') := fun V K h => by
            have := lv_read DK.out h q len2 w1 (by unfold In64; omega) l hrda.symm 0 (by unfold rdE; rw [if_pos hra])
            rw [hll] at this
            refine this.mono ?_
            rintro e w' ⟨a, cap, he, ho, hl, hb⟩
            have h1 := ho.1
            rw [hll] at h1
            exact ⟨a, cap, he, h1, hl.sub fun b e => .inl e, hb⟩
          obtain ⟨y0, HY0⟩ : ∃ z : Int, Hid (z = (v0.toNat : Int)) := ⟨_, hidd rfl⟩
          obtain ⟨y3, HY3⟩ : ∃ z : Int, Hid (z = (v3.toNat : Int)) := ⟨_, hidd rfl⟩
          have HOR : Hid (y3 = y0 ∨ ((y3 == y0) = false ∧ y3 = zx ∧ l = z2)) := by
            by_cases h : y3 = y0
            · exact .inl h
            · rcases hor with h2 | ⟨h2, h3⟩
              · exact absurd (by rw [HY3.out, HY0.out, h2]) h
              · exact .inr ⟨by rw [beq_eq_false_iff_ne]; exact h, by rw [HY3.out, HZX.out, h2], h3⟩
          clear dk DK hE3 HE1 HD1 hs1 hd1 hsf1 hrm1 ok1 hE2 HD2 hp1 hp2 hsf2 ok2 HD3 hn3 hrm3 ok3 hrl hr3 hrd3 hra hrda hor Hr Hl Hv3 Hv0 HS hsl ok0 hrm0 hp0 hs0 hd0 hpl HZX HOUT
          go_wp2_with fail
          refine (A2.out _ _ HLk.out).mono ?_
          rintro e V4 ⟨rfl, hl, hk⟩
          replace HLk := hidd hl
          replace HRb := hidd (hk.reads HRb.out HKb2.out)
          clear hl hk A2
          go_wp2_with fail
          refine (A3.out _ _ HLk.out).mono ?_
          rintro e V5 ⟨rfl, hl, hk⟩
          replace HLk := hidd hl
          replace HRb := hidd (hk.reads HRb.out HKb2.out)
          clear hl hk A3
          go_wp2_with fail
          refine (B3.out _ _ HLk.out).mono ?_
          rintro e V6 ⟨b6, c6, rfl, hr, hl, hb⟩
          replace HLk := hidd hl
          replace HRb := hidd (HRb.out.below hb)
          have HRn := hidd hr
          clear hl hb hr B3
          go_wp2_with fail
          refine (B4.out _ _ HLk.out).mono ?_
          rintro e V7 ⟨b7, c7, rfl, hr, hl, hb⟩
          replace HRb := hidd (HRb.out.below hb)
          replace HRn := hidd (HRn.out.below hb)
          have HRa := hidd hr
          have HBl := hidd hl.below
          clear hl hb hr B4 HLk
          obtain ⟨g1, o1, rfl, -⟩ := reads_one HRb.out
          obtain ⟨g6, o6, rfl, -⟩ := reads_one HRn.out
          have HR27 := hidd (HR2.out.below HBl.out)
          have IX1 : Hid (∀ V : World, (Instr.indexAt 34 (.slice (some ⟨g1, o1, none⟩) 1 c1) (.int .i64 0)).run Try.prog V = .ok (.pointer (some ⟨g1, o1, none⟩)) V) := fun V => index_one V g1 o1 c1
          have IX6 : Hid (∀ V : World, (Instr.indexAt 34 (.slice (some ⟨g6, o6, none⟩) 1 c6) (.int .i64 0)).run Try.prog V = .ok (.pointer (some ⟨g6, o6, none⟩)) V) := fun V => index_one V g6 o6 c6
          have CL1 : Hid (∀ V : World, Reads V (some ⟨g1, o1, none⟩) 1 c1 [v0] → V.cell? ⟨g1, o1, none⟩ = some (.int .u8 y0)) := fun V h => by
            obtain ⟨b, off, e, hc⟩ := reads_one h
            cases e; rw [HY0.out]; exact hc
          have CL6 : Hid (∀ V : World, Reads V (some ⟨g6, o6, none⟩) 1 c6 [v3] → V.cell? ⟨g6, o6, none⟩ = some (.int .u8 y3)) := fun V h => by
            obtain ⟨b, off, e, hc⟩ := reads_one h
            cases e; rw [HY3.out]; exact hc
          clear HY0 HY3
          rcases HOR.out with hy | ⟨hy, hyx, hlz⟩
          · clear HOR
            subst hy
            go_wp2
            refine wp_region_held_drew (S := (fun V => Reads V (some ⟨g1, o1, none⟩) 1 c1 [v0] ∧ Reads V (some ⟨g6, o6, none⟩) 1 c6 [v3])) (by kernel_rfl) ⟨HRb.out, HRn.out⟩ (fun hHeld => ?_)
            refine wpAnyH_ready (rs := [0]) (by kernel_rfl) (by simp) ?_
            refine (AllReadyH.cons (o := { dst := some 154, op := Op.call { callee := Callee.value (Operand.func 11), args := #[], argTypes := #[] }, type := 4, pos := "law.go:162", after := #[], guard := none }) rfl (fun K hK => ?_) AllReadyH.nil)
            go_simp
            refine (AW.out _).mono ?_
            rintro e V8 ⟨rfl, hb8⟩
            have HF := hidd (HBl.out.drew.trans (hb8.mono HBl.out.size))
            go_wp2_with fail
            refine hK.out _ _ ⟨hHeld.1.below hb8, hHeld.2.below hb8⟩ (fun hHeld => ?_)
            clear hK K
            try simp only [Act.put, List.setIfInBounds_toArray, List.set_cons_zero, List.set_cons_succ]
            refine wpAnyH_take (i := 1) (oi := { dst := some 155, op := Op.move (Operand.tmp 154), type := 4, pos := "law.go:162", after := #[{ on := 0, ground := Ground.data }, { on := 0, ground := Ground.chain }], guard := none }) (v := .bool true) rfl (by kernel_rfl) (by kernel_rfl) (by kernel_rfl) (fun _ _ _ h => h) (Or.inl ⟨by rfl, by intro W hSw; go_simp⟩) hHeld ?_
            try simp only [Act.put, List.setIfInBounds_toArray, List.set_cons_zero, List.set_cons_succ]
            refine wpAnyH_take (i := 2) (oi := { dst := some 156, op := Op.move (Operand.tmp 22), type := 34, pos := "law.go:162", after := #[{ on := 1, ground := Ground.guard }], guard := some (1, true) }) (v := .slice (some ⟨g6, o6, none⟩) 1 c6) rfl (by kernel_rfl) (by kernel_rfl) (by kernel_rfl) (fun _ _ _ h => h) (Or.inl ⟨by rfl, by intro W hSw; go_simp⟩) hHeld ?_
            try simp only [Act.put, List.setIfInBounds_toArray, List.set_cons_zero, List.set_cons_succ]
            refine wpAnyH_take (i := 3) (oi := { dst := some 157, op := Op.indexAddr 34 (Operand.tmp 156) (Operand.const (Value.int IntKind.i64 0)), type := 0, pos := "law.go:162", after := #[{ on := 2, ground := Ground.data }, { on := 1, ground := Ground.guard }], guard := some (1, true) }) (v := .pointer (some ⟨g6, o6, none⟩)) rfl (by kernel_rfl) (by kernel_rfl) (by kernel_rfl) (fun _ _ _ h => h) (Or.inl ⟨by rfl, by intro V hSw; have h1 := IX6.out V; go_simp⟩) hHeld ?_
            try simp only [Act.put, List.setIfInBounds_toArray, List.set_cons_zero, List.set_cons_succ]
            refine wpAnyH_take (i := 4) (oi := { dst := some 158, op := Op.load 5 (Operand.tmp 157), type := 5, pos := "law.go:162", after := #[{ on := 3, ground := Ground.data }, { on := 1, ground := Ground.guard }], guard := some (1, true) }) (v := .int .u8 y3) rfl (by kernel_rfl) (by kernel_rfl) (by kernel_rfl) (fun _ _ _ h => h) (Or.inl ⟨by rfl, by intro V hSw; have h1 := CL6.out V hSw.2; go_simp⟩) hHeld ?_
            try simp only [Act.put, List.setIfInBounds_toArray, List.set_cons_zero, List.set_cons_succ]
            refine wpAnyH_take (i := 5) (oi := { dst := some 159, op := Op.move (Operand.tmp 20), type := 34, pos := "law.go:162", after := #[{ on := 1, ground := Ground.guard }], guard := some (1, true) }) (v := .slice (some ⟨g1, o1, none⟩) 1 c1) rfl (by kernel_rfl) (by kernel_rfl) (by kernel_rfl) (fun _ _ _ h => h) (Or.inl ⟨by rfl, by intro W hSw; go_simp⟩) hHeld ?_
            try simp only [Act.put, List.setIfInBounds_toArray, List.set_cons_zero, List.set_cons_succ]
            refine wpAnyH_take (i := 6) (oi := { dst := some 160, op := Op.indexAddr 34 (Operand.tmp 159) (Operand.const (Value.int IntKind.i64 0)), type := 0, pos := "law.go:162", after := #[{ on := 5, ground := Ground.data }, { on := 1, ground := Ground.guard }], guard := some (1, true) }) (v := .pointer (some ⟨g1, o1, none⟩)) rfl (by kernel_rfl) (by kernel_rfl) (by kernel_rfl) (fun _ _ _ h => h) (Or.inl ⟨by rfl, by intro V hSw; have h1 := IX1.out V; go_simp⟩) hHeld ?_
            try simp only [Act.put, List.setIfInBounds_toArray, List.set_cons_zero, List.set_cons_succ]
            refine wpAnyH_take (i := 7) (oi := { dst := some 161, op := Op.load 5 (Operand.tmp 160), type := 5, pos := "law.go:162", after := #[{ on := 6, ground := Ground.data }, { on := 1, ground := Ground.guard }], guard := some (1, true) }) (v := .int .u8 y3) rfl (by kernel_rfl) (by kernel_rfl) (by kernel_rfl) (fun _ _ _ h => h) (Or.inl ⟨by rfl, by intro V hSw; have h1 := CL1.out V hSw.1; go_simp⟩) hHeld ?_
            try simp only [Act.put, List.setIfInBounds_toArray, List.set_cons_zero, List.set_cons_succ]
            refine wpAnyH_take (i := 8) (oi := { dst := some 162, op := Op.binOp BinOp.eql 5 (Operand.tmp 158) (Operand.tmp 161) 5, type := 4, pos := "law.go:162", after := #[{ on := 4, ground := Ground.data }, { on := 7, ground := Ground.data }, { on := 1, ground := Ground.guard }], guard := some (1, true) }) (v := .bool true) rfl (by kernel_rfl) (by kernel_rfl) (by kernel_rfl) (fun _ _ _ h => h) (Or.inl ⟨by rfl, by intro W hSw; go_simp⟩) hHeld ?_
            try simp only [Act.put, List.setIfInBounds_toArray, List.set_cons_zero, List.set_cons_succ]
            refine wpAnyH_take (i := 9) (oi := { dst := some 163, op := Op.move (Operand.tmp 162), type := 4, pos := "law.go:162", after := #[{ on := 8, ground := Ground.data }, { on := 1, ground := Ground.chain }, { on := 1, ground := Ground.guard }], guard := some (1, true) }) (v := .bool true) rfl (by kernel_rfl) (by kernel_rfl) (by kernel_rfl) (fun _ _ _ h => h) (Or.inl ⟨by rfl, by intro W hSw; go_simp⟩) hHeld ?_
            try simp only [Act.put, List.setIfInBounds_toArray, List.set_cons_zero, List.set_cons_succ]
            refine wpAnyH_take (i := 10) (oi := { dst := some 164, op := Op.move (Operand.tmp 22), type := 34, pos := "law.go:162", after := #[{ on := 9, ground := Ground.guard }], guard := some (9, false) }) (v := undef) rfl (by kernel_rfl) (by kernel_rfl) (by kernel_rfl) (fun _ _ _ h => h) (Or.inr ⟨by rfl, rfl⟩) hHeld ?_
            try simp only [Act.put, List.setIfInBounds_toArray, List.set_cons_zero, List.set_cons_succ]
            refine wpAnyH_take (i := 11) (oi := { dst := some 165, op := Op.indexAddr 34 (Operand.tmp 164) (Operand.const (Value.int IntKind.i64 0)), type := 0, pos := "law.go:162", after := #[{ on := 10, ground := Ground.data }, { on := 9, ground := Ground.guard }], guard := some (9, false) }) (v := undef) rfl (by kernel_rfl) (by kernel_rfl) (by kernel_rfl) (fun _ _ _ h => h) (Or.inr ⟨by rfl, rfl⟩) hHeld ?_
            try simp only [Act.put, List.setIfInBounds_toArray, List.set_cons_zero, List.set_cons_succ]
            refine wpAnyH_take (i := 12) (oi := { dst := some 166, op := Op.load 5 (Operand.tmp 165), type := 5, pos := "law.go:162", after := #[{ on := 11, ground := Ground.data }, { on := 9, ground := Ground.guard }], guard := some (9, false) }) (v := undef) rfl (by kernel_rfl) (by kernel_rfl) (by kernel_rfl) (fun _ _ _ h => h) (Or.inr ⟨by rfl, rfl⟩) hHeld ?_
            try simp only [Act.put, List.setIfInBounds_toArray, List.set_cons_zero, List.set_cons_succ]
            refine wpAnyH_take (i := 13) (oi := { dst := some 167, op := Op.move (Operand.tmp 4), type := 5, pos := "law.go:162", after := #[{ on := 9, ground := Ground.guard }], guard := some (9, false) }) (v := undef) rfl (by kernel_rfl) (by kernel_rfl) (by kernel_rfl) (fun _ _ _ h => h) (Or.inr ⟨by rfl, rfl⟩) hHeld ?_
            try simp only [Act.put, List.setIfInBounds_toArray, List.set_cons_zero, List.set_cons_succ]
            refine wpAnyH_take (i := 14) (oi := { dst := some 168, op := Op.binOp BinOp.eql 5 (Operand.tmp 166) (Operand.tmp 167) 5, type := 4, pos := "law.go:162", after := #[{ on := 12, ground := Ground.data }, { on := 13, ground := Ground.data }, { on := 9, ground := Ground.guard }], guard := some (9, false) }) (v := undef) rfl (by kernel_rfl) (by kernel_rfl) (by kernel_rfl) (fun _ _ _ h => h) (Or.inr ⟨by rfl, rfl⟩) hHeld ?_
            try simp only [Act.put, List.setIfInBounds_toArray, List.set_cons_zero, List.set_cons_succ]
            refine wpAnyH_take (i := 15) (oi := { dst := some 169, op := Op.move (Operand.tmp 168), type := 4, pos := "law.go:162", after := #[{ on := 14, ground := Ground.data }, { on := 9, ground := Ground.chain }, { on := 9, ground := Ground.guard }], guard := some (9, false) }) (v := undef) rfl (by kernel_rfl) (by kernel_rfl) (by kernel_rfl) (fun _ _ _ h => h) (Or.inr ⟨by rfl, rfl⟩) hHeld ?_
            try simp only [Act.put, List.setIfInBounds_toArray, List.set_cons_zero, List.set_cons_succ]
            refine wpAnyH_take (i := 16) (oi := { dst := some 170, op := Op.move (Operand.tmp 24), type := 34, pos := "law.go:162", after := #[{ on := 15, ground := Ground.guard }], guard := some (15, true) }) (v := undef) rfl (by kernel_rfl) (by kernel_rfl) (by kernel_rfl) (fun _ _ _ h => h) (Or.inr ⟨by rfl, rfl⟩) hHeld ?_
            try simp only [Act.put, List.setIfInBounds_toArray, List.set_cons_zero, List.set_cons_succ]
            refine wpAnyH_take (i := 17) (oi := { dst := some 171, op := Op.convert 34 9 (Operand.tmp 170), type := 9, pos := "law.go:162", after := #[{ on := 16, ground := Ground.data }, { on := 15, ground := Ground.guard }], guard := some (15, true) }) (v := undef) rfl (by kernel_rfl) (by kernel_rfl) (by kernel_rfl) (fun _ _ _ h => h) (Or.inr ⟨by rfl, rfl⟩) hHeld ?_
            try simp only [Act.put, List.setIfInBounds_toArray, List.set_cons_zero, List.set_cons_succ]
            refine wpAnyH_take (i := 18) (oi := { dst := some 172, op := Op.move (Operand.tmp 2), type := 34, pos := "law.go:162", after := #[{ on := 15, ground := Ground.guard }], guard := some (15, true) }) (v := undef) rfl (by kernel_rfl) (by kernel_rfl) (by kernel_rfl) (fun _ _ _ h => h) (Or.inr ⟨by rfl, rfl⟩) hHeld ?_
            try simp only [Act.put, List.setIfInBounds_toArray, List.set_cons_zero, List.set_cons_succ]
            refine wpAnyH_take (i := 19) (oi := { dst := some 173, op := Op.convert 34 9 (Operand.tmp 172), type := 9, pos := "law.go:162", after := #[{ on := 18, ground := Ground.data }, { on := 15, ground := Ground.guard }], guard := some (15, true) }) (v := undef) rfl (by kernel_rfl) (by kernel_rfl) (by kernel_rfl) (fun _ _ _ h => h) (Or.inr ⟨by rfl, rfl⟩) hHeld ?_
            try simp only [Act.put, List.setIfInBounds_toArray, List.set_cons_zero, List.set_cons_succ]
            refine wpAnyH_take (i := 20) (oi := { dst := some 174, op := Op.binOp BinOp.eql 9 (Operand.tmp 171) (Operand.tmp 173) 9, type := 4, pos := "law.go:162", after := #[{ on := 17, ground := Ground.data }, { on := 19, ground := Ground.data }, { on := 15, ground := Ground.guard }], guard := some (15, true) }) (v := undef) rfl (by kernel_rfl) (by kernel_rfl) (by kernel_rfl) (fun _ _ _ h => h) (Or.inr ⟨by rfl, rfl⟩) hHeld ?_
            try simp only [Act.put, List.setIfInBounds_toArray, List.set_cons_zero, List.set_cons_succ]
            refine wpAnyH_take (i := 21) (oi := { dst := some 175, op := Op.pick (Operand.tmp 169) (Operand.tmp 174) (Operand.const (Value.bool false)), type := 4, pos := "law.go:162", after := #[{ on := 15, ground := Ground.data }, { on := 20, ground := Ground.data }, { on := 9, ground := Ground.guard }], guard := some (9, false) }) (v := undef) rfl (by kernel_rfl) (by kernel_rfl) (by kernel_rfl) (fun _ _ _ h => h) (Or.inr ⟨by rfl, rfl⟩) hHeld ?_
            try simp only [Act.put, List.setIfInBounds_toArray, List.set_cons_zero, List.set_cons_succ]
            refine wpAnyH_take (i := 22) (oi := { dst := some 176, op := Op.pick (Operand.tmp 163) (Operand.const (Value.bool true)) (Operand.tmp 175), type := 4, pos := "law.go:162", after := #[{ on := 9, ground := Ground.data }, { on := 21, ground := Ground.data }, { on := 1, ground := Ground.guard }], guard := some (1, true) }) (v := .bool true) rfl (by kernel_rfl) (by kernel_rfl) (by kernel_rfl) (fun _ _ _ h => h) (Or.inl ⟨by rfl, by intro W hSw; go_simp⟩) hHeld ?_
            try simp only [Act.put, List.setIfInBounds_toArray, List.set_cons_zero, List.set_cons_succ]
            refine wpAnyH_take (i := 23) (oi := { dst := some 177, op := Op.pick (Operand.tmp 155) (Operand.tmp 176) (Operand.const (Value.bool false)), type := 4, pos := "law.go:162", after := #[{ on := 1, ground := Ground.data }, { on := 22, ground := Ground.data }], guard := none }) (v := .bool true) rfl (by kernel_rfl) (by kernel_rfl) (by kernel_rfl) (fun _ _ _ h => h) (Or.inl ⟨by rfl, by intro W hSw; go_simp⟩) hHeld ?_
            try simp only [Act.put, List.setIfInBounds_toArray, List.set_cons_zero, List.set_cons_succ]
            refine wpAnyH_take (i := 24) (oi := { dst := some 14, op := Op.assign (Operand.tmp 177), type := 4, pos := "law.go:162", after := #[{ on := 23, ground := Ground.data }, { on := 15, ground := Ground.chain }, { on := 0, ground := Ground.phase }, { on := 1, ground := Ground.phase }, { on := 2, ground := Ground.phase }, { on := 3, ground := Ground.phase }, { on := 4, ground := Ground.phase }, { on := 5, ground := Ground.phase }, { on := 6, ground := Ground.phase }, { on := 7, ground := Ground.phase }, { on := 8, ground := Ground.phase }, { on := 9, ground := Ground.phase }, { on := 10, ground := Ground.phase }, { on := 11, ground := Ground.phase }, { on := 12, ground := Ground.phase }, { on := 13, ground := Ground.phase }, { on := 14, ground := Ground.phase }, { on := 15, ground := Ground.phase }, { on := 16, ground := Ground.phase }, { on := 17, ground := Ground.phase }, { on := 18, ground := Ground.phase }, { on := 19, ground := Ground.phase }, { on := 20, ground := Ground.phase }, { on := 21, ground := Ground.phase }, { on := 22, ground := Ground.phase }, { on := 23, ground := Ground.phase }], guard := none }) (v := .bool true) rfl (by kernel_rfl) (by kernel_rfl) (by kernel_rfl) (fun _ _ _ h => h) (Or.inl ⟨by rfl, by intro W hSw; go_simp⟩) hHeld ?_
            try simp only [Act.put, List.setIfInBounds_toArray, List.set_cons_zero, List.set_cons_succ]
            refine wpAnyH_done (by kernel_rfl) ?_ _
            go_wp2
            go_ret
            exact ⟨rfl, HF.out⟩
          · clear HOR
            subst hyx
            subst hlz
            obtain ⟨T, HT⟩ : ∃ T : ByteArray, Hid (T = ⟨l.toArray⟩) := ⟨_, hidd rfl⟩
            have CV : Hid (∀ V a c, Reads V a len2 c l → Sem.run Try.prog (convert 34 9 (.slice a len2 c)) V = .ok (.string T) V) := fun V a c h => by rw [HT.out]; exact conv_reads h
            clear HT
            go_wp2
            refine wp_region_held_drew (S := (fun V => Reads V (some ⟨g1, o1, none⟩) 1 c1 [v0] ∧ Reads V (some ⟨g6, o6, none⟩) 1 c6 [v3] ∧ Reads V b7 len2 c7 l ∧ Reads V a2 len2 cap2 l)) (by kernel_rfl) ⟨HRb.out, HRn.out, HRa.out, HR27.out⟩ (fun hHeld => ?_)
            refine wpAnyH_ready (rs := [0]) (by kernel_rfl) (by simp) ?_
            refine (AllReadyH.cons (o := { dst := some 154, op := Op.call { callee := Callee.value (Operand.func 11), args := #[], argTypes := #[] }, type := 4, pos := "law.go:162", after := #[], guard := none }) rfl (fun K hK => ?_) AllReadyH.nil)
            go_simp
            refine (AW.out _).mono ?_
            rintro e V8 ⟨rfl, hb8⟩
            have HF := hidd (HBl.out.drew.trans (hb8.mono HBl.out.size))
            go_wp2_with fail
            refine hK.out _ _ ⟨hHeld.1.below hb8, hHeld.2.1.below hb8, hHeld.2.2.1.below hb8, hHeld.2.2.2.below hb8⟩ (fun hHeld => ?_)
            clear hK K
            try simp only [Act.put, List.setIfInBounds_toArray, List.set_cons_zero, List.set_cons_succ]
            refine wpAnyH_take (i := 1) (oi := { dst := some 155, op := Op.move (Operand.tmp 154), type := 4, pos := "law.go:162", after := #[{ on := 0, ground := Ground.data }, { on := 0, ground := Ground.chain }], guard := none }) (v := .bool true) rfl (by kernel_rfl) (by kernel_rfl) (by kernel_rfl) (fun _ _ _ h => h) (Or.inl ⟨by rfl, by intro W hSw; go_simp⟩) hHeld ?_
            try simp only [Act.put, List.setIfInBounds_toArray, List.set_cons_zero, List.set_cons_succ]
            refine wpAnyH_take (i := 2) (oi := { dst := some 156, op := Op.move (Operand.tmp 22), type := 34, pos := "law.go:162", after := #[{ on := 1, ground := Ground.guard }], guard := some (1, true) }) (v := .slice (some ⟨g6, o6, none⟩) 1 c6) rfl (by kernel_rfl) (by kernel_rfl) (by kernel_rfl) (fun _ _ _ h => h) (Or.inl ⟨by rfl, by intro W hSw; go_simp⟩) hHeld ?_
            try simp only [Act.put, List.setIfInBounds_toArray, List.set_cons_zero, List.set_cons_succ]
            refine wpAnyH_take (i := 3) (oi := { dst := some 157, op := Op.indexAddr 34 (Operand.tmp 156) (Operand.const (Value.int IntKind.i64 0)), type := 0, pos := "law.go:162", after := #[{ on := 2, ground := Ground.data }, { on := 1, ground := Ground.guard }], guard := some (1, true) }) (v := .pointer (some ⟨g6, o6, none⟩)) rfl (by kernel_rfl) (by kernel_rfl) (by kernel_rfl) (fun _ _ _ h => h) (Or.inl ⟨by rfl, by intro V hSw; have h1 := IX6.out V; go_simp⟩) hHeld ?_
            try simp only [Act.put, List.setIfInBounds_toArray, List.set_cons_zero, List.set_cons_succ]
            refine wpAnyH_take (i := 4) (oi := { dst := some 158, op := Op.load 5 (Operand.tmp 157), type := 5, pos := "law.go:162", after := #[{ on := 3, ground := Ground.data }, { on := 1, ground := Ground.guard }], guard := some (1, true) }) (v := .int .u8 y3) rfl (by kernel_rfl) (by kernel_rfl) (by kernel_rfl) (fun _ _ _ h => h) (Or.inl ⟨by rfl, by intro V hSw; have h1 := CL6.out V hSw.2.1; go_simp⟩) hHeld ?_
            try simp only [Act.put, List.setIfInBounds_toArray, List.set_cons_zero, List.set_cons_succ]
            refine wpAnyH_take (i := 5) (oi := { dst := some 159, op := Op.move (Operand.tmp 20), type := 34, pos := "law.go:162", after := #[{ on := 1, ground := Ground.guard }], guard := some (1, true) }) (v := .slice (some ⟨g1, o1, none⟩) 1 c1) rfl (by kernel_rfl) (by kernel_rfl) (by kernel_rfl) (fun _ _ _ h => h) (Or.inl ⟨by rfl, by intro W hSw; go_simp⟩) hHeld ?_
            try simp only [Act.put, List.setIfInBounds_toArray, List.set_cons_zero, List.set_cons_succ]
            refine wpAnyH_take (i := 6) (oi := { dst := some 160, op := Op.indexAddr 34 (Operand.tmp 159) (Operand.const (Value.int IntKind.i64 0)), type := 0, pos := "law.go:162", after := #[{ on := 5, ground := Ground.data }, { on := 1, ground := Ground.guard }], guard := some (1, true) }) (v := .pointer (some ⟨g1, o1, none⟩)) rfl (by kernel_rfl) (by kernel_rfl) (by kernel_rfl) (fun _ _ _ h => h) (Or.inl ⟨by rfl, by intro V hSw; have h1 := IX1.out V; go_simp⟩) hHeld ?_
            try simp only [Act.put, List.setIfInBounds_toArray, List.set_cons_zero, List.set_cons_succ]
            refine wpAnyH_take (i := 7) (oi := { dst := some 161, op := Op.load 5 (Operand.tmp 160), type := 5, pos := "law.go:162", after := #[{ on := 6, ground := Ground.data }, { on := 1, ground := Ground.guard }], guard := some (1, true) }) (v := .int .u8 y0) rfl (by kernel_rfl) (by kernel_rfl) (by kernel_rfl) (fun _ _ _ h => h) (Or.inl ⟨by rfl, by intro V hSw; have h1 := CL1.out V hSw.1; go_simp⟩) hHeld ?_
            try simp only [Act.put, List.setIfInBounds_toArray, List.set_cons_zero, List.set_cons_succ]
            refine wpAnyH_take (i := 8) (oi := { dst := some 162, op := Op.binOp BinOp.eql 5 (Operand.tmp 158) (Operand.tmp 161) 5, type := 4, pos := "law.go:162", after := #[{ on := 4, ground := Ground.data }, { on := 7, ground := Ground.data }, { on := 1, ground := Ground.guard }], guard := some (1, true) }) (v := .bool false) rfl (by kernel_rfl) (by kernel_rfl) (by kernel_rfl) (fun _ _ _ h => h) (Or.inl ⟨by rfl, by intro W hSw; go_simp⟩) hHeld ?_
            try simp only [Act.put, List.setIfInBounds_toArray, List.set_cons_zero, List.set_cons_succ]
            refine wpAnyH_take (i := 9) (oi := { dst := some 163, op := Op.move (Operand.tmp 162), type := 4, pos := "law.go:162", after := #[{ on := 8, ground := Ground.data }, { on := 1, ground := Ground.chain }, { on := 1, ground := Ground.guard }], guard := some (1, true) }) (v := .bool false) rfl (by kernel_rfl) (by kernel_rfl) (by kernel_rfl) (fun _ _ _ h => h) (Or.inl ⟨by rfl, by intro W hSw; go_simp⟩) hHeld ?_
            try simp only [Act.put, List.setIfInBounds_toArray, List.set_cons_zero, List.set_cons_succ]
            refine wpAnyH_take (i := 10) (oi := { dst := some 164, op := Op.move (Operand.tmp 22), type := 34, pos := "law.go:162", after := #[{ on := 9, ground := Ground.guard }], guard := some (9, false) }) (v := .slice (some ⟨g6, o6, none⟩) 1 c6) rfl (by kernel_rfl) (by kernel_rfl) (by kernel_rfl) (fun _ _ _ h => h) (Or.inl ⟨by rfl, by intro W hSw; go_simp⟩) hHeld ?_
            try simp only [Act.put, List.setIfInBounds_toArray, List.set_cons_zero, List.set_cons_succ]
            refine wpAnyH_take (i := 11) (oi := { dst := some 165, op := Op.indexAddr 34 (Operand.tmp 164) (Operand.const (Value.int IntKind.i64 0)), type := 0, pos := "law.go:162", after := #[{ on := 10, ground := Ground.data }, { on := 9, ground := Ground.guard }], guard := some (9, false) }) (v := .pointer (some ⟨g6, o6, none⟩)) rfl (by kernel_rfl) (by kernel_rfl) (by kernel_rfl) (fun _ _ _ h => h) (Or.inl ⟨by rfl, by intro V hSw; have h1 := IX6.out V; go_simp⟩) hHeld ?_
            try simp only [Act.put, List.setIfInBounds_toArray, List.set_cons_zero, List.set_cons_succ]
            refine wpAnyH_take (i := 12) (oi := { dst := some 166, op := Op.load 5 (Operand.tmp 165), type := 5, pos := "law.go:162", after := #[{ on := 11, ground := Ground.data }, { on := 9, ground := Ground.guard }], guard := some (9, false) }) (v := .int .u8 y3) rfl (by kernel_rfl) (by kernel_rfl) (by kernel_rfl) (fun _ _ _ h => h) (Or.inl ⟨by rfl, by intro V hSw; have h1 := CL6.out V hSw.2.1; go_simp⟩) hHeld ?_
            try simp only [Act.put, List.setIfInBounds_toArray, List.set_cons_zero, List.set_cons_succ]
            refine wpAnyH_take (i := 13) (oi := { dst := some 167, op := Op.move (Operand.tmp 4), type := 5, pos := "law.go:162", after := #[{ on := 9, ground := Ground.guard }], guard := some (9, false) }) (v := .int .u8 y3) rfl (by kernel_rfl) (by kernel_rfl) (by kernel_rfl) (fun _ _ _ h => h) (Or.inl ⟨by rfl, by intro W hSw; go_simp⟩) hHeld ?_
            try simp only [Act.put, List.setIfInBounds_toArray, List.set_cons_zero, List.set_cons_succ]
            refine wpAnyH_take (i := 14) (oi := { dst := some 168, op := Op.binOp BinOp.eql 5 (Operand.tmp 166) (Operand.tmp 167) 5, type := 4, pos := "law.go:162", after := #[{ on := 12, ground := Ground.data }, { on := 13, ground := Ground.data }, { on := 9, ground := Ground.guard }], guard := some (9, false) }) (v := .bool true) rfl (by kernel_rfl) (by kernel_rfl) (by kernel_rfl) (fun _ _ _ h => h) (Or.inl ⟨by rfl, by intro W hSw; go_simp⟩) hHeld ?_
            try simp only [Act.put, List.setIfInBounds_toArray, List.set_cons_zero, List.set_cons_succ]
            refine wpAnyH_take (i := 15) (oi := { dst := some 169, op := Op.move (Operand.tmp 168), type := 4, pos := "law.go:162", after := #[{ on := 14, ground := Ground.data }, { on := 9, ground := Ground.chain }, { on := 9, ground := Ground.guard }], guard := some (9, false) }) (v := .bool true) rfl (by kernel_rfl) (by kernel_rfl) (by kernel_rfl) (fun _ _ _ h => h) (Or.inl ⟨by rfl, by intro W hSw; go_simp⟩) hHeld ?_
            try simp only [Act.put, List.setIfInBounds_toArray, List.set_cons_zero, List.set_cons_succ]
            refine wpAnyH_take (i := 16) (oi := { dst := some 170, op := Op.move (Operand.tmp 24), type := 34, pos := "law.go:162", after := #[{ on := 15, ground := Ground.guard }], guard := some (15, true) }) (v := .slice b7 len2 c7) rfl (by kernel_rfl) (by kernel_rfl) (by kernel_rfl) (fun _ _ _ h => h) (Or.inl ⟨by rfl, by intro W hSw; go_simp⟩) hHeld ?_
            try simp only [Act.put, List.setIfInBounds_toArray, List.set_cons_zero, List.set_cons_succ]
            refine wpAnyH_take (i := 17) (oi := { dst := some 171, op := Op.convert 34 9 (Operand.tmp 170), type := 9, pos := "law.go:162", after := #[{ on := 16, ground := Ground.data }, { on := 15, ground := Ground.guard }], guard := some (15, true) }) (v := .string T) rfl (by kernel_rfl) (by kernel_rfl) (by kernel_rfl) (fun _ _ _ h => h) (Or.inl ⟨by rfl, by intro V hSw; have h1 := CV.out V _ _ hSw.2.2.1; go_simp⟩) hHeld ?_
            try simp only [Act.put, List.setIfInBounds_toArray, List.set_cons_zero, List.set_cons_succ]
            refine wpAnyH_take (i := 18) (oi := { dst := some 172, op := Op.move (Operand.tmp 2), type := 34, pos := "law.go:162", after := #[{ on := 15, ground := Ground.guard }], guard := some (15, true) }) (v := .slice a2 len2 cap2) rfl (by kernel_rfl) (by kernel_rfl) (by kernel_rfl) (fun _ _ _ h => h) (Or.inl ⟨by rfl, by intro W hSw; go_simp⟩) hHeld ?_
            try simp only [Act.put, List.setIfInBounds_toArray, List.set_cons_zero, List.set_cons_succ]
            refine wpAnyH_take (i := 19) (oi := { dst := some 173, op := Op.convert 34 9 (Operand.tmp 172), type := 9, pos := "law.go:162", after := #[{ on := 18, ground := Ground.data }, { on := 15, ground := Ground.guard }], guard := some (15, true) }) (v := .string T) rfl (by kernel_rfl) (by kernel_rfl) (by kernel_rfl) (fun _ _ _ h => h) (Or.inl ⟨by rfl, by intro V hSw; have h1 := CV.out V _ _ hSw.2.2.2; go_simp⟩) hHeld ?_
            try simp only [Act.put, List.setIfInBounds_toArray, List.set_cons_zero, List.set_cons_succ]
            refine wpAnyH_take (i := 20) (oi := { dst := some 174, op := Op.binOp BinOp.eql 9 (Operand.tmp 171) (Operand.tmp 173) 9, type := 4, pos := "law.go:162", after := #[{ on := 17, ground := Ground.data }, { on := 19, ground := Ground.data }, { on := 15, ground := Ground.guard }], guard := some (15, true) }) (v := .bool true) rfl (by kernel_rfl) (by kernel_rfl) (by kernel_rfl) (fun _ _ _ h => h) (Or.inl ⟨by rfl, by intro W hSw; go_simp⟩) hHeld ?_
            try simp only [Act.put, List.setIfInBounds_toArray, List.set_cons_zero, List.set_cons_succ]
            refine wpAnyH_take (i := 21) (oi := { dst := some 175, op := Op.pick (Operand.tmp 169) (Operand.tmp 174) (Operand.const (Value.bool false)), type := 4, pos := "law.go:162", after := #[{ on := 15, ground := Ground.data }, { on := 20, ground := Ground.data }, { on := 9, ground := Ground.guard }], guard := some (9, false) }) (v := .bool true) rfl (by kernel_rfl) (by kernel_rfl) (by kernel_rfl) (fun _ _ _ h => h) (Or.inl ⟨by rfl, by intro W hSw; go_simp⟩) hHeld ?_
            try simp only [Act.put, List.setIfInBounds_toArray, List.set_cons_zero, List.set_cons_succ]
            refine wpAnyH_take (i := 22) (oi := { dst := some 176, op := Op.pick (Operand.tmp 163) (Operand.const (Value.bool true)) (Operand.tmp 175), type := 4, pos := "law.go:162", after := #[{ on := 9, ground := Ground.data }, { on := 21, ground := Ground.data }, { on := 1, ground := Ground.guard }], guard := some (1, true) }) (v := .bool true) rfl (by kernel_rfl) (by kernel_rfl) (by kernel_rfl) (fun _ _ _ h => h) (Or.inl ⟨by rfl, by intro W hSw; go_simp⟩) hHeld ?_
            try simp only [Act.put, List.setIfInBounds_toArray, List.set_cons_zero, List.set_cons_succ]
            refine wpAnyH_take (i := 23) (oi := { dst := some 177, op := Op.pick (Operand.tmp 155) (Operand.tmp 176) (Operand.const (Value.bool false)), type := 4, pos := "law.go:162", after := #[{ on := 1, ground := Ground.data }, { on := 22, ground := Ground.data }], guard := none }) (v := .bool true) rfl (by kernel_rfl) (by kernel_rfl) (by kernel_rfl) (fun _ _ _ h => h) (Or.inl ⟨by rfl, by intro W hSw; go_simp⟩) hHeld ?_
            try simp only [Act.put, List.setIfInBounds_toArray, List.set_cons_zero, List.set_cons_succ]
            refine wpAnyH_take (i := 24) (oi := { dst := some 14, op := Op.assign (Operand.tmp 177), type := 4, pos := "law.go:162", after := #[{ on := 23, ground := Ground.data }, { on := 15, ground := Ground.chain }, { on := 0, ground := Ground.phase }, { on := 1, ground := Ground.phase }, { on := 2, ground := Ground.phase }, { on := 3, ground := Ground.phase }, { on := 4, ground := Ground.phase }, { on := 5, ground := Ground.phase }, { on := 6, ground := Ground.phase }, { on := 7, ground := Ground.phase }, { on := 8, ground := Ground.phase }, { on := 9, ground := Ground.phase }, { on := 10, ground := Ground.phase }, { on := 11, ground := Ground.phase }, { on := 12, ground := Ground.phase }, { on := 13, ground := Ground.phase }, { on := 14, ground := Ground.phase }, { on := 15, ground := Ground.phase }, { on := 16, ground := Ground.phase }, { on := 17, ground := Ground.phase }, { on := 18, ground := Ground.phase }, { on := 19, ground := Ground.phase }, { on := 20, ground := Ground.phase }, { on := 21, ground := Ground.phase }, { on := 22, ground := Ground.phase }, { on := 23, ground := Ground.phase }], guard := none }) (v := .bool true) rfl (by kernel_rfl) (by kernel_rfl) (by kernel_rfl) (fun _ _ _ h => h) (Or.inl ⟨by rfl, by intro W hSw; go_simp⟩) hHeld ?_
            try simp only [Act.put, List.setIfInBounds_toArray, List.set_cons_zero, List.set_cons_succ]
            refine wpAnyH_done (by kernel_rfl) ?_ _
            go_wp2
            go_ret
            exact ⟨rfl, HF.out⟩
        · have hE' : (E1 == 0) = false := by rw [beq_eq_false_iff_ne]; exact hE
          have HBl := hidd HLk.out.below
          clear hE3 HLk HRb
          go_wp2_with fail
          refine (AW.out _).mono ?_
          rintro e Vx ⟨rfl, hbx⟩
          clear AW
          go_wp2
          go_ret
          exact ⟨rfl, HBl.out.trans (hbx.mono HBl.out.size)⟩
end Go.Proofs.Yticljiffagobnaa

/- Parts of bytes that are read. -/
namespace Go.Proofs.Yticljiffagobnaa
open Go.RowKit Nums
set_option linter.unusedVariables false
set_option linter.unusedSimpArgs false
set_option maxRecDepth 100000
variable {At : World → Nat → DkT → (Nat → Prop) → Prop}
/-- Where a part of a slice lies. -/
def subA (a : Option Addr) (cap lo : Nat) : Option Addr := if cap = lo then a else a.map (·.add lo)
theorem slice_back (W : World) (a : Option Addr) (len cap lo : Nat) (h : lo ≤ len) (hc : len ≤ cap) : (Instr.sliceAt 34 (.slice a len cap) (some (.int .i64 lo)) none none).run Try.prog W = .ok (.slice (subA a cap lo) (len - lo) (cap - lo)) W := by
  have hz : ∀ w, (sizeOf 5).run Try.prog w = .ok 1 w := fun w => by
    have h : (Try.prog.info? 5).map (·.size) = some 1 := by kernel_rfl
    cases hq : Try.prog.info? 5 with
    | none => rw [hq] at h; cases h
    | some i =>
      rw [hq] at h
      simp only [Option.map_some, Option.some.injEq] at h
      simp [sizeOf, typeInfo, hq, h]
  simp [Instr.sliceAt, Instr.slice, Instr.sliceBounds, Instr.sliceBound, asIntOf, run_underlying Try.underlying34, hz, h, hc, subA]
theorem Reads.part {W : World} {a : Option Addr} {len cap : Nat} {l : List UInt8} (h : Reads W a len cap l) (lo hi : Nat) (h1 : lo ≤ hi) (h2 : hi ≤ len) : Reads W (subA a cap lo) (hi - lo) (cap - lo) ((l.drop lo).take (hi - lo)) := by
  obtain ⟨e1, e2, e3, e4⟩ := h
  refine ⟨by rw [List.length_take, List.length_drop]; omega, by omega, by omega, ?_⟩
  unfold subA
  rcases e4 with ⟨rfl, h0⟩ | ⟨ad, rfl, h0⟩ | ⟨b, off, rfl, hlt, hc⟩
  · exact .inl ⟨by split <;> rfl, by omega⟩
  · refine .inr (.inl ?_)
    split
    · exact ⟨ad, rfl, by omega⟩
    · exact ⟨ad.add lo, rfl, by omega⟩
  · by_cases hcl : cap = lo
    · rw [if_pos hcl]; exact .inr (.inl ⟨_, rfl, by omega⟩)
    · rw [if_neg hcl]
      refine .inr (.inr ⟨b, off + lo, by show some (Addr.add ⟨b, off, none⟩ lo) = some _; rw [add_plain], hlt, fun i hi => ?_⟩)
      have hi' : lo + i < l.length := by rw [List.length_take, List.length_drop] at hi; omega
      have := hc (lo + i) hi'
      rw [← Nat.add_assoc] at this
      rw [this]
      simp
end Go.Proofs.Yticljiffagobnaa
