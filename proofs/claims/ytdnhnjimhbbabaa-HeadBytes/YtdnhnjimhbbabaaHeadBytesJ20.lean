/- Texts of our own that the row of HeadBytes leans on, part 20. -/
import Derived.Test.YtdnhnjimhbbabaaHeadBytesJ15
import Derived.Test.YtdnhnjimhbbabaaHeadBytesJ17
import Derived.Test.YtdnhnjimhbbabaaHeadBytesJ18
import Derived.Test.YtdnhnjimhbbabaaHeadBytesJ19
import Derived.OpenShut
import Derived.Lib.BufferWrite

/- What the document's Verify and Parts answer. -/
namespace Go.Proofs.Ytdnhnjimhbbabaa
open Go.RowKit Sums Nums
set_option linter.unusedVariables false
set_option linter.unusedSimpArgs false
set_option maxRecDepth 100000

end Go.Proofs.Ytdnhnjimhbbabaa

/- What the document's Parts answers. -/
namespace Go.Proofs.Ytdnhnjimhbbabaa
open Go.RowKit Sums Nums
set_option linter.unusedVariables false
set_option linter.unusedSimpArgs false
set_option maxRecDepth 100000

end Go.Proofs.Ytdnhnjimhbbabaa

/- What the document's Get answers. -/
namespace Go.Proofs.Ytdnhnjimhbbabaa
open Go.RowKit Sums Nums
set_option linter.unusedVariables false
set_option linter.unusedSimpArgs false
set_option maxRecDepth 100000
def getHO (bs : List UInt8) : HdT := (getO bs).getD zeroH
def getHE (bs : List UInt8) : Int := if (getO bs).isSome then 0 else 70
end Go.Proofs.Ytdnhnjimhbbabaa

/- What the document's GetSigned answers. -/
namespace Go.Proofs.Ytdnhnjimhbbabaa
open Go.RowKit Sums Nums
set_option linter.unusedVariables false
set_option linter.unusedSimpArgs false
set_option maxRecDepth 100000

end Go.Proofs.Ytdnhnjimhbbabaa

/- Heads and signed heads held against each other by == and !=. -/
namespace Go.Proofs.Ytdnhnjimhbbabaa
open Go.RowKit Sums Nums
set_option linter.unusedVariables false
set_option linter.unusedSimpArgs false
set_option maxRecDepth 100000
theorem sizeOfDD (w : World) : (sizeOf 23).run Try.prog w = .ok 32 w := by
  cases hq : Try.prog.info? 23 with
  | none => have := size23; simp [hq] at this
  | some i => have := size23; simp [hq] at this; simp [sizeOf, typeInfo, hq, this]
theorem cut_list (l : List Value) (off n : Nat) (m : List Value) (h : (l.drop off).take n = m) : l.toArray.extract off (off + n) = m.toArray := by
  rw [← h, List.extract_toArray, List.extract_eq_take_drop, Nat.add_sub_cancel_left]
theorem part_dig (l : List Value) (off : Nat) (m : List Value) (h : (l.drop off).take 32 = m) (w : World) : (Go.part 23 l.toArray off).run Try.prog w = .ok (.agg m.toArray) w := by
  have e := cut_list l off 32 m h
  simp only [Go.part, isAgg, run_underlying Try.underlying23, sizeOfDD, Sem.run_bind, Sem.run_pure, Result.andThen_ok, if_true, e]
theorem part_int (l : List Value) (off : Nat) (v : Value) (h : l[off]? = some v) (w : World) : (Go.part 3 l.toArray off).run Try.prog w = .ok v w := by
  simp [Go.part, isAgg, run_underlying Try.underlying3, h]
theorem heldH : Try.prog.stoodInHeld 25 = false := by kernel_rfl
theorem hcells_d (h : HdT) (hd : h.d.length = 32) : ((hcells h).drop 3).take 32 = cellsOf h.d := by
  show (cellsOf h.d ++ [Value.int .i64 h.t]).take 32 = _
  rw [List.take_left' (by rw [cellsOf_length, hd])]
theorem hcells_t (h : HdT) (hd : h.d.length = 32) : (hcells h)[35]? = some (.int .i64 h.t) := by
  unfold hcells
  rw [List.getElem?_append_right (by simp [cellsOf_length, hd])]
  simp [cellsOf_length, hd]
theorem equalHead (d : Nat) (a b : HdT) (ha : a.d.length = 32) (hb : b.d.length = 32) (x : Bool) (hx : x = true ↔ a = b) (w : World) : (Op.equalIn (d + 4) 25 (.agg (hcells a).toArray) (.agg (hcells b).toArray)).run Try.prog w = .ok x w := by
  have hf : Try.prog.fieldsOf 25 = #[{ name := "Region", type := 3, offset := 0, embedded := false, tag := "", pkgPath := "", byteOffset := 0 }, { name := "Epoch", type := 3, offset := 1, embedded := false, tag := "", pkgPath := "", byteOffset := 8 }, { name := "Size", type := 3, offset := 2, embedded := false, tag := "", pkgPath := "", byteOffset := 16 }, { name := "Root", type := 23, offset := 3, embedded := false, tag := "", pkgPath := "", byteOffset := 24 }, { name := "Tick", type := 3, offset := 35, embedded := false, tag := "", pkgPath := "", byteOffset := 56 }] := by
    unfold Program.fieldsOf; rw [Try.underlying25]
  have p0 := fun (h : HdT) W => part_int (hcells h) 0 (.int .i64 h.r) rfl W
  have p1 := fun (h : HdT) W => part_int (hcells h) 1 (.int .i64 h.e) rfl W
  have p2 := fun (h : HdT) W => part_int (hcells h) 2 (.int .i64 h.s) rfl W
  have p3a := fun W => part_dig (hcells a) 3 _ (hcells_d a ha) W
  have p3b := fun W => part_dig (hcells b) 3 _ (hcells_d b hb) W
  have p4a := fun W => part_int (hcells a) 35 _ (hcells_t a ha) W
  have p4b := fun W => part_int (hcells b) 35 _ (hcells_t b hb) W
  have ei := fun (x y : Int) W => run_equalIn_int (P := Try.prog) W (d + 2) 3 .i64 .i64 x y Try.underlying3
  have ed : ∀ W, (Op.equalIn (d + 3) 23 (.agg (cellsOf a.d).toArray) (.agg (cellsOf b.d).toArray)).run Try.prog W = .ok (a.d == b.d) W := fun W => run_equalIn_bytes (P := Try.prog) W (d + 1) 23 5 32 Try.underlying23 Try.underlying5 sizeOf5 a.d b.d ha hb
  rw [run_equalIn_struct w (d + 3) 25 _ _ (by rw [hf]; exact Try.underlying25) heldH, hf]
  obtain ⟨b0, h0⟩ : ∃ x, (a.r == b.r) = x := ⟨_, rfl⟩
  obtain ⟨b1, h1⟩ : ∃ x, (a.e == b.e) = x := ⟨_, rfl⟩
  obtain ⟨b2, h2⟩ : ∃ x, (a.s == b.s) = x := ⟨_, rfl⟩
  obtain ⟨b3, h3⟩ : ∃ x, (a.d == b.d) = x := ⟨_, rfl⟩
  obtain ⟨b4, h4⟩ : ∃ x, (a.t == b.t) = x := ⟨_, rfl⟩
  have hq : x = (b0 && b1 && b2 && b3 && b4) := by
    rw [← h0, ← h1, ← h2, ← h3, ← h4, Bool.eq_iff_iff]
    rw [hx]
    simp only [Bool.and_eq_true, beq_iff_eq]
    constructor
    · rintro rfl; simp
    · rintro ⟨⟨⟨⟨e0, e1⟩, e2⟩, e3⟩, e4⟩
      cases a; cases b
      simp only at e0 e1 e2 e3 e4
      rw [e0, e1, e2, e3, e4]
  have x0 := ei a.r b.r
  have x1 := ei a.e b.e
  have x2 := ei a.s b.s
  have x4 := ei a.t b.t
  rw [h0] at x0
  rw [h1] at x1
  rw [h2] at x2
  rw [h3] at ed
  rw [h4] at x4
  rw [hq]
  obtain ⟨A, hA⟩ : ∃ A, (hcells a).toArray = A := ⟨_, rfl⟩
  obtain ⟨B, hB⟩ : ∃ B, (hcells b).toArray = B := ⟨_, rfl⟩
  have p0a := p0 a
  have p0b := p0 b
  have p1a := p1 a
  have p1b := p1 b
  have p2a := p2 a
  have p2b := p2 b
  rw [hA] at p0a p1a p2a p3a p4a
  rw [hB] at p0b p1b p2b p3b p4b
  rw [hA, hB]
  obtain ⟨DA, hDA⟩ : ∃ D, (cellsOf a.d).toArray = D := ⟨_, rfl⟩
  obtain ⟨DB, hDB⟩ : ∃ D, (cellsOf b.d).toArray = D := ⟨_, rfl⟩
  rw [hDA] at p3a ed
  rw [hDB] at p3b ed
  simp [Op.eqFields, p0a, p0b, p1a, p1b, p2a, p2b, p3a, p3b, p4a, p4b, x0, x1, x2, x4, ed]
  cases b0 <;> cases b1 <;> cases b2 <;> cases b3 <;> cases b4 <;> simp
theorem eqHead (a b : HdT) (ha : a.d.length = 32) (hb : b.d.length = 32) (A B : Array Value) (HA : Hid (A = (hcells a).toArray)) (HB : Hid (B = (hcells b).toArray)) (x : Bool) (hx : x = true ↔ a = b) (w : World) : (binOp .eql 25 (.agg A) (.agg B)).run Try.prog w = .ok (.bool x) w := by
  rw [run_eql_struct, HA.out, HB.out, show (10000 : Nat) = 9996 + 4 from rfl, equalHead 9996 a b ha hb x hx]; rfl
end Go.Proofs.Ytdnhnjimhbbabaa

/- What the calls of package head answer, as the document says (their proofs are of one commit of the code). -/
namespace Go.Proofs.Ytdnhnjimhbbabaa
open Go.RowKit Sums Nums
set_option linter.unusedVariables false
set_option linter.unusedSimpArgs false
set_option maxRecDepth 100000
def In64 (z : Int) : Prop := -9223372036854775808 ≤ z ∧ z ≤ 9223372036854775807
/-- A head that lies in a variable. -/
structure InH (h : HdT) : Prop where
  d : h.d.length = 32
  r : In64 h.r
  e : In64 h.e
  s : In64 h.s
  t : In64 h.t
def headV (z : HdT) : Value := .agg (hcells z).toArray
/-- A row of bytes and an error. -/
def BytesE (bs : List UInt8) (E : Int) (e : Ending) (w' : World) : Prop := ∃ a cap, e = .returned (.tuple #[.slice a bs.length cap, .int .i64 E]) ∧ Reads w' a bs.length cap bs
def putB (h : HdT) : List UInt8 := if rightH h = true then headB h else []
def putE (h : HdT) : Int := if rightH h = true then 0 else 70
/-- What the calls of package head answer. -/
structure HeadC : Prop where
  check : ∀ (h : HdT) (hh : InH h) (w : World) (C : Array Value) (HC : Hid (C = (hcells h).toArray)),
    Calls Try.prog 6 #[.agg C] w fun e w' => e = .returned (.int .i64 (putE h)) ∧ Below w.heap.size w w'
  put : ∀ (h : HdT) (hh : InH h) (w : World) (C : Array Value) (HC : Hid (C = (hcells h).toArray)),
    Calls Try.prog 4 #[.agg C] w fun e w' => BytesE (putB h) (putE h) e w' ∧ Below w.heap.size w w'
  get : ∀ (a : Option Addr) (len cap : Nat) (bs : List UInt8) (w : World) (hR : Reads w a len cap bs) (hl : len ≤ 100000) (R : Array Value) (HR : Hid (R = (hcells (getHO bs)).toArray)),
    Calls Try.prog 8 #[.slice a len cap] w fun e w' => e = .returned (.tuple #[.agg R, .int .i64 (getHE bs)]) ∧ Below w.heap.size w w'
theorem zero_in : InH zeroH := ⟨rfl, by unfold In64; decide, by unfold In64; decide, by unfold In64; decide, by unfold In64; decide⟩
/-! The document's H. -/
def oneH : HdT := ⟨1, 1, 0, List.replicate 32 0, 0⟩
theorem one_in : InH oneH := ⟨rfl, by unfold In64; decide, by unfold In64; decide, by unfold In64; decide, by unfold In64; decide⟩
theorem one_right : rightH oneH = true := by decide
theorem wpList_build_two {P : Program} {ops : Array Oper} {rest : List Oper} {o : Oper} {a : Act} {w : World} {Q : Exit → Act → World → Prop} (hg : o.guard = none) (t : TypeId) (i j : Nat) (x y : Operand) (ho : o.op = .build t #[(i, x), (j, y)])
    (cs : Array Value) (v u : Value) (hv : a.eval x = v) (hu : a.eval y = u) (hb : P.built t [(i, v), (j, u)] = some cs) (h : wpList P ops Q rest (a.put o.dst (.agg cs)) w) : wpList P ops Q (o :: rest) a w :=
  wpList_build_row hg t #[(i, x), (j, y)] ho cs (by simpa [hv, hu] using hb) h
theorem builtOne : Try.prog.built 25 [(0, .int .i64 1), (1, .int .i64 1)] = some (hcells oneH).toArray := by kernel_rfl
theorem one_any (w : World) (C : Array Value) (HC : Hid (C = (hcells oneH).toArray)) :
    Calls Try.prog 15 #[] w fun e w' => e = .returned (.agg C) ∧ Below w.heap.size w w' := by
  obtain ⟨Z, HZ, HA, HBZ, H36⟩ := noughtsH
  have HSC : Hid ((Try.prog.info? 25).map (·.size) = some C.size) := by show _ = _; rw [sizeH, HC.out]; rfl
  have H1C : Hid (C.all (·.oneCell') = true) := by show _ = _; rw [HC.out]; exact one_cells _
  have HZC : Hid (Z.size = C.size) := by show _ = _; rw [H36.out, HC.out]; rfl
  have HBO : Hid (Try.prog.built 25 [(0, .int .i64 1), (1, .int .i64 1)] = some C) := by show _ = _; rw [HC.out]; exact builtOne
  clear HC HZ HBZ H36
  go_enter Try.func15, Try.ntmps15
  go_wp2_with (first
    | (show wpList _ _ _ ({ dst := some 0, op := _, type := _, pos := _, after := _, guard := _ } :: _) _ _; refine wpList_new_var rfl 25 rfl Z HA.out ?_; intro g0 w1 HM0; try simp only [Act.put, List.setIfInBounds_toArray, List.set_cons_zero, List.set_cons_succ])
    | (show wpList _ _ _ ({ dst := some 1, op := _, type := _, pos := _, after := _, guard := _ } :: _) _ _; refine wpList_build_two rfl 25 0 1 (.const (.int .i64 1)) (.const (.int .i64 1)) rfl C (.int .i64 1) (.int .i64 1) rfl rfl HBO.out ?_; try simp only [Act.put, List.setIfInBounds_toArray, List.set_cons_zero, List.set_cons_succ])
    | (refine wpList_set_var rfl 25 (.tmp 0) (.tmp 1) rfl g0 C rfl rfl 25 Z HM0.out.row HSC.out HZC.out H1C.out ?_; intro w2 HW0; try simp only [Act.put, List.setIfInBounds_toArray, List.set_cons_zero, List.set_cons_succ])
    | fail)
  refine bodyPost_ret (v := .agg C) ?_ rfl ⟨rfl, HW0.out.below w.heap.size w HM0.out.below (Nat.le_of_eq HM0.out.new.symm)⟩
  exact results_cell_row (p := 0) (ty := 25) rfl _ _ g0 25 C (0, 0) _ rfl HW0.out.row Try.underlying25 rfl HSC.out
end Go.Proofs.Ytdnhnjimhbbabaa

/- The statements' own example of signing, over what the calls of package head answer. -/
namespace Go.Proofs.Ytdnhnjimhbbabaa
open Go.RowKit Sums Nums
set_option linter.unusedVariables false
set_option linter.unusedSimpArgs false
set_option maxRecDepth 100000
theorem headB_one : headB oneH = [1, 0, 0, 1, 1, 2, 0, 0, 1, 1, 3, 0, 0, 0, 4, 0, 0, 32] ++ List.replicate 32 0 ++ [5, 0, 0, 0] := by decide +kernel
end Go.Proofs.Ytdnhnjimhbbabaa

/- The statements' own example of a head's bytes, over what the calls of package head answer. -/
namespace Go.Proofs.Ytdnhnjimhbbabaa
open Go.RowKit Sums Nums
set_option linter.unusedVariables false
set_option linter.unusedSimpArgs false
set_option maxRecDepth 100000
theorem getHE_cut : getHE ((headB oneH).take 53) = 70 := by decide +kernel
theorem getHO_cut : getHO ((headB oneH).take 53) = zeroH := by
  have h := getHE_cut
  unfold getHE at h
  unfold getHO
  cases hq : getO ((headB oneH).take 53) with
  | none => rfl
  | some x => rw [hq] at h; simp at h
theorem get_one : getO (headB oneH) = some oneH := getO_head oneH one_right rfl
theorem len_one : (headB oneH).length = 54 := by rw [headB_one]; rfl
theorem slice_bytes (W : World) (g o len cap k : Nat) (hk : k ≤ cap) : (Instr.sliceAt 26 (.slice (some ⟨g, o, none⟩) len cap) none (some (.int .i64 k)) none).run Try.prog W = .ok (.slice (some ⟨g, o, none⟩) k cap) W := by
  simp [Instr.sliceAt, Instr.slice, Instr.sliceBounds, Instr.sliceBound, asIntOf, run_underlying Try.underlying26, sizeOf5, hk]
  rw [add_plain]
  simp
set_option maxHeartbeats 8000000 in
theorem lays_true (ck : HeadC) (w : World) : Calls Try.prog 7 #[] w fun e w' => e = .returned (.bool true) ∧ Below w.heap.size w w' := by
  obtain ⟨Z, HZ, HA, HBZ, H36⟩ := noughtsH
  obtain ⟨C, HC, HSC, H1C, H36C⟩ := head_row5 oneH rfl
  have HZC : Hid (Z.size = C.size) := by show _ = _; rw [H36.out, H36C.out]
  have HSZ : Hid ((Try.prog.info? 25).map (·.size) = some Z.size) := by show _ = _; rw [sizeH, H36.out]
  have H1Z : Hid (Z.all (·.oneCell') = true) := by show _ = _; rw [HZ.out]; exact one_cells _
  have ON : Hid (∀ W, Calls Try.prog 15 #[] W fun e w' => e = .returned (.agg C) ∧ Below W.heap.size W w') := fun W => one_any W C HC
  have PU : Hid (∀ W, Calls Try.prog 4 #[.agg C] W fun e w' => (∃ b off cap, e = .returned (.tuple #[.slice (some ⟨b, off, none⟩) 54 cap, .int .i64 0]) ∧ 54 ≤ cap ∧ Reads w' (some ⟨b, off, none⟩) 54 cap (headB oneH)) ∧ Below W.heap.size W w') := fun W => (ck.put oneH one_in W C HC).mono (by
    rintro e w' ⟨⟨a, cap, rfl, hR⟩, hb⟩
    have e1 : putB oneH = headB oneH := by unfold putB; rw [if_pos one_right]
    have e2 : putE oneH = 0 := by unfold putE; rw [if_pos one_right]
    rw [e1, len_one] at hR
    rw [e1, e2, len_one]
    refine ⟨?_, hb⟩
    obtain ⟨q1, q2, q3, q4⟩ := hR
    rcases q4 with ⟨_, h0⟩ | ⟨ad, _, h0⟩ | ⟨b, off, rfl, h⟩
    · omega
    · omega
    · exact ⟨b, off, cap, rfl, q2, q1, q2, q3, .inr (.inr ⟨b, off, rfl, h⟩)⟩)
  have GE : Hid (∀ W b off cap, Reads W (some ⟨b, off, none⟩) 54 cap (headB oneH) → Calls Try.prog 8 #[.slice (some ⟨b, off, none⟩) 54 cap] W fun e w' => e = .returned (.tuple #[.agg C, .int .i64 0]) ∧ Below W.heap.size W w') := fun W b off cap h => by
    have := ck.get _ _ _ _ W h (by omega) C (by show _ = _; unfold getHO; rw [get_one]; exact HC.out)
    have e : getHE (headB oneH) = 0 := by unfold getHE; rw [get_one]; rfl
    rwa [e] at this
  have GC : Hid (∀ W b off cap, Reads W (some ⟨b, off, none⟩) 54 cap (headB oneH) → Calls Try.prog 8 #[.slice (some ⟨b, off, none⟩) 53 cap] W fun e w' => e = .returned (.tuple #[.agg Z, .int .i64 70]) ∧ Below W.heap.size W w') := fun W b off cap h => by
    have h' : Reads W (some ⟨b, off, none⟩) 53 cap ((headB oneH).take 53) := by
      obtain ⟨q1, q2, q3, q4⟩ := h
      refine ⟨by rw [List.length_take, len_one]; rfl, by omega, q3, .inr (.inr ?_)⟩
      rcases q4 with ⟨h0, _⟩ | ⟨ad, _, h0⟩ | ⟨b', off', e, hlt, hc⟩
      · cases h0
      · omega
      · cases e
        refine ⟨b, off, rfl, hlt, fun i hi => ?_⟩
        rw [List.getElem_take]
        exact hc i (by rw [List.length_take] at hi; omega)
    have := ck.get _ _ _ _ W h' (by omega) Z (by show _ = _; rw [getHO_cut]; exact HZ.out)
    rwa [getHE_cut] at this
  have CV : Hid (∀ W b off cap, Reads W (some ⟨b, off, none⟩) 54 cap (headB oneH) → (convert 26 9 (.slice (some ⟨b, off, none⟩) 14 cap)).run Try.prog W = .ok (.string ⟨#[1, 0, 0, 1, 1, 2, 0, 0, 1, 1, 3, 0, 0, 0]⟩) W) := fun W b off cap h => by
    have := run_convert_bytes_back (P := Try.prog) W 26 9 5 ⟨b, off, none⟩ cap [1, 0, 0, 1, 1, 2, 0, 0, 1, 1, 3, 0, 0, 0] Try.underlying26 Try.underlying5 Try.underlying9 (fun j hj => by
      obtain ⟨q1, q2, q3, q4⟩ := h
      rcases q4 with ⟨h0, _⟩ | ⟨ad, _, h0⟩ | ⟨b', off', e, hlt, hc⟩
      · cases h0
      · omega
      · cases e
        have hj14 : j < 14 := hj
        have hj' : j < (headB oneH).length := by rw [len_one]; omega
        have e2 : (headB oneH)[j]'hj' = [1, 0, 0, 1, 1, 2, 0, 0, 1, 1, 3, 0, 0, 0][j] := by
          apply Option.some.inj
          rw [← List.getElem?_eq_getElem, ← List.getElem?_eq_getElem, headB_one, List.append_assoc, List.getElem?_append_left (by simp; omega)]
          show ([1, 0, 0, 1, 1, 2, 0, 0, 1, 1, 3, 0, 0, 0] ++ [4, 0, 0, 32] : List UInt8)[j]? = _
          rw [List.getElem?_append_left hj]
        rw [add_plain]
        have := hc j hj'
        rw [e2] at this
        exact this)
    exact this
  have NE : ∀ W, (binOp .neq 9 (.string ⟨#[1, 0, 0, 1, 1, 2, 0, 0, 1, 1, 3, 0, 0, 0]⟩) (.string ⟨#[1, 0, 0, 1, 1, 2, 0, 0, 1, 1, 3, 0, 0, 0]⟩)).run Try.prog W = .ok (.bool false) W := fun W => by simp [go_sem]
  have EQ : ∀ W, (binOp .eql 25 (.agg C) (.agg C)).run Try.prog W = .ok (.bool true) W := fun W => eqHead oneH oneH rfl rfl C C HC HC true (by simp) W
  have CH1 : Hid (∀ W, Calls Try.prog 6 #[.agg C] W fun e w' => e = .returned (.int .i64 0) ∧ Below W.heap.size W w') := fun W => by
    have := ck.check oneH one_in W C HC
    have e : putE oneH = 0 := by decide
    rwa [e] at this
  have CH0 : Hid (∀ W, Calls Try.prog 6 #[.agg Z] W fun e w' => e = .returned (.int .i64 70) ∧ Below W.heap.size W w') := fun W => by
    have := ck.check zeroH zero_in W Z HZ
    have e : putE zeroH = 70 := by decide
    rwa [e] at this
  have BZ : Hid (∀ W, (Instr.build 25 #[]).run Try.prog W = .ok (.agg Z) W) := fun W => run_build W 25 #[] Z HBZ.out
  clear HC HZ HBZ H36 H36C
  go_enter Try.func7, Try.ntmps7
  go_wp2_with fail
  refine (ON.out _).mono ?_
  rintro e w1 ⟨rfl, hb1⟩
  have HB1 := hidk hb1
  clear hb1
  go_wp2_with fail
  refine (PU.out _).mono ?_
  rintro e w2 ⟨⟨b, off, cap, rfl, h54, hR⟩, hb2⟩
  have HR := hidk hR
  have HB2 := hidk (HB1.out.trans (hb2.mono HB1.out.size))
  have hcv := CV.out w2 b off cap hR
  have hs14 : ∀ W, (Instr.sliceAt 26 (.slice (some ⟨b, off, none⟩) 54 cap) none (some (.int .i64 14)) none).run Try.prog W = .ok (.slice (some ⟨b, off, none⟩) 14 cap) W := fun W => slice_bytes W b off 54 cap 14 (by omega)
  have hs53 : ∀ W, (Instr.sliceAt 26 (.slice (some ⟨b, off, none⟩) 54 cap) none (some (.int .i64 53)) none).run Try.prog W = .ok (.slice (some ⟨b, off, none⟩) 53 cap) W := fun W => slice_bytes W b off 54 cap 53 (by omega)
  clear hb2 HB1 PU CV hR
  go_wp2_with fail
  refine (GE.out _ _ _ _ HR.out).mono ?_
  rintro e w3 ⟨rfl, hb3⟩
  have HB3 := hidk (HB2.out.trans (hb3.mono HB2.out.size))
  have HR3 := hidk (HR.out.below hb3)
  clear hb3 HB2 HR GE hcv hs14 NE
  go_wp2_with (first
    | (show wpList _ _ _ ({ dst := some 3, op := _, type := _, pos := _, after := _, guard := _ } :: _) _ _; refine wpList_new_var rfl 25 rfl Z HA.out ?_; intro g3 w4 HM3; try simp only [Act.put, List.setIfInBounds_toArray, List.set_cons_zero, List.set_cons_succ])
    | (refine wpList_set_var rfl 25 (.tmp 3) (.tmp 28) rfl g3 C rfl rfl 25 Z HM3.out.row HSC.out HZC.out H1C.out ?_; intro w5 HW3; try simp only [Act.put, List.setIfInBounds_toArray, List.set_cons_zero, List.set_cons_succ])
    | fail)
  have HX5 := hidk (HW3.out.below w3.heap.size w3 HM3.out.below (Nat.le_of_eq HM3.out.new.symm))
  have HB5 := hidk (HB3.out.trans (HX5.out.mono HB3.out.size))
  have HR5 := hidk (HR3.out.below HX5.out)
  have HG5 := hidk HW3.out.row
  clear HM3 HW3 HX5 HB3 HR3
  refine (GC.out _ _ _ _ HR5.out).mono ?_
  rintro e w6 ⟨rfl, hb6⟩
  have HB6 := hidk (HB5.out.trans (hb6.mono HB5.out.size))
  have HG6 := hidk ((hb6.block _ (heap_lt HG5.out)).trans HG5.out)
  clear hb6 HB5 HR5 HG5 GC hs53
  go_wp2_with (first
    | (show wpList _ _ _ ({ dst := some 5, op := _, type := _, pos := _, after := _, guard := _ } :: _) _ _; refine wpList_new_var rfl 25 rfl Z HA.out ?_; intro g5 w7 HM5; try simp only [Act.put, List.setIfInBounds_toArray, List.set_cons_zero, List.set_cons_succ])
    | (refine wpList_set_var rfl 25 (.tmp 5) (.tmp 34) rfl g5 Z rfl rfl 25 Z HM5.out.row HSZ.out rfl H1Z.out ?_; intro w8 HW5; try simp only [Act.put, List.setIfInBounds_toArray, List.set_cons_zero, List.set_cons_succ])
    | fail)
  have HX8 := hidk (HW5.out.below w6.heap.size w6 HM5.out.below (Nat.le_of_eq HM5.out.new.symm))
  have HBc := hidk (HB6.out.trans (HX8.out.mono HB6.out.size)).drew
  have HG8 := hidk ((HX8.out.block _ (heap_lt HG6.out)).trans HG6.out)
  clear HM5 HW5 HX8 HB6 HG6
  refine wp_region_held_drew (S := (fun W => W.heap[g3]? = some (.cells C 25 (0, 0)))) (by kernel_rfl) HG8.out (fun hHeld => ?_)
  refine wpAnyH_take (i := 0) (oi := { dst := some 36, op := Op.move (Operand.tmp 4), type := 27, pos := "law.go:25", after := #[], guard := none }) (v := .int .i64 0) rfl (by kernel_rfl) (by kernel_rfl) (by kernel_rfl) (fun _ _ _ h => h) (Or.inl ⟨by rfl, by intro W hSw; go_simp⟩) hHeld ?_
  try simp only [Act.put, List.setIfInBounds_toArray, List.set_cons_zero, List.set_cons_succ]
  refine wpAnyH_take (i := 1) (oi := { dst := some 37, op := Op.binOp BinOp.eql 27 (Operand.tmp 36) (Operand.const (Value.int IntKind.i64 0)) 27, type := 4, pos := "law.go:25", after := #[{ on := 0, ground := Ground.data }], guard := none }) (v := .bool true) rfl (by kernel_rfl) (by kernel_rfl) (by kernel_rfl) (fun _ _ _ h => h) (Or.inl ⟨by rfl, by intro W hSw; go_simp⟩) hHeld ?_
  try simp only [Act.put, List.setIfInBounds_toArray, List.set_cons_zero, List.set_cons_succ]
  refine wpAnyH_take (i := 2) (oi := { dst := some 38, op := Op.move (Operand.tmp 37), type := 4, pos := "law.go:25", after := #[{ on := 1, ground := Ground.data }], guard := none }) (v := .bool true) rfl (by kernel_rfl) (by kernel_rfl) (by kernel_rfl) (fun _ _ _ h => h) (Or.inl ⟨by rfl, by intro W hSw; go_simp⟩) hHeld ?_
  try simp only [Act.put, List.setIfInBounds_toArray, List.set_cons_zero, List.set_cons_succ]
  refine wpAnyH_take (i := 3) (oi := { dst := some 39, op := Op.load 25 (Operand.tmp 3), type := 25, pos := "law.go:25", after := #[{ on := 2, ground := Ground.guard }], guard := some (2, true) }) (v := .agg C) rfl (by kernel_rfl) (by kernel_rfl) (by kernel_rfl) (fun _ _ _ h => h) (yieldsIf_row (by rfl) 25 (.tmp 3) rfl g3 rfl 25 C (0, 0) _ (fun _ h => h) Try.underlying25 rfl HSC.out) hHeld ?_
  try simp only [Act.put, List.setIfInBounds_toArray, List.set_cons_zero, List.set_cons_succ]
  refine wpAnyH_ready (rs := [4]) (by kernel_rfl) (by simp) ?_
  refine (AllReadyH.cons (o := { dst := some 40, op := Op.call { callee := Callee.value (Operand.func 15), args := #[], argTypes := #[] }, type := 25, pos := "law.go:25", after := #[{ on := 2, ground := Ground.chain }, { on := 2, ground := Ground.guard }], guard := some (2, true) }) rfl (fun K hK => ?_) AllReadyH.nil)
  go_simp
  refine (ON.out _).mono ?_
  rintro e wc4 ⟨rfl, hb4⟩
  replace HBc := hidk (HBc.out.trans (hb4.mono HBc.out.size))
  go_wp2_with fail
  refine hK.out _ _ ((hb4.block _ (heap_lt hHeld)).trans hHeld) (fun hHeld => ?_)
  clear hK K
  try simp only [Act.put, List.setIfInBounds_toArray, List.set_cons_zero, List.set_cons_succ]
  refine wpAnyH_take (i := 5) (oi := { dst := some 41, op := Op.binOp BinOp.eql 25 (Operand.tmp 39) (Operand.tmp 40) 25, type := 4, pos := "law.go:25", after := #[{ on := 3, ground := Ground.data }, { on := 4, ground := Ground.data }, { on := 2, ground := Ground.guard }], guard := some (2, true) }) (v := .bool true) rfl (by kernel_rfl) (by kernel_rfl) (by kernel_rfl) (fun _ _ _ h => h) (Or.inl ⟨by rfl, by intro W hSw; have := EQ W; go_simp⟩) hHeld ?_
  try simp only [Act.put, List.setIfInBounds_toArray, List.set_cons_zero, List.set_cons_succ]
  refine wpAnyH_take (i := 6) (oi := { dst := some 42, op := Op.pick (Operand.tmp 38) (Operand.tmp 41) (Operand.const (Value.bool false)), type := 4, pos := "law.go:25", after := #[{ on := 2, ground := Ground.data }, { on := 5, ground := Ground.data }], guard := none }) (v := .bool true) rfl (by kernel_rfl) (by kernel_rfl) (by kernel_rfl) (fun _ _ _ h => h) (Or.inl ⟨by rfl, by intro W hSw; go_simp⟩) hHeld ?_
  try simp only [Act.put, List.setIfInBounds_toArray, List.set_cons_zero, List.set_cons_succ]
  refine wpAnyH_take (i := 7) (oi := { dst := some 43, op := Op.move (Operand.tmp 42), type := 4, pos := "law.go:25", after := #[{ on := 6, ground := Ground.data }, { on := 4, ground := Ground.chain }], guard := none }) (v := .bool true) rfl (by kernel_rfl) (by kernel_rfl) (by kernel_rfl) (fun _ _ _ h => h) (Or.inl ⟨by rfl, by intro W hSw; go_simp⟩) hHeld ?_
  try simp only [Act.put, List.setIfInBounds_toArray, List.set_cons_zero, List.set_cons_succ]
  refine wpAnyH_take (i := 8) (oi := { dst := some 44, op := Op.move (Operand.tmp 6), type := 27, pos := "law.go:25", after := #[{ on := 7, ground := Ground.guard }], guard := some (7, true) }) (v := .int .i64 70) rfl (by kernel_rfl) (by kernel_rfl) (by kernel_rfl) (fun _ _ _ h => h) (Or.inl ⟨by rfl, by intro W hSw; go_simp⟩) hHeld ?_
  try simp only [Act.put, List.setIfInBounds_toArray, List.set_cons_zero, List.set_cons_succ]
  refine wpAnyH_take (i := 9) (oi := { dst := some 45, op := Op.binOp BinOp.eql 27 (Operand.tmp 44) (Operand.const (Value.int IntKind.i64 70)) 27, type := 4, pos := "law.go:25", after := #[{ on := 8, ground := Ground.data }, { on := 7, ground := Ground.guard }], guard := some (7, true) }) (v := .bool true) rfl (by kernel_rfl) (by kernel_rfl) (by kernel_rfl) (fun _ _ _ h => h) (Or.inl ⟨by rfl, by intro W hSw; go_simp⟩) hHeld ?_
  try simp only [Act.put, List.setIfInBounds_toArray, List.set_cons_zero, List.set_cons_succ]
  refine wpAnyH_take (i := 10) (oi := { dst := some 46, op := Op.pick (Operand.tmp 43) (Operand.tmp 45) (Operand.const (Value.bool false)), type := 4, pos := "law.go:25", after := #[{ on := 7, ground := Ground.data }, { on := 9, ground := Ground.data }], guard := none }) (v := .bool true) rfl (by kernel_rfl) (by kernel_rfl) (by kernel_rfl) (fun _ _ _ h => h) (Or.inl ⟨by rfl, by intro W hSw; go_simp⟩) hHeld ?_
  try simp only [Act.put, List.setIfInBounds_toArray, List.set_cons_zero, List.set_cons_succ]
  refine wpAnyH_take (i := 11) (oi := { dst := some 47, op := Op.move (Operand.tmp 46), type := 4, pos := "law.go:25", after := #[{ on := 10, ground := Ground.data }, { on := 7, ground := Ground.chain }], guard := none }) (v := .bool true) rfl (by kernel_rfl) (by kernel_rfl) (by kernel_rfl) (fun _ _ _ h => h) (Or.inl ⟨by rfl, by intro W hSw; go_simp⟩) hHeld ?_
  try simp only [Act.put, List.setIfInBounds_toArray, List.set_cons_zero, List.set_cons_succ]
  refine wpAnyH_ready (rs := [12]) (by kernel_rfl) (by simp) ?_
  refine (AllReadyH.cons (o := { dst := some 48, op := Op.call { callee := Callee.value (Operand.func 15), args := #[], argTypes := #[] }, type := 25, pos := "law.go:25", after := #[{ on := 11, ground := Ground.chain }, { on := 11, ground := Ground.guard }], guard := some (11, true) }) rfl (fun K hK => ?_) AllReadyH.nil)
  go_simp
  refine (ON.out _).mono ?_
  rintro e wc12 ⟨rfl, hb12⟩
  replace HBc := hidk (HBc.out.trans (hb12.mono HBc.out.size))
  go_wp2_with fail
  refine hK.out _ _ ((hb12.block _ (heap_lt hHeld)).trans hHeld) (fun hHeld => ?_)
  clear hK K
  try simp only [Act.put, List.setIfInBounds_toArray, List.set_cons_zero, List.set_cons_succ]
  refine wpAnyH_ready (rs := [13]) (by kernel_rfl) (by simp) ?_
  refine (AllReadyH.cons (o := { dst := some 49, op := Op.call { callee := Callee.value (Operand.func 6), args := #[Operand.tmp 48], argTypes := #[25] }, type := 27, pos := "law.go:25", after := #[{ on := 12, ground := Ground.data }, { on := 12, ground := Ground.chain }, { on := 11, ground := Ground.guard }], guard := some (11, true) }) rfl (fun K hK => ?_) AllReadyH.nil)
  go_simp
  refine (CH1.out _).mono ?_
  rintro e wc13 ⟨rfl, hb13⟩
  replace HBc := hidk (HBc.out.trans (hb13.mono HBc.out.size))
  go_wp2_with fail
  refine hK.out _ _ ((hb13.block _ (heap_lt hHeld)).trans hHeld) (fun hHeld => ?_)
  clear hK K
  try simp only [Act.put, List.setIfInBounds_toArray, List.set_cons_zero, List.set_cons_succ]
  refine wpAnyH_take (i := 14) (oi := { dst := some 50, op := Op.binOp BinOp.eql 27 (Operand.tmp 49) (Operand.const (Value.int IntKind.i64 0)) 27, type := 4, pos := "law.go:25", after := #[{ on := 13, ground := Ground.data }, { on := 11, ground := Ground.guard }], guard := some (11, true) }) (v := .bool true) rfl (by kernel_rfl) (by kernel_rfl) (by kernel_rfl) (fun _ _ _ h => h) (Or.inl ⟨by rfl, by intro W hSw; go_simp⟩) hHeld ?_
  try simp only [Act.put, List.setIfInBounds_toArray, List.set_cons_zero, List.set_cons_succ]
  refine wpAnyH_take (i := 15) (oi := { dst := some 51, op := Op.pick (Operand.tmp 47) (Operand.tmp 50) (Operand.const (Value.bool false)), type := 4, pos := "law.go:25", after := #[{ on := 11, ground := Ground.data }, { on := 14, ground := Ground.data }], guard := none }) (v := .bool true) rfl (by kernel_rfl) (by kernel_rfl) (by kernel_rfl) (fun _ _ _ h => h) (Or.inl ⟨by rfl, by intro W hSw; go_simp⟩) hHeld ?_
  try simp only [Act.put, List.setIfInBounds_toArray, List.set_cons_zero, List.set_cons_succ]
  refine wpAnyH_take (i := 16) (oi := { dst := some 52, op := Op.move (Operand.tmp 51), type := 4, pos := "law.go:25", after := #[{ on := 15, ground := Ground.data }, { on := 13, ground := Ground.chain }], guard := none }) (v := .bool true) rfl (by kernel_rfl) (by kernel_rfl) (by kernel_rfl) (fun _ _ _ h => h) (Or.inl ⟨by rfl, by intro W hSw; go_simp⟩) hHeld ?_
  try simp only [Act.put, List.setIfInBounds_toArray, List.set_cons_zero, List.set_cons_succ]
  refine wpAnyH_take (i := 17) (oi := { dst := some 53, op := Op.build 25 #[], type := 25, pos := "law.go:25", after := #[{ on := 16, ground := Ground.guard }], guard := some (16, true) }) (v := .agg Z) rfl (by kernel_rfl) (by kernel_rfl) (by kernel_rfl) (fun _ _ _ h => h) (yieldsIf_build (by rfl) 25 #[] rfl #[] rfl (.agg Z) BZ.out) hHeld ?_
  try simp only [Act.put, List.setIfInBounds_toArray, List.set_cons_zero, List.set_cons_succ]
  refine wpAnyH_ready (rs := [18]) (by kernel_rfl) (by simp) ?_
  refine (AllReadyH.cons (o := { dst := some 54, op := Op.call { callee := Callee.value (Operand.func 6), args := #[Operand.tmp 53], argTypes := #[25] }, type := 27, pos := "law.go:25", after := #[{ on := 17, ground := Ground.data }, { on := 16, ground := Ground.chain }, { on := 16, ground := Ground.guard }], guard := some (16, true) }) rfl (fun K hK => ?_) AllReadyH.nil)
  go_simp
  refine (CH0.out _).mono ?_
  rintro e wc18 ⟨rfl, hb18⟩
  replace HBc := hidk (HBc.out.trans (hb18.mono HBc.out.size))
  go_wp2_with fail
  refine hK.out _ _ ((hb18.block _ (heap_lt hHeld)).trans hHeld) (fun hHeld => ?_)
  clear hK K
  try simp only [Act.put, List.setIfInBounds_toArray, List.set_cons_zero, List.set_cons_succ]
  refine wpAnyH_take (i := 19) (oi := { dst := some 55, op := Op.binOp BinOp.eql 27 (Operand.tmp 54) (Operand.const (Value.int IntKind.i64 70)) 27, type := 4, pos := "law.go:25", after := #[{ on := 18, ground := Ground.data }, { on := 16, ground := Ground.guard }], guard := some (16, true) }) (v := .bool true) rfl (by kernel_rfl) (by kernel_rfl) (by kernel_rfl) (fun _ _ _ h => h) (Or.inl ⟨by rfl, by intro W hSw; go_simp⟩) hHeld ?_
  try simp only [Act.put, List.setIfInBounds_toArray, List.set_cons_zero, List.set_cons_succ]
  refine wpAnyH_take (i := 20) (oi := { dst := some 56, op := Op.pick (Operand.tmp 52) (Operand.tmp 55) (Operand.const (Value.bool false)), type := 4, pos := "law.go:25", after := #[{ on := 16, ground := Ground.data }, { on := 19, ground := Ground.data }], guard := none }) (v := .bool true) rfl (by kernel_rfl) (by kernel_rfl) (by kernel_rfl) (fun _ _ _ h => h) (Or.inl ⟨by rfl, by intro W hSw; go_simp⟩) hHeld ?_
  try simp only [Act.put, List.setIfInBounds_toArray, List.set_cons_zero, List.set_cons_succ]
  refine wpAnyH_take (i := 21) (oi := { dst := some 0, op := Op.assign (Operand.tmp 56), type := 4, pos := "law.go:25", after := #[{ on := 20, ground := Ground.data }, { on := 18, ground := Ground.chain }, { on := 0, ground := Ground.phase }, { on := 1, ground := Ground.phase }, { on := 2, ground := Ground.phase }, { on := 3, ground := Ground.phase }, { on := 4, ground := Ground.phase }, { on := 5, ground := Ground.phase }, { on := 6, ground := Ground.phase }, { on := 7, ground := Ground.phase }, { on := 8, ground := Ground.phase }, { on := 9, ground := Ground.phase }, { on := 10, ground := Ground.phase }, { on := 11, ground := Ground.phase }, { on := 12, ground := Ground.phase }, { on := 13, ground := Ground.phase }, { on := 14, ground := Ground.phase }, { on := 15, ground := Ground.phase }, { on := 16, ground := Ground.phase }, { on := 17, ground := Ground.phase }, { on := 18, ground := Ground.phase }, { on := 19, ground := Ground.phase }, { on := 20, ground := Ground.phase }], guard := none }) (v := .bool true) rfl (by kernel_rfl) (by kernel_rfl) (by kernel_rfl) (fun _ _ _ h => h) (Or.inl ⟨by rfl, by intro W hSw; go_simp⟩) hHeld ?_
  try simp only [Act.put, List.setIfInBounds_toArray, List.set_cons_zero, List.set_cons_succ]
  refine wpAnyH_done (by kernel_rfl) ?_ _
  go_wp2_with fail
  go_ret
  exact ⟨rfl, HBc.out⟩
end Go.Proofs.Ytdnhnjimhbbabaa

/- What HeadBytes says of any input, over what the calls of package head answer. -/
namespace Go.Proofs.Ytdnhnjimhbbabaa
open Go.RowKit Sums Nums
set_option linter.unusedVariables false
set_option linter.unusedSimpArgs false
set_option maxRecDepth 100000
theorem neq_same (W : World) (s : ByteArray) : (binOp .neq 9 (.string s) (.string s)).run Try.prog W = .ok (.bool false) W := by simp [go_sem]
set_option maxHeartbeats 2000000 in
theorem refPut7_any (h : HdT) (hd : h.d.length = 32) (w : World) (C : Array Value) (HC : Hid (C = (hcells h).toArray)) :
    Calls Try.prog 5 #[.agg C] w fun e w' => BytesE (putB h) (putE h) e w' ∧ Below w.heap.size w w' := by
  have hnot : ∀ (x : Bool) (w : World), (Op.unary .not (.bool x)).run Try.prog w = .ok (.bool (!x)) w := fun _ _ => rfl
  have HSC : Hid ((Try.prog.info? 25).map (·.size) = some C.size) := by show _ = _; rw [sizeH, HC.out]; simp [hcells_length h hd]
  have HR : Hid ((w.alloc (.cells C 25)).heap[w.heap.size]? = some (.cells C 25 (0, 0))) := heap_alloc_new w _
  have HB : Hid (Below w.heap.size w (w.alloc (.cells C 25))) := (Below.refl _ _).alloc (Nat.le_refl _) _
  have M1 : Hid (∀ W, Calls Try.prog 12 #[.agg C] W fun e w' => e = .returned (.bool (rightH h)) ∧ Below W.heap.size W w') := fun W => refRight_any h hd W C HC
  have B1 : Hid (∀ W, Calls Try.prog 13 #[.agg C] W fun e w' => ∃ v, e = .returned v ∧ w'.ownsRow W.heap.size 5 1 v (headB h).length (cellsOf (headB h)) ∧ Below W.heap.size W w') := fun W => refHB_any h hd W C HC
  unfold putB putE
  obtain ⟨b, hb⟩ : ∃ b, rightH h = b := ⟨_, rfl⟩
  obtain ⟨l, Hl⟩ : ∃ l, Hid (l = headB h) := ⟨headB h, hidk rfl⟩
  rw [hb] at M1 ⊢
  rw [← Hl.out] at B1 ⊢
  clear HC hb Hl
  cases b
  · go_enter Try.func5, Try.ntmps5
    go_wp2_with (first
      | (show wpList _ _ _ ({ dst := some 4, op := _, type := _, pos := _, after := _, guard := _ } :: _) _ _; refine wpList_load_row rfl 25 (.tmp 1) rfl w.heap.size rfl 25 C (0, 0) _ HR.out Try.underlying25 rfl HSC.out ?_; try simp only [Act.put, List.setIfInBounds_toArray, List.set_cons_zero, List.set_cons_succ])
      | fail)
    refine (M1.out _).mono ?_
    rintro e w1 ⟨rfl, hb1⟩
    have HB1 := hidk (HB.out.trans (hb1.mono HB.out.size))
    clear hb1
    go_wp2
    go_ret2
    exact ⟨⟨none, 0, rfl, reads_none _⟩, HB1.out⟩
  · go_enter Try.func5, Try.ntmps5
    go_wp2_with (first
      | (show wpList _ _ _ ({ dst := some 4, op := _, type := _, pos := _, after := _, guard := _ } :: _) _ _; refine wpList_load_row rfl 25 (.tmp 1) rfl w.heap.size rfl 25 C (0, 0) _ HR.out Try.underlying25 rfl HSC.out ?_; try simp only [Act.put, List.setIfInBounds_toArray, List.set_cons_zero, List.set_cons_succ])
      | fail)
    refine (M1.out _).mono ?_
    rintro e w1 ⟨rfl, hb1⟩
    have HB1 := hidk (HB.out.trans (hb1.mono HB.out.size))
    have HR1 := hidk ((hb1.block _ (heap_lt HR.out)).trans HR.out)
    clear hb1
    go_wp2_with (first
      | (show wpList _ _ _ ({ dst := some 7, op := _, type := _, pos := _, after := _, guard := _ } :: _) _ _; refine wpList_load_row rfl 25 (.tmp 1) rfl w.heap.size rfl 25 C (0, 0) _ HR1.out Try.underlying25 rfl HSC.out ?_; try simp only [Act.put, List.setIfInBounds_toArray, List.set_cons_zero, List.set_cons_succ])
      | fail)
    refine (B1.out _).mono ?_
    rintro e w2 ⟨v, rfl, ho, hb2⟩
    obtain ⟨a, cap, rfl, hR⟩ := reads_own ho
    have HQ := hidk hR
    have HB2 := hidk (HB1.out.trans (hb2.mono HB1.out.size))
    clear ho hb2 hR
    go_wp2
    go_ret2
    exact ⟨⟨a, cap, rfl, HQ.out⟩, HB2.out⟩
set_option maxHeartbeats 8000000 in
theorem headBytes_of (ck : HeadC) (h : HdT) (w : World) (C : Array Value) (HC : Hid (C = (hcells h).toArray)) (hh : InH h) :
    Calls Try.prog 3 #[.agg C] w fun e w' => e = .returned (.bool true) ∧ Below w.heap.size w w' := by
  have HR : Hid ((w.alloc (.cells C 25)).heap[w.heap.size]? = some (.cells C 25 (0, 0))) := heap_alloc_new w _
  have HB : Hid (Below w.heap.size w (w.alloc (.cells C 25))) := (Below.refl _ _).alloc (Nat.le_refl _) _
  have HSC : Hid ((Try.prog.info? 25).map (·.size) = some C.size) := by show _ = _; rw [sizeH, HC.out]; simp [hcells_length _ hh.d]
  have H1C : Hid (C.all (·.oneCell') = true) := by show _ = _; rw [HC.out]; exact one_cells _
  obtain ⟨Z, HZ, HA, HBZ, H36⟩ := noughtsH
  have HZC : Hid (Z.size = C.size) := by show _ = _; rw [H36.out, HC.out]; simp [hcells_length _ hh.d]
  obtain ⟨E, hE⟩ : ∃ E, E = putE h := ⟨_, rfl⟩
  obtain ⟨L, hL⟩ : ∃ L, L = putB h := ⟨_, rfl⟩
  obtain ⟨len, hlen⟩ : ∃ n, n = L.length := ⟨_, rfl⟩
  have PG : Hid (∀ W, Calls Try.prog 4 #[.agg C] W fun e w' => (∃ a cap, e = .returned (.tuple #[.slice a len cap, .int .i64 E]) ∧ Reads w' a len cap L) ∧ Below W.heap.size W w') := fun W => by rw [hE, hlen, hL]; exact ck.put h hh W C HC
  have PR : Hid (∀ W, Calls Try.prog 5 #[.agg C] W fun e w' => (∃ a cap, e = .returned (.tuple #[.slice a len cap, .int .i64 E]) ∧ Reads w' a len cap L) ∧ Below W.heap.size W w') := fun W => by rw [hE, hlen, hL]; exact refPut7_any h hh.d W C HC
  have CK : Hid (∀ W, Calls Try.prog 6 #[.agg C] W fun e w' => e = .returned (.int .i64 E) ∧ Below W.heap.size W w') := fun W => by rw [hE]; exact ck.check h hh W C HC
  have LY : Hid (∀ W, Calls Try.prog 7 #[] W fun e w' => e = .returned (.bool true) ∧ Below W.heap.size W w') := fun W => lays_true ck W
  have GS : Hid (E = 0 → ∀ W a cap, Reads W a len cap L → Calls Try.prog 8 #[.slice a len cap] W fun e w' => e = .returned (.tuple #[.agg C, .int .i64 0]) ∧ Below W.heap.size W w') := fun h0 W a cap hr => by
    have hm : rightH h = true := by
      rw [hE] at h0
      unfold putE at h0
      by_cases hm : rightH h = true
      · exact hm
      · rw [if_neg hm] at h0; omega
    have e1 : L = headB h := by rw [hL]; unfold putB; rw [if_pos hm]
    have e2 : getO L = some h := by rw [e1]; exact getO_head h hm hh.d
    have hl := headB_length h hh.d
    have := ck.get a _ cap L W hr (by rw [hlen, e1]; omega) C (by show _ = _; unfold getHO; rw [e2]; exact HC.out)
    have e3 : getHE L = 0 := by unfold getHE; rw [e2]; rfl
    rwa [e3] at this
  have EQ : ∀ W, (binOp .eql 25 (.agg C) (.agg C)).run Try.prog W = .ok (.bool true) W := fun W => eqHead h h hh.d hh.d C C HC HC true (by simp) W
  have h07 : E = 0 ∨ E = 70 := by rw [hE]; unfold putE; split <;> simp
  obtain ⟨T, HT⟩ : ∃ T : ByteArray, Hid (T = ⟨L.toArray⟩) := ⟨_, hidk rfl⟩
  have CV : Hid (∀ W a cap, Reads W a len cap L → (convert 26 9 (.slice a len cap)).run Try.prog W = .ok (.string T) W) := fun W a cap h => by rw [HT.out]; exact conv_reads h
  have NE : ∀ W, (binOp .neq 9 (.string T) (.string T)).run Try.prog W = .ok (.bool false) W := fun W => neq_same W T
  clear HC hh hE hL hlen HZ HBZ H36 HT
  go_enter Try.func3, Try.ntmps3
  go_wp2_with (first
    | (show wpList _ _ _ ({ dst := some 11, op := _, type := _, pos := _, after := _, guard := _ } :: _) _ _; refine wpList_load_row rfl 25 (.tmp 1) rfl w.heap.size rfl 25 C (0, 0) _ HR.out Try.underlying25 rfl HSC.out ?_; try simp only [Act.put, List.setIfInBounds_toArray, List.set_cons_zero, List.set_cons_succ])
    | fail)
  refine (PG.out _).mono ?_
  rintro e w1 ⟨⟨a1, cap1, rfl, hR1⟩, hb1⟩
  have HQ1 := hidk hR1
  have HB1 := hidk (HB.out.trans (hb1.mono HB.out.size))
  have HR1 := hidk ((hb1.block _ (heap_lt HR.out)).trans HR.out)
  clear hb1 hR1 HB HR PG
  go_wp2_with (first
    | (show wpList _ _ _ ({ dst := some 16, op := _, type := _, pos := _, after := _, guard := _ } :: _) _ _; refine wpList_load_row rfl 25 (.tmp 1) rfl w.heap.size rfl 25 C (0, 0) _ HR1.out Try.underlying25 rfl HSC.out ?_; try simp only [Act.put, List.setIfInBounds_toArray, List.set_cons_zero, List.set_cons_succ])
    | fail)
  refine (PR.out _).mono ?_
  rintro e w2 ⟨⟨a2, cap2, rfl, hR2⟩, hb2⟩
  have HQ2 := hidk (And.intro (HQ1.out.below hb2) hR2)
  have HB2 := hidk (HB1.out.trans (hb2.mono HB1.out.size))
  have HR2 := hidk ((hb2.block _ (heap_lt HR1.out)).trans HR1.out)
  clear hb2 hR2 HB1 HR1 HQ1 PR
  go_wp2_with (first
    | (show wpList _ _ _ ({ dst := some 20, op := _, type := _, pos := _, after := _, guard := _ } :: _) _ _; refine wpList_load_row rfl 25 (.tmp 1) rfl w.heap.size rfl 25 C (0, 0) _ HR2.out Try.underlying25 rfl HSC.out ?_; try simp only [Act.put, List.setIfInBounds_toArray, List.set_cons_zero, List.set_cons_succ])
    | fail)
  refine (CK.out _).mono ?_
  rintro e w3 ⟨rfl, hb3⟩
  have HQ3 := hidk (And.intro (HQ2.out.1.below hb3) (HQ2.out.2.below hb3))
  have HB3 := hidk (HB2.out.trans (hb3.mono HB2.out.size))
  have HR3 := hidk ((hb3.block _ (heap_lt HR2.out)).trans HR2.out)
  have c1 := CV.out w3 a1 cap1 HQ3.out.1
  have c2 := CV.out w3 a2 cap2 HQ3.out.2
  clear hb3 HB2 HR2 HQ2 CK CV
  rcases h07 with rfl | rfl
  · go_wp2_with fail
    refine (GS.out (by trivial) _ _ _ HQ3.out.1).mono ?_
    rintro e w4 ⟨rfl, hb4⟩
    have HB4 := hidk (HB3.out.trans (hb4.mono HB3.out.size))
    have HR4 := hidk ((hb4.block _ (heap_lt HR3.out)).trans HR3.out)
    clear hb4 HB3 HR3 HQ3 GS c1 c2 NE
    go_wp2_with (first
      | (show wpList _ _ _ ({ dst := some 8, op := _, type := _, pos := _, after := _, guard := _ } :: _) _ _; refine wpList_new_var rfl 25 rfl Z HA.out ?_; intro g8 w5 HM8; try simp only [Act.put, List.setIfInBounds_toArray, List.set_cons_zero, List.set_cons_succ])
      | (refine wpList_set_var rfl 25 (.tmp 8) (.tmp 43) rfl g8 C rfl rfl 25 Z HM8.out.row HSC.out HZC.out H1C.out ?_; intro w6 HW8; try simp only [Act.put, List.setIfInBounds_toArray, List.set_cons_zero, List.set_cons_succ])
      | fail)
    have HX6 := hidk (HW8.out.below w4.heap.size w4 HM8.out.below (Nat.le_of_eq HM8.out.new.symm))
    have HB6 := hidk (HB4.out.trans (HX6.out.mono HB4.out.size))
    have HR6 := hidk ((HX6.out.block _ (heap_lt HR4.out)).trans HR4.out)
    have HR86 := hidk HW8.out.row
    clear HM8 HW8 HX6 HB4 HR4
    refine (LY.out _).mono ?_
    rintro e w7 ⟨rfl, hb7⟩
    have HB7 := hidk (HB6.out.trans (hb7.mono HB6.out.size))
    have HR7 := hidk ((hb7.block _ (heap_lt HR6.out)).trans HR6.out)
    have HR87 := hidk ((hb7.block _ (heap_lt HR86.out)).trans HR86.out)
    clear hb7 HB6 HR6 HR86 LY
    go_wp2_with (first
      | (show wpList _ _ _ ({ dst := some 51, op := _, type := _, pos := _, after := _, guard := _ } :: _) _ _; refine wpList_load_row_w (by rfl) 25 (.tmp 8) rfl g8 rfl 25 C (0, 0) _ HR87.out Try.underlying25 rfl HSC.out ?_; try simp only [Act.put, List.setIfInBounds_toArray, List.set_cons_zero, List.set_cons_succ])
      | (show wpList _ _ _ ({ dst := some 52, op := _, type := _, pos := _, after := _, guard := _ } :: _) _ _; refine wpList_load_row_w (by rfl) 25 (.tmp 1) rfl w.heap.size rfl 25 C (0, 0) _ HR7.out Try.underlying25 rfl HSC.out ?_; try simp only [Act.put, List.setIfInBounds_toArray, List.set_cons_zero, List.set_cons_succ])
      | fail)
    go_ret
    exact ⟨rfl, HB7.out⟩
  · go_wp2_with fail
    refine (LY.out _).mono ?_
    rintro e w7 ⟨rfl, hb7⟩
    have HB7 := hidk (HB3.out.trans (hb7.mono HB3.out.size))
    clear hb7 HB3 LY
    go_wp2_with fail
    go_ret
    exact ⟨rfl, HB7.out⟩
theorem headBytes_in (ck : HeadC) (z0 : HdT) (w : World) (w0 : InH z0) :
    Calls Try.prog 3 #[headV z0] w fun e w' => e = .returned (.bool true) ∧ Below w.heap.size w w' :=
  headBytes_of ck z0 w _ (hidk rfl) w0
end Go.Proofs.Ytdnhnjimhbbabaa

/- Heads, signed heads and bytes that came in. -/
namespace Go.Proofs.Ytdnhnjimhbbabaa
open Go.RowKit Sums Nums
set_option linter.unusedVariables false
set_option maxRecDepth 100000
variable {H : Type} {enc : TypeId × Value → H} {W : World} {base : Nat} {sp : Nat → Bool} {held : Bool} {fuel : Nat} {x : DataW H × List MemPlace}
theorem open_dig_cells {cs : List Value} (hf : DataW.trod enc Try.prog W base sp held fuel 23 cs = some x) : ∃ l : List UInt8, l.length = 32 ∧ cs = cellsOf l := by
  obtain ⟨xs, m, rfl, _, hl, hx, hall⟩ := DataW.trod_array Try.underlying23 hf
  have h1 : Try.prog.cellsOf 5 = 1 := by kernel_rfl
  have h32 : Try.prog.cellsOf 23 = 32 := by kernel_rfl
  rw [h32] at hl
  rw [h1] at hall
  simp only [Nat.mul_one] at hall
  have each : ∀ i, (hi : i < cs.length) → ∃ b : UInt8, cs[i] = .int .u8 b.toNat := by
    intro i hi
    have := hall i (by omega)
    rw [List.getElem?_eq_getElem (by omega)] at this
    obtain ⟨z, hz, _, hwf⟩ := DataW.trod_int Try.underlying5 this
    have e : (cs.drop i).take 1 = [cs[i]] := by
      rw [List.drop_eq_getElem_cons hi]; rfl
    rw [e] at hz
    simp at hz
    have hb := bounds_u8 hwf
    refine ⟨UInt8.ofNat z.toNat, ?_⟩
    rw [UInt8.toNat_ofNat', show ((z.toNat % 2 ^ 8 : Nat) : Int) = z by omega]
    simpa using hz
  refine ⟨cs.map fun v => match v with | .int _ n => UInt8.ofNat n.toNat | _ => 0, by simp; simpa using hl, ?_⟩
  unfold cellsOf
  rw [List.map_map]
  apply List.ext_getElem
  · simp
  · intro i h1 h2
    obtain ⟨b, hb⟩ := each i h1
    rw [List.getElem_map]
    rw [hb]
    simp
theorem open_int_cells {cs : List Value} (hf : DataW.trod enc Try.prog W base sp held fuel 3 cs = some x) : ∃ z : Int, In64 z ∧ cs = [.int .i64 z] := by
  obtain ⟨z, hz, _, hwf⟩ := DataW.trod_int Try.underlying3 hf
  exact ⟨z, bounds_i64 hwf, hz⟩
theorem part_some {xs : List (DataW H × List MemPlace)} {n i : Nat} (hl : xs.length = n) (hi : i < n) : ∃ y, xs[i]? = some y := ⟨xs[i]'(by omega), List.getElem?_eq_getElem (by omega)⟩
theorem open_head_cells {cs : List Value} (hf : DataW.trod enc Try.prog W base sp held fuel 25 cs = some x) : ∃ z : HdT, InH z ∧ cs = hcells z := by
  obtain ⟨xs, m, rfl, _, hl, hx, hall⟩ := DataW.trod_struct Try.underlying25 hf
  have h1 : Try.prog.cellsOf 3 = 1 := by kernel_rfl
  have h32 : Try.prog.cellsOf 23 = 32 := by kernel_rfl
  have h36 : Try.prog.cellsOf 25 = 36 := by kernel_rfl
  rw [h36] at hl
  obtain ⟨y0, e0⟩ := part_some hx (i := 0) (by decide)
  obtain ⟨y1, e1⟩ := part_some hx (i := 1) (by decide)
  obtain ⟨y2, e2⟩ := part_some hx (i := 2) (by decide)
  obtain ⟨y3, e3⟩ := part_some hx (i := 3) (by decide)
  obtain ⟨y4, e4⟩ := part_some hx (i := 4) (by decide)
  have f0 : DataW.trod enc Try.prog W base sp held m 3 ((cs.drop 0).take (Try.prog.cellsOf 3)) = some y0 := (hall 0 _ rfl).trans e0
  have f1 : DataW.trod enc Try.prog W base sp held m 3 ((cs.drop 1).take (Try.prog.cellsOf 3)) = some y1 := (hall 1 _ rfl).trans e1
  have f2 : DataW.trod enc Try.prog W base sp held m 3 ((cs.drop 2).take (Try.prog.cellsOf 3)) = some y2 := (hall 2 _ rfl).trans e2
  have f3 : DataW.trod enc Try.prog W base sp held m 23 ((cs.drop 3).take (Try.prog.cellsOf 23)) = some y3 := (hall 3 _ rfl).trans e3
  have f4 : DataW.trod enc Try.prog W base sp held m 3 ((cs.drop 35).take (Try.prog.cellsOf 3)) = some y4 := (hall 4 _ rfl).trans e4
  rw [h1] at f0 f1 f2 f4
  rw [h32] at f3
  obtain ⟨r, ir, cr⟩ := open_int_cells f0
  obtain ⟨e, ie, ce⟩ := open_int_cells f1
  obtain ⟨s, is, cs'⟩ := open_int_cells f2
  obtain ⟨d, id, cd⟩ := open_dig_cells f3
  obtain ⟨t, it, ct⟩ := open_int_cells f4
  refine ⟨⟨r, e, s, d, t⟩, ⟨id, ir, ie, is, it⟩, ?_⟩
  unfold hcells
  show cs = [Value.int .i64 r, .int .i64 e, .int .i64 s] ++ cellsOf d ++ [.int .i64 t]
  have k0 : cs = (cs.drop 0).take 1 ++ ((cs.drop 1).take 1 ++ ((cs.drop 2).take 1 ++ ((cs.drop 3).take 32 ++ (cs.drop 35).take 1))) := by
    have q4 : (cs.drop 35).take 1 = cs.drop 35 := List.take_of_length_le (by rw [List.length_drop]; omega)
    have q3 : (cs.drop 3).take 32 ++ cs.drop 35 = cs.drop 3 := by
      have := List.take_append_drop 32 (cs.drop 3)
      rw [List.drop_drop] at this
      exact this
    have q2 : (cs.drop 2).take 1 ++ cs.drop 3 = cs.drop 2 := by
      have := List.take_append_drop 1 (cs.drop 2)
      rw [List.drop_drop] at this
      exact this
    have q1 : (cs.drop 1).take 1 ++ cs.drop 2 = cs.drop 1 := by
      have := List.take_append_drop 1 (cs.drop 1)
      rw [List.drop_drop] at this
      exact this
    rw [q4, q3, q2, q1, List.drop_zero, List.take_append_drop]
  rw [cr, ce, cs', cd, ct] at k0
  rw [k0]
  simp
theorem open_head {base' : Nat} {r : Reach} {v : Value} {d : DataW H} {p : List MemPlace}
    (hv : Value.okWide Try.prog W r base' 25 v) (h : DataW.Trod enc Try.prog W base sp held 25 v d p) : ∃ z : HdT, InH z ∧ v = headV z := by
  obtain ⟨cs, rfl⟩ : ∃ cs, v = .agg cs := by
    simp only [Value.okWide, Try.underlying25] at hv
    obtain ⟨cs, h1, _⟩ := hv
    exact ⟨cs, h1⟩
  obtain ⟨fuel, hf⟩ := h
  obtain ⟨z, iz, hz⟩ := open_head_cells hf
  refine ⟨z, iz, ?_⟩
  unfold headV
  rw [← hz]
  rfl
end Go.Proofs.Ytdnhnjimhbbabaa

/- What HeadTurned says of any input, over what the calls of package head answer. -/
namespace Go.Proofs.Ytdnhnjimhbbabaa
open Go.RowKit Sums Nums
set_option linter.unusedVariables false
set_option linter.unusedSimpArgs false
set_option maxRecDepth 100000
/-- A row stored in the midst of a variable. -/
theorem wpList_set_mid {P : Program} {ops : Array Oper} {rest : List Oper} {o : Oper} {a : Act} {w : World} {Q : Exit → Act → World → Prop} (hgd : o.guard = none) (ty : TypeId) (x y : Operand) (ho : o.op = .store ty x y)
    (g k : Nat) (D : Array Value) (hx : a.eval x = .pointer (some ⟨g, k, none⟩)) (hy : a.eval y = .agg D) (t' : TypeId) (Z : Array Value) (hg : w.heap[g]? = some (.cells Z t' (0, 0))) (hk : k + D.size ≤ Z.size) (hi : (P.info? ty).map (·.size) = some D.size) (h1 : D.all (·.oneCell') = true)
    (h : ∀ w', Hid (Wrote g (Z.toList.take k ++ D.toList ++ Z.toList.drop (k + D.size)).toArray t' w w') → wpList P ops Q rest (a.put o.dst undef) w') : wpList P ops Q (o :: rest) a w := by
  refine wpList_plain hgd fun K hK => ?_
  have hkk := hK _ _ (h _ (wrote_row hg))
  have h1' : ∀ v ∈ D.toList, v.oneCell' = true := by
    intro v hv
    rw [Array.all_eq_true'] at h1
    exact h1 v (by simpa using hv)
  have hst := run_storeCells_at P g k t' D.toList 0 Z w hg (by simpa using hk) h1'
  cases hq : P.info? ty with
  | none => simp [hq] at hi
  | some i =>
    have hs : i.size = D.size := by simpa [hq] using hi
    unfold Oper.wp execOp
    simp only [ho, hx, hy, Instr.storeAt, Instr.sureAddr, Sem.run_bind, Sem.run_pure, Result.andThen_ok]
    simp only [Nat.add_zero, Nat.zero_add] at hst
    simp [storeVar, sizeOf, typeInfo, hq, Value.cells, hs, hst]
    simp only [List.append_assoc] at hkk ⊢
    exact hkk
end Go.Proofs.Ytdnhnjimhbbabaa

/- What a reader's own calls answer: what is left of a row, field by field. -/
namespace Go.Proofs.Ytdnhnjimhbbabaa
open Go.RowKit Sums Nums
set_option linter.unusedVariables false
set_option linter.unusedSimpArgs false
set_option maxRecDepth 100000
theorem grownBy_set0 (W : World) (b : Nat) (v : Value) : W.grownBy (W.setCell ⟨b, 0, none⟩ v) (some b) :=
  ⟨rfl, rfl, rfl, by simp [World.setCell], fun k _ hk => Below.heap_setCell W ⟨b, 0, none⟩ v k (fun e => hk (by rw [e]))⟩
/-- The fields that are left of a row, by a reader's variable g; they lie in a block from lo on, below g. -/
def Rd (W : World) (lo g : Nat) (fs : List (Int × ByteArray)) : Prop :=
  ∃ a cap, W.heap[g]? = some (.cells #[.slice a fs.length cap] 44 (0, 0)) ∧ lo ≤ g ∧ fs.length ≤ cap ∧ cap ≤ 9223372036854775807 ∧ (∀ f ∈ fs, f.2.size ≤ maxLen) ∧
    (fs = [] ∨ ∃ b off, a = some ⟨b, off, none⟩ ∧ lo ≤ b ∧ b < g ∧ ∀ (i : Nat) (h : i < fs.length), W.cell? ⟨b, off + i * 2, none⟩ = some (.int .i64 fs[i].1) ∧ W.cell? ⟨b, off + i * 2 + 1, none⟩ = some (.string fs[i].2))
theorem Rd.keep {W W' : World} {lo g : Nat} {fs : List (Int × ByteArray)} (h : Rd W lo g fs) (hb : ∀ k, lo ≤ k → k ≤ g → W'.heap[k]? = W.heap[k]?) : Rd W' lo g fs := by
  obtain ⟨a, cap, h1, h2, h3, h4, h5, h6⟩ := h
  refine ⟨a, cap, (hb g h2 (Nat.le_refl _)).trans h1, h2, h3, h4, h5, ?_⟩
  rcases h6 with h6 | ⟨b, off, e, hl, hg, hc⟩
  · exact .inl h6
  · have hk := hb b hl (by omega)
    exact .inr ⟨b, off, e, hl, hg, fun i hi => ⟨(World.cell?_of_block (a := ⟨b, off + i * 2, none⟩) hk).trans (hc i hi).1, (World.cell?_of_block (a := ⟨b, off + i * 2 + 1, none⟩) hk).trans (hc i hi).2⟩⟩
theorem Rd.lt {W : World} {lo g : Nat} {fs : List (Int × ByteArray)} (h : Rd W lo g fs) : g < W.heap.size := by
  obtain ⟨a, cap, h1, _⟩ := h
  exact heap_lt h1
theorem Rd.below {W W' : World} {lo g : Nat} {fs : List (Int × ByteArray)} (h : Rd W lo g fs) (hb : Below W.heap.size W W') : Rd W' lo g fs :=
  h.keep fun k _ hk => hb.block k (Nat.lt_of_le_of_lt hk h.lt)
theorem Rd.wrote {W W' : World} {lo g k : Nat} {D : Array Value} {t : TypeId} {fs : List (Int × ByteArray)} (h : Rd W lo g fs) (hw : Wrote k D t W W') (hk : k < lo ∨ g < k) : Rd W' lo g fs :=
  h.keep fun i hi hg => hw.other i (by omega)
def tkD (tag : Int) (fs : List (Int × ByteArray)) : ByteArray := match fs with
  | f :: _ => if f.1 = tag then f.2 else ⟨#[]⟩
  | [] => ⟨#[]⟩
def tkB (tag : Int) (fs : List (Int × ByteArray)) : Bool := match fs with
  | f :: _ => decide (f.1 = tag)
  | [] => false
def tkR (tag : Int) (fs : List (Int × ByteArray)) : List (Int × ByteArray) := match fs with
  | f :: r => if f.1 = tag then r else f :: r
  | [] => []
theorem ended_any (W : World) (lo g : Nat) (fs : List (Int × ByteArray)) (h : Rd W lo g fs) (x : Bool) (hx : x = decide (fs.length = 0)) :
    Calls Try.prog 21 #[.pointer (some ⟨g, 0, none⟩)] W fun e w' => e = .returned (.bool x) ∧ w' = W := by
  obtain ⟨a, cap, h1, h2, h3, h4, h5, h6⟩ := h
  have hc : W.cell? ⟨g, 0, none⟩ = some (.slice a fs.length cap) := by rw [cell_of_row W g 0 _ _ (0, 0) h1]; rfl
  have hm : fs.length ≤ 9223372036854775807 := by omega
  subst hx
  cases fs with
  | nil =>
    clear h1 h2 h3 h5 h6
    simp only [List.length_nil] at hc
    go_enter Try.func21, Try.ntmps21
    go_wp2
    go_ret
    exact ⟨rfl, rfl⟩
  | cons f r =>
    clear h1 h2 h3 h5 h6
    simp only [List.length_cons] at hc hm
    go_enter Try.func21, Try.ntmps21
    go_wp2
    go_ret
    exact ⟨by simp; omega, rfl⟩
set_option maxHeartbeats 2000000 in
theorem data_any (W : World) (lo g : Nat) (fs : List (Int × ByteArray)) (tag : Int) (h : Rd W lo g fs) :
    Calls Try.prog 30 #[.pointer (some ⟨g, 0, none⟩), .int .i64 tag] W fun e w' => e = .returned (.tuple #[.string (tkD tag fs), .bool (tkB tag fs)]) ∧ W.grownBy w' (some g) ∧ Rd w' lo g (tkR tag fs) := by
  obtain ⟨x, hx⟩ : ∃ x, x = decide (fs.length = 0) := ⟨_, rfl⟩
  have E1 : Hid (Calls Try.prog 21 #[.pointer (some ⟨g, 0, none⟩)] W fun e w' => e = .returned (.bool x) ∧ w' = W) := ended_any W lo g fs h x hx
  have HR := hidk h
  obtain ⟨a, cap, h1, h2, h3, h4, h5, h6⟩ := h
  have hc : W.cell? ⟨g, 0, none⟩ = some (.slice a fs.length cap) := by rw [cell_of_row W g 0 _ _ (0, 0) h1]; rfl
  have hm : fs.length ≤ 9223372036854775807 := by omega
  cases fs with
  | nil =>
    obtain rfl : x = true := by rw [hx]; rfl
    clear h1 h2 h3 h5 h6 hx hc hm
    go_enter Try.func30, Try.ntmps30
    go_wp2_with fail
    refine E1.out.mono ?_
    rintro e w1 ⟨rfl, rfl⟩
    go_wp2
    go_ret2
    exact ⟨rfl, World.grownBy.refl _ _, HR.out⟩
  | cons f r =>
    obtain rfl : x = false := by rw [hx]; simp
    rcases h6 with h6 | ⟨b, off, rfl, hl, hg, hcs⟩
    · cases h6
    have c0 := (hcs 0 (by simp)).1
    have c1 := (hcs 0 (by simp)).2
    simp only [Nat.zero_mul, Nat.add_zero, List.getElem_cons_zero] at c0 c1
    simp only [List.length_cons] at hc hm h3
    have hfz : W.frozen? ⟨g, 0, none⟩ = false := frozen_of_row W g 0 _ _ h1
    by_cases ht : f.1 = tag
    · have HE : Hid (tkD tag (f :: r) = f.2 ∧ tkB tag (f :: r) = true ∧ tkR tag (f :: r) = r) := ⟨if_pos ht, by show decide _ = true; simpa using ht, if_pos ht⟩
      rw [HE.out.1, HE.out.2.1, HE.out.2.2]
      obtain ⟨d, hd⟩ : ∃ d, d = f.2 := ⟨_, rfl⟩
      rw [ht] at c0
      rw [← hd] at c1 ⊢
      clear HE ht hd
      by_cases hcap : cap = 1
      · obtain rfl : r = [] := List.eq_nil_of_length_eq_zero (by omega)
        subst hcap
        have HG := hidk (grownBy_set0 W g (.slice (some ⟨b, off, none⟩) 0 0))
        have HN : Hid (Rd (W.setCell ⟨g, 0, none⟩ (.slice (some ⟨b, off, none⟩) 0 0)) lo g []) :=
          ⟨some ⟨b, off, none⟩, 0, Go.heap_setCell_same W g 0 _ _ _ h1, h2, Nat.le_refl _, by omega, fun y hy => by simp at hy, .inl rfl⟩
        simp only [List.length_nil, Nat.zero_add] at hc
        clear h1 h2 h5 hx HR hcs h3 hm
        go_enter Try.func30, Try.ntmps30
        go_wp2_with fail
        refine E1.out.mono ?_
        rintro e w1 ⟨rfl, rfl⟩
        go_wp2
        go_ret2
        exact ⟨rfl, HG.out, HN.out⟩
      · have HG := hidk (grownBy_set0 W g (.slice (some ⟨b, off + 2, none⟩) r.length (cap - 1)))
        have HN : Hid (Rd (W.setCell ⟨g, 0, none⟩ (.slice (some ⟨b, off + 2, none⟩) r.length (cap - 1))) lo g r) := by
          refine ⟨some ⟨b, off + 2, none⟩, cap - 1, ?_, h2, by omega, by omega, fun y hy => h5 y (List.mem_cons_of_mem _ hy), .inr ⟨b, off + 2, rfl, hl, hg, fun i hi => ?_⟩⟩
          · exact Go.heap_setCell_same W g 0 _ _ _ h1
          · have hk := Below.heap_setCell W ⟨g, 0, none⟩ (.slice (some ⟨b, off + 2, none⟩) r.length (cap - 1)) b (by show b ≠ g; omega)
            have hh := hcs (i + 1) (by simpa using hi)
            rw [show off + (i + 1) * 2 = off + 2 + i * 2 by omega] at hh
            exact ⟨(World.cell?_of_block (a := ⟨b, off + 2 + i * 2, none⟩) hk).trans hh.1, (World.cell?_of_block (a := ⟨b, off + 2 + i * 2 + 1, none⟩) hk).trans hh.2⟩
        have hcap' : ¬ cap - 1 = 0 := by omega
        clear h1 h2 h5 hx HR hcs
        go_enter Try.func30, Try.ntmps30
        go_wp2_with fail
        refine E1.out.mono ?_
        rintro e w1 ⟨rfl, rfl⟩
        go_wp2
        go_ret2
        exact ⟨rfl, HG.out, HN.out⟩
    · have HE : Hid (tkD tag (f :: r) = ⟨#[]⟩ ∧ tkB tag (f :: r) = false ∧ tkR tag (f :: r) = f :: r) := ⟨if_neg ht, by show decide _ = false; simpa using ht, if_neg ht⟩
      rw [HE.out.1, HE.out.2.1, HE.out.2.2]
      obtain ⟨t, hd⟩ : ∃ d, d = f.1 := ⟨_, rfl⟩
      rw [← hd] at c0 ht
      clear h1 h2 h5 hx hcs HE hd c1
      go_enter Try.func30, Try.ntmps30
      go_wp2_with fail
      refine E1.out.mono ?_
      rintro e w1 ⟨rfl, rfl⟩
      go_wp2
      go_ret2
      exact ⟨rfl, World.grownBy.refl _ _, HR.out⟩
end Go.Proofs.Ytdnhnjimhbbabaa

/- What the small calls of package head answer: within, Check, mayBe, numberField, digestField. -/
namespace Go.Proofs.Ytdnhnjimhbbabaa
open Go.RowKit Sums Nums
set_option linter.unusedVariables false
set_option linter.unusedSimpArgs false
set_option maxRecDepth 100000
theorem hWithin_any (n a b : Int) (w : World) : Calls Try.prog 14 #[.int .i64 n, .int .i64 a, .int .i64 b] w fun e w' => e = .returned (.bool (decide (a ≤ n) && decide (n ≤ b))) ∧ w' = w := by
  by_cases h1 : a ≤ n
  · have d1 : decide (a ≤ n) = true := by rw [decide_eq_true_eq]; exact h1
    obtain ⟨x, hx⟩ : ∃ x, decide (n ≤ b) = x := ⟨_, rfl⟩
    rw [d1, hx]
    clear h1
    go_enter Try.func14, Try.ntmps14
    go_wp2
    go_ret
    exact ⟨rfl, rfl⟩
  · have d1 : decide (a ≤ n) = false := by rw [decide_eq_false_iff_not]; exact h1
    rw [d1]
    clear h1
    go_enter Try.func14, Try.ntmps14
    go_wp2
    go_ret
    exact ⟨rfl, rfl⟩
set_option maxHeartbeats 2000000 in
theorem hCheck_any (h : HdT) (hd : h.d.length = 32) (w : World) (C : Array Value) (HC : Hid (C = (hcells h).toArray)) :
    Calls Try.prog 6 #[.agg C] w fun e w' => e = .returned (.int .i64 (putE h)) ∧ Below w.heap.size w w' := by
  have HR := hrow_new w h hd C HC 25
  have HB : Hid (Below w.heap.size w (w.alloc (.cells C 25))) := (Below.refl _ _).alloc (Nat.le_refl _) _
  have c0 := HR.r
  have c1 := HR.e
  have c2 := HR.s
  have c4 := HR.t
  simp only [Nat.zero_add] at c1 c2 c4
  have hnot : ∀ (x : Bool) (w : World), (Op.unary .not (.bool x)).run Try.prog w = .ok (.bool (!x)) w := fun _ _ => rfl
  have WI : Hid (∀ (n a b : Int) (W : World), Calls Try.prog 14 #[.int .i64 n, .int .i64 a, .int .i64 b] W fun e w' => e = .returned (.bool (decide (a ≤ n) && decide (n ≤ b))) ∧ w' = W) := hWithin_any
  obtain ⟨b1, hb1⟩ : ∃ b, (decide (1 ≤ h.r) && decide (h.r ≤ 5)) = b := ⟨_, rfl⟩
  obtain ⟨b2, hb2⟩ : ∃ b, (decide (1 ≤ h.e) && decide (h.e ≤ 900000000)) = b := ⟨_, rfl⟩
  obtain ⟨b3, hb3⟩ : ∃ b, (decide (0 ≤ h.s) && decide (h.s ≤ 100000)) = b := ⟨_, rfl⟩
  obtain ⟨b4, hb4⟩ : ∃ b, (decide (0 ≤ h.t) && decide (h.t ≤ 900000000)) = b := ⟨_, rfl⟩
  have W1 := hidk (WI.out h.r 1 5)
  have W2 := hidk (WI.out h.e 1 900000000)
  have W3 := hidk (WI.out h.s 0 100000)
  have W4 := hidk (WI.out h.t 0 900000000)
  rw [hb1] at W1
  rw [hb2] at W2
  rw [hb3] at W3
  rw [hb4] at W4
  have hE : putE h = if (b1 && (b2 && (b3 && b4))) = true then 0 else 70 := by
    rw [← hb1, ← hb2, ← hb3, ← hb4]
    unfold putE rightH
    simp only [Bool.and_assoc]
  rw [hE]
  obtain ⟨r, hr⟩ : ∃ r, r = h.r := ⟨_, rfl⟩
  obtain ⟨e, he⟩ : ∃ r, r = h.e := ⟨_, rfl⟩
  obtain ⟨s, hs⟩ : ∃ r, r = h.s := ⟨_, rfl⟩
  obtain ⟨t, ht⟩ : ∃ r, r = h.t := ⟨_, rfl⟩
  rw [← hr] at c0 W1
  rw [← he] at c1 W2
  rw [← hs] at c2 W3
  rw [← ht] at c4 W4
  clear hE hb1 hb2 hb3 hb4 WI HR hr he hs ht HC
  cases b1
  · go_enter Try.func6, Try.ntmps6
    go_wp2_with fail
    refine (W1.out _).mono ?_
    rintro e w1 ⟨rfl, rfl⟩
    go_wp2
    go_ret
    exact ⟨rfl, HB.out⟩
  cases b2
  · go_enter Try.func6, Try.ntmps6
    go_wp2_with fail
    refine (W1.out _).mono ?_
    rintro e w1 ⟨rfl, rfl⟩
    go_wp2_with fail
    refine (W2.out _).mono ?_
    rintro e w1 ⟨rfl, rfl⟩
    go_wp2
    go_ret
    exact ⟨rfl, HB.out⟩
  cases b3
  · go_enter Try.func6, Try.ntmps6
    go_wp2_with fail
    refine (W1.out _).mono ?_
    rintro e w1 ⟨rfl, rfl⟩
    go_wp2_with fail
    refine (W2.out _).mono ?_
    rintro e w1 ⟨rfl, rfl⟩
    go_wp2_with fail
    refine (W3.out _).mono ?_
    rintro e w1 ⟨rfl, rfl⟩
    go_wp2
    go_ret
    exact ⟨rfl, HB.out⟩
  cases b4
  · go_enter Try.func6, Try.ntmps6
    go_wp2_with fail
    refine (W1.out _).mono ?_
    rintro e w1 ⟨rfl, rfl⟩
    go_wp2_with fail
    refine (W2.out _).mono ?_
    rintro e w1 ⟨rfl, rfl⟩
    go_wp2_with fail
    refine (W3.out _).mono ?_
    rintro e w1 ⟨rfl, rfl⟩
    go_wp2_with fail
    refine (W4.out _).mono ?_
    rintro e w1 ⟨rfl, rfl⟩
    go_wp2
    go_ret
    exact ⟨rfl, HB.out⟩
  · go_enter Try.func6, Try.ntmps6
    go_wp2_with fail
    refine (W1.out _).mono ?_
    rintro e w1 ⟨rfl, rfl⟩
    go_wp2_with fail
    refine (W2.out _).mono ?_
    rintro e w1 ⟨rfl, rfl⟩
    go_wp2_with fail
    refine (W3.out _).mono ?_
    rintro e w1 ⟨rfl, rfl⟩
    go_wp2_with fail
    refine (W4.out _).mono ?_
    rintro e w1 ⟨rfl, rfl⟩
    go_wp2
    go_ret
    exact ⟨rfl, HB.out⟩
theorem putE_ok (h : HdT) : putE h = 0 ∧ rightH h = true ∨ putE h = 70 ∧ rightH h = false := by
  unfold putE
  cases rightH h
  · exact .inr ⟨rfl, rfl⟩
  · exact .inl ⟨rfl, rfl⟩
set_option maxHeartbeats 2000000 in
theorem hNum_any (t n : Int) (w : World) : Calls Try.prog 10 #[.int .i64 t, .int .i64 n] w fun e w' => e = .returned (.agg #[.int .i64 t, .string (nOf n)]) ∧ Below w.heap.size w w' := by
  obtain ⟨x, Hx⟩ : ∃ x : ByteArray, Hid (x = nOf n) := ⟨nOf n, hidk rfl⟩
  obtain ⟨E, HE⟩ : ∃ E, Hid (E = neOf n) := ⟨_, hidk rfl⟩
  have N1 : Hid (∀ W, Calls Try.prog 24 #[.int .i64 n] W fun e w' => e = .returned (.tuple #[.string x, .int .i64 E]) ∧ Below W.heap.size W w') := fun W => by rw [Hx.out, HE.out]; exact number_any n W
  rw [← Hx.out]
  clear Hx HE
  go_enter Try.func10, Try.ntmps10
  go_wp2_with fail
  refine (N1.out _).mono ?_
  rintro e w1 ⟨rfl, hb1⟩
  have hlt : w.heap.size < w1.heap.size := by have := hb1.size; simp at this; omega
  have hg : w1.heap[w.heap.size]? = some (.cells #[.int .i64 0, .string ⟨#[]⟩] 37 (0, 0)) := (hb1.block _ (by simp)).trans (heap_alloc_new w _)
  have c0 : w1.cell? ⟨w.heap.size, 0, none⟩ = some (.int .i64 0) := by rw [cell_of_row w1 _ 0 _ 37 (0, 0) hg]; rfl
  have c1 : w1.cell? ⟨w.heap.size, 1, none⟩ = some (.string ⟨#[]⟩) := by rw [cell_of_row w1 _ 1 _ 37 (0, 0) hg]; rfl
  have HB : Hid (Below w.heap.size w w1) := ((Below.refl _ _).alloc (Nat.le_refl _) _).trans (hb1.mono (by simp))
  have f0 : w1.frozen? ⟨w.heap.size, 0, none⟩ = false := frozen_of_row w1 _ 0 _ _ hg
  have f1 : w1.frozen? ⟨w.heap.size, 1, none⟩ = false := frozen_of_row w1 _ 1 _ _ hg
  clear hb1
  have HG2 := hidk (Go.heap_setCell_same _ _ 1 _ _ (.string x) (Go.heap_setCell_same w1 _ 0 _ _ (.int .i64 t) hg))
  clear hg
  go_wp2
  refine bodyPost_ret (v := .agg #[.int .i64 t, .string x]) ?_ rfl ⟨rfl, (HB.out.setCell (Nat.le_refl _) _).setCell (Nat.le_refl _) _⟩
  exact results_cell_row (p := 4) (ty := 37) rfl _ _ w.heap.size 37 #[.int .i64 t, .string x] (0, 0) _ rfl HG2.out Try.underlying37 rfl (by kernel_rfl)
set_option maxHeartbeats 2000000 in
theorem hDig_any (t : Int) (d : List UInt8) (hd : d.length = 32) (w : World) (D : Array Value) (HD : Hid (D = (cellsOf d).toArray)) : Calls Try.prog 11 #[.int .i64 t, .agg D] w fun e w' => e = .returned (.agg #[.int .i64 t, .string (bA d)]) ∧ Below w.heap.size w w' := by
  obtain ⟨x, Hx⟩ : ∃ x : ByteArray, Hid (x = bA d) := ⟨bA d, hidk rfl⟩
  have HCV : Hid (∀ (W : World) (g : Nat), W.heap[g]? = some (.cells D 23 (0, 0)) → Sem.run Try.prog (convert 26 9 (.slice (some ⟨g, 0, none⟩) 32 32)) W = .ok (.string x) W) := fun W g h => by
    rw [Hx.out]
    refine conv_at W g 0 d hd fun j v hj => ?_
    rw [Nat.zero_add, cell_of_row W g j _ _ (0, 0) h, HD.out]
    simpa using hj
  have HSL := hidk slice_at
  rw [← Hx.out]
  clear Hx HD
  have hn0 : (w.alloc (.cells D 23)).heap[w.heap.size]? = some (.cells D 23 (0, 0)) := heap_alloc_new w _
  have hcv := HCV.out ((w.alloc (.cells D 23)).alloc (.cells #[.int .i64 0, .string ⟨#[]⟩] 37)) w.heap.size (heap_keep hn0)
  have hsl := HSL.out ((w.alloc (.cells D 23)).alloc (.cells #[.int .i64 0, .string ⟨#[]⟩] 37)) w.heap.size 0
  have hg := heap_alloc_new (w.alloc (.cells D 23)) (.cells #[.int .i64 0, .string ⟨#[]⟩] 37)
  rw [alloc_size] at hg
  have hg2 := heap_alloc_new (w.alloc (.cells D 23)) (.cells #[.int .i64 t, .string x] 37)
  rw [alloc_size] at hg2
  have HG2 := hidk hg2
  have HB : Hid (Below w.heap.size w ((w.alloc (.cells D 23)).alloc (.cells #[.int .i64 t, .string x] 37))) := ((Below.refl _ _).alloc (Nat.le_refl _) _).alloc (by simp) _
  clear HCV HSL hn0 hg hg2
  go_enter Try.func11, Try.ntmps11
  go_wp2
  refine bodyPost_ret (v := .agg #[.int .i64 t, .string x]) ?_ rfl ⟨rfl, HB.out⟩
  exact results_cell_row (p := 4) (ty := 37) rfl _ _ (w.heap.size + 1) 37 #[.int .i64 t, .string x] (0, 0) _ rfl HG2.out Try.underlying37 rfl (by kernel_rfl)
end Go.Proofs.Ytdnhnjimhbbabaa

/- What a reader takes: numbers, digests; what fills a place by it. -/
namespace Go.Proofs.Ytdnhnjimhbbabaa
open Go.RowKit Sums Nums
set_option linter.unusedVariables false
set_option linter.unusedSimpArgs false
set_option maxRecDepth 100000
theorem Rd.small {W : World} {lo g : Nat} {fs : List (Int × ByteArray)} (h : Rd W lo g fs) (tag : Int) : (tkD tag fs).size ≤ maxLen := by
  obtain ⟨a, cap, h1, h2, h3, h4, h5, h6⟩ := h
  cases fs with
  | nil => show (⟨#[]⟩ : ByteArray).size ≤ maxLen; unfold maxLen; decide
  | cons f r =>
    unfold tkD
    split
    · rename_i hh
      split
      · have := List.cons.inj hh
        rw [← this.1]
        exact h5 f (List.mem_cons_self ..)
      · show (⟨#[]⟩ : ByteArray).size ≤ maxLen; unfold maxLen; decide
    · show (⟨#[]⟩ : ByteArray).size ≤ maxLen; unfold maxLen; decide
theorem grown_trans {a b c : World} {r : Option Nat} (h : a.grownBy b r) (k : b.grownBy c r) : a.grownBy c r :=
  ⟨k.os.trans h.os, k.tape.trans h.tape, k.output.trans h.output, Nat.le_trans h.size k.size, fun i hi hr => (k.block i (Nat.lt_of_lt_of_le hi h.size) hr).trans (h.block i hi hr)⟩
theorem grown_below {a b : World} {r : Option Nat} (h : Below a.heap.size a b) : a.grownBy b r := ⟨h.os, h.tape, h.output, h.size, fun k hk _ => h.block k hk⟩
/-- A write above what was there. -/
theorem grown_wrote {a b c : World} {r : Option Nat} {g : Nat} {D : Array Value} {t : TypeId} (h : a.grownBy b r) (hw : Wrote g D t b c) (hg : a.heap.size ≤ g) : a.grownBy c r := by
  have hb : Below a.heap.size b c := hw.below a.heap.size b (Below.refl _ _) hg
  exact ⟨hb.os.trans h.os, hb.tape.trans h.tape, hb.output.trans h.output, Nat.le_trans h.size hb.size, fun i hi hr => (hb.block i hi).trans (h.block i hi hr)⟩
def nV (tag : Int) (fs : List (Int × ByteArray)) : Int := vOf (tkD tag fs).data.toList
def nB (tag : Int) (fs : List (Int × ByteArray)) : Bool := tkB tag fs && isNum (tkD tag fs).data.toList
set_option maxHeartbeats 2000000 in
theorem rnum_any (W : World) (lo g : Nat) (fs : List (Int × ByteArray)) (tag : Int) (h : Rd W lo g fs) :
    Calls Try.prog 18 #[.pointer (some ⟨g, 0, none⟩), .int .i64 tag] W fun e w' => e = .returned (.tuple #[.int .i64 (nV tag fs), .bool (nB tag fs)]) ∧ W.grownBy w' (some g) ∧ Rd w' lo g (tkR tag fs) := by
  have D1 := hidk (data_any W lo g fs tag h)
  have hs := h.small tag
  unfold nV nB
  obtain ⟨d, hd⟩ : ∃ d, d = tkD tag fs := ⟨_, rfl⟩
  obtain ⟨b, hb⟩ : ∃ b, b = tkB tag fs := ⟨_, rfl⟩
  obtain ⟨r, hr⟩ : ∃ r, r = tkR tag fs := ⟨_, rfl⟩
  rw [← hd] at hs ⊢
  rw [← hd, ← hb, ← hr] at D1
  rw [← hb, ← hr]
  obtain ⟨n, hn⟩ : ∃ n, n = vOf d.data.toList := ⟨_, rfl⟩
  obtain ⟨E, hE⟩ : ∃ n, n = eOf d.data.toList := ⟨_, rfl⟩
  have V1 : Hid (∀ W, Calls Try.prog 31 #[.string d] W fun e w' => e = .returned (.tuple #[.int .i64 n, .int .i64 E]) ∧ W = w') := fun W => by rw [hn, hE]; exact value_any d W hs
  rw [← hn]
  have hE2 : (E = 0 ∧ isNum d.data.toList = true) ∨ (E = 11 ∧ isNum d.data.toList = false) := by
    rw [hE]
    cases hq : isNum d.data.toList
    · exact .inr ⟨(v_no hq).2, rfl⟩
    · exact .inl ⟨(v_yes hq).2, rfl⟩
  clear hd hb hr hn hE hs h
  rcases hE2 with ⟨rfl, hq⟩ | ⟨rfl, hq⟩
  all_goals
    rw [hq]
    clear hq
    cases b
    all_goals
      go_enter Try.func18, Try.ntmps18
      go_wp2_with fail
      refine D1.out.mono ?_
      rintro e w1 ⟨rfl, hg1, hr1⟩
      have HG := hidk hg1
      have HR := hidk hr1
      clear hg1 hr1
      go_wp2_with fail
      refine (V1.out _).mono ?_
      rintro e w2 ⟨rfl, rfl⟩
      go_wp2
      go_ret2
      exact ⟨rfl, HG.out, HR.out⟩
/-- A digest's bytes copied out of a text. -/
theorem wpList_copy_text {ops : Array Oper} {rest : List Oper} {o : Oper} {a : Act} {w : World} {Q : Exit → Act → World → Prop} (hgd : o.guard = none) (s x : Operand) (hop : o.op = Op.call { callee := Callee.builtin Builtin.copy, args := #[s, x], argTypes := #[26, 9] })
    (g : Nat) (t : TypeId) (hs : a.eval s = .slice (some ⟨g, 0, none⟩) 32 32) (u : ByteArray) (hx : a.eval x = .string u) (hu : u.size = 32) (Z D : Array Value) (hZ : Z.size = 32) (HD : Hid (D = (cellsOf u.data.toList).toArray)) (hg : w.heap[g]? = some (.cells Z t (0, 0)))
    (h : ∀ w', Hid (Wrote g D t w w') → wpList Try.prog ops Q rest (a.put o.dst (.int .i64 32)) w') : wpList Try.prog ops Q (o :: rest) a w := by
  refine wpList_plain hgd fun K hK => ?_
  have hrun := Lib.run_copy_row_string (P := Try.prog) w 26 9 o.type 5 g 0 32 32 u Z t Try.underlying26 (by kernel_rfl) hg (by omega) (by omega)
  have e : (Z.toList.take 0 ++ Lib.byteCells u.data.toList ++ Z.toList.drop (0 + u.size)).toArray = D := by
    rw [HD.out, List.take_zero, List.nil_append, List.drop_of_length_le (by rw [Array.length_toList]; omega), List.append_nil]
    rfl
  rw [e, hu] at hrun
  unfold Oper.wp
  simp [execOp, hop, resolve, invoke, builtin, hs, hx, hrun, Result.andThen, goInt]
  exact hK _ _ (h _ (wrote_row hg))
def dB (tag : Int) (fs : List (Int × ByteArray)) : Bool := tkB tag fs && decide ((tkD tag fs).size = 32)
def dV (tag : Int) (fs : List (Int × ByteArray)) : List UInt8 := if dB tag fs = true then (tkD tag fs).data.toList else List.replicate 32 0
theorem dV_length (tag : Int) (fs : List (Int × ByteArray)) : (dV tag fs).length = 32 := by
  unfold dV
  split
  · rename_i h
    unfold dB at h
    simp only [Bool.and_eq_true, decide_eq_true_eq] at h
    exact h.2
  · rfl
set_option maxHeartbeats 4000000 in
theorem rdig_any (W : World) (lo g : Nat) (fs : List (Int × ByteArray)) (tag : Int) (h : Rd W lo g fs) (D : Array Value) (HD : Hid (D = (cellsOf (dV tag fs)).toArray)) :
    Calls Try.prog 20 #[.pointer (some ⟨g, 0, none⟩), .int .i64 tag] W fun e w' => e = .returned (.tuple #[.agg D, .bool (dB tag fs)]) ∧ W.grownBy w' (some g) ∧ Rd w' lo g (tkR tag fs) := by
  obtain ⟨Z, HZ, HA, HS, H1, H32⟩ := noughts27
  have HH := hidk h
  have D1 : Hid (∀ V, Rd V lo g fs → Calls Try.prog 30 #[.pointer (some ⟨g, 0, none⟩), .int .i64 tag] V fun e w' => e = .returned (.tuple #[.string (tkD tag fs), .bool (tkB tag fs)]) ∧ V.grownBy w' (some g) ∧ Rd w' lo g (tkR tag fs)) := fun V hV => data_any V lo g fs tag hV
  have hs := h.small tag
  have hlt := h.lt
  have HSD : Hid ((Try.prog.info? 23).map (·.size) = some D.size) := by show _ = _; rw [size23, HD.out]; simp [cellsOf_length, dV_length]
  have H1D : Hid (D.all (·.oneCell') = true) := by show _ = _; rw [HD.out]; exact cellsOf_all _
  have HZD : Hid (Z.size = D.size) := by show _ = _; rw [H32.out, HD.out]; simp [cellsOf_length, dV_length]
  have h32 : Z.size = 32 := H32.out
  have HSZ := HS
  have HDV : dB tag fs = true → Hid (D = (cellsOf (tkD tag fs).data.toList).toArray) := fun hq => by
    show _ = _
    rw [HD.out]; unfold dV; rw [if_pos hq]
  have HDZ : dB tag fs = false → Hid (D = Z) := fun hq => by
    show _ = _
    rw [HD.out, HZ.out]; unfold dV; rw [if_neg (by rw [hq]; simp)]
  have hnot : ∀ (x : Bool) (w : World), (Op.unary .not (.bool x)).run Try.prog w = .ok (.bool (!x)) w := fun _ _ => rfl
  unfold dB at HDV HDZ ⊢
  clear HD HZ
  obtain ⟨d, hd⟩ : ∃ d, d = tkD tag fs := ⟨_, rfl⟩
  obtain ⟨b, hb⟩ : ∃ b, b = tkB tag fs := ⟨_, rfl⟩
  obtain ⟨r, hr⟩ : ∃ r, r = tkR tag fs := ⟨_, rfl⟩
  rw [← hd] at hs
  simp only [← hd, ← hb, ← hr] at D1 HDV HDZ ⊢
  unfold maxLen at hs
  clear hd hb hr h
  cases b
  · obtain rfl := (HDZ rfl).out
    clear HDV HDZ
    go_enter Try.func20, Try.ntmps20
    go_wp2_with (first
      | (show wpList _ _ _ ({ dst := some 4, op := _, type := _, pos := _, after := _, guard := _ } :: _) _ _; refine wpList_new_var rfl 23 rfl D HA.out ?_; intro g4 w1 HM4; try simp only [Act.put, List.setIfInBounds_toArray, List.set_cons_zero, List.set_cons_succ])
      | (show wpList _ _ _ ({ dst := some 6, op := _, type := _, pos := _, after := _, guard := _ } :: _) _ _; refine wpList_new_var rfl 23 rfl D HA.out ?_; intro g6 w2 HM6; try simp only [Act.put, List.setIfInBounds_toArray, List.set_cons_zero, List.set_cons_succ])
      | fail)
    have HB2 : Hid (Below W.heap.size W w2) := HM4.out.below.trans (HM6.out.below.mono HM4.out.below.size)
    refine (D1.out w2 (HH.out.below HB2.out)).mono ?_
    rintro e w3 ⟨rfl, hg3, hr3⟩
    have HG3 := hidk (grown_trans (grown_below HB2.out) hg3)
    have HR3 := hidk hr3
    have h4 : W.heap.size ≤ g4 := Nat.le_of_eq HM4.out.new.symm
    have h6 : g4 < g6 := by have e1 := HM6.out.new; have := heap_lt HM4.out.row; omega
    have HR4 : Hid (w3.heap[g4]? = some (.cells D 23 (0, 0))) := by
      have q : w2.heap[g4]? = some (.cells D 23 (0, 0)) := (HM6.out.below.block _ (heap_lt HM4.out.row)).trans HM4.out.row
      exact (hg3.block _ (heap_lt q) (by intro e; cases e; omega)).trans q
    have HR6 : Hid (w3.heap[g6]? = some (.cells D 23 (0, 0))) := (hg3.block _ (heap_lt HM6.out.row) (by intro e; cases e; omega)).trans HM6.out.row
    clear HM4 HM6 HB2 hg3 hr3 D1 HH
    go_wp2_with (first
      | (show wpList _ _ _ ({ dst := some 22, op := _, type := _, pos := _, after := _, guard := _ } :: _) _ _; refine wpList_load_row rfl 23 (.tmp 6) rfl g6 rfl 23 D (0, 0) _ HR6.out Try.underlying23 rfl HSD.out ?_; try simp only [Act.put, List.setIfInBounds_toArray, List.set_cons_zero, List.set_cons_succ])
      | (refine wpList_set_var rfl 23 (.tmp 4) (.tmp 22) rfl g4 D rfl rfl 23 D HR4.out HSD.out rfl H1D.out ?_; intro w4 HW4; try simp only [Act.put, List.setIfInBounds_toArray, List.set_cons_zero, List.set_cons_succ])
      | fail)
    refine bodyPost_ret (v := .tuple #[.agg D, .bool false]) ?_ rfl ⟨rfl, ?_, HR3.out.wrote HW4.out (.inr (by omega))⟩
    · exact results_row_tmp (p := 4) (q := 5) (ty := 23) rfl _ _ g4 23 D (0, 0) _ rfl HW4.out.row Try.underlying23 rfl HSD.out
    · exact grown_wrote HG3.out HW4.out (by omega)
  · by_cases h2 : d.size = 32
    · have HDD := HDV (by simpa using h2)
      have hd : decide (d.size = 32) = true := by simpa using h2
      rw [hd]
      clear HDV HDZ hd
      go_enter Try.func20, Try.ntmps20
      go_wp2_with (first
        | (show wpList _ _ _ ({ dst := some 4, op := _, type := _, pos := _, after := _, guard := _ } :: _) _ _; refine wpList_new_var rfl 23 rfl Z HA.out ?_; intro g4 w1 HM4; try simp only [Act.put, List.setIfInBounds_toArray, List.set_cons_zero, List.set_cons_succ])
        | (show wpList _ _ _ ({ dst := some 6, op := _, type := _, pos := _, after := _, guard := _ } :: _) _ _; refine wpList_new_var rfl 23 rfl Z HA.out ?_; intro g6 w2 HM6; try simp only [Act.put, List.setIfInBounds_toArray, List.set_cons_zero, List.set_cons_succ])
        | fail)
      have HB2 : Hid (Below W.heap.size W w2) := HM4.out.below.trans (HM6.out.below.mono HM4.out.below.size)
      refine (D1.out w2 (HH.out.below HB2.out)).mono ?_
      rintro e w3 ⟨rfl, hg3, hr3⟩
      have HG3 := hidk (grown_trans (grown_below HB2.out) hg3)
      have HR3 := hidk hr3
      have h4 : W.heap.size ≤ g4 := Nat.le_of_eq HM4.out.new.symm
      have h6 : g4 < g6 := by have e1 := HM6.out.new; have := heap_lt HM4.out.row; omega
      have HR4 : Hid (w3.heap[g4]? = some (.cells Z 23 (0, 0))) := by
        have q : w2.heap[g4]? = some (.cells Z 23 (0, 0)) := (HM6.out.below.block _ (heap_lt HM4.out.row)).trans HM4.out.row
        exact (hg3.block _ (heap_lt q) (by intro e; cases e; omega)).trans q
      have HR6 : Hid (w3.heap[g6]? = some (.cells Z 23 (0, 0))) := (hg3.block _ (heap_lt HM6.out.row) (by intro e; cases e; omega)).trans HM6.out.row
      have hsl := slice_at w3 g6 0
      have hd2 : (d.size : Int) = 32 := by omega
      clear HM4 HM6 HB2 hg3 hr3 D1 HH hs
      go_wp2_with (first
        | (refine wpList_copy_text rfl (.tmp 23) (.tmp 24) rfl g6 23 rfl d rfl h2 Z D h32 HDD HR6.out ?_; intro w4 HW6; try simp only [Act.put, List.setIfInBounds_toArray, List.set_cons_zero, List.set_cons_succ])
        | (show wpList _ _ _ ({ dst := some 26, op := _, type := _, pos := _, after := _, guard := _ } :: _) _ _; refine wpList_load_row rfl 23 (.tmp 6) rfl g6 rfl 23 D (0, 0) _ HW6.out.row Try.underlying23 rfl HSD.out ?_; try simp only [Act.put, List.setIfInBounds_toArray, List.set_cons_zero, List.set_cons_succ])
        | (refine wpList_set_var rfl 23 (.tmp 4) (.tmp 26) rfl g4 D rfl rfl 23 Z ((HW6.out.other _ (by omega)).trans HR4.out) HSD.out HZD.out H1D.out ?_; intro w5 HW4; try simp only [Act.put, List.setIfInBounds_toArray, List.set_cons_zero, List.set_cons_succ])
        | fail)
      refine bodyPost_ret (v := .tuple #[.agg D, .bool true]) ?_ rfl ⟨rfl, ?_, (HR3.out.wrote HW6.out (.inr (by omega))).wrote HW4.out (.inr (by omega))⟩
      · exact results_row_tmp (p := 4) (q := 5) (ty := 23) rfl _ _ g4 23 D (0, 0) _ rfl HW4.out.row Try.underlying23 rfl HSD.out
      · exact grown_wrote (grown_wrote HG3.out HW6.out (by omega)) HW4.out (by omega)
    · have hd : decide (d.size = 32) = false := by simpa using h2
      rw [hd] at HDZ ⊢
      obtain rfl := (HDZ rfl).out
      clear HDV HDZ hd
      have hd2 : ¬ (d.size : Int) = 32 := by omega
      go_enter Try.func20, Try.ntmps20
      go_wp2_with (first
        | (show wpList _ _ _ ({ dst := some 4, op := _, type := _, pos := _, after := _, guard := _ } :: _) _ _; refine wpList_new_var rfl 23 rfl D HA.out ?_; intro g4 w1 HM4; try simp only [Act.put, List.setIfInBounds_toArray, List.set_cons_zero, List.set_cons_succ])
        | (show wpList _ _ _ ({ dst := some 6, op := _, type := _, pos := _, after := _, guard := _ } :: _) _ _; refine wpList_new_var rfl 23 rfl D HA.out ?_; intro g6 w2 HM6; try simp only [Act.put, List.setIfInBounds_toArray, List.set_cons_zero, List.set_cons_succ])
        | fail)
      have HB2 : Hid (Below W.heap.size W w2) := HM4.out.below.trans (HM6.out.below.mono HM4.out.below.size)
      refine (D1.out w2 (HH.out.below HB2.out)).mono ?_
      rintro e w3 ⟨rfl, hg3, hr3⟩
      have HG3 := hidk (grown_trans (grown_below HB2.out) hg3)
      have HR3 := hidk hr3
      have h4 : W.heap.size ≤ g4 := Nat.le_of_eq HM4.out.new.symm
      have h6 : g4 < g6 := by have e1 := HM6.out.new; have := heap_lt HM4.out.row; omega
      have HR4 : Hid (w3.heap[g4]? = some (.cells D 23 (0, 0))) := by
        have q : w2.heap[g4]? = some (.cells D 23 (0, 0)) := (HM6.out.below.block _ (heap_lt HM4.out.row)).trans HM4.out.row
        exact (hg3.block _ (heap_lt q) (by intro e; cases e; omega)).trans q
      have HR6 : Hid (w3.heap[g6]? = some (.cells D 23 (0, 0))) := (hg3.block _ (heap_lt HM6.out.row) (by intro e; cases e; omega)).trans HM6.out.row
      clear HM4 HM6 HB2 hg3 hr3 D1 HH h2
      go_wp2_with (first
        | (show wpList _ _ _ ({ dst := some 22, op := _, type := _, pos := _, after := _, guard := _ } :: _) _ _; refine wpList_load_row rfl 23 (.tmp 6) rfl g6 rfl 23 D (0, 0) _ HR6.out Try.underlying23 rfl HSD.out ?_; try simp only [Act.put, List.setIfInBounds_toArray, List.set_cons_zero, List.set_cons_succ])
        | (refine wpList_set_var rfl 23 (.tmp 4) (.tmp 22) rfl g4 D rfl rfl 23 D HR4.out HSD.out rfl H1D.out ?_; intro w4 HW4; try simp only [Act.put, List.setIfInBounds_toArray, List.set_cons_zero, List.set_cons_succ])
        | fail)
      refine bodyPost_ret (v := .tuple #[.agg D, .bool false]) ?_ rfl ⟨rfl, ?_, HR3.out.wrote HW4.out (.inr (by omega))⟩
      · exact results_row_tmp (p := 4) (q := 5) (ty := 23) rfl _ _ g4 23 D (0, 0) _ rfl HW4.out.row Try.underlying23 rfl HSD.out
      · exact grown_wrote HG3.out HW4.out (by omega)
end Go.Proofs.Ytdnhnjimhbbabaa

/- A place that is filled by a reader's number or digest; a row that is opened. -/
namespace Go.Proofs.Ytdnhnjimhbbabaa
open Go.RowKit Sums Nums
set_option linter.unusedVariables false
set_option linter.unusedSimpArgs false
set_option maxRecDepth 100000
/-- What is left as it was where one variable and a reader were written. -/
structure Went (gh g : Nat) (W W' : World) : Prop where
  below : ∀ B a, Below B a W → B ≤ gh → B ≤ g → Below B a W'
  other : ∀ k, k < W.heap.size → k ≠ gh → k ≠ g → W'.heap[k]? = W.heap[k]?
theorem went_of {gh g : Nat} {W W1 W' : World} {D : Array Value} {t : TypeId} (h : W.grownBy W1 (some g)) (hw : Wrote gh D t W1 W') (hg : g < W.heap.size) : Went gh g W W' :=
  ⟨fun B a hb h1 h2 => hw.below B a (hb.grown h (by omega) (by intro k hk; cases hk; exact h2)) h1,
   fun k hk h1 h2 => (hw.other k h1).trans (h.block k hk (by intro e; cases e; exact h2 rfl))⟩
/-- A number stored in a place of a variable. -/
theorem wpList_put64 {P : Program} {ops : Array Oper} {rest : List Oper} {o : Oper} {a : Act} {w : World} {Q : Exit → Act → World → Prop} (hgd : o.guard = none) (t : TypeId) (x y : Operand) (ho : o.op = .store t x y) (hs : ∀ w, (sizeOf t).run P w = .ok 1 w)
    (g i : Nat) (n : Int) (hx : a.eval x = .pointer (some ⟨g, i, none⟩)) (hy : a.eval y = .int .i64 n) (cs : Array Value) (t' : TypeId) (hg : w.heap[g]? = some (.cells cs t' (0, 0))) (hi : i < cs.size)
    (h : ∀ w', Hid (Wrote g (cs.setIfInBounds i (.int .i64 n)) t' w w') → wpList P ops Q rest (a.put o.dst undef) w') : wpList P ops Q (o :: rest) a w := by
  refine wpList_plain hgd fun K hK => ?_
  have hc : w.cell? ⟨g, i, none⟩ = some cs[i] := by rw [cell_of_row w g i cs t' (0, 0) hg, Array.getElem?_eq_getElem hi]
  have hf : w.frozen? ⟨g, i, none⟩ = false := frozen_of_row w g i cs t' hg
  have hrun : (Instr.storeAt t (.pointer (some ⟨g, i, none⟩)) (.int .i64 n)).run P w = .ok () (w.setCell ⟨g, i, none⟩ (.int .i64 n)) := by
    simp [go_sem, hc, hf, hs]
  unfold Oper.wp execOp
  simp only [ho, hx, hy, hrun, Sem.run_bind, Result.andThen_ok]
  exact hK _ _ (h _ (wrote_cell _ hg))
theorem sizeOf3 (w : World) : (sizeOf 3).run Try.prog w = .ok 1 w := by
  have h : (Try.prog.info? 3).map (·.size) = some 1 := by kernel_rfl
  cases hq : Try.prog.info? 3 with
  | none => rw [hq] at h; cases h
  | some i =>
    rw [hq] at h
    simp only [Option.map_some, Option.some.injEq] at h
    simp [sizeOf, typeInfo, hq, h]
set_option maxHeartbeats 2000000 in
theorem into_int (W : World) (lo g gh off : Nat) (fs : List (Int × ByteArray)) (tag : Int) (h : Rd W lo g fs) (C C' : Array Value) (t : TypeId) (hC : W.heap[gh]? = some (.cells C t (0, 0))) (ho : off < C.size) (hl : gh < lo) (HC' : Hid (C' = C.setIfInBounds off (.int .i64 (nV tag fs)))) :
    Calls Try.prog 17 #[.pointer (some ⟨gh, off, none⟩), .int .i64 tag, .func (.func 18) #[.pointer (some ⟨g, 0, none⟩)] #[]] W fun e w' =>
      e = .returned (.bool (nB tag fs)) ∧ w'.heap[gh]? = some (.cells C' t (0, 0)) ∧ Rd w' lo g (tkR tag fs) ∧ Went gh g W w' := by
  have N1 := hidk (rnum_any W lo g fs tag h)
  have hlt := h.lt
  have hgg : gh ≠ g := by obtain ⟨_, _, _, q, _⟩ := h; omega
  rw [HC'.out]
  have HC := hidk hC
  obtain ⟨n, hn⟩ : ∃ n, n = nV tag fs := ⟨_, rfl⟩
  obtain ⟨b, hb⟩ : ∃ n, n = nB tag fs := ⟨_, rfl⟩
  rw [← hn, ← hb] at N1
  rw [← hn, ← hb]
  clear HC' hn hb h hC
  go_enter Try.func17, Try.ntmps17
  go_wp2_with fail
  refine N1.out.mono ?_
  rintro e w1 ⟨rfl, hg1, hr1⟩
  have HG := hidk hg1
  have HR := hidk hr1
  have HC1 := hidk ((hg1.block _ (heap_lt HC.out) (by intro e; cases e; exact hgg rfl)).trans HC.out)
  clear hg1 hr1 HC
  go_wp2_with (first
    | (refine wpList_put64 rfl 3 (.tmp 17) (.tmp 16) rfl sizeOf3 gh off n rfl rfl C t HC1.out ho ?_; intro w2 HW; try simp only [Act.put, List.setIfInBounds_toArray, List.set_cons_zero, List.set_cons_succ])
    | fail)
  go_ret
  exact ⟨rfl, HW.out.row, HR.out.wrote HW.out (.inl hl), went_of HG.out HW.out hlt⟩
set_option maxHeartbeats 2000000 in
theorem into_dig (W : World) (lo g gh off : Nat) (fs : List (Int × ByteArray)) (tag : Int) (h : Rd W lo g fs) (C C' D : Array Value) (t : TypeId) (hC : W.heap[gh]? = some (.cells C t (0, 0))) (ho : off + 32 ≤ C.size) (hl : gh < lo) (HD : Hid (D = (cellsOf (dV tag fs)).toArray)) (HC' : Hid (C' = (C.toList.take off ++ D.toList ++ C.toList.drop (off + 32)).toArray)) :
    Calls Try.prog 19 #[.pointer (some ⟨gh, off, none⟩), .int .i64 tag, .func (.func 20) #[.pointer (some ⟨g, 0, none⟩)] #[]] W fun e w' =>
      e = .returned (.bool (dB tag fs)) ∧ w'.heap[gh]? = some (.cells C' t (0, 0)) ∧ Rd w' lo g (tkR tag fs) ∧ Went gh g W w' := by
  obtain ⟨Z, HZ, HA, HS, H1, H32⟩ := noughts27
  have N1 := hidk (rdig_any W lo g fs tag h D HD)
  have hlt := h.lt
  have HSD : Hid ((Try.prog.info? 23).map (·.size) = some D.size) := by show _ = _; rw [size23, HD.out]; simp [cellsOf_length, dV_length]
  have H1D : Hid (D.all (·.oneCell') = true) := by show _ = _; rw [HD.out]; exact cellsOf_all _
  have HZD : Hid (Z.size = D.size) := by show _ = _; rw [H32.out, HD.out]; simp [cellsOf_length, dV_length]
  have HD32 : Hid (D.size = 32) := by show _ = _; rw [HD.out]; simp [cellsOf_length, dV_length]
  have hgg : gh ≠ g := by obtain ⟨_, _, _, q, _⟩ := h; omega
  have HCC : Hid (C' = (C.toList.take off ++ D.toList ++ C.toList.drop (off + D.size)).toArray) := by show _ = _; rw [HD32.out, HC'.out]
  have HOO : Hid (off + D.size ≤ C.size) := by show _ ≤ _; rw [HD32.out]; exact ho
  have HC := hidk hC
  obtain ⟨b, hb⟩ : ∃ n, n = dB tag fs := ⟨_, rfl⟩
  rw [← hb] at N1
  rw [← hb]
  clear HC' hb hC HD HD32 HZ ho
  go_enter Try.func19, Try.ntmps19
  go_wp2_with fail
  refine N1.out.mono ?_
  rintro e w1 ⟨rfl, hg1, hr1⟩
  have HG := hidk hg1
  have HR := hidk hr1
  have HC1 := hidk ((hg1.block _ (heap_lt HC.out) (by intro e; cases e; exact hgg rfl)).trans HC.out)
  have hs1 := hg1.size
  clear hg1 hr1 h
  go_wp2_with (first
    | (show wpList _ _ _ ({ dst := some 7, op := _, type := _, pos := _, after := _, guard := _ } :: _) _ _; refine wpList_new_var rfl 23 rfl Z HA.out ?_; intro g7 w2 HM7; try simp only [Act.put, List.setIfInBounds_toArray, List.set_cons_zero, List.set_cons_succ])
    | (refine wpList_set_var rfl 23 (.tmp 7) (.tmp 13) rfl g7 D rfl rfl 23 Z HM7.out.row HSD.out HZD.out H1D.out ?_; intro w3 HW7; try simp only [Act.put, List.setIfInBounds_toArray, List.set_cons_zero, List.set_cons_succ])
    | (show wpList _ _ _ ({ dst := some 16, op := _, type := _, pos := _, after := _, guard := _ } :: _) _ _; refine wpList_load_row rfl 23 (.tmp 7) rfl g7 rfl 23 D (0, 0) _ HW7.out.row Try.underlying23 rfl HSD.out ?_; try simp only [Act.put, List.setIfInBounds_toArray, List.set_cons_zero, List.set_cons_succ])
    | (refine wpList_set_mid rfl 23 (.tmp 17) (.tmp 16) rfl gh off D rfl rfl t C ((HW7.out.other _ (by have e1 := HM7.out.new; have := heap_lt HC1.out; omega)).trans ((HM7.out.below.block _ (heap_lt HC1.out)).trans HC1.out)) HOO.out HSD.out H1D.out ?_; intro w4 HW; try simp only [Act.put, List.setIfInBounds_toArray, List.set_cons_zero, List.set_cons_succ])
    | fail)
  have h7 : w1.heap.size ≤ g7 := Nat.le_of_eq HM7.out.new.symm
  have HG2 := hidk (grown_wrote (grown_trans HG.out (grown_below HM7.out.below)) HW7.out (Nat.le_trans HG.out.size h7))
  have hb1 := HR.out.lt
  go_ret
  refine ⟨rfl, ?_, ((HR.out.below HM7.out.below).wrote HW7.out (.inr (by omega))).wrote HW.out (.inl hl), went_of HG2.out HW.out hlt⟩
  rw [HCC.out]
  exact HW.out.row
/-- A row that is opened: its fields lie in a new block. -/
def Lie (W : World) (lo : Nat) (a : Option Addr) (cap : Nat) (fs : List (Int × ByteArray)) : Prop :=
  fs.length ≤ cap ∧ cap ≤ 9223372036854775807 ∧ (∀ f ∈ fs, f.2.size ≤ maxLen) ∧
    (fs = [] ∨ ∃ b off, a = some ⟨b, off, none⟩ ∧ lo ≤ b ∧ b < W.heap.size ∧ ∀ (i : Nat) (h : i < fs.length), W.cell? ⟨b, off + i * 2, none⟩ = some (.int .i64 fs[i].1) ∧ W.cell? ⟨b, off + i * 2 + 1, none⟩ = some (.string fs[i].2))
theorem rd_new {W : World} {lo : Nat} {a : Option Addr} {cap : Nat} {fs : List (Int × ByteArray)} (h : Lie W lo a cap fs) (hl : lo ≤ W.heap.size) : Rd (W.alloc (.cells #[.slice a fs.length cap] 44)) lo W.heap.size fs := by
  obtain ⟨h1, h2, h3, h4⟩ := h
  refine ⟨a, cap, heap_alloc_new W _, hl, h1, h2, h3, ?_⟩
  rcases h4 with h4 | ⟨b, off, e, hlo, hlt, hc⟩
  · exact .inl h4
  · have hk := Below.heap_alloc W (.cells #[.slice a fs.length cap] 44) b hlt
    exact .inr ⟨b, off, e, hlo, hlt, fun i hi => ⟨(World.cell?_of_block (a := ⟨b, off + i * 2, none⟩) hk).trans (hc i hi).1, (World.cell?_of_block (a := ⟨b, off + i * 2 + 1, none⟩) hk).trans (hc i hi).2⟩⟩
theorem lie_own {w : World} {B : Nat} {v : Value} {fs : List (Int × ByteArray)} (h : w.ownsRow B 37 2 v fs.length (fcells fs)) (hm : ∀ f ∈ fs, f.2.size ≤ maxLen) : ∃ a cap, v = .slice a fs.length cap ∧ Lie w B a cap fs := by
  obtain ⟨a, cap, rfl, h1, h2, h3, h4, h5⟩ := freads_own h hm
  refine ⟨a, cap, rfl, h2, h3, hm, ?_⟩
  cases fs with
  | nil => exact .inl rfl
  | cons f r =>
    rcases h5 with ⟨rfl, e⟩ | ⟨ad, rfl, e⟩ | ⟨b, off, rfl, hlt, hc⟩
    · simp at h2; omega
    · simp at e
    · refine .inr ⟨b, off, rfl, ?_, hlt, hc⟩
      rcases h.2 with ⟨e, h0⟩ | ⟨g, cap', cur, e, hb, _⟩
      · simp at h0
      · cases e; exact hb
set_option maxHeartbeats 2000000 in
theorem open_any (a : Option Addr) (len cap : Nat) (bs : List UInt8) (w : World) (hR : Reads w a len cap bs) (hl : len ≤ 1000000) :
    Calls Try.prog 16 #[.slice a len cap] w fun e w' => ∃ x c, e = .returned (.slice x (readF bs).length c) ∧ Lie w' w.heap.size x c (readF bs) ∧ Below w.heap.size w w' := by
  have R1 : Hid (Calls Try.prog 29 #[.slice a len cap] w fun e W' => ∃ x c, e = .returned (.tuple #[.slice x (readF bs).length c, .int .i64 (readE bs)]) ∧ Lie W' w.heap.size x c (readF bs) ∧ Below w.heap.size w W') := by
    refine (read_any a len cap bs w hR hl).mono ?_
    rintro e W' ⟨v, rfl, hown, hb⟩
    obtain ⟨x, c, rfl, hlie⟩ := lie_own hown (readF_small bs)
    exact ⟨x, c, rfl, hlie, hb⟩
  obtain ⟨fs, hfs⟩ : ∃ fs, fs = readF bs := ⟨_, rfl⟩
  obtain ⟨E, hE⟩ : ∃ E : Int, E = readE bs := ⟨_, rfl⟩
  rw [← hfs, ← hE] at R1
  rw [← hfs]
  clear hfs hE hR
  go_enter Try.func16, Try.ntmps16
  go_wp2_with fail
  refine R1.out.mono ?_
  rintro e w1 ⟨x, c, rfl, hl1, hb1⟩
  have HL := hidk hl1
  have HB := hidk hb1
  clear hl1 hb1
  go_wp2
  go_ret
  exact ⟨x, c, rfl, HL.out, HB.out⟩
end Go.Proofs.Ytdnhnjimhbbabaa

/- What head.Get answers. -/
namespace Go.Proofs.Ytdnhnjimhbbabaa
open Go.RowKit Sums Nums
set_option linter.unusedVariables false
set_option linter.unusedSimpArgs false
set_option maxRecDepth 100000
theorem tk_shape {tag : Int} {fs : List (Int × ByteArray)} (h : tkB tag fs = true) : fs = (tag, tkD tag fs) :: tkR tag fs := by
  cases fs with
  | nil => cases h
  | cons f r =>
    have e : f.1 = tag := by simpa [tkB] using h
    have e1 : tkD tag (f :: r) = f.2 := if_pos e
    have e2 : tkR tag (f :: r) = r := if_pos e
    rw [e1, e2, ← e]
theorem tkB_hit (tag : Int) (d : ByteArray) (r : List (Int × ByteArray)) : tkB tag ((tag, d) :: r) = true := by simp [tkB]
theorem tkD_hit (tag : Int) (d : ByteArray) (r : List (Int × ByteArray)) : tkD tag ((tag, d) :: r) = d := if_pos rfl
theorem tkR_hit (tag : Int) (d : ByteArray) (r : List (Int × ByteArray)) : tkR tag ((tag, d) :: r) = r := if_pos rfl
theorem nB_hit (tag : Int) (d : ByteArray) (r : List (Int × ByteArray)) : nB tag ((tag, d) :: r) = isNum d.data.toList := by unfold nB; rw [tkB_hit, tkD_hit, Bool.true_and]
theorem nV_hit (tag : Int) (d : ByteArray) (r : List (Int × ByteArray)) : nV tag ((tag, d) :: r) = vOf d.data.toList := by unfold nV; rw [tkD_hit]
theorem dB_hit (tag : Int) (d : ByteArray) (r : List (Int × ByteArray)) : dB tag ((tag, d) :: r) = decide (d.size = 32) := by unfold dB; rw [tkB_hit, tkD_hit, Bool.true_and]
theorem nB_tk {tag : Int} {fs : List (Int × ByteArray)} (h : nB tag fs = true) : tkB tag fs = true ∧ isNum (tkD tag fs).data.toList = true := by unfold nB at h; simpa using h
theorem dB_tk {tag : Int} {fs : List (Int × ByteArray)} (h : dB tag fs = true) : tkB tag fs = true ∧ (tkD tag fs).size = 32 := by unfold dB at h; simpa using h
theorem nV_val {tag : Int} {fs : List (Int × ByteArray)} (h : nB tag fs = true) : nV tag fs = valO (tkD tag fs).data.toList := by
  unfold nV vOf valO
  rw [if_pos (nB_tk h).2, if_pos (nB_tk h).2]
theorem valO_num {l : List UInt8} (h : 0 ≤ valO l) : isNum l = true := by
  unfold valO at h
  split at h
  · assumption
  · omega
theorem dV_yes {tag : Int} {fs : List (Int × ByteArray)} (h : dB tag fs = true) : dV tag fs = (tkD tag fs).data.toList := if_pos h
theorem readF_none {bs : List UInt8} (h : readE bs ≠ 0) : readF bs = [] := by unfold readF; rw [if_neg h]
theorem partsO_fields {bs : List UInt8} {n : Nat} {l : List ByteArray} (h : partsO bs n = some l) : readE bs = 0 ∧ readF bs = fieldsN l ∧ l.length = n := by
  obtain ⟨h1, _, _⟩ := row_parts h
  unfold partsO at h
  split at h
  · rename_i hh
    have hl : (readF bs).map (·.2) = l := Option.some.inj h
    refine ⟨hh.1, ?_, h1⟩
    unfold fieldsN
    rw [h1, ← hh.2, ← hl, zip_fst_snd]
  · cases h
theorem partsO_of {bs : List UInt8} {l : List ByteArray} (h : readE bs = 0) (hf : readF bs = fieldsN l) : partsO bs l.length = some l := by
  unfold partsO
  rw [hf, if_pos ⟨h, fieldsN_fst l⟩, fieldsN_snd]
/-- What is filled in, one behind the other. -/
def seqH (f0 : List (Int × ByteArray)) : HdT := ⟨nV 1 f0, nV 2 (tkR 1 f0), nV 3 (tkR 2 (tkR 1 f0)), dV 4 (tkR 3 (tkR 2 (tkR 1 f0))), nV 5 (tkR 4 (tkR 3 (tkR 2 (tkR 1 f0))))⟩
def allH (f0 : List (Int × ByteArray)) : Bool := nB 1 f0 && (nB 2 (tkR 1 f0) && (nB 3 (tkR 2 (tkR 1 f0)) && (dB 4 (tkR 3 (tkR 2 (tkR 1 f0))) && (nB 5 (tkR 4 (tkR 3 (tkR 2 (tkR 1 f0)))) && (decide ((tkR 5 (tkR 4 (tkR 3 (tkR 2 (tkR 1 f0))))).length = 0) && rightH (seqH f0))))))
theorem get_seq (bs : List UInt8) : getO bs = if allH (readF bs) = true then some (seqH (readF bs)) else none := by
  by_cases h0 : readE bs = 0
  · by_cases ha : allH (readF bs) = true
    · rw [if_pos ha]
      obtain ⟨f0, hf0⟩ : ∃ f, f = readF bs := ⟨_, rfl⟩
      rw [← hf0] at ha ⊢
      have ha' := ha
      unfold allH at ha
      simp only [Bool.and_eq_true, decide_eq_true_eq] at ha
      obtain ⟨a1, a2, a3, a4, a5, a6, a7⟩ := ha
      have s1 := tk_shape (nB_tk a1).1
      have s2 := tk_shape (nB_tk a2).1
      have s3 := tk_shape (nB_tk a3).1
      have s4 := tk_shape (dB_tk a4).1
      have s5 := tk_shape (nB_tk a5).1
      have s6 := List.eq_nil_of_length_eq_zero a6
      have hh : seqH f0 = headOf (tkD 1 f0) (tkD 2 (tkR 1 f0)) (tkD 3 (tkR 2 (tkR 1 f0))) (tkD 4 (tkR 3 (tkR 2 (tkR 1 f0)))) (tkD 5 (tkR 4 (tkR 3 (tkR 2 (tkR 1 f0))))) := by
        unfold seqH headOf
        rw [nV_val a1, nV_val a2, nV_val a3, nV_val a5, dV_yes a4]
      have hx := (dB_tk a4).2
      obtain ⟨x1, e1⟩ : ∃ x, x = tkD 1 f0 := ⟨_, rfl⟩
      obtain ⟨x2, e2⟩ : ∃ x, x = tkD 2 (tkR 1 f0) := ⟨_, rfl⟩
      obtain ⟨x3, e3⟩ : ∃ x, x = tkD 3 (tkR 2 (tkR 1 f0)) := ⟨_, rfl⟩
      obtain ⟨x4, e4⟩ : ∃ x, x = tkD 4 (tkR 3 (tkR 2 (tkR 1 f0))) := ⟨_, rfl⟩
      obtain ⟨x5, e5⟩ : ∃ x, x = tkD 5 (tkR 4 (tkR 3 (tkR 2 (tkR 1 f0)))) := ⟨_, rfl⟩
      rw [← e1, ← e2, ← e3, ← e4, ← e5] at hh
      rw [← e4] at hx
      have hs : readF bs = fieldsN [x1, x2, x3, x4, x5] := by
        rw [s6, ← e5] at s5
        rw [s5, ← e4] at s4
        rw [s4, ← e3] at s3
        rw [s3, ← e2] at s2
        rw [s2, ← e1] at s1
        rw [← hf0, s1]
        rfl
      have hp : partsO bs 5 = some [x1, x2, x3, x4, x5] := partsO_of h0 hs
      unfold getO
      rw [hp]
      show (if x4.size = 32 ∧ rightH (headOf x1 x2 x3 x4 x5) = true then some (headOf x1 x2 x3 x4 x5) else none) = _
      rw [← hh, if_pos ⟨hx, a7⟩]
    · rw [if_neg ha]
      cases hg : getO bs with
      | none => rfl
      | some h =>
        exfalso
        apply ha
        unfold getO at hg
        split at hg
        · rename_i x1 x2 x3 x4 x5 hp
          split at hg
          · rename_i hh
            have hr := (rightH_iff _).1 hh.2
            have hf := (partsO_fields hp).2.1
            rw [hf]
            unfold headOf at hr
            simp only at hr
            have n1 := valO_num (l := x1.data.toList) (by omega)
            have n2 := valO_num (l := x2.data.toList) (by omega)
            have n3 := valO_num (l := x3.data.toList) (by omega)
            have n5 := valO_num (l := x5.data.toList) (by omega)
            have hq : seqH (fieldsN [x1, x2, x3, x4, x5]) = headOf x1 x2 x3 x4 x5 := by
              show seqH [((1 : Int), x1), (2, x2), (3, x3), (4, x4), (5, x5)] = _
              unfold seqH headOf
              simp only [tkR_hit, nV_hit]
              rw [dV_yes (by rw [dB_hit]; simpa using hh.1), tkD_hit]
              unfold vOf valO
              rw [if_pos n1, if_pos n2, if_pos n3, if_pos n5, if_pos n1, if_pos n2, if_pos n3, if_pos n5]
            show allH [((1 : Int), x1), (2, x2), (3, x3), (4, x4), (5, x5)] = true
            have hq' : seqH [((1 : Int), x1), (2, x2), (3, x3), (4, x4), (5, x5)] = headOf x1 x2 x3 x4 x5 := hq
            unfold allH
            rw [hq']
            simp only [tkR_hit, nB_hit, dB_hit, n1, n2, n3, n5, hh.2, List.length_nil, Bool.true_and, Bool.and_true, decide_true]
            simpa using hh.1
          · cases hg
        · cases hg
  · have hf := readF_none h0
    have hg : getO bs = none := by
      cases hg : partsO bs 5 with
      | none => unfold getO; rw [hg]
      | some l => exact absurd (partsO_fields hg).1 h0
    rw [hg, hf, if_neg]
    intro h
    cases h
/-- What a walk of Get keeps: the answer's variable, the variable that is filled, the reader. -/
structure GtS (w W : World) (g2 g4 g5 lo : Nat) (Z C : Array Value) (T : TypeId) (fs : List (Int × ByteArray)) : Prop where
  below : Below w.heap.size w W
  r2 : W.heap[g2]? = some (.cells Z T (0, 0))
  r4 : W.heap[g4]? = some (.cells C T (0, 0))
  rd : Rd W lo g5 fs
  o2 : w.heap.size ≤ g2
  o4 : g2 < g4
  ol : g4 < lo
  o5 : lo ≤ g5
theorem GtS.went {w W W' : World} {g2 g4 g5 lo : Nat} {Z C C' : Array Value} {T : TypeId} {fs fs' : List (Int × ByteArray)} (h : GtS w W g2 g4 g5 lo Z C T fs) (hr : W'.heap[g4]? = some (.cells C' T (0, 0))) (hd : Rd W' lo g5 fs') (hw : Went g4 g5 W W') : GtS w W' g2 g4 g5 lo Z C' T fs' := by
  have := h.o2
  have := h.o4
  have := h.ol
  have := h.o5
  exact ⟨hw.below _ _ h.below (by omega) (by omega), (hw.other _ (heap_lt h.r2) (by omega) (by omega)).trans h.r2, hr, hd, h.o2, h.o4, h.ol, h.o5⟩
theorem GtS.keep {w W W' : World} {g2 g4 g5 lo : Nat} {Z C : Array Value} {T : TypeId} {fs : List (Int × ByteArray)} (h : GtS w W g2 g4 g5 lo Z C T fs) (hb : Below W.heap.size W W') : GtS w W' g2 g4 g5 lo Z C T fs :=
  ⟨h.below.trans (hb.mono h.below.size), (hb.block _ (heap_lt h.r2)).trans h.r2, (hb.block _ (heap_lt h.r4)).trans h.r4, h.rd.below hb, h.o2, h.o4, h.ol, h.o5⟩
theorem gt_int {w W : World} {g2 g4 g5 lo : Nat} {Z C C' : Array Value} {T : TypeId} {fs fs' : List (Int × ByteArray)} (tag : Int) (off : Nat) (b : Bool) (h : GtS w W g2 g4 g5 lo Z C T fs) (ho : off < C.size) (hC : C' = C.setIfInBounds off (.int .i64 (nV tag fs))) (hb : b = nB tag fs) (hf : fs' = tkR tag fs) :
    Calls Try.prog 17 #[.pointer (some ⟨g4, off, none⟩), .int .i64 tag, .func (.func 18) #[.pointer (some ⟨g5, 0, none⟩)] #[]] W fun e w' => e = .returned (.bool b) ∧ GtS w w' g2 g4 g5 lo Z C' T fs' := by
  subst hb hf
  refine (into_int W lo g5 g4 off fs tag h.rd C C' T h.r4 ho h.ol hC).mono ?_
  rintro e w' ⟨rfl, h1, h2, h3⟩
  exact ⟨rfl, h.went h1 h2 h3⟩
theorem gt_dig {w W : World} {g2 g4 g5 lo : Nat} {Z C C' : Array Value} {T : TypeId} {fs fs' : List (Int × ByteArray)} (tag : Int) (off : Nat) (b : Bool) (h : GtS w W g2 g4 g5 lo Z C T fs) (ho : off + 32 ≤ C.size) (hC : C' = (C.toList.take off ++ cellsOf (dV tag fs) ++ C.toList.drop (off + 32)).toArray) (hb : b = dB tag fs) (hf : fs' = tkR tag fs) :
    Calls Try.prog 19 #[.pointer (some ⟨g4, off, none⟩), .int .i64 tag, .func (.func 20) #[.pointer (some ⟨g5, 0, none⟩)] #[]] W fun e w' => e = .returned (.bool b) ∧ GtS w w' g2 g4 g5 lo Z C' T fs' := by
  subst hb hf
  refine (into_dig W lo g5 g4 off fs tag h.rd C C' (cellsOf (dV tag fs)).toArray T h.r4 ho h.ol (hidk rfl) (by show _ = _; rw [hC])).mono ?_
  rintro e w' ⟨rfl, h1, h2, h3⟩
  exact ⟨rfl, h.went h1 h2 h3⟩
theorem gt_ended {w W : World} {g2 g4 g5 lo : Nat} {Z C : Array Value} {T : TypeId} {fs : List (Int × ByteArray)} (b : Bool) (h : GtS w W g2 g4 g5 lo Z C T fs) (hb : b = decide (fs.length = 0)) :
    Calls Try.prog 21 #[.pointer (some ⟨g5, 0, none⟩)] W fun e w' => e = .returned (.bool b) ∧ GtS w w' g2 g4 g5 lo Z C T fs := by
  refine (ended_any W lo g5 fs h.rd b hb).mono ?_
  rintro e w' ⟨rfl, rfl⟩
  exact ⟨rfl, h⟩
/-! A head's cells, filled in one by one. -/
theorem cells_r (h : HdT) (v : Int) : (hcells h).toArray.setIfInBounds 0 (.int .i64 v) = (hcells ⟨v, h.e, h.s, h.d, h.t⟩).toArray := rfl
theorem cells_e (h : HdT) (v : Int) : (hcells h).toArray.setIfInBounds 1 (.int .i64 v) = (hcells ⟨h.r, v, h.s, h.d, h.t⟩).toArray := rfl
theorem cells_s (h : HdT) (v : Int) : (hcells h).toArray.setIfInBounds 2 (.int .i64 v) = (hcells ⟨h.r, h.e, v, h.d, h.t⟩).toArray := rfl
theorem cells_d (h : HdT) (d : List UInt8) (hd : h.d.length = 32) : ((hcells h).toArray.toList.take 3 ++ cellsOf d ++ (hcells h).toArray.toList.drop (3 + 32)).toArray = (hcells ⟨h.r, h.e, h.s, d, h.t⟩).toArray := by
  unfold hcells
  congr 1
  simp [List.drop_append, cellsOf_length, hd]
theorem cells_t (h : HdT) (v : Int) (hd : h.d.length = 32) : (hcells h).toArray.setIfInBounds 35 (.int .i64 v) = (hcells ⟨h.r, h.e, h.s, h.d, v⟩).toArray := by
  unfold hcells
  rw [List.setIfInBounds_toArray]
  congr 1
  rw [List.set_append_right _ _ (by simp [cellsOf_length, hd])]
  simp [cellsOf_length, hd]
set_option maxHeartbeats 8000000 in
theorem hGet_any (a : Option Addr) (len cap : Nat) (bs : List UInt8) (w : World) (hR : Reads w a len cap bs) (hl : len ≤ 1000000) (R : Array Value) (HR : Hid (R = (hcells (getHO bs)).toArray)) :
    Calls Try.prog 8 #[.slice a len cap] w fun e w' => e = .returned (.tuple #[.agg R, .int .i64 (getHE bs)]) ∧ Below w.heap.size w w' := by
  obtain ⟨Z, HZ, HA, HBZ, H36⟩ := noughtsH
  have HSZ : Hid ((Try.prog.info? 25).map (·.size) = some Z.size) := by show _ = _; rw [sizeH, H36.out]
  have H1Z : Hid (Z.all (·.oneCell') = true) := by show _ = _; rw [HZ.out]; exact one_cells _
  have hnot : ∀ (x : Bool) (w : World), (Op.unary .not (.bool x)).run Try.prog w = .ok (.bool (!x)) w := fun _ _ => rfl
  obtain ⟨f0, hf0⟩ : ∃ f, f = readF bs := ⟨_, rfl⟩
  obtain ⟨f1, hf1⟩ : ∃ f, f = tkR 1 f0 := ⟨_, rfl⟩
  obtain ⟨f2, hf2⟩ : ∃ f, f = tkR 2 f1 := ⟨_, rfl⟩
  obtain ⟨f3, hf3⟩ : ∃ f, f = tkR 3 f2 := ⟨_, rfl⟩
  obtain ⟨f4, hf4⟩ : ∃ f, f = tkR 4 f3 := ⟨_, rfl⟩
  obtain ⟨f5, hf5⟩ : ∃ f, f = tkR 5 f4 := ⟨_, rfl⟩
  obtain ⟨C1, hC1⟩ : ∃ C, C = (hcells ⟨(nV 1 f0), 0, 0, (List.replicate 32 0), 0⟩).toArray := ⟨_, rfl⟩
  obtain ⟨C2, hC2⟩ : ∃ C, C = (hcells ⟨(nV 1 f0), (nV 2 f1), 0, (List.replicate 32 0), 0⟩).toArray := ⟨_, rfl⟩
  obtain ⟨C3, hC3⟩ : ∃ C, C = (hcells ⟨(nV 1 f0), (nV 2 f1), (nV 3 f2), (List.replicate 32 0), 0⟩).toArray := ⟨_, rfl⟩
  obtain ⟨C4, hC4⟩ : ∃ C, C = (hcells ⟨(nV 1 f0), (nV 2 f1), (nV 3 f2), (dV 4 f3), 0⟩).toArray := ⟨_, rfl⟩
  obtain ⟨C5, hC5⟩ : ∃ C, C = (hcells ⟨(nV 1 f0), (nV 2 f1), (nV 3 f2), (dV 4 f3), (nV 5 f4)⟩).toArray := ⟨_, rfl⟩
  obtain ⟨b1, hb1⟩ : ∃ b, b = nB 1 f0 := ⟨_, rfl⟩
  obtain ⟨b2, hb2⟩ : ∃ b, b = nB 2 f1 := ⟨_, rfl⟩
  obtain ⟨b3, hb3⟩ : ∃ b, b = nB 3 f2 := ⟨_, rfl⟩
  obtain ⟨b4, hb4⟩ : ∃ b, b = dB 4 f3 := ⟨_, rfl⟩
  obtain ⟨b5, hb5⟩ : ∃ b, b = nB 5 f4 := ⟨_, rfl⟩
  obtain ⟨b6, hb6⟩ : ∃ b, b = decide (f5.length = 0) := ⟨_, rfl⟩
  obtain ⟨br, hbr⟩ : ∃ b, b = rightH (seqH f0) := ⟨_, rfl⟩
  have hq : seqH f0 = ⟨(nV 1 f0), (nV 2 f1), (nV 3 f2), (dV 4 f3), (nV 5 f4)⟩ := by unfold seqH; rw [hf4, hf3, hf2, hf1]
  have hall : allH f0 = (b1 && (b2 && (b3 && (b4 && (b5 && (b6 && br)))))) := by
    unfold allH
    rw [hb1, hb2, hb3, hb4, hb5, hb6, hbr, hf5, hf4, hf3, hf2, hf1]
  have hget := get_seq bs
  rw [← hf0, hall] at hget
  obtain ⟨K, hKK⟩ : ∃ K, K = getHE bs := ⟨_, rfl⟩
  rw [← hKK]
  have HF : Hid ((b1 && (b2 && (b3 && (b4 && (b5 && (b6 && br)))))) = false → R = Z ∧ K = 70) := fun hh => by
    rw [hh] at hget
    have hget : getO bs = none := hget
    rw [HR.out, HZ.out, hKK]
    unfold getHO getHE
    rw [hget]
    exact ⟨rfl, rfl⟩
  have HT : Hid ((b1 && (b2 && (b3 && (b4 && (b5 && (b6 && br)))))) = true → R = C5 ∧ K = 0) := fun hh => by
    rw [hh] at hget
    have hget : getO bs = some (seqH f0) := hget
    rw [HR.out, hC5, hKK]
    unfold getHO getHE
    rw [hget, hq]
    exact ⟨rfl, rfl⟩
  have O1 : Hid (∀ W, Below w.heap.size w W → Calls Try.prog 16 #[.slice a len cap] W fun e w' => ∃ x c, e = .returned (.slice x f0.length c) ∧ Lie w' W.heap.size x c f0 ∧ Below W.heap.size W w') := fun W hb => by rw [hf0]; exact open_any a len cap bs W (hR.below hb) hl
  have I1 : Hid (∀ W g2 g4 g5 lo, GtS w W g2 g4 g5 lo Z Z 25 f0 → Calls Try.prog 17 #[.pointer (some ⟨g4, 0, none⟩), .int .i64 1, .func (.func 18) #[.pointer (some ⟨g5, 0, none⟩)] #[]] W fun e w' => e = .returned (.bool b1) ∧ GtS w w' g2 g4 g5 lo Z C1 25 f1) := fun W g2 g4 g5 lo hs => gt_int 1 0 b1 hs (by rw [HZ.out]; show 0 < (hcells _).toArray.size; rw [List.size_toArray, hcells_length _ rfl]; omega) (by rw [HZ.out, hC1]; exact (cells_r zeroH (nV 1 f0)).symm) hb1 hf1
  have I2 : Hid (∀ W g2 g4 g5 lo, GtS w W g2 g4 g5 lo Z C1 25 f1 → Calls Try.prog 17 #[.pointer (some ⟨g4, 1, none⟩), .int .i64 2, .func (.func 18) #[.pointer (some ⟨g5, 0, none⟩)] #[]] W fun e w' => e = .returned (.bool b2) ∧ GtS w w' g2 g4 g5 lo Z C2 25 f2) := fun W g2 g4 g5 lo hs => gt_int 2 1 b2 hs (by rw [hC1]; show 1 < (hcells _).toArray.size; rw [List.size_toArray, hcells_length _ rfl]; omega) (by rw [hC1, hC2]; exact (cells_e ⟨(nV 1 f0), 0, 0, (List.replicate 32 0), 0⟩ (nV 2 f1)).symm) hb2 hf2
  have I3 : Hid (∀ W g2 g4 g5 lo, GtS w W g2 g4 g5 lo Z C2 25 f2 → Calls Try.prog 17 #[.pointer (some ⟨g4, 2, none⟩), .int .i64 3, .func (.func 18) #[.pointer (some ⟨g5, 0, none⟩)] #[]] W fun e w' => e = .returned (.bool b3) ∧ GtS w w' g2 g4 g5 lo Z C3 25 f3) := fun W g2 g4 g5 lo hs => gt_int 3 2 b3 hs (by rw [hC2]; show 2 < (hcells _).toArray.size; rw [List.size_toArray, hcells_length _ rfl]; omega) (by rw [hC2, hC3]; exact (cells_s ⟨(nV 1 f0), (nV 2 f1), 0, (List.replicate 32 0), 0⟩ (nV 3 f2)).symm) hb3 hf3
  have I4 : Hid (∀ W g2 g4 g5 lo, GtS w W g2 g4 g5 lo Z C3 25 f3 → Calls Try.prog 19 #[.pointer (some ⟨g4, 3, none⟩), .int .i64 4, .func (.func 20) #[.pointer (some ⟨g5, 0, none⟩)] #[]] W fun e w' => e = .returned (.bool b4) ∧ GtS w w' g2 g4 g5 lo Z C4 25 f4) := fun W g2 g4 g5 lo hs => gt_dig 4 3 b4 hs (by rw [hC3]; show 3 + 32 ≤ (hcells _).toArray.size; rw [List.size_toArray, hcells_length _ rfl]; omega) (by rw [hC3, hC4]; exact (cells_d ⟨(nV 1 f0), (nV 2 f1), (nV 3 f2), (List.replicate 32 0), 0⟩ (dV 4 f3) rfl).symm) hb4 hf4
  have I5 : Hid (∀ W g2 g4 g5 lo, GtS w W g2 g4 g5 lo Z C4 25 f4 → Calls Try.prog 17 #[.pointer (some ⟨g4, 35, none⟩), .int .i64 5, .func (.func 18) #[.pointer (some ⟨g5, 0, none⟩)] #[]] W fun e w' => e = .returned (.bool b5) ∧ GtS w w' g2 g4 g5 lo Z C5 25 f5) := fun W g2 g4 g5 lo hs => gt_int 5 35 b5 hs (by rw [hC4]; show 35 < (hcells _).toArray.size; rw [List.size_toArray, hcells_length _ (dV_length _ _)]; omega) (by rw [hC4, hC5]; exact (cells_t ⟨(nV 1 f0), (nV 2 f1), (nV 3 f2), (dV 4 f3), 0⟩ (nV 5 f4) (dV_length _ _)).symm) hb5 hf5
  have I6 : Hid (∀ W g2 g4 g5 lo, GtS w W g2 g4 g5 lo Z C5 25 f5 → Calls Try.prog 21 #[.pointer (some ⟨g5, 0, none⟩)] W fun e w' => e = .returned (.bool b6) ∧ GtS w w' g2 g4 g5 lo Z C5 25 f5) := fun W g2 g4 g5 lo hs => gt_ended b6 hs hb6
  obtain ⟨E, hE⟩ : ∃ E, E = putE (seqH f0) := ⟨_, rfl⟩
  have hd5 : (seqH f0).d.length = 32 := dV_length _ _
  have K1 : Hid (∀ W, Calls Try.prog 6 #[.agg C5] W fun e w' => e = .returned (.int .i64 E) ∧ Below W.heap.size W w') := fun W => by rw [hE]; exact hCheck_any (seqH f0) hd5 W C5 (by rw [hC5, hq]; exact hidk rfl)
  have hK : (E = 0 ∧ br = true) ∨ (E = 70 ∧ br = false) := by rw [hE, hbr]; exact putE_ok _
  have hc36 : C5.size = 36 := by rw [hC5, List.size_toArray]; exact hcells_length _ (dV_length 4 f3)
  have HSC : Hid ((Try.prog.info? 25).map (·.size) = some C5.size) := by show _ = _; rw [sizeH, hc36]
  have H1C : Hid (C5.all (·.oneCell') = true) := by show _ = _; rw [hC5]; exact one_cells _
  have HZC : Hid (Z.size = C5.size) := by show _ = _; rw [H36.out, hc36]
  clear hf0 hf1 hf2 hf3 hf4 hf5 hC1 hC2 hC3 hC4 hC5 hb1 hb2 hb3 hb4 hb5 hb6 hbr hq hall hget hKK hE hd5 HR H36 hc36
  clear HZ hR
  go_enter Try.func8, Try.ntmps8
  go_wp2_with (first
    | (show wpList _ _ _ ({ dst := some 2, op := _, type := _, pos := _, after := _, guard := _ } :: _) _ _; refine wpList_new_var rfl 25 rfl Z HA.out ?_; intro g2 w1 HM2; try simp only [Act.put, List.setIfInBounds_toArray, List.set_cons_zero, List.set_cons_succ])
    | (show wpList _ _ _ ({ dst := some 4, op := _, type := _, pos := _, after := _, guard := _ } :: _) _ _; refine wpList_new_var rfl 25 rfl Z HA.out ?_; intro g4 w2 HM4; try simp only [Act.put, List.setIfInBounds_toArray, List.set_cons_zero, List.set_cons_succ])
    | fail)
  have HB2 : Hid (Below w.heap.size w w2) := HM2.out.below.trans (HM4.out.below.mono HM2.out.below.size)
  refine (O1.out w2 HB2.out).mono ?_
  rintro e w3 ⟨x, c, rfl, hl3, hb3⟩
  have HS0 : Hid (GtS w (w3.alloc (.cells #[.slice x f0.length c] 44)) g2 g4 w3.heap.size w2.heap.size Z Z 25 f0) := by
    have hbb := HB2.out.trans (hb3.mono HB2.out.size)
    have q2 : w2.heap[g2]? = some (.cells Z 25 (0, 0)) := (HM4.out.below.block _ (heap_lt HM2.out.row)).trans HM2.out.row
    refine ⟨hbb.alloc hbb.size _, heap_keep ((hb3.block _ (heap_lt q2)).trans q2), heap_keep ((hb3.block _ (heap_lt HM4.out.row)).trans HM4.out.row), rd_new hl3 hb3.size, Nat.le_of_eq HM2.out.new.symm, ?_, heap_lt HM4.out.row, hb3.size⟩
    rw [HM4.out.new]; exact heap_lt HM2.out.row
  obtain ⟨g5, hg5⟩ : ∃ g, g = w3.heap.size := ⟨_, rfl⟩
  obtain ⟨lo, hlo⟩ : ∃ g, g = w2.heap.size := ⟨_, rfl⟩
  rw [← hg5, ← hlo] at HS0
  clear HM2 HM4 HB2 hb3 hl3 O1 hlo
  go_wp2_with fail
  rw [← hg5]
  clear hg5
  refine (I1.out _ _ _ _ _ HS0.out).mono ?_
  rintro e v1 ⟨rfl, hs1⟩
  have HS1 := hidk hs1
  clear hs1 HS0 I1
  cases b1
  · skip
    go_wp2_with (first
      | (show wpList _ _ _ ({ dst := some 42, op := _, type := _, pos := _, after := _, guard := _ } :: _) _ _; refine wpList_build_none rfl 25 rfl Z HBZ.out ?_; try simp only [Act.put, List.setIfInBounds_toArray, List.set_cons_zero, List.set_cons_succ])
      | (refine wpList_set_var rfl 25 (.tmp 2) (.tmp 42) rfl g2 Z rfl rfl 25 Z HS1.out.r2 HSZ.out rfl H1Z.out ?_; intro wz HWz; try simp only [Act.put, List.setIfInBounds_toArray, List.set_cons_zero, List.set_cons_succ])
      | fail)
    refine bodyPost_ret (v := .tuple #[.agg R, .int .i64 K]) ?_ rfl ⟨rfl, HWz.out.below w.heap.size w HS1.out.below HS1.out.o2⟩
    rw [(HF.out rfl).1, (HF.out rfl).2]
    exact results_row_tmp (p := 2) (q := 3) (ty := 25) rfl _ _ g2 25 Z (0, 0) _ rfl HWz.out.row Try.underlying25 rfl HSZ.out
  go_wp2_with fail
  refine (I2.out _ _ _ _ _ HS1.out).mono ?_
  rintro e v2 ⟨rfl, hs2⟩
  have HS2 := hidk hs2
  clear hs2 HS1 I2
  cases b2
  · skip
    go_wp2_with (first
      | (show wpList _ _ _ ({ dst := some 42, op := _, type := _, pos := _, after := _, guard := _ } :: _) _ _; refine wpList_build_none rfl 25 rfl Z HBZ.out ?_; try simp only [Act.put, List.setIfInBounds_toArray, List.set_cons_zero, List.set_cons_succ])
      | (refine wpList_set_var rfl 25 (.tmp 2) (.tmp 42) rfl g2 Z rfl rfl 25 Z HS2.out.r2 HSZ.out rfl H1Z.out ?_; intro wz HWz; try simp only [Act.put, List.setIfInBounds_toArray, List.set_cons_zero, List.set_cons_succ])
      | fail)
    refine bodyPost_ret (v := .tuple #[.agg R, .int .i64 K]) ?_ rfl ⟨rfl, HWz.out.below w.heap.size w HS2.out.below HS2.out.o2⟩
    rw [(HF.out rfl).1, (HF.out rfl).2]
    exact results_row_tmp (p := 2) (q := 3) (ty := 25) rfl _ _ g2 25 Z (0, 0) _ rfl HWz.out.row Try.underlying25 rfl HSZ.out
  go_wp2_with fail
  refine (I3.out _ _ _ _ _ HS2.out).mono ?_
  rintro e v3 ⟨rfl, hs3⟩
  have HS3 := hidk hs3
  clear hs3 HS2 I3
  cases b3
  · skip
    go_wp2_with (first
      | (show wpList _ _ _ ({ dst := some 42, op := _, type := _, pos := _, after := _, guard := _ } :: _) _ _; refine wpList_build_none rfl 25 rfl Z HBZ.out ?_; try simp only [Act.put, List.setIfInBounds_toArray, List.set_cons_zero, List.set_cons_succ])
      | (refine wpList_set_var rfl 25 (.tmp 2) (.tmp 42) rfl g2 Z rfl rfl 25 Z HS3.out.r2 HSZ.out rfl H1Z.out ?_; intro wz HWz; try simp only [Act.put, List.setIfInBounds_toArray, List.set_cons_zero, List.set_cons_succ])
      | fail)
    refine bodyPost_ret (v := .tuple #[.agg R, .int .i64 K]) ?_ rfl ⟨rfl, HWz.out.below w.heap.size w HS3.out.below HS3.out.o2⟩
    rw [(HF.out rfl).1, (HF.out rfl).2]
    exact results_row_tmp (p := 2) (q := 3) (ty := 25) rfl _ _ g2 25 Z (0, 0) _ rfl HWz.out.row Try.underlying25 rfl HSZ.out
  go_wp2_with fail
  refine (I4.out _ _ _ _ _ HS3.out).mono ?_
  rintro e v4 ⟨rfl, hs4⟩
  have HS4 := hidk hs4
  clear hs4 HS3 I4
  cases b4
  · skip
    go_wp2_with (first
      | (show wpList _ _ _ ({ dst := some 42, op := _, type := _, pos := _, after := _, guard := _ } :: _) _ _; refine wpList_build_none rfl 25 rfl Z HBZ.out ?_; try simp only [Act.put, List.setIfInBounds_toArray, List.set_cons_zero, List.set_cons_succ])
      | (refine wpList_set_var rfl 25 (.tmp 2) (.tmp 42) rfl g2 Z rfl rfl 25 Z HS4.out.r2 HSZ.out rfl H1Z.out ?_; intro wz HWz; try simp only [Act.put, List.setIfInBounds_toArray, List.set_cons_zero, List.set_cons_succ])
      | fail)
    refine bodyPost_ret (v := .tuple #[.agg R, .int .i64 K]) ?_ rfl ⟨rfl, HWz.out.below w.heap.size w HS4.out.below HS4.out.o2⟩
    rw [(HF.out rfl).1, (HF.out rfl).2]
    exact results_row_tmp (p := 2) (q := 3) (ty := 25) rfl _ _ g2 25 Z (0, 0) _ rfl HWz.out.row Try.underlying25 rfl HSZ.out
  go_wp2_with fail
  refine (I5.out _ _ _ _ _ HS4.out).mono ?_
  rintro e v5 ⟨rfl, hs5⟩
  have HS5 := hidk hs5
  clear hs5 HS4 I5
  cases b5
  · skip
    go_wp2_with (first
      | (show wpList _ _ _ ({ dst := some 42, op := _, type := _, pos := _, after := _, guard := _ } :: _) _ _; refine wpList_build_none rfl 25 rfl Z HBZ.out ?_; try simp only [Act.put, List.setIfInBounds_toArray, List.set_cons_zero, List.set_cons_succ])
      | (refine wpList_set_var rfl 25 (.tmp 2) (.tmp 42) rfl g2 Z rfl rfl 25 Z HS5.out.r2 HSZ.out rfl H1Z.out ?_; intro wz HWz; try simp only [Act.put, List.setIfInBounds_toArray, List.set_cons_zero, List.set_cons_succ])
      | fail)
    refine bodyPost_ret (v := .tuple #[.agg R, .int .i64 K]) ?_ rfl ⟨rfl, HWz.out.below w.heap.size w HS5.out.below HS5.out.o2⟩
    rw [(HF.out rfl).1, (HF.out rfl).2]
    exact results_row_tmp (p := 2) (q := 3) (ty := 25) rfl _ _ g2 25 Z (0, 0) _ rfl HWz.out.row Try.underlying25 rfl HSZ.out
  go_wp2_with fail
  refine (I6.out _ _ _ _ _ HS5.out).mono ?_
  rintro e v6 ⟨rfl, hs6⟩
  have HS6 := hidk hs6
  clear hs6 HS5 I6
  cases b6
  · skip
    go_wp2_with (first
      | (show wpList _ _ _ ({ dst := some 42, op := _, type := _, pos := _, after := _, guard := _ } :: _) _ _; refine wpList_build_none rfl 25 rfl Z HBZ.out ?_; try simp only [Act.put, List.setIfInBounds_toArray, List.set_cons_zero, List.set_cons_succ])
      | (refine wpList_set_var rfl 25 (.tmp 2) (.tmp 42) rfl g2 Z rfl rfl 25 Z HS6.out.r2 HSZ.out rfl H1Z.out ?_; intro wz HWz; try simp only [Act.put, List.setIfInBounds_toArray, List.set_cons_zero, List.set_cons_succ])
      | fail)
    refine bodyPost_ret (v := .tuple #[.agg R, .int .i64 K]) ?_ rfl ⟨rfl, HWz.out.below w.heap.size w HS6.out.below HS6.out.o2⟩
    rw [(HF.out rfl).1, (HF.out rfl).2]
    exact results_row_tmp (p := 2) (q := 3) (ty := 25) rfl _ _ g2 25 Z (0, 0) _ rfl HWz.out.row Try.underlying25 rfl HSZ.out
  go_wp2_with (first
    | (show wpList _ _ _ ({ dst := some 38, op := _, type := _, pos := _, after := _, guard := _ } :: _) _ _; refine wpList_load_row_w (by rfl) 25 (.tmp 4) rfl g4 rfl 25 C5 (0, 0) _ HS6.out.r4 Try.underlying25 rfl HSC.out ?_; try simp only [Act.put, List.setIfInBounds_toArray, List.set_cons_zero, List.set_cons_succ])
    | fail)
  refine (K1.out _).mono ?_
  rintro e vk ⟨rfl, hbk⟩
  have HSk := hidk (HS6.out.keep hbk)
  clear hbk HS6 K1
  rcases hK with ⟨rfl, rfl⟩ | ⟨rfl, rfl⟩
  · go_wp2_with (first
      | (show wpList _ _ _ ({ dst := some 43, op := _, type := _, pos := _, after := _, guard := _ } :: _) _ _; refine wpList_load_row rfl 25 (.tmp 4) rfl g4 rfl 25 C5 (0, 0) _ HSk.out.r4 Try.underlying25 rfl HSC.out ?_; try simp only [Act.put, List.setIfInBounds_toArray, List.set_cons_zero, List.set_cons_succ])
      | (refine wpList_set_var rfl 25 (.tmp 2) (.tmp 43) rfl g2 C5 rfl rfl 25 Z HSk.out.r2 HSC.out HZC.out H1C.out ?_; intro wz HWz; try simp only [Act.put, List.setIfInBounds_toArray, List.set_cons_zero, List.set_cons_succ])
      | fail)
    refine bodyPost_ret (v := .tuple #[.agg R, .int .i64 K]) ?_ rfl ⟨rfl, HWz.out.below w.heap.size w HSk.out.below HSk.out.o2⟩
    rw [(HT.out rfl).1, (HT.out rfl).2]
    exact results_row_tmp (p := 2) (q := 3) (ty := 25) rfl _ _ g2 25 C5 (0, 0) _ rfl HWz.out.row Try.underlying25 rfl HSC.out
  · skip
    go_wp2_with (first
      | (show wpList _ _ _ ({ dst := some 42, op := _, type := _, pos := _, after := _, guard := _ } :: _) _ _; refine wpList_build_none rfl 25 rfl Z HBZ.out ?_; try simp only [Act.put, List.setIfInBounds_toArray, List.set_cons_zero, List.set_cons_succ])
      | (refine wpList_set_var rfl 25 (.tmp 2) (.tmp 42) rfl g2 Z rfl rfl 25 Z HSk.out.r2 HSZ.out rfl H1Z.out ?_; intro wz HWz; try simp only [Act.put, List.setIfInBounds_toArray, List.set_cons_zero, List.set_cons_succ])
      | fail)
    refine bodyPost_ret (v := .tuple #[.agg R, .int .i64 K]) ?_ rfl ⟨rfl, HWz.out.below w.heap.size w HSk.out.below HSk.out.o2⟩
    rw [(HF.out rfl).1, (HF.out rfl).2]
    exact results_row_tmp (p := 2) (q := 3) (ty := 25) rfl _ _ g2 25 Z (0, 0) _ rfl HWz.out.row Try.underlying25 rfl HSZ.out
end Go.Proofs.Ytdnhnjimhbbabaa

/- What head.Put answers; a right head's bytes as a text, and what is signed of it. -/
namespace Go.Proofs.Ytdnhnjimhbbabaa
open Go.RowKit Sums Nums
set_option linter.unusedVariables false
set_option linter.unusedSimpArgs false
set_option maxRecDepth 100000
theorem reads_no (w : World) : Reads w none 0 0 [] := ⟨rfl, Nat.le_refl _, by decide, .inl ⟨rfl, rfl⟩⟩
theorem bytes_no (w : World) (E : Int) : BytesE [] E (.returned (.tuple #[.slice none 0 0, .int .i64 E])) w := ⟨none, 0, rfl, reads_no w⟩
theorem rowOf_ok {fs : List (Int × ByteArray)} (h : layE 0 fs = 0) : rowOf fs = rowB fs := by unfold rowOf; rw [if_pos h]
set_option maxHeartbeats 2000000 in
theorem hPut_no (h : HdT) (hd : h.d.length = 32) (hr : rightH h = false) (w : World) (C : Array Value) (HC : Hid (C = (hcells h).toArray)) :
    Calls Try.prog 4 #[.agg C] w fun e w' => BytesE [] 70 e w' ∧ Below w.heap.size w w' := by
  have HSC : Hid ((Try.prog.info? 25).map (·.size) = some C.size) := by show _ = _; rw [sizeH, HC.out]; simp [hcells_length h hd]
  have HR : Hid ((w.alloc (.cells C 25)).heap[w.heap.size]? = some (.cells C 25 (0, 0))) := heap_alloc_new w _
  have HB : Hid (Below w.heap.size w (w.alloc (.cells C 25))) := (Below.refl _ _).alloc (Nat.le_refl _) _
  have K1 : Hid (∀ W, Calls Try.prog 6 #[.agg C] W fun e w' => e = .returned (.int .i64 70) ∧ Below W.heap.size W w') := fun W => by
    have := hCheck_any h hd W C HC
    rwa [show putE h = 70 by unfold putE; rw [hr]; rfl] at this
  clear HC hr
  go_enter Try.func4, Try.ntmps4
  go_wp2_with (first
    | (show wpList _ _ _ ({ dst := some 5, op := _, type := _, pos := _, after := _, guard := _ } :: _) _ _; refine wpList_load_row rfl 25 (.tmp 1) rfl w.heap.size rfl 25 C (0, 0) _ HR.out Try.underlying25 rfl HSC.out ?_; try simp only [Act.put, List.setIfInBounds_toArray, List.set_cons_zero, List.set_cons_succ])
    | fail)
  refine (K1.out _).mono ?_
  rintro e w1 ⟨rfl, hb1⟩
  have HB1 := hidk (HB.out.trans (hb1.mono HB.out.size))
  clear hb1
  go_wp2
  go_ret2
  exact ⟨bytes_no _ _, HB1.out⟩
set_option maxHeartbeats 8000000 in
theorem hPut_yes (h : HdT) (hd : h.d.length = 32) (hr : rightH h = true) (w : World) (C : Array Value) (HC : Hid (C = (hcells h).toArray)) :
    Calls Try.prog 4 #[.agg C] w fun e w' => BytesE (headB h) 0 e w' ∧ Below w.heap.size w w' := by
  have HSC : Hid ((Try.prog.info? 25).map (·.size) = some C.size) := by show _ = _; rw [sizeH, HC.out]; simp [hcells_length h hd]
  have HRW : Hid ((w.alloc (.cells C 25)).heap[w.heap.size]? = some (.cells C 25 (0, 0))) := heap_alloc_new w _
  have K1 : Hid (∀ W, Calls Try.prog 6 #[.agg C] W fun e w' => e = .returned (.int .i64 0) ∧ Below W.heap.size W w') := fun W => by
    have := hCheck_any h hd W C HC
    rwa [show putE h = 0 by unfold putE; rw [hr]; rfl] at this
  obtain ⟨r, Hr⟩ : ∃ r, Hid (r = h.r) := ⟨h.r, hidk rfl⟩
  obtain ⟨e, He⟩ : ∃ r, Hid (r = h.e) := ⟨h.e, hidk rfl⟩
  obtain ⟨s, Hs⟩ : ∃ r, Hid (r = h.s) := ⟨h.s, hidk rfl⟩
  obtain ⟨t, Ht⟩ : ∃ r, Hid (r = h.t) := ⟨h.t, hidk rfl⟩
  obtain ⟨n1, Hn1⟩ : ∃ s : ByteArray, Hid (s = nOf r) := ⟨nOf r, hidk rfl⟩
  obtain ⟨n2, Hn2⟩ : ∃ s : ByteArray, Hid (s = nOf e) := ⟨nOf e, hidk rfl⟩
  obtain ⟨n3, Hn3⟩ : ∃ x : ByteArray, Hid (x = nOf s) := ⟨nOf s, hidk rfl⟩
  obtain ⟨n5, Hn5⟩ : ∃ s : ByteArray, Hid (s = nOf t) := ⟨nOf t, hidk rfl⟩
  obtain ⟨x4, HX⟩ : ∃ x : ByteArray, Hid (x = bA h.d) := ⟨bA h.d, hidk rfl⟩
  obtain ⟨l, Hl⟩ : ∃ l, Hid (l = headB h) := ⟨headB h, hidk rfl⟩
  obtain ⟨D, HD, HSD, H1D, H32D⟩ := dig_row' h.d hd
  have N1 : Hid (∀ W, Calls Try.prog 10 #[.int .i64 1, .int .i64 r] W fun e w' => e = .returned (.agg #[.int .i64 1, .string n1]) ∧ Below W.heap.size W w') := fun W => by rw [Hn1.out]; exact hNum_any 1 r W
  have N2 : Hid (∀ W, Calls Try.prog 10 #[.int .i64 2, .int .i64 e] W fun e w' => e = .returned (.agg #[.int .i64 2, .string n2]) ∧ Below W.heap.size W w') := fun W => by rw [Hn2.out]; exact hNum_any 2 e W
  have N3 : Hid (∀ W, Calls Try.prog 10 #[.int .i64 3, .int .i64 s] W fun e w' => e = .returned (.agg #[.int .i64 3, .string n3]) ∧ Below W.heap.size W w') := fun W => by rw [Hn3.out]; exact hNum_any 3 s W
  have N5 : Hid (∀ W, Calls Try.prog 10 #[.int .i64 5, .int .i64 t] W fun e w' => e = .returned (.agg #[.int .i64 5, .string n5]) ∧ Below W.heap.size W w') := fun W => by rw [Hn5.out]; exact hNum_any 5 t W
  have X4 : Hid (∀ W, Calls Try.prog 11 #[.int .i64 4, .agg D] W fun e w' => e = .returned (.agg #[.int .i64 4, .string x4]) ∧ Below W.heap.size W w') := fun W => by rw [HX.out]; exact hDig_any 4 h.d hd W D HD
  have hL5 : fieldsN (hL h) = [(1, n1), (2, n2), (3, n3), (4, x4), (5, n5)] := by rw [Hn1.out, Hn2.out, Hn3.out, Hn5.out, HX.out, Hr.out, He.out, Hs.out, Ht.out]; rfl
  have LY : Hid (∀ W, Calls Try.prog 9 #[.slice (some ⟨W.heap.size, 0, none⟩) 5 5] (W.alloc (.cells #[.int .i64 1, .string n1, .int .i64 2, .string n2, .int .i64 3, .string n3, .int .i64 4, .string x4, .int .i64 5, .string n5] 37)) fun e w' => ∃ a c, e = .returned (.tuple #[.slice a l.length c, .int .i64 0]) ∧ Reads w' a l.length c l ∧ Below W.heap.size W w') := fun W => by
    have hk := layE_hL h hd
    have hrw := rowOf_ok hk
    rw [hL5] at hk hrw
    have hm : ∀ f ∈ [((1 : Int), n1), (2, n2), (3, n3), (4, x4), (5, n5)], f.2.size ≤ maxLen := fun y hy => by
      simp only [List.mem_cons, List.not_mem_nil, or_false] at hy
      unfold maxLen
      rcases hy with rfl | rfl | rfl | rfl | rfl
      · have := nOf_size r; rw [← Hn1.out] at this; show n1.size ≤ _; omega
      · have := nOf_size e; rw [← Hn2.out] at this; show n2.size ≤ _; omega
      · have := nOf_size s; rw [← Hn3.out] at this; show n3.size ≤ _; omega
      · have := bA_size h.d; rw [← HX.out] at this; show x4.size ≤ _; omega
      · have := nOf_size t; rw [← Hn5.out] at this; show n5.size ≤ _; omega
    have hF := freads_lit W #[.int .i64 1, .string n1, .int .i64 2, .string n2, .int .i64 3, .string n3, .int .i64 4, .string x4, .int .i64 5, .string n5] (0, 0) [((1 : Int), n1), (2, n2), (3, n3), (4, x4), (5, n5)] rfl (by show 5 ≤ 1048576; decide) hm
    rw [← alloc_size W (.cells #[.int .i64 1, .string n1, .int .i64 2, .string n2, .int .i64 3, .string n3, .int .i64 4, .string x4, .int .i64 5, .string n5] 37)] at hF
    refine (lay_reads (some ⟨W.heap.size, 0, none⟩) 5 5 [((1 : Int), n1), (2, n2), (3, n3), (4, x4), (5, n5)] _ hF (by decide) (k := 0) (l := l) hk (by rw [hrw, Hl.out, ← hL5]; rfl)).mono ?_
    rintro e w' ⟨a, c, he, hrd, hb⟩
    exact ⟨a, c, he, hrd, ((Below.refl _ _).alloc (Nat.le_refl _) _).trans (hb.mono (by simp))⟩
  have HR := hidk (hrow_new w h hd C HC 25)
  have HB : Hid (Below w.heap.size w (w.alloc (.cells C 25))) := (Below.refl _ _).alloc (Nat.le_refl _) _
  have HDL : Hid (D.toList = cellsOf h.d) := by show _ = _; rw [HD.out]
  rw [← Hl.out]
  clear HC HX hL5 HD Hn1 Hn2 Hn3 Hn5 Hl hr
  go_enter Try.func4, Try.ntmps4
  go_wp2_with (first
    | (show wpList _ _ _ ({ dst := some 5, op := _, type := _, pos := _, after := _, guard := _ } :: _) _ _; refine wpList_load_row rfl 25 (.tmp 1) rfl w.heap.size rfl 25 C (0, 0) _ HRW.out Try.underlying25 rfl HSC.out ?_; try simp only [Act.put, List.setIfInBounds_toArray, List.set_cons_zero, List.set_cons_succ])
    | fail)
  refine (K1.out _).mono ?_
  rintro e w0 ⟨rfl, hb0⟩
  have HB0 := hidk (HB.out.trans (hb0.mono HB.out.size))
  have HR0 := hidk (HR.out.keep hb0)
  clear hb0 HB HR HRW K1
  go_wp2
  refine wp_region_held_drew (S := (fun W => HRow W w.heap.size 0 h)) (by kernel_rfl) (show HRow w0.drew w.heap.size 0 h from HR0.out.keep (Below.refl _ _).drew) (fun hHeld => ?_)
  refine wpAnyH_take (i := 0) (oi := { dst := some 10, op := Op.fieldAddr 25 (Operand.tmp 1) 0, type := 0, pos := "head.go:46", after := #[], guard := none }) (v := .pointer (some ⟨w.heap.size, 0, none⟩)) rfl (by kernel_rfl) (by kernel_rfl) (by kernel_rfl) (fun _ _ _ h => h) (Or.inl ⟨by rfl, by intro W hSw; go_simp⟩) hHeld ?_
  try simp only [Act.put, List.setIfInBounds_toArray, List.set_cons_zero, List.set_cons_succ]
  refine wpAnyH_take (i := 1) (oi := { dst := some 11, op := Op.load 3 (Operand.tmp 10), type := 3, pos := "head.go:46", after := #[{ on := 0, ground := Ground.data }], guard := none }) (v := .int .i64 r) rfl (by kernel_rfl) (by kernel_rfl) (by kernel_rfl) (fun _ _ _ h => h) (Or.inl ⟨by rfl, by intro W hSw; have h1 := hSw.r; rw [← Hr.out] at h1; go_simp⟩) hHeld ?_
  try simp only [Act.put, List.setIfInBounds_toArray, List.set_cons_zero, List.set_cons_succ]
  refine wpAnyH_take (i := 3) (oi := { dst := some 13, op := Op.fieldAddr 25 (Operand.tmp 1) 1, type := 0, pos := "head.go:46", after := #[], guard := none }) (v := .pointer (some ⟨w.heap.size, 1, none⟩)) rfl (by kernel_rfl) (by kernel_rfl) (by kernel_rfl) (fun _ _ _ h => h) (Or.inl ⟨by rfl, by intro W hSw; go_simp⟩) hHeld ?_
  try simp only [Act.put, List.setIfInBounds_toArray, List.set_cons_zero, List.set_cons_succ]
  refine wpAnyH_take (i := 4) (oi := { dst := some 14, op := Op.load 3 (Operand.tmp 13), type := 3, pos := "head.go:46", after := #[{ on := 3, ground := Ground.data }], guard := none }) (v := .int .i64 e) rfl (by kernel_rfl) (by kernel_rfl) (by kernel_rfl) (fun _ _ _ h => h) (Or.inl ⟨by rfl, by intro W hSw; have h1 := hSw.e; rw [← He.out, Nat.zero_add] at h1; go_simp⟩) hHeld ?_
  try simp only [Act.put, List.setIfInBounds_toArray, List.set_cons_zero, List.set_cons_succ]
  refine wpAnyH_take (i := 6) (oi := { dst := some 16, op := Op.fieldAddr 25 (Operand.tmp 1) 2, type := 0, pos := "head.go:46", after := #[], guard := none }) (v := .pointer (some ⟨w.heap.size, 2, none⟩)) rfl (by kernel_rfl) (by kernel_rfl) (by kernel_rfl) (fun _ _ _ h => h) (Or.inl ⟨by rfl, by intro W hSw; go_simp⟩) hHeld ?_
  try simp only [Act.put, List.setIfInBounds_toArray, List.set_cons_zero, List.set_cons_succ]
  refine wpAnyH_take (i := 7) (oi := { dst := some 17, op := Op.load 3 (Operand.tmp 16), type := 3, pos := "head.go:46", after := #[{ on := 6, ground := Ground.data }], guard := none }) (v := .int .i64 s) rfl (by kernel_rfl) (by kernel_rfl) (by kernel_rfl) (fun _ _ _ h => h) (Or.inl ⟨by rfl, by intro W hSw; have h1 := hSw.s; rw [← Hs.out, Nat.zero_add] at h1; go_simp⟩) hHeld ?_
  try simp only [Act.put, List.setIfInBounds_toArray, List.set_cons_zero, List.set_cons_succ]
  refine wpAnyH_take (i := 9) (oi := { dst := some 19, op := Op.fieldAddr 25 (Operand.tmp 1) 3, type := 0, pos := "head.go:46", after := #[], guard := none }) (v := .pointer (some ⟨w.heap.size, 3, none⟩)) rfl (by kernel_rfl) (by kernel_rfl) (by kernel_rfl) (fun _ _ _ h => h) (Or.inl ⟨by rfl, by intro W hSw; go_simp⟩) hHeld ?_
  try simp only [Act.put, List.setIfInBounds_toArray, List.set_cons_zero, List.set_cons_succ]
  refine wpAnyH_take (i := 10) (oi := { dst := some 20, op := Op.load 23 (Operand.tmp 19), type := 23, pos := "head.go:46", after := #[{ on := 9, ground := Ground.data }], guard := none }) (v := .agg D) rfl (by kernel_rfl) (by kernel_rfl) (by kernel_rfl) (fun _ _ _ h => h) (yieldsIf_mid (by rfl) 23 (.tmp 19) rfl w.heap.size 3 rfl D _ (fun _ h => by rw [HDL.out]; have := h.d; rwa [Nat.zero_add] at this) Try.underlying23 rfl HSD.out) hHeld ?_
  try simp only [Act.put, List.setIfInBounds_toArray, List.set_cons_zero, List.set_cons_succ]
  refine wpAnyH_take (i := 12) (oi := { dst := some 22, op := Op.fieldAddr 25 (Operand.tmp 1) 4, type := 0, pos := "head.go:46", after := #[], guard := none }) (v := .pointer (some ⟨w.heap.size, 35, none⟩)) rfl (by kernel_rfl) (by kernel_rfl) (by kernel_rfl) (fun _ _ _ h => h) (Or.inl ⟨by rfl, by intro W hSw; go_simp⟩) hHeld ?_
  try simp only [Act.put, List.setIfInBounds_toArray, List.set_cons_zero, List.set_cons_succ]
  refine wpAnyH_take (i := 13) (oi := { dst := some 23, op := Op.load 3 (Operand.tmp 22), type := 3, pos := "head.go:46", after := #[{ on := 12, ground := Ground.data }], guard := none }) (v := .int .i64 t) rfl (by kernel_rfl) (by kernel_rfl) (by kernel_rfl) (fun _ _ _ h => h) (Or.inl ⟨by rfl, by intro W hSw; have h1 := hSw.t; rw [← Ht.out, Nat.zero_add] at h1; go_simp⟩) hHeld ?_
  try simp only [Act.put, List.setIfInBounds_toArray, List.set_cons_zero, List.set_cons_succ]
  refine wpAnyH_ready (rs := [2]) (by kernel_rfl) (by simp) ?_
  refine (AllReadyH.cons (o := { dst := some 12, op := Op.call { callee := Callee.value (Operand.func 10), args := #[Operand.const (Value.int IntKind.i64 1), Operand.tmp 11], argTypes := #[3, 3] }, type := 37, pos := "head.go:47", after := #[{ on := 1, ground := Ground.data }], guard := none }) rfl (fun K hK => ?_) AllReadyH.nil)
  go_simp
  refine (N1.out _).mono ?_
  rintro e w2 ⟨rfl, hb1⟩
  have HB1 := hidk (HB0.out.drew.trans (hb1.mono HB0.out.size))
  go_wp2_with fail
  refine hK.out _ _ (hHeld.keep hb1) (fun hHeld => ?_)
  clear hK K
  try simp only [Act.put, List.setIfInBounds_toArray, List.set_cons_zero, List.set_cons_succ]
  refine wpAnyH_ready (rs := [5]) (by kernel_rfl) (by simp) ?_
  refine (AllReadyH.cons (o := { dst := some 15, op := Op.call { callee := Callee.value (Operand.func 10), args := #[Operand.const (Value.int IntKind.i64 2), Operand.tmp 14], argTypes := #[3, 3] }, type := 37, pos := "head.go:48", after := #[{ on := 4, ground := Ground.data }, { on := 2, ground := Ground.chain }], guard := none }) rfl (fun K hK => ?_) AllReadyH.nil)
  go_simp
  refine (N2.out _).mono ?_
  rintro e w5 ⟨rfl, hb2⟩
  have HB2 := hidk (HB1.out.trans (hb2.mono HB1.out.size))
  go_wp2_with fail
  refine hK.out _ _ (hHeld.keep hb2) (fun hHeld => ?_)
  clear hK K
  try simp only [Act.put, List.setIfInBounds_toArray, List.set_cons_zero, List.set_cons_succ]
  refine wpAnyH_ready (rs := [8]) (by kernel_rfl) (by simp) ?_
  refine (AllReadyH.cons (o := { dst := some 18, op := Op.call { callee := Callee.value (Operand.func 10), args := #[Operand.const (Value.int IntKind.i64 3), Operand.tmp 17], argTypes := #[3, 3] }, type := 37, pos := "head.go:49", after := #[{ on := 7, ground := Ground.data }, { on := 5, ground := Ground.chain }], guard := none }) rfl (fun K hK => ?_) AllReadyH.nil)
  go_simp
  refine (N3.out _).mono ?_
  rintro e w8 ⟨rfl, hb3⟩
  have HB3 := hidk (HB2.out.trans (hb3.mono HB2.out.size))
  go_wp2_with fail
  refine hK.out _ _ (hHeld.keep hb3) (fun hHeld => ?_)
  clear hK K
  try simp only [Act.put, List.setIfInBounds_toArray, List.set_cons_zero, List.set_cons_succ]
  refine wpAnyH_ready (rs := [11]) (by kernel_rfl) (by simp) ?_
  refine (AllReadyH.cons (o := { dst := some 21, op := Op.call { callee := Callee.value (Operand.func 11), args := #[Operand.const (Value.int IntKind.i64 4), Operand.tmp 20], argTypes := #[3, 23] }, type := 37, pos := "head.go:50", after := #[{ on := 10, ground := Ground.data }, { on := 8, ground := Ground.chain }], guard := none }) rfl (fun K hK => ?_) AllReadyH.nil)
  go_simp
  refine (X4.out _).mono ?_
  rintro e w11 ⟨rfl, hb4⟩
  have HB4 := hidk (HB3.out.trans (hb4.mono HB3.out.size))
  go_wp2_with fail
  refine hK.out _ _ (hHeld.keep hb4) (fun hHeld => ?_)
  clear hK K
  try simp only [Act.put, List.setIfInBounds_toArray, List.set_cons_zero, List.set_cons_succ]
  refine wpAnyH_ready (rs := [14]) (by kernel_rfl) (by simp) ?_
  refine (AllReadyH.cons (o := { dst := some 24, op := Op.call { callee := Callee.value (Operand.func 10), args := #[Operand.const (Value.int IntKind.i64 5), Operand.tmp 23], argTypes := #[3, 3] }, type := 37, pos := "head.go:51", after := #[{ on := 13, ground := Ground.data }, { on := 11, ground := Ground.chain }], guard := none }) rfl (fun K hK => ?_) AllReadyH.nil)
  go_simp
  refine (N5.out _).mono ?_
  rintro e w14 ⟨rfl, hb5⟩
  have HB5 := hidk (HB4.out.trans (hb5.mono HB4.out.size))
  go_wp2_with fail
  refine hK.out _ _ (hHeld.keep hb5) (fun hHeld => ?_)
  clear hK K
  try simp only [Act.put, List.setIfInBounds_toArray, List.set_cons_zero, List.set_cons_succ]
  refine wpAnyH_ready (rs := [15]) (by kernel_rfl) (by simp) ?_
  refine (AllReadyH.cons (o := { dst := some 25, op := Op.buildSlice 40 5 #[(0, Operand.tmp 12), (1, Operand.tmp 15), (2, Operand.tmp 18), (3, Operand.tmp 21), (4, Operand.tmp 24)], type := 40, pos := "head.go:46", after := #[{ on := 2, ground := Ground.data }, { on := 5, ground := Ground.data }, { on := 8, ground := Ground.data }, { on := 11, ground := Ground.data }, { on := 14, ground := Ground.data }], guard := none }) rfl (fun K hK => ?_) AllReadyH.nil)
  have HR14 := hidk hHeld
  go_simp
  refine hK.out _ _ (hHeld.keep ((Below.refl _ _).alloc (Nat.le_refl _) _)) (fun hHeld => ?_)
  clear hK K
  try simp only [Act.put, List.setIfInBounds_toArray, List.set_cons_zero, List.set_cons_succ]
  refine wpAnyH_ready (rs := [16]) (by kernel_rfl) (by simp) ?_
  refine (AllReadyH.cons (o := { dst := some 26, op := Op.call { callee := Callee.value (Operand.func 9), args := #[Operand.tmp 25], argTypes := #[40] }, type := 28, pos := "head.go:46", after := #[{ on := 15, ground := Ground.data }, { on := 14, ground := Ground.chain }], guard := none }) rfl (fun K hK => ?_) AllReadyH.nil)
  go_simp
  refine (LY.out _).mono ?_
  rintro e w16 ⟨a16, c16, rfl, hrd, hb6⟩
  have HRD := hidk hrd
  have HBF := hidk (HB5.out.trans (hb6.mono HB5.out.size))
  go_wp2_with fail
  refine hK.out _ _ (HR14.out.keep hb6) (fun hHeld => ?_)
  clear hK K
  try simp only [Act.put, List.setIfInBounds_toArray, List.set_cons_zero, List.set_cons_succ]
  refine wpAnyH_take (i := 17) (oi := { dst := some 27, op := Op.extract (Operand.tmp 26) 0, type := 26, pos := "head.go:46", after := #[{ on := 16, ground := Ground.data }], guard := none }) (v := .slice a16 l.length c16) rfl (by kernel_rfl) (by kernel_rfl) (by kernel_rfl) (fun _ _ _ h => h) (Or.inl ⟨by rfl, by intro W hSw; go_simp⟩) hHeld ?_
  try simp only [Act.put, List.setIfInBounds_toArray, List.set_cons_zero, List.set_cons_succ]
  refine wpAnyH_take (i := 18) (oi := { dst := some 28, op := Op.extract (Operand.tmp 26) 1, type := 27, pos := "head.go:46", after := #[{ on := 16, ground := Ground.data }], guard := none }) (v := .int .i64 0) rfl (by kernel_rfl) (by kernel_rfl) (by kernel_rfl) (fun _ _ _ h => h) (Or.inl ⟨by rfl, by intro W hSw; go_simp⟩) hHeld ?_
  try simp only [Act.put, List.setIfInBounds_toArray, List.set_cons_zero, List.set_cons_succ]
  refine wpAnyH_take (i := 19) (oi := { dst := some 2, op := Op.assign (Operand.tmp 27), type := 26, pos := "head.go:46", after := #[{ on := 17, ground := Ground.data }, { on := 16, ground := Ground.chain }, { on := 0, ground := Ground.phase }, { on := 1, ground := Ground.phase }, { on := 2, ground := Ground.phase }, { on := 3, ground := Ground.phase }, { on := 4, ground := Ground.phase }, { on := 5, ground := Ground.phase }, { on := 6, ground := Ground.phase }, { on := 7, ground := Ground.phase }, { on := 8, ground := Ground.phase }, { on := 9, ground := Ground.phase }, { on := 10, ground := Ground.phase }, { on := 11, ground := Ground.phase }, { on := 12, ground := Ground.phase }, { on := 13, ground := Ground.phase }, { on := 14, ground := Ground.phase }, { on := 15, ground := Ground.phase }, { on := 16, ground := Ground.phase }, { on := 17, ground := Ground.phase }, { on := 18, ground := Ground.phase }], guard := none }) (v := .slice a16 l.length c16) rfl (by kernel_rfl) (by kernel_rfl) (by kernel_rfl) (fun _ _ _ h => h) (Or.inl ⟨by rfl, by intro W hSw; go_simp⟩) hHeld ?_
  try simp only [Act.put, List.setIfInBounds_toArray, List.set_cons_zero, List.set_cons_succ]
  refine wpAnyH_take (i := 20) (oi := { dst := some 3, op := Op.assign (Operand.tmp 28), type := 27, pos := "head.go:46", after := #[{ on := 18, ground := Ground.data }, { on := 19, ground := Ground.chain }, { on := 0, ground := Ground.phase }, { on := 1, ground := Ground.phase }, { on := 2, ground := Ground.phase }, { on := 3, ground := Ground.phase }, { on := 4, ground := Ground.phase }, { on := 5, ground := Ground.phase }, { on := 6, ground := Ground.phase }, { on := 7, ground := Ground.phase }, { on := 8, ground := Ground.phase }, { on := 9, ground := Ground.phase }, { on := 10, ground := Ground.phase }, { on := 11, ground := Ground.phase }, { on := 12, ground := Ground.phase }, { on := 13, ground := Ground.phase }, { on := 14, ground := Ground.phase }, { on := 15, ground := Ground.phase }, { on := 16, ground := Ground.phase }, { on := 17, ground := Ground.phase }, { on := 18, ground := Ground.phase }, { on := 19, ground := Ground.phase }], guard := none }) (v := .int .i64 0) rfl (by kernel_rfl) (by kernel_rfl) (by kernel_rfl) (fun _ _ _ h => h) (Or.inl ⟨by rfl, by intro W hSw; go_simp⟩) hHeld ?_
  try simp only [Act.put, List.setIfInBounds_toArray, List.set_cons_zero, List.set_cons_succ]
  refine wpAnyH_done (by kernel_rfl) ?_ _
  go_wp2
  go_ret2
  exact ⟨⟨_, _, rfl, HRD.out⟩, HBF.out⟩
theorem hPut_any (h : HdT) (hd : h.d.length = 32) (w : World) (C : Array Value) (HC : Hid (C = (hcells h).toArray)) :
    Calls Try.prog 4 #[.agg C] w fun e w' => BytesE (putB h) (putE h) e w' ∧ Below w.heap.size w w' := by
  unfold putB putE
  cases hr : rightH h
  · exact hPut_no h hd hr w C HC
  · exact hPut_yes h hd hr w C HC
end Go.Proofs.Ytdnhnjimhbbabaa

/- What the calls of package head answer, all together. -/
namespace Go.Proofs.Ytdnhnjimhbbabaa
open Go.RowKit Sums Nums
set_option linter.unusedVariables false
/-- What the calls of package head answer. -/
theorem headC : HeadC where
  check := fun h hh w C HC => hCheck_any h hh.d w C HC
  put := fun h hh w C HC => hPut_any h hh.d w C HC
  get := fun a len cap bs w hR hl R HR => hGet_any a len cap bs w hR (by omega) R HR
end Go.Proofs.Ytdnhnjimhbbabaa
