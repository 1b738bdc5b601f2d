/- Texts of our own that the row of EntryItems leans on, part 20. -/
import Derived.Test.YtgkfodmccfnaoaaDoorEntryItemsJ15
import Derived.Test.YtgkfodmccfnaoaaDoorEntryItemsJ17
import Derived.Test.YtgkfodmccfnaoaaDoorEntryItemsJ18
import Derived.Test.YtgkfodmccfnaoaaDoorEntryItemsJ19
import Derived.Lib.BufferWrite

/- What the document's Verify and Parts answer. -/
namespace Go.Proofs.YtgkfodmccfnaoaaDoor
open Go.RowKit Sums Nums
set_option linter.unusedVariables false
set_option linter.unusedSimpArgs false
set_option maxRecDepth 100000

end Go.Proofs.YtgkfodmccfnaoaaDoor

/- What the document's Parts answers. -/
namespace Go.Proofs.YtgkfodmccfnaoaaDoor
open Go.RowKit Sums Nums
set_option linter.unusedVariables false
set_option linter.unusedSimpArgs false
set_option maxRecDepth 100000

end Go.Proofs.YtgkfodmccfnaoaaDoor

/- What the document's Get answers. -/
namespace Go.Proofs.YtgkfodmccfnaoaaDoor
open Go.RowKit Sums Nums
set_option linter.unusedVariables false
set_option linter.unusedSimpArgs false
set_option maxRecDepth 100000
def getHO (bs : List UInt8) : HdT := (getO bs).getD zeroH
def getHE (bs : List UInt8) : Int := if (getO bs).isSome then 0 else 70
theorem getHO_digs (bs : List UInt8) : (getHO bs).d.length = 32 := by
  unfold getHO
  cases h : getO bs with
  | none => rfl
  | some x => exact (getO_some h).2.1
end Go.Proofs.YtgkfodmccfnaoaaDoor

/- What the document's GetSigned answers. -/
namespace Go.Proofs.YtgkfodmccfnaoaaDoor
open Go.RowKit Sums Nums
set_option linter.unusedVariables false
set_option linter.unusedSimpArgs false
set_option maxRecDepth 100000
/-- '[]byte(s)': a new row that reads s. -/
theorem wpList_conv_text {P : Program} {ops : Array Oper} {rest : List Oper} {o : Oper} {a : Act} {w : World} {Q : Exit → Act → World → Prop} (hg : o.guard = none) (src dst e : TypeId) (x : Operand) (ho : o.op = .convert src dst x)
    (s : ByteArray) (hx : a.eval x = .string s) (hs : P.underlying src = some .string) (hd : P.underlying dst = some (.slice e)) (he : P.underlying e = some (.int .u8)) (hl : s.size ≤ maxLen)
    (h : ∀ b c w', Hid (Reads w' (some b) s.size c s.data.toList ∧ Below w.heap.size w w') → wpList P ops Q rest (a.put o.dst (.slice (some b) s.size c)) w') : wpList P ops Q (o :: rest) a w := by
  refine wpList_plain hg fun K hK => ?_
  have hr := run_bytes_of_string (P := P) w src dst e s hs hd he
  obtain ⟨c, hc⟩ : ∃ c, grownCap w s.size 0 e = c := ⟨_, rfl⟩
  have h1 : s.size ≤ c := by rw [← hc]; exact grownCap_ge w s.size 0 e
  have h2 : c ≤ maxLen := by rw [← hc]; exact grownCap_le_maxLen w s.size 0 e hl
  rw [hc] at hr
  obtain ⟨C, hC⟩ : ∃ C, bytesRow s c = C := ⟨_, rfl⟩
  rw [hC] at hr
  have hB : Below w.heap.size w (w.drew.alloc (.cells C e (C.size, C.size + 1))) := (Below.refl _ _).drew.alloc (Nat.le_refl _) _
  have hR : Reads (w.drew.alloc (.cells C e (C.size, C.size + 1))) (some ⟨w.heap.size, 0, none⟩) s.size c s.data.toList := by
    refine ⟨Array.length_toList, h1, by unfold maxLen at h2; omega, .inr (.inr ⟨w.heap.size, 0, rfl, ?_, fun i hi => ?_⟩)⟩
    · show w.heap.size < (w.heap.push _).size
      simp
    · have hn : (w.drew.alloc (.cells C e (C.size, C.size + 1))).heap[w.heap.size]? = some (.cells C e (C.size, C.size + 1)) := by
        show (w.heap.push _)[w.heap.size]? = _
        simp
      have hi' : i < s.data.size := by simpa using hi
      simp only [World.cell?, hn, Nat.zero_add]
      rw [← hC]
      unfold bytesRow
      rw [Array.getElem?_append_left (by simpa using hi')]
      simp
      exact ⟨s.data[i], Array.getElem?_eq_getElem hi', rfl⟩
  have hk := hK _ _ (h _ _ _ ⟨hR, hB⟩)
  unfold Oper.wp execOp
  simp only [ho]
  simp [hx, hr]
  exact hk
def getSO (bs : List UInt8) : SgT := (getS bs).getD zeroS
def getSE (bs : List UInt8) : Int := if (getS bs).isSome then 0 else 70
end Go.Proofs.YtgkfodmccfnaoaaDoor

/- Heads and signed heads held against each other by == and !=. -/
namespace Go.Proofs.YtgkfodmccfnaoaaDoor
open Go.RowKit Sums Nums
set_option linter.unusedVariables false
set_option linter.unusedSimpArgs false
set_option maxRecDepth 100000
theorem sizeOfDD (w : World) : (sizeOf 24).run Tryd.prog w = .ok 32 w := by
  cases hq : Tryd.prog.info? 24 with
  | none => have := size23; simp [hq] at this
  | some i => have := size23; simp [hq] at this; simp [sizeOf, typeInfo, hq, this]
theorem sizeOfHH (w : World) : (sizeOf 26).run Tryd.prog w = .ok 36 w := by
  cases hq : Tryd.prog.info? 26 with
  | none => have := sizeH; simp [hq] at this
  | some i => have := sizeH; simp [hq] at this; simp [sizeOf, typeInfo, hq, this]
theorem cut_list (l : List Value) (off n : Nat) (m : List Value) (h : (l.drop off).take n = m) : l.toArray.extract off (off + n) = m.toArray := by
  rw [← h, List.extract_toArray, List.extract_eq_take_drop, Nat.add_sub_cancel_left]
theorem part_dig (l : List Value) (off : Nat) (m : List Value) (h : (l.drop off).take 32 = m) (w : World) : (Go.part 24 l.toArray off).run Tryd.prog w = .ok (.agg m.toArray) w := by
  have e := cut_list l off 32 m h
  simp only [Go.part, isAgg, run_underlying Tryd.underlying24, sizeOfDD, Sem.run_bind, Sem.run_pure, Result.andThen_ok, if_true, e]
theorem part_head (l : List Value) (off : Nat) (m : List Value) (h : (l.drop off).take 36 = m) (w : World) : (Go.part 26 l.toArray off).run Tryd.prog w = .ok (.agg m.toArray) w := by
  have e := cut_list l off 36 m h
  simp only [Go.part, isAgg, run_underlying Tryd.underlying26, sizeOfHH, Sem.run_bind, Sem.run_pure, Result.andThen_ok, if_true, e]
theorem part_int (l : List Value) (off : Nat) (v : Value) (h : l[off]? = some v) (w : World) : (Go.part 3 l.toArray off).run Tryd.prog w = .ok v w := by
  simp [Go.part, isAgg, run_underlying Tryd.underlying3, h]
theorem heldH : Tryd.prog.stoodInHeld 26 = false := by kernel_rfl
theorem heldS : Tryd.prog.stoodInHeld 28 = false := by kernel_rfl
theorem hcells_d (h : HdT) (hd : h.d.length = 32) : ((hcells h).drop 3).take 32 = cellsOf h.d := by
  show (cellsOf h.d ++ [Value.int .i64 h.t]).take 32 = _
  rw [List.take_left' (by rw [cellsOf_length, hd])]
theorem hcells_t (h : HdT) (hd : h.d.length = 32) : (hcells h)[35]? = some (.int .i64 h.t) := by
  unfold hcells
  rw [List.getElem?_append_right (by simp [cellsOf_length, hd])]
  simp [cellsOf_length, hd]
theorem scells_h (s : SgT) (hd : s.h.d.length = 32) : ((scells s).drop 0).take 36 = hcells s.h := by
  unfold scells
  rw [List.drop_zero, List.append_assoc, List.take_left' (hcells_length _ hd)]
theorem scells_n (s : SgT) (hd : s.h.d.length = 32) : (scells s)[36]? = some (.int .i64 s.n) := by
  unfold scells
  rw [List.append_assoc, List.getElem?_append_right (by rw [hcells_length _ hd]; omega), hcells_length _ hd]
  rfl
theorem scells_g (s : SgT) (hd : s.h.d.length = 32) (hg : s.g.length = 32) : ((scells s).drop 37).take 32 = cellsOf s.g := by
  unfold scells
  rw [List.drop_left' (by simp [hcells_length _ hd]), List.take_of_length_le (by rw [cellsOf_length, hg]; omega)]
theorem equalHead (d : Nat) (a b : HdT) (ha : a.d.length = 32) (hb : b.d.length = 32) (x : Bool) (hx : x = true ↔ a = b) (w : World) : (Op.equalIn (d + 4) 26 (.agg (hcells a).toArray) (.agg (hcells b).toArray)).run Tryd.prog w = .ok x w := by
  have hf : Tryd.prog.fieldsOf 26 = #[{ name := "Region", type := 3, offset := 0, embedded := false, tag := "", pkgPath := "", byteOffset := 0 }, { name := "Epoch", type := 3, offset := 1, embedded := false, tag := "", pkgPath := "", byteOffset := 8 }, { name := "Size", type := 3, offset := 2, embedded := false, tag := "", pkgPath := "", byteOffset := 16 }, { name := "Root", type := 24, offset := 3, embedded := false, tag := "", pkgPath := "", byteOffset := 24 }, { name := "Tick", type := 3, offset := 35, embedded := false, tag := "", pkgPath := "", byteOffset := 56 }] := by
    unfold Program.fieldsOf; rw [Tryd.underlying26]
  have p0 := fun (h : HdT) W => part_int (hcells h) 0 (.int .i64 h.r) rfl W
  have p1 := fun (h : HdT) W => part_int (hcells h) 1 (.int .i64 h.e) rfl W
  have p2 := fun (h : HdT) W => part_int (hcells h) 2 (.int .i64 h.s) rfl W
  have p3a := fun W => part_dig (hcells a) 3 _ (hcells_d a ha) W
  have p3b := fun W => part_dig (hcells b) 3 _ (hcells_d b hb) W
  have p4a := fun W => part_int (hcells a) 35 _ (hcells_t a ha) W
  have p4b := fun W => part_int (hcells b) 35 _ (hcells_t b hb) W
  have ei := fun (x y : Int) W => run_equalIn_int (P := Tryd.prog) W (d + 2) 3 .i64 .i64 x y Tryd.underlying3
  have ed : ∀ W, (Op.equalIn (d + 3) 24 (.agg (cellsOf a.d).toArray) (.agg (cellsOf b.d).toArray)).run Tryd.prog W = .ok (a.d == b.d) W := fun W => run_equalIn_bytes (P := Tryd.prog) W (d + 1) 24 5 32 Tryd.underlying24 Tryd.underlying5 sizeOf5 a.d b.d ha hb
  rw [run_equalIn_struct w (d + 3) 26 _ _ (by rw [hf]; exact Tryd.underlying26) heldH, hf]
  obtain ⟨b0, h0⟩ : ∃ x, (a.r == b.r) = x := ⟨_, rfl⟩
  obtain ⟨b1, h1⟩ : ∃ x, (a.e == b.e) = x := ⟨_, rfl⟩
  obtain ⟨b2, h2⟩ : ∃ x, (a.s == b.s) = x := ⟨_, rfl⟩
  obtain ⟨b3, h3⟩ : ∃ x, (a.d == b.d) = x := ⟨_, rfl⟩
  obtain ⟨b4, h4⟩ : ∃ x, (a.t == b.t) = x := ⟨_, rfl⟩
  have hq : x = (b0 && b1 && b2 && b3 && b4) := by
    rw [← h0, ← h1, ← h2, ← h3, ← h4, Bool.eq_iff_iff]
    rw [hx]
    simp only [Bool.and_eq_true, beq_iff_eq]
    constructor
    · rintro rfl; simp
    · rintro ⟨⟨⟨⟨e0, e1⟩, e2⟩, e3⟩, e4⟩
      cases a; cases b
      simp only at e0 e1 e2 e3 e4
      rw [e0, e1, e2, e3, e4]
  have x0 := ei a.r b.r
  have x1 := ei a.e b.e
  have x2 := ei a.s b.s
  have x4 := ei a.t b.t
  rw [h0] at x0
  rw [h1] at x1
  rw [h2] at x2
  rw [h3] at ed
  rw [h4] at x4
  rw [hq]
  obtain ⟨A, hA⟩ : ∃ A, (hcells a).toArray = A := ⟨_, rfl⟩
  obtain ⟨B, hB⟩ : ∃ B, (hcells b).toArray = B := ⟨_, rfl⟩
  have p0a := p0 a
  have p0b := p0 b
  have p1a := p1 a
  have p1b := p1 b
  have p2a := p2 a
  have p2b := p2 b
  rw [hA] at p0a p1a p2a p3a p4a
  rw [hB] at p0b p1b p2b p3b p4b
  rw [hA, hB]
  obtain ⟨DA, hDA⟩ : ∃ D, (cellsOf a.d).toArray = D := ⟨_, rfl⟩
  obtain ⟨DB, hDB⟩ : ∃ D, (cellsOf b.d).toArray = D := ⟨_, rfl⟩
  rw [hDA] at p3a ed
  rw [hDB] at p3b ed
  simp [Op.eqFields, p0a, p0b, p1a, p1b, p2a, p2b, p3a, p3b, p4a, p4b, x0, x1, x2, x4, ed]
  cases b0 <;> cases b1 <;> cases b2 <;> cases b3 <;> cases b4 <;> simp
theorem equalSigned (d : Nat) (a b : SgT) (ha : a.h.d.length = 32) (hb : b.h.d.length = 32) (ga : a.g.length = 32) (gb : b.g.length = 32) (x : Bool) (hx : x = true ↔ a = b) (w : World) : (Op.equalIn (d + 5) 28 (.agg (scells a).toArray) (.agg (scells b).toArray)).run Tryd.prog w = .ok x w := by
  have hf : Tryd.prog.fieldsOf 28 = #[{ name := "Head", type := 26, offset := 0, embedded := false, tag := "", pkgPath := "", byteOffset := 0 }, { name := "Node", type := 3, offset := 36, embedded := false, tag := "", pkgPath := "", byteOffset := 64 }, { name := "Tag", type := 24, offset := 37, embedded := false, tag := "", pkgPath := "", byteOffset := 72 }] := by
    unfold Program.fieldsOf; rw [Tryd.underlying28]
  obtain ⟨b0, hb0⟩ : ∃ x : Bool, x = true ↔ a.h = b.h := by
    by_cases h : a.h = b.h
    · exact ⟨true, by simp [h]⟩
    · exact ⟨false, by simp [h]⟩
  have p0a := fun W => part_head (scells a) 0 _ (scells_h a ha) W
  have p0b := fun W => part_head (scells b) 0 _ (scells_h b hb) W
  have p1a := fun W => part_int (scells a) 36 _ (scells_n a ha) W
  have p1b := fun W => part_int (scells b) 36 _ (scells_n b hb) W
  have p2a := fun W => part_dig (scells a) 37 _ (scells_g a ha ga) W
  have p2b := fun W => part_dig (scells b) 37 _ (scells_g b hb gb) W
  have x0 : ∀ W, (Op.equalIn (d + 4) 26 (.agg (hcells a.h).toArray) (.agg (hcells b.h).toArray)).run Tryd.prog W = .ok b0 W := fun W => equalHead d a.h b.h ha hb b0 hb0 W
  have x1 := fun W => run_equalIn_int (P := Tryd.prog) W (d + 3) 3 .i64 .i64 a.n b.n Tryd.underlying3
  have x2 : ∀ W, (Op.equalIn (d + 4) 24 (.agg (cellsOf a.g).toArray) (.agg (cellsOf b.g).toArray)).run Tryd.prog W = .ok (a.g == b.g) W := fun W => run_equalIn_bytes (P := Tryd.prog) W (d + 2) 24 5 32 Tryd.underlying24 Tryd.underlying5 sizeOf5 a.g b.g ga gb
  rw [run_equalIn_struct w (d + 4) 28 _ _ (by rw [hf]; exact Tryd.underlying28) heldS, hf]
  obtain ⟨b1, h1⟩ : ∃ x, (a.n == b.n) = x := ⟨_, rfl⟩
  obtain ⟨b2, h2⟩ : ∃ x, (a.g == b.g) = x := ⟨_, rfl⟩
  have hq : x = (b0 && b1 && b2) := by
    rw [← h1, ← h2, Bool.eq_iff_iff]
    rw [hx]
    simp only [Bool.and_eq_true, beq_iff_eq, hb0]
    constructor
    · rintro rfl; simp
    · rintro ⟨⟨e0, e1⟩, e2⟩
      cases a; cases b
      simp only at e0 e1 e2
      rw [e0, e1, e2]
  rw [h1] at x1
  rw [h2] at x2
  rw [hq]
  obtain ⟨A, hA⟩ : ∃ A, (scells a).toArray = A := ⟨_, rfl⟩
  obtain ⟨B, hB⟩ : ∃ B, (scells b).toArray = B := ⟨_, rfl⟩
  rw [hA] at p0a p1a p2a
  rw [hB] at p0b p1b p2b
  rw [hA, hB]
  obtain ⟨DA, hDA⟩ : ∃ D, (cellsOf a.g).toArray = D := ⟨_, rfl⟩
  obtain ⟨DB, hDB⟩ : ∃ D, (cellsOf b.g).toArray = D := ⟨_, rfl⟩
  rw [hDA] at p2a x2
  rw [hDB] at p2b x2
  obtain ⟨EA, hEA⟩ : ∃ D, (hcells a.h).toArray = D := ⟨_, rfl⟩
  obtain ⟨EB, hEB⟩ : ∃ D, (hcells b.h).toArray = D := ⟨_, rfl⟩
  rw [hEA] at p0a x0
  rw [hEB] at p0b x0
  simp [Op.eqFields, p0a, p0b, p1a, p1b, p2a, p2b, x0, x1, x2]
  cases b0 <;> cases b1 <;> cases b2 <;> simp
theorem eqSigned (a b : SgT) (ha : a.h.d.length = 32) (hb : b.h.d.length = 32) (ga : a.g.length = 32) (gb : b.g.length = 32) (A B : Array Value) (HA : Hid (A = (scells a).toArray)) (HB : Hid (B = (scells b).toArray)) (x : Bool) (hx : x = true ↔ a = b) (w : World) : (binOp .eql 28 (.agg A) (.agg B)).run Tryd.prog w = .ok (.bool x) w := by
  rw [run_eql_struct, HA.out, HB.out, show (10000 : Nat) = 9995 + 5 from rfl, equalSigned 9995 a b ha hb ga gb x hx]; rfl
end Go.Proofs.YtgkfodmccfnaoaaDoor

/- What the calls of package head answer, as the document says (their proofs are of one commit of the code). -/
namespace Go.Proofs.YtgkfodmccfnaoaaDoor
open Go.RowKit Sums Nums
set_option linter.unusedVariables false
set_option linter.unusedSimpArgs false
set_option maxRecDepth 100000
/-- The tables that head reads. -/
def TabH (w : World) : Prop := Table 0 w
theorem TabH.keep {w w' : World} (h : TabH w) (hb : Below w.heap.size w w') : TabH w' := Table.keep h hb
def In64 (z : Int) : Prop := -9223372036854775808 ≤ z ∧ z ≤ 9223372036854775807
/-- A head that lies in a variable. -/
structure InH (h : HdT) : Prop where
  d : h.d.length = 32
  r : In64 h.r
  e : In64 h.e
  s : In64 h.s
  t : In64 h.t
structure InS (s : SgT) : Prop where
  h : InH s.h
  n : In64 s.n
  g : s.g.length = 32
/-- A row of bytes and an error. -/
def BytesE (bs : List UInt8) (E : Int) (e : Ending) (w' : World) : Prop := ∃ a cap, e = .returned (.tuple #[.slice a bs.length cap, .int .i64 E]) ∧ Reads w' a bs.length cap bs
def putB (h : HdT) : List UInt8 := if rightH h = true then headB h else []
def putE (h : HdT) : Int := if rightH h = true then 0 else 70
def putSB (s : SgT) : List UInt8 := if mayS s = true then signB s else []
def putSE (s : SgT) : Int := if mayS s = true then 0 else 70
theorem right_in {h : HdT} (hr : rightH h = true) (hd : h.d.length = 32) : InH h := by
  have := (rightH_iff h).1 hr
  refine ⟨hd, ?_, ?_, ?_, ?_⟩ <;> unfold In64 <;> omega
theorem zero_in : InH zeroH := ⟨rfl, by unfold In64; decide, by unfold In64; decide, by unfold In64; decide, by unfold In64; decide⟩
theorem may_in {s : SgT} (hm : mayS s = true) (hd : s.h.d.length = 32) (hg : s.g.length = 32) : InS s := by
  have := (mayS_iff s).1 hm
  exact ⟨right_in this.1 hd, by unfold In64; omega, hg⟩
theorem zeroS_in : InS zeroS := ⟨zero_in, by unfold In64; decide, rfl⟩
theorem getSO_in (bs : List UInt8) : InS (getSO bs) := by
  unfold getSO
  cases h : Go.Proofs.YtgkfodmccfnaoaaDoor.getS bs with
  | none => exact zeroS_in
  | some x => exact may_in (getS_some h).1 (getS_some h).2.1 (getS_some h).2.2.1
end Go.Proofs.YtgkfodmccfnaoaaDoor

/- Claims, entries and items as bytes, as the document defines them. -/
namespace Go.Proofs.YtgkfodmccfnaoaaDoor
open Nums Sums
set_option linter.unusedVariables false
set_option maxRecDepth 100000
/-! Claims. -/
structure ClT where
  r : Int
  e : Int
  n : Int
  s : Int
  d : List UInt8
def zeroC : ClT := ⟨0, 0, 0, 0, List.replicate 32 0⟩
/-! Are two the same? -/
def eqHB (a b : HdT) : Bool := decide (a.r = b.r) && decide (a.e = b.e) && decide (a.s = b.s) && decide (a.d = b.d) && decide (a.t = b.t)
theorem eqHB_iff (a b : HdT) : eqHB a b = true ↔ a = b := by
  cases a; cases b
  unfold eqHB
  simp only [Bool.and_eq_true, decide_eq_true_eq, HdT.mk.injEq]
  constructor
  · rintro ⟨⟨⟨⟨h1, h2⟩, h3⟩, h4⟩, h5⟩; exact ⟨h1, h2, h3, h4, h5⟩
  · rintro ⟨h1, h2, h3, h4, h5⟩; exact ⟨⟨⟨⟨h1, h2⟩, h3⟩, h4⟩, h5⟩
def eqSB (a b : SgT) : Bool := eqHB a.h b.h && decide (a.n = b.n) && decide (a.g = b.g)
theorem eqSB_iff (a b : SgT) : eqSB a b = true ↔ a = b := by
  cases a; cases b
  unfold eqSB
  simp only [Bool.and_eq_true, decide_eq_true_eq, SgT.mk.injEq, eqHB_iff]
  constructor
  · rintro ⟨⟨h1, h2⟩, h3⟩; exact ⟨h1, h2, h3⟩
  · rintro ⟨h1, h2, h3⟩; exact ⟨⟨h1, h2⟩, h3⟩
def eqCB (a b : ClT) : Bool := decide (a.r = b.r) && decide (a.e = b.e) && decide (a.n = b.n) && decide (a.s = b.s) && decide (a.d = b.d)
theorem eqCB_iff (a b : ClT) : eqCB a b = true ↔ a = b := by
  cases a; cases b
  unfold eqCB
  simp only [Bool.and_eq_true, decide_eq_true_eq, ClT.mk.injEq]
  constructor
  · rintro ⟨⟨⟨⟨h1, h2⟩, h3⟩, h4⟩, h5⟩; exact ⟨h1, h2, h3, h4, h5⟩
  · rintro ⟨h1, h2, h3, h4, h5⟩; exact ⟨⟨⟨⟨h1, h2⟩, h3⟩, h4⟩, h5⟩
/-- Is a claim right? -/
def rightC (c : ClT) : Bool := decide (1 ≤ c.r) && decide (c.r ≤ 5) && decide (1 ≤ c.e) && decide (c.e ≤ 900000000) && decide (1 ≤ c.n) && decide (c.n ≤ 3) && decide (0 ≤ c.s) && decide (c.s ≤ 100000)
theorem rightC_iff (c : ClT) : rightC c = true ↔ (1 ≤ c.r ∧ c.r ≤ 5 ∧ 1 ≤ c.e ∧ c.e ≤ 900000000 ∧ 1 ≤ c.n ∧ c.n ≤ 3 ∧ 0 ≤ c.s ∧ c.s ≤ 100000) := by
  unfold rightC
  simp only [Bool.and_eq_true, decide_eq_true_eq]
  omega
def cL (c : ClT) : List ByteArray := [nOf c.r, nOf c.e, nOf c.n, nOf c.s, bA c.d]
/-- A right claim's bytes. -/
def claimB (c : ClT) : List UInt8 := rowB (fieldsN (cL c))
theorem layE_cL (c : ClT) (hd : c.d.length = 32) : layE 0 (fieldsN (cL c)) = 0 := by
  have e : fieldsN (cL c) = [(1, nOf c.r), (2, nOf c.e), (3, nOf c.n), (4, nOf c.s), (5, bA c.d)] := rfl
  have b1 := nOf_size c.r
  have b2 := nOf_size c.e
  have b3 := nOf_size c.n
  have b4 := nOf_size c.s
  have b5 : (bA c.d).size = 32 := by rw [bA_size]; exact hd
  rw [e]
  simp only [layE]
  rw [if_pos (fault_none _ _ _ (by omega) (by omega)), if_pos (fault_none _ _ _ (by omega) (by omega)), if_pos (fault_none _ _ _ (by omega) (by omega)), if_pos (fault_none _ _ _ (by omega) (by omega)), if_pos (fault_none _ _ _ (by omega) (by omega))]
def claimOf (x1 x2 x3 x4 x5 : ByteArray) : ClT := ⟨valO x1.data.toList, valO x2.data.toList, valO x3.data.toList, valO x4.data.toList, x5.data.toList⟩
/-- The right claim whose bytes these are. -/
def getC (bs : List UInt8) : Option ClT :=
  match partsO bs 5 with
  | some [x1, x2, x3, x4, x5] => if x5.size = 32 ∧ rightC (claimOf x1 x2 x3 x4 x5) = true then some (claimOf x1 x2 x3 x4 x5) else none
  | _ => none
theorem claimOf_cL (c : ClT) (hr : rightC c = true) : claimOf (nOf c.r) (nOf c.e) (nOf c.n) (nOf c.s) (bA c.d) = c := by
  have hb := (rightC_iff c).1 hr
  unfold claimOf
  rw [valO_nOf c.r (by omega), valO_nOf c.e (by omega), valO_nOf c.n (by omega), valO_nOf c.s (by omega), bA_list]
theorem getC_claim (c : ClT) (hr : rightC c = true) (hd : c.d.length = 32) : getC (claimB c) = some c := by
  unfold getC claimB
  have hp : partsO (rowB (fieldsN (cL c))) 5 = some (cL c) := parts_row (cL c) (layE_cL c hd)
  rw [hp]
  show (if (bA c.d).size = 32 ∧ rightC (claimOf (nOf c.r) (nOf c.e) (nOf c.n) (nOf c.s) (bA c.d)) = true then some (claimOf (nOf c.r) (nOf c.e) (nOf c.n) (nOf c.s) (bA c.d)) else none) = some c
  rw [claimOf_cL c hr, if_pos ⟨by rw [bA_size]; exact hd, hr⟩]
theorem getC_some {bs : List UInt8} {c : ClT} (hg : getC bs = some c) : rightC c = true ∧ c.d.length = 32 ∧ claimB c = bs := by
  unfold getC at hg
  split at hg
  · rename_i x1 x2 x3 x4 x5 hp
    split at hg
    · rename_i hh
      have he : claimOf x1 x2 x3 x4 x5 = c := Option.some.inj hg
      obtain ⟨_, hl, hr⟩ := row_parts hp
      have hb := (rightC_iff _).1 hh.2
      have hL5 : cL c = [x1, x2, x3, x4, x5] := by
        rw [← he]
        unfold claimOf at hb
        show [nOf (valO x1.data.toList), nOf (valO x2.data.toList), nOf (valO x3.data.toList), nOf (valO x4.data.toList), bA x5.data.toList] = _
        simp only at hb
        rw [nOf_back x1 (by omega), nOf_back x2 (by omega), nOf_back x3 (by omega), nOf_back x4 (by omega), bA_of]
      refine ⟨by rw [← he]; exact hh.2, ?_, ?_⟩
      · rw [← he]; exact hh.1
      · unfold claimB; rw [hL5]; exact hr
    · cases hg
  · cases hg
theorem claimB_length (c : ClT) (hd : c.d.length = 32) : (claimB c).length ≤ 84 := by
  have b1 := nOf_size c.r
  have b2 := nOf_size c.e
  have b3 := nOf_size c.n
  have b4 := nOf_size c.s
  have b5 : (bA c.d).size = 32 := by rw [bA_size]; exact hd
  unfold claimB
  rw [rowB_length]
  show 4 * 5 + ((nOf c.r).size + ((nOf c.e).size + ((nOf c.n).size + ((nOf c.s).size + ((bA c.d).size + 0))))) ≤ 84
  omega
def getCO (bs : List UInt8) : ClT := (getC bs).getD zeroC
def getCE (bs : List UInt8) : Int := if (getC bs).isSome then 0 else 60
/-! Entries. -/
structure EnT where
  k : Int
  c : Int
  s : Int
  t : ByteArray
  h : SgT
  m : ClT
def zeroE : EnT := ⟨0, 0, 0, ByteArray.empty, zeroS, zeroC⟩
theorem byte_ext {a b : ByteArray} (h : a.data.toList = b.data.toList) : a = b := by
  rw [← bA_of a, ← bA_of b, h]
theorem enT_ext {a b : EnT} (h : a.k = b.k ∧ a.c = b.c ∧ a.s = b.s ∧ a.t.data.toList = b.t.data.toList ∧ a.h = b.h ∧ a.m = b.m) : a = b := by
  obtain ⟨h1, h2, h3, h4, h5, h6⟩ := h
  cases a; cases b
  simp only at h1 h2 h3 h4 h5 h6
  rw [h1, h2, h3, byte_ext h4, h5, h6]
theorem empty_of {t : ByteArray} (h : t.size = 0) : t = ByteArray.empty := by
  apply byte_ext
  have : t.data.toList.length = 0 := h
  rw [List.eq_nil_of_length_eq_zero this]
  rfl
/-- Is an entry right? -/
def rightE (x : EnT) : Bool :=
  if x.k = 1 then decide (1 ≤ x.c ∧ x.c ≤ 3 ∧ 1 ≤ x.s ∧ x.s ≤ 1000000 ∧ x.t.size ≤ 200) && eqSB x.h zeroS && eqCB x.m zeroC
  else if x.k = 2 then decide (x.c = 0 ∧ x.s = 0 ∧ x.t.size = 0) && mayS x.h && eqCB x.m zeroC
  else if x.k = 3 then decide (x.c = 0 ∧ x.s = 0 ∧ x.t.size = 0) && eqSB x.h zeroS && rightC x.m
  else false
/-- The digests in it have 32 bytes. -/
structure OkE (x : EnT) : Prop where
  h : x.h.h.d.length = 32
  g : x.h.g.length = 32
  m : x.m.d.length = 32
def fieldsE (x : EnT) : List (Int × ByteArray) :=
  (1, nOf x.k) :: (if x.k = 1 then [(2, nOf x.c), (3, nOf x.s), (4, x.t)] else if x.k = 2 then [(5, bA (signB x.h))] else if x.k = 3 then [(6, bA (claimB x.m))] else [])
/-- A right entry's bytes. -/
def entryB (x : EnT) : List UInt8 := rowB (fieldsE x)
theorem right_kinds {x : EnT} (h : rightE x = true) :
    (x.k = 1 ∧ 1 ≤ x.c ∧ x.c ≤ 3 ∧ 1 ≤ x.s ∧ x.s ≤ 1000000 ∧ x.t.size ≤ 200 ∧ x.h = zeroS ∧ x.m = zeroC) ∨ (x.k = 2 ∧ x.c = 0 ∧ x.s = 0 ∧ x.t.size = 0 ∧ mayS x.h = true ∧ x.m = zeroC) ∨ (x.k = 3 ∧ x.c = 0 ∧ x.s = 0 ∧ x.t.size = 0 ∧ x.h = zeroS ∧ rightC x.m = true) := by
  unfold rightE at h
  by_cases h1 : x.k = 1
  · rw [if_pos h1] at h
    simp only [Bool.and_eq_true, decide_eq_true_eq, eqSB_iff, eqCB_iff] at h
    exact .inl ⟨h1, h.1.1.1, h.1.1.2.1, h.1.1.2.2.1, h.1.1.2.2.2.1, h.1.1.2.2.2.2, h.1.2, h.2⟩
  · rw [if_neg h1] at h
    by_cases h2 : x.k = 2
    · rw [if_pos h2] at h
      simp only [Bool.and_eq_true, decide_eq_true_eq, eqCB_iff] at h
      exact .inr (.inl ⟨h2, h.1.1.1, h.1.1.2.1, h.1.1.2.2, h.1.2, h.2⟩)
    · rw [if_neg h2] at h
      by_cases h3 : x.k = 3
      · rw [if_pos h3] at h
        simp only [Bool.and_eq_true, decide_eq_true_eq, eqSB_iff] at h
        exact .inr (.inr ⟨h3, h.1.1.1, h.1.1.2.1, h.1.1.2.2, h.1.2, h.2⟩)
      · rw [if_neg h3] at h
        cases h
theorem fields_user {x : EnT} (h : x.k = 1) : fieldsE x = [(1, nOf 1), (2, nOf x.c), (3, nOf x.s), (4, x.t)] := by unfold fieldsE; rw [if_pos h, h]
theorem fields_anchor {x : EnT} (h : x.k = 2) : fieldsE x = [(1, nOf 2), (5, bA (signB x.h))] := by unfold fieldsE; rw [if_neg (by omega), if_pos h, h]
theorem fields_claim {x : EnT} (h : x.k = 3) : fieldsE x = [(1, nOf 3), (6, bA (claimB x.m))] := by unfold fieldsE; rw [if_neg (by omega), if_neg (by omega), if_pos h, h]
theorem layE_entry {x : EnT} (h : rightE x = true) (ok : OkE x) : layE 0 (fieldsE x) = 0 := by
  rcases right_kinds h with ⟨hk, h1⟩ | ⟨hk, h1⟩ | ⟨hk, h1⟩
  · have b1 := nOf_size 1
    have b2 := nOf_size x.c
    have b3 := nOf_size x.s
    rw [fields_user hk]
    simp only [layE]
    rw [if_pos (fault_none _ _ _ (by omega) (by omega)), if_pos (fault_none _ _ _ (by omega) (by omega)), if_pos (fault_none _ _ _ (by omega) (by omega)), if_pos (fault_none _ _ _ (by omega) (by omega))]
  · have b1 := nOf_size 2
    have b2 : (bA (signB x.h)).size ≤ 136 := by rw [bA_size]; exact signB_length x.h ok.h ok.g
    rw [fields_anchor hk]
    simp only [layE]
    rw [if_pos (fault_none _ _ _ (by omega) (by omega)), if_pos (fault_none _ _ _ (by omega) (by omega))]
  · have b1 := nOf_size 3
    have b2 : (bA (claimB x.m)).size ≤ 84 := by rw [bA_size]; exact claimB_length x.m ok.m
    rw [fields_claim hk]
    simp only [layE]
    rw [if_pos (fault_none _ _ _ (by omega) (by omega)), if_pos (fault_none _ _ _ (by omega) (by omega))]
theorem entryB_length {x : EnT} (h : rightE x = true) (ok : OkE x) : (entryB x).length ≤ 240 := by
  unfold entryB
  rw [rowB_length]
  rcases right_kinds h with ⟨hk, h1⟩ | ⟨hk, h1⟩ | ⟨hk, h1⟩
  · have b1 := nOf_size 1
    have b2 := nOf_size x.c
    have b3 := nOf_size x.s
    rw [fields_user hk]
    show 4 * 4 + ((nOf 1).size + ((nOf x.c).size + ((nOf x.s).size + (x.t.size + 0)))) ≤ 240
    omega
  · have b1 := nOf_size 2
    have b2 : (bA (signB x.h)).size ≤ 136 := by rw [bA_size]; exact signB_length x.h ok.h ok.g
    rw [fields_anchor hk]
    show 4 * 2 + ((nOf 2).size + ((bA (signB x.h)).size + 0)) ≤ 240
    omega
  · have b1 := nOf_size 3
    have b2 : (bA (claimB x.m)).size ≤ 84 := by rw [bA_size]; exact claimB_length x.m ok.m
    rw [fields_claim hk]
    show 4 * 2 + ((nOf 3).size + ((bA (claimB x.m)).size + 0)) ≤ 240
    omega
/-- What one field says of the entry. -/
def stepE (x : EnT) (f : Int × ByteArray) : EnT :=
  if f.1 = 1 then { x with k := valO f.2.data.toList }
  else if f.1 = 2 then { x with c := valO f.2.data.toList }
  else if f.1 = 3 then { x with s := valO f.2.data.toList }
  else if f.1 = 4 then { x with t := f.2 }
  else if f.1 = 5 then { x with h := getSO f.2.data.toList }
  else if f.1 = 6 then { x with m := getCO f.2.data.toList }
  else x
def guessE (fs : List (Int × ByteArray)) : EnT := fs.foldl stepE zeroE
theorem guess_fields {x : EnT} (h : rightE x = true) (ok : OkE x) : guessE (fieldsE x) = x := by
  rcases right_kinds h with ⟨hk, c1, c2, s1, s2, ht, hh, hm⟩ | ⟨hk, hc, hs, ht, hh, hm⟩ | ⟨hk, hc, hs, ht, hh, hm⟩
  · rw [fields_user hk]
    show (⟨valO (nOf 1).data.toList, valO (nOf x.c).data.toList, valO (nOf x.s).data.toList, x.t, zeroS, zeroC⟩ : EnT) = x
    rw [valO_nOf 1 (by omega), valO_nOf x.c (by omega), valO_nOf x.s (by omega)]
    exact enT_ext ⟨hk.symm, rfl, rfl, rfl, hh.symm, hm.symm⟩
  · rw [fields_anchor hk]
    show (⟨valO (nOf 2).data.toList, 0, 0, ByteArray.empty, getSO (signB x.h), zeroC⟩ : EnT) = x
    have e : getSO (signB x.h) = x.h := by unfold getSO; rw [getS_sign x.h hh ok.h ok.g]; rfl
    rw [valO_nOf 2 (by omega), e]
    exact enT_ext ⟨hk.symm, hc.symm, hs.symm, by rw [empty_of ht], rfl, hm.symm⟩
  · rw [fields_claim hk]
    show (⟨valO (nOf 3).data.toList, 0, 0, ByteArray.empty, zeroS, getCO (claimB x.m)⟩ : EnT) = x
    have e : getCO (claimB x.m) = x.m := by unfold getCO; rw [getC_claim x.m hm ok.m]; rfl
    rw [valO_nOf 3 (by omega), e]
    exact enT_ext ⟨hk.symm, hc.symm, hs.symm, by rw [empty_of ht], hh.symm, rfl⟩
/-- The right entry whose bytes these are. -/
def getE (bs : List UInt8) : Option EnT := if readE bs = 0 ∧ rightE (guessE (readF bs)) = true ∧ entryB (guessE (readF bs)) = bs then some (guessE (readF bs)) else none
theorem getE_entry {x : EnT} (h : rightE x = true) (ok : OkE x) : getE (entryB x) = some x := by
  obtain ⟨h1, h2⟩ := read_row (layE_entry h ok)
  have e : guessE (readF (entryB x)) = x := by
    show guessE (readF (rowB (fieldsE x))) = x
    rw [h2]; exact guess_fields h ok
  unfold getE
  rw [e, if_pos ⟨h1, h, rfl⟩]
theorem getSO_ok (bs : List UInt8) : (getSO bs).h.d.length = 32 ∧ (getSO bs).g.length = 32 := by
  unfold getSO
  cases h : Go.Proofs.YtgkfodmccfnaoaaDoor.getS bs with
  | none => exact ⟨rfl, rfl⟩
  | some x => exact ⟨(getS_some h).2.1, (getS_some h).2.2.1⟩
theorem getCO_ok (bs : List UInt8) : (getCO bs).d.length = 32 := by
  unfold getCO
  cases h : getC bs with
  | none => rfl
  | some x => exact (getC_some h).2.1
theorem stepE_ok {x : EnT} (ok : OkE x) (f : Int × ByteArray) : OkE (stepE x f) := by
  unfold stepE
  by_cases h1 : f.1 = 1
  · rw [if_pos h1]; exact ⟨ok.h, ok.g, ok.m⟩
  rw [if_neg h1]
  by_cases h2 : f.1 = 2
  · rw [if_pos h2]; exact ⟨ok.h, ok.g, ok.m⟩
  rw [if_neg h2]
  by_cases h3 : f.1 = 3
  · rw [if_pos h3]; exact ⟨ok.h, ok.g, ok.m⟩
  rw [if_neg h3]
  by_cases h4 : f.1 = 4
  · rw [if_pos h4]; exact ⟨ok.h, ok.g, ok.m⟩
  rw [if_neg h4]
  by_cases h5 : f.1 = 5
  · rw [if_pos h5]; exact ⟨(getSO_ok _).1, (getSO_ok _).2, ok.m⟩
  rw [if_neg h5]
  by_cases h6 : f.1 = 6
  · rw [if_pos h6]; exact ⟨ok.h, ok.g, getCO_ok _⟩
  rw [if_neg h6]; exact ok
theorem zeroE_ok : OkE zeroE := ⟨rfl, rfl, rfl⟩
theorem foldE_ok : ∀ (fs : List (Int × ByteArray)) (x : EnT), OkE x → OkE (fs.foldl stepE x)
  | [], _, ok => ok
  | f :: r, x, ok => foldE_ok r (stepE x f) (stepE_ok ok f)
theorem guessE_ok (fs : List (Int × ByteArray)) : OkE (guessE fs) := foldE_ok fs zeroE zeroE_ok
theorem getE_some {bs : List UInt8} {x : EnT} (h : getE bs = some x) : rightE x = true ∧ OkE x ∧ entryB x = bs := by
  unfold getE at h
  split at h
  · rename_i hh
    have e := Option.some.inj h
    rw [← e]
    exact ⟨hh.2.1, guessE_ok _, hh.2.2⟩
  · cases h
def getEO (bs : List UInt8) : EnT := (getE bs).getD zeroE
def getEE (bs : List UInt8) : Int := if (getE bs).isSome then 0 else 60
/-! Items. -/
structure ItT where
  p : Int
  e : EnT
def zeroI : ItT := ⟨0, zeroE⟩
def rightI (x : ItT) : Bool := decide (1 ≤ x.p) && decide (x.p ≤ 900000000) && rightE x.e
theorem rightI_iff (x : ItT) : rightI x = true ↔ (1 ≤ x.p ∧ x.p ≤ 900000000 ∧ rightE x.e = true) := by
  unfold rightI
  simp only [Bool.and_eq_true, decide_eq_true_eq]
  constructor
  · rintro ⟨⟨a, b⟩, c⟩; exact ⟨a, b, c⟩
  · rintro ⟨a, b, c⟩; exact ⟨⟨a, b⟩, c⟩
def iL (x : ItT) : List ByteArray := [nOf x.p, bA (entryB x.e)]
def itemB (x : ItT) : List UInt8 := rowB (fieldsN (iL x))
theorem layE_iL {x : ItT} (h : rightI x = true) (ok : OkE x.e) : layE 0 (fieldsN (iL x)) = 0 := by
  have e : fieldsN (iL x) = [(1, nOf x.p), (2, bA (entryB x.e))] := rfl
  have b1 := nOf_size x.p
  have b2 : (bA (entryB x.e)).size ≤ 240 := by rw [bA_size]; exact entryB_length ((rightI_iff x).1 h).2.2 ok
  rw [e]
  simp only [layE]
  rw [if_pos (fault_none _ _ _ (by omega) (by omega)), if_pos (fault_none _ _ _ (by omega) (by omega))]
theorem itemB_length {x : ItT} (h : rightI x = true) (ok : OkE x.e) : (itemB x).length ≤ 256 := by
  have b1 := nOf_size x.p
  have b2 : (bA (entryB x.e)).size ≤ 240 := by rw [bA_size]; exact entryB_length ((rightI_iff x).1 h).2.2 ok
  unfold itemB
  rw [rowB_length]
  show 4 * 2 + ((nOf x.p).size + ((bA (entryB x.e)).size + 0)) ≤ 256
  omega
/-- The right item whose bytes these are. -/
def getI (bs : List UInt8) : Option ItT :=
  match partsO bs 2 with
  | some [x1, x2] =>
    match getE x2.data.toList with
    | some e => if rightI ⟨valO x1.data.toList, e⟩ = true then some ⟨valO x1.data.toList, e⟩ else none
    | none => none
  | _ => none
theorem getI_item {x : ItT} (h : rightI x = true) (ok : OkE x.e) : getI (itemB x) = some x := by
  obtain ⟨h1, h2, h3⟩ := (rightI_iff x).1 h
  unfold getI itemB
  have hp : partsO (rowB (fieldsN (iL x))) 2 = some (iL x) := parts_row (iL x) (layE_iL h ok)
  rw [hp]
  show (match getE (entryB x.e) with | some e => if rightI ⟨valO (nOf x.p).data.toList, e⟩ = true then some (⟨valO (nOf x.p).data.toList, e⟩ : ItT) else none | none => none) = some x
  rw [getE_entry h3 ok, valO_nOf x.p (by omega)]
  show (if rightI x = true then some x else none) = some x
  rw [if_pos h]
theorem getI_some {bs : List UInt8} {x : ItT} (hs : getI bs = some x) : rightI x = true ∧ OkE x.e ∧ itemB x = bs := by
  unfold getI at hs
  split at hs
  · rename_i x1 x2 hp
    split at hs
    · rename_i e hg
      split at hs
      · rename_i hh
        have he := Option.some.inj hs
        obtain ⟨_, hl, hr⟩ := row_parts hp
        obtain ⟨g1, g2, g3⟩ := getE_some hg
        obtain ⟨m1, m2, m3⟩ := (rightI_iff _).1 hh
        have hL2 : iL x = [x1, x2] := by
          rw [← he]
          show [nOf (valO x1.data.toList), bA (entryB e)] = _
          rw [g3, nOf_back x1 (by simp only at m1; omega), bA_of]
        refine ⟨by rw [← he]; exact hh, by rw [← he]; exact g2, ?_⟩
        unfold itemB; rw [hL2]; exact hr
      · cases hs
    · cases hs
  · cases hs
def getIO (bs : List UInt8) : ItT := (getI bs).getD zeroI
def getIE (bs : List UInt8) : Int := if (getI bs).isSome then 0 else 60
/-- A right item's leaf. -/
def leafI (x : ItT) : List UInt8 := sumD (0 :: itemB x)
end Go.Proofs.YtgkfodmccfnaoaaDoor

/- Claims, entries and items in memory, and held against each other by == and !=. -/
namespace Go.Proofs.YtgkfodmccfnaoaaDoor
open Go.RowKit Sums Nums
set_option linter.unusedVariables false
set_option linter.unusedSimpArgs false
set_option maxRecDepth 100000
/-! What lies in memory. -/
def ccells (c : ClT) : List Value := [.int .i64 c.r, .int .i64 c.e, .int .i64 c.n, .int .i64 c.s] ++ cellsOf c.d
theorem ccells_length (c : ClT) (hd : c.d.length = 32) : (ccells c).length = 36 := by simp [ccells, cellsOf_length, hd]
def ecells (x : EnT) : List Value := [.int .i64 x.k, .int .i64 x.c, .int .i64 x.s, .string x.t] ++ scells x.h ++ ccells x.m
theorem ecells_length (x : EnT) (ok : OkE x) : (ecells x).length = 109 := by simp [ecells, scells_length _ ok.h ok.g, ccells_length _ ok.m]
def icells (x : ItT) : List Value := [.int .i64 x.p] ++ ecells x.e
theorem icells_length (x : ItT) (ok : OkE x.e) : (icells x).length = 110 := by simp [icells, ecells_length _ ok]
theorem heldC : Tryd.prog.stoodInHeld 30 = false := by kernel_rfl
theorem heldE : Tryd.prog.stoodInHeld 32 = false := by kernel_rfl
theorem heldI : Tryd.prog.stoodInHeld 43 = false := by kernel_rfl
theorem sizeC : (Tryd.prog.info? 30).map (·.size) = some 36 := by kernel_rfl
theorem sizeE : (Tryd.prog.info? 32).map (·.size) = some 109 := by kernel_rfl
theorem sizeI : (Tryd.prog.info? 43).map (·.size) = some 110 := by kernel_rfl
theorem sizeOf_of {t : TypeId} {n : Nat} (h : (Tryd.prog.info? t).map (·.size) = some n) (w : World) : (sizeOf t).run Tryd.prog w = .ok n w := by
  cases hq : Tryd.prog.info? t with
  | none => simp [hq] at h
  | some i => simp [hq] at h; simp [sizeOf, typeInfo, hq, h]
theorem part_struct {t : TypeId} {fs : Array Field} {n : Nat} (hu : Tryd.prog.underlying t = some (.struct fs)) (hs : (Tryd.prog.info? t).map (·.size) = some n) (l : List Value) (off : Nat) (m : List Value) (h : (l.drop off).take n = m) (w : World) : (Go.part t l.toArray off).run Tryd.prog w = .ok (.agg m.toArray) w := by
  have e := cut_list l off n m h
  simp only [Go.part, isAgg, run_underlying hu, sizeOf_of hs, Sem.run_bind, Sem.run_pure, Result.andThen_ok, if_true, e]
theorem part_kind (l : List Value) (off : Nat) (v : Value) (h : l[off]? = some v) (w : World) : (Go.part 22 l.toArray off).run Tryd.prog w = .ok v w := by
  simp [Go.part, isAgg, run_underlying Tryd.underlying22, h]
theorem part_str (l : List Value) (off : Nat) (v : Value) (h : l[off]? = some v) (w : World) : (Go.part 9 l.toArray off).run Tryd.prog w = .ok v w := by
  simp [Go.part, isAgg, run_underlying Tryd.underlying9, h]
theorem ccells_d (c : ClT) (hd : c.d.length = 32) : ((ccells c).drop 4).take 32 = cellsOf c.d := by
  show (cellsOf c.d).take 32 = _
  rw [List.take_of_length_le (by rw [cellsOf_length, hd]; omega)]
theorem ecells_h (x : EnT) (ok : OkE x) : ((ecells x).drop 4).take 69 = scells x.h := by
  show (scells x.h ++ ccells x.m).take 69 = _
  rw [List.take_left' (scells_length _ ok.h ok.g)]
theorem ecells_m (x : EnT) (ok : OkE x) : ((ecells x).drop 73).take 36 = ccells x.m := by
  unfold ecells
  rw [List.drop_left' (by simp [scells_length _ ok.h ok.g]), List.take_of_length_le (by rw [ccells_length _ ok.m]; omega)]
theorem icells_e (x : ItT) (ok : OkE x.e) : ((icells x).drop 1).take 109 = ecells x.e := by
  show (ecells x.e).take 109 = _
  rw [List.take_of_length_le (by rw [ecells_length _ ok]; omega)]
theorem equalClaim (d : Nat) (a b : ClT) (ha : a.d.length = 32) (hb : b.d.length = 32) (x : Bool) (hx : x = true ↔ a = b) (w : World) : (Op.equalIn (d + 4) 30 (.agg (ccells a).toArray) (.agg (ccells b).toArray)).run Tryd.prog w = .ok x w := by
  have hf : Tryd.prog.fieldsOf 30 = #[{ name := "Region", type := 3, offset := 0, embedded := false, tag := "", pkgPath := "", byteOffset := 0 }, { name := "Epoch", type := 3, offset := 1, embedded := false, tag := "", pkgPath := "", byteOffset := 8 }, { name := "Node", type := 3, offset := 2, embedded := false, tag := "", pkgPath := "", byteOffset := 16 }, { name := "Size", type := 3, offset := 3, embedded := false, tag := "", pkgPath := "", byteOffset := 24 }, { name := "Root", type := 24, offset := 4, embedded := false, tag := "", pkgPath := "", byteOffset := 32 }] := by
    unfold Program.fieldsOf; rw [Tryd.underlying30]
  have p0a := fun W => part_int (ccells a) 0 (.int .i64 a.r) rfl W
  have p0b := fun W => part_int (ccells b) 0 (.int .i64 b.r) rfl W
  have x0 := fun W => run_equalIn_int (P := Tryd.prog) W (d + 2) 3 .i64 .i64 a.r b.r Tryd.underlying3
  obtain ⟨b0, h0⟩ : ∃ x, (a.r == b.r) = x := ⟨_, rfl⟩
  rw [h0] at x0
  have p1a := fun W => part_int (ccells a) 1 (.int .i64 a.e) rfl W
  have p1b := fun W => part_int (ccells b) 1 (.int .i64 b.e) rfl W
  have x1 := fun W => run_equalIn_int (P := Tryd.prog) W (d + 2) 3 .i64 .i64 a.e b.e Tryd.underlying3
  obtain ⟨b1, h1⟩ : ∃ x, (a.e == b.e) = x := ⟨_, rfl⟩
  rw [h1] at x1
  have p2a := fun W => part_int (ccells a) 2 (.int .i64 a.n) rfl W
  have p2b := fun W => part_int (ccells b) 2 (.int .i64 b.n) rfl W
  have x2 := fun W => run_equalIn_int (P := Tryd.prog) W (d + 2) 3 .i64 .i64 a.n b.n Tryd.underlying3
  obtain ⟨b2, h2⟩ : ∃ x, (a.n == b.n) = x := ⟨_, rfl⟩
  rw [h2] at x2
  have p3a := fun W => part_int (ccells a) 3 (.int .i64 a.s) rfl W
  have p3b := fun W => part_int (ccells b) 3 (.int .i64 b.s) rfl W
  have x3 := fun W => run_equalIn_int (P := Tryd.prog) W (d + 2) 3 .i64 .i64 a.s b.s Tryd.underlying3
  obtain ⟨b3, h3⟩ : ∃ x, (a.s == b.s) = x := ⟨_, rfl⟩
  rw [h3] at x3
  have p4a := fun W => part_dig (ccells a) 4 _ (ccells_d a ha) W
  have p4b := fun W => part_dig (ccells b) 4 _ (ccells_d b hb) W
  have x4 : ∀ W, (Op.equalIn (d + 3) 24 (.agg (cellsOf a.d).toArray) (.agg (cellsOf b.d).toArray)).run Tryd.prog W = .ok (a.d == b.d) W := fun W => run_equalIn_bytes (P := Tryd.prog) W (d + 1) 24 5 32 Tryd.underlying24 Tryd.underlying5 sizeOf5 a.d b.d ha hb
  obtain ⟨b4, h4⟩ : ∃ x, (a.d == b.d) = x := ⟨_, rfl⟩
  rw [h4] at x4
  rw [run_equalIn_struct w (d + 3) 30 _ _ (by rw [hf]; exact Tryd.underlying30) heldC, hf]
  have hq : x = (b0 && b1 && b2 && b3 && b4) := by
    rw [Bool.eq_iff_iff, hx]
    simp only [Bool.and_eq_true]
    rw [← h0, ← h1, ← h2, ← h3, ← h4]
    simp only [beq_iff_eq]
    constructor
    · rintro rfl; simp
    · rintro ⟨⟨⟨⟨e0, e1⟩, e2⟩, e3⟩, e4⟩
      cases a; cases b
      simp only at e0 e1 e2 e3 e4
      rw [e0, e1, e2, e3, e4]
  rw [hq]
  obtain ⟨A, hA⟩ : ∃ A, (ccells a).toArray = A := ⟨_, rfl⟩
  obtain ⟨B, hB⟩ : ∃ B, (ccells b).toArray = B := ⟨_, rfl⟩
  rw [hA] at p0a p1a p2a p3a p4a
  rw [hB] at p0b p1b p2b p3b p4b
  rw [hA, hB]
  obtain ⟨D4, hD4⟩ : ∃ D, (cellsOf a.d).toArray = D := ⟨_, rfl⟩
  obtain ⟨E4, hE4⟩ : ∃ D, (cellsOf b.d).toArray = D := ⟨_, rfl⟩
  rw [hD4] at p4a x4
  rw [hE4] at p4b x4
  simp [Op.eqFields, p0a, p0b, x0, p1a, p1b, x1, p2a, p2b, x2, p3a, p3b, x3, p4a, p4b, x4]
  cases b0 <;> cases b1 <;> cases b2 <;> cases b3 <;> cases b4 <;> simp
theorem eqClaim (a b : ClT) (ha : a.d.length = 32) (hb : b.d.length = 32) (A B : Array Value) (HA : Hid (A = (ccells a).toArray)) (HB : Hid (B = (ccells b).toArray)) (x : Bool) (hx : x = true ↔ a = b) (w : World) : (binOp .eql 30 (.agg A) (.agg B)).run Tryd.prog w = .ok (.bool x) w := by
  rw [run_eql_struct, HA.out, HB.out, show (10000 : Nat) = 9996 + 4 from rfl, equalClaim 9996 a b ha hb x hx]; rfl
theorem equalEntry (d : Nat) (a b : EnT) (ha : OkE a) (hb : OkE b) (x : Bool) (hx : x = true ↔ a = b) (w : World) : (Op.equalIn (d + 6) 32 (.agg (ecells a).toArray) (.agg (ecells b).toArray)).run Tryd.prog w = .ok x w := by
  have hf : Tryd.prog.fieldsOf 32 = #[{ name := "Kind", type := 22, offset := 0, embedded := false, tag := "", pkgPath := "", byteOffset := 0 }, { name := "Client", type := 3, offset := 1, embedded := false, tag := "", pkgPath := "", byteOffset := 8 }, { name := "Seq", type := 3, offset := 2, embedded := false, tag := "", pkgPath := "", byteOffset := 16 }, { name := "Text", type := 9, offset := 3, embedded := false, tag := "", pkgPath := "", byteOffset := 24 }, { name := "Head", type := 28, offset := 4, embedded := false, tag := "", pkgPath := "", byteOffset := 40 }, { name := "Claim", type := 30, offset := 73, embedded := false, tag := "", pkgPath := "", byteOffset := 144 }] := by
    unfold Program.fieldsOf; rw [Tryd.underlying32]
  have p0a := fun W => part_kind (ecells a) 0 (.int .i64 a.k) rfl W
  have p0b := fun W => part_kind (ecells b) 0 (.int .i64 b.k) rfl W
  have x0 := fun W => run_equalIn_int (P := Tryd.prog) W (d + 4) 22 .i64 .i64 a.k b.k Tryd.underlying22
  obtain ⟨b0, h0⟩ : ∃ x, (a.k == b.k) = x := ⟨_, rfl⟩
  rw [h0] at x0
  have p1a := fun W => part_int (ecells a) 1 (.int .i64 a.c) rfl W
  have p1b := fun W => part_int (ecells b) 1 (.int .i64 b.c) rfl W
  have x1 := fun W => run_equalIn_int (P := Tryd.prog) W (d + 4) 3 .i64 .i64 a.c b.c Tryd.underlying3
  obtain ⟨b1, h1⟩ : ∃ x, (a.c == b.c) = x := ⟨_, rfl⟩
  rw [h1] at x1
  have p2a := fun W => part_int (ecells a) 2 (.int .i64 a.s) rfl W
  have p2b := fun W => part_int (ecells b) 2 (.int .i64 b.s) rfl W
  have x2 := fun W => run_equalIn_int (P := Tryd.prog) W (d + 4) 3 .i64 .i64 a.s b.s Tryd.underlying3
  obtain ⟨b2, h2⟩ : ∃ x, (a.s == b.s) = x := ⟨_, rfl⟩
  rw [h2] at x2
  have p3a := fun W => part_str (ecells a) 3 (.string a.t) rfl W
  have p3b := fun W => part_str (ecells b) 3 (.string b.t) rfl W
  have x3 := fun W => run_equalIn_string (P := Tryd.prog) W (d + 4) 9 a.t b.t Tryd.underlying9
  obtain ⟨b3, h3⟩ : ∃ x, (a.t.toList == b.t.toList) = x := ⟨_, rfl⟩
  rw [h3] at x3
  have p4a := fun W => part_struct Tryd.underlying28 sizeS (ecells a) 4 _ (ecells_h a ha) W
  have p4b := fun W => part_struct Tryd.underlying28 sizeS (ecells b) 4 _ (ecells_h b hb) W
  obtain ⟨b4, h4⟩ : ∃ x : Bool, x = true ↔ a.h = b.h := by
    by_cases h : a.h = b.h
    · exact ⟨true, by simp [h]⟩
    · exact ⟨false, by simp [h]⟩
  have x4 : ∀ W, (Op.equalIn (d + 5) 28 (.agg (scells a.h).toArray) (.agg (scells b.h).toArray)).run Tryd.prog W = .ok b4 W := fun W => equalSigned (d + 0) a.h b.h ha.h hb.h ha.g hb.g b4 h4 W
  have p5a := fun W => part_struct Tryd.underlying30 sizeC (ecells a) 73 _ (ecells_m a ha) W
  have p5b := fun W => part_struct Tryd.underlying30 sizeC (ecells b) 73 _ (ecells_m b hb) W
  obtain ⟨b5, h5⟩ : ∃ x : Bool, x = true ↔ a.m = b.m := by
    by_cases h : a.m = b.m
    · exact ⟨true, by simp [h]⟩
    · exact ⟨false, by simp [h]⟩
  have x5 : ∀ W, (Op.equalIn (d + 5) 30 (.agg (ccells a.m).toArray) (.agg (ccells b.m).toArray)).run Tryd.prog W = .ok b5 W := fun W => equalClaim (d + 1) a.m b.m ha.m hb.m b5 h5 W
  rw [run_equalIn_struct w (d + 5) 32 _ _ (by rw [hf]; exact Tryd.underlying32) heldE, hf]
  have hq : x = (b0 && b1 && b2 && b3 && b4 && b5) := by
    rw [Bool.eq_iff_iff, hx]
    simp only [Bool.and_eq_true]
    rw [← h0, ← h1, ← h2, ← h3, h4, h5]
    simp only [beq_iff_eq]
    constructor
    · rintro rfl; simp
    · rintro ⟨⟨⟨⟨⟨e0, e1⟩, e2⟩, e3⟩, e4⟩, e5⟩
      have e3' : a.t.data.toList = b.t.data.toList := by rw [ByteArray.toList_eq, ByteArray.toList_eq] at e3; exact e3
      exact enT_ext ⟨e0, e1, e2, e3', e4, e5⟩
  rw [hq]
  obtain ⟨A, hA⟩ : ∃ A, (ecells a).toArray = A := ⟨_, rfl⟩
  obtain ⟨B, hB⟩ : ∃ B, (ecells b).toArray = B := ⟨_, rfl⟩
  rw [hA] at p0a p1a p2a p3a p4a p5a
  rw [hB] at p0b p1b p2b p3b p4b p5b
  rw [hA, hB]
  obtain ⟨D4, hD4⟩ : ∃ D, (scells a.h).toArray = D := ⟨_, rfl⟩
  obtain ⟨E4, hE4⟩ : ∃ D, (scells b.h).toArray = D := ⟨_, rfl⟩
  rw [hD4] at p4a x4
  rw [hE4] at p4b x4
  obtain ⟨D5, hD5⟩ : ∃ D, (ccells a.m).toArray = D := ⟨_, rfl⟩
  obtain ⟨E5, hE5⟩ : ∃ D, (ccells b.m).toArray = D := ⟨_, rfl⟩
  rw [hD5] at p5a x5
  rw [hE5] at p5b x5
  simp [Op.eqFields, p0a, p0b, x0, p1a, p1b, x1, p2a, p2b, x2, p3a, p3b, x3, p4a, p4b, x4, p5a, p5b, x5]
  cases b0 <;> cases b1 <;> cases b2 <;> cases b3 <;> cases b4 <;> cases b5 <;> simp
theorem neqEntry (a b : EnT) (ha : OkE a) (hb : OkE b) (A B : Array Value) (HA : Hid (A = (ecells a).toArray)) (HB : Hid (B = (ecells b).toArray)) (x : Bool) (hx : x = false ↔ a = b) (w : World) : (binOp .neq 32 (.agg A) (.agg B)).run Tryd.prog w = .ok (.bool x) w := by
  rw [run_neq_struct, HA.out, HB.out, show (10000 : Nat) = 9994 + 6 from rfl, equalEntry 9994 a b ha hb (!x) (by rw [← hx]; simp)]; simp
theorem equalItem (d : Nat) (a b : ItT) (ha : OkE a.e) (hb : OkE b.e) (x : Bool) (hx : x = true ↔ a = b) (w : World) : (Op.equalIn (d + 7) 43 (.agg (icells a).toArray) (.agg (icells b).toArray)).run Tryd.prog w = .ok x w := by
  have hf : Tryd.prog.fieldsOf 43 = #[{ name := "Epoch", type := 3, offset := 0, embedded := false, tag := "", pkgPath := "", byteOffset := 0 }, { name := "Entry", type := 32, offset := 1, embedded := false, tag := "", pkgPath := "", byteOffset := 8 }] := by
    unfold Program.fieldsOf; rw [Tryd.underlying43]
  have p0a := fun W => part_int (icells a) 0 (.int .i64 a.p) rfl W
  have p0b := fun W => part_int (icells b) 0 (.int .i64 b.p) rfl W
  have x0 := fun W => run_equalIn_int (P := Tryd.prog) W (d + 5) 3 .i64 .i64 a.p b.p Tryd.underlying3
  obtain ⟨b0, h0⟩ : ∃ x, (a.p == b.p) = x := ⟨_, rfl⟩
  rw [h0] at x0
  have p1a := fun W => part_struct Tryd.underlying32 sizeE (icells a) 1 _ (icells_e a ha) W
  have p1b := fun W => part_struct Tryd.underlying32 sizeE (icells b) 1 _ (icells_e b hb) W
  obtain ⟨b1, h1⟩ : ∃ x : Bool, x = true ↔ a.e = b.e := by
    by_cases h : a.e = b.e
    · exact ⟨true, by simp [h]⟩
    · exact ⟨false, by simp [h]⟩
  have x1 : ∀ W, (Op.equalIn (d + 6) 32 (.agg (ecells a.e).toArray) (.agg (ecells b.e).toArray)).run Tryd.prog W = .ok b1 W := fun W => equalEntry (d + 0) a.e b.e ha hb b1 h1 W
  rw [run_equalIn_struct w (d + 6) 43 _ _ (by rw [hf]; exact Tryd.underlying43) heldI, hf]
  have hq : x = (b0 && b1) := by
    rw [Bool.eq_iff_iff, hx]
    simp only [Bool.and_eq_true]
    rw [← h0, h1]
    simp only [beq_iff_eq]
    constructor
    · rintro rfl; simp
    · rintro ⟨e0, e1⟩
      cases a; cases b
      simp only at e0 e1
      rw [e0, e1]
  rw [hq]
  obtain ⟨A, hA⟩ : ∃ A, (icells a).toArray = A := ⟨_, rfl⟩
  obtain ⟨B, hB⟩ : ∃ B, (icells b).toArray = B := ⟨_, rfl⟩
  rw [hA] at p0a p1a
  rw [hB] at p0b p1b
  rw [hA, hB]
  obtain ⟨D1, hD1⟩ : ∃ D, (ecells a.e).toArray = D := ⟨_, rfl⟩
  obtain ⟨E1, hE1⟩ : ∃ D, (ecells b.e).toArray = D := ⟨_, rfl⟩
  rw [hD1] at p1a x1
  rw [hE1] at p1b x1
  simp [Op.eqFields, p0a, p0b, x0, p1a, p1b, x1]
  cases b0 <;> cases b1 <;> simp
theorem eqItem (a b : ItT) (ha : OkE a.e) (hb : OkE b.e) (A B : Array Value) (HA : Hid (A = (icells a).toArray)) (HB : Hid (B = (icells b).toArray)) (x : Bool) (hx : x = true ↔ a = b) (w : World) : (binOp .eql 43 (.agg A) (.agg B)).run Tryd.prog w = .ok (.bool x) w := by
  rw [run_eql_struct, HA.out, HB.out, show (10000 : Nat) = 9993 + 7 from rfl, equalItem 9993 a b ha hb x hx]; rfl
end Go.Proofs.YtgkfodmccfnaoaaDoor

/- What the document's RightClaim, ClaimBytes and PutClaim answer. -/
namespace Go.Proofs.YtgkfodmccfnaoaaDoor
open Go.RowKit Sums Nums
set_option linter.unusedVariables false
set_option linter.unusedSimpArgs false
set_option maxRecDepth 100000
theorem within8_any (n a b : Int) (w : World) : Calls Tryd.prog 42 #[.int .i64 n, .int .i64 a, .int .i64 b] w fun e w' => e = .returned (.bool (decide (a ≤ n) && decide (n ≤ b))) ∧ w' = w := by
  by_cases h1 : a ≤ n
  · have d1 : decide (a ≤ n) = true := by rw [decide_eq_true_eq]; exact h1
    obtain ⟨x, hx⟩ : ∃ x, decide (n ≤ b) = x := ⟨_, rfl⟩
    rw [d1, hx]
    clear h1
    go_enter Tryd.func42, Tryd.ntmps42
    go_wp2
    go_ret
    exact ⟨rfl, rfl⟩
  · have d1 : decide (a ≤ n) = false := by rw [decide_eq_false_iff_not]; exact h1
    rw [d1]
    clear h1
    go_enter Tryd.func42, Tryd.ntmps42
    go_wp2
    go_ret
    exact ⟨rfl, rfl⟩
/-- What the parts of a claim's row read as. -/
structure CRow (W : World) (g o : Nat) (c : ClT) : Prop where
  r : W.cell? ⟨g, o, none⟩ = some (.int .i64 c.r)
  e : W.cell? ⟨g, o + 1, none⟩ = some (.int .i64 c.e)
  n : W.cell? ⟨g, o + 2, none⟩ = some (.int .i64 c.n)
  s : W.cell? ⟨g, o + 3, none⟩ = some (.int .i64 c.s)
  d : W.rangeAt g (o + 4) (cellsOf c.d)
theorem CRow.keep {W W' : World} {g o : Nat} {c : ClT} (h : CRow W g o c) (hb : Below W.heap.size W W') : CRow W' g o c := by
  have hg : g < W.heap.size := World.block_lt_of_cell? _ _ h.r
  exact ⟨(hb.cell hg).trans h.r, (hb.cell hg).trans h.e, (hb.cell hg).trans h.n, (hb.cell hg).trans h.s, range_keep hb h.d⟩
theorem crow_of {W : World} {g o : Nat} {c : ClT} (hr : W.rangeAt g o (ccells c)) : CRow W g o c := by
  refine ⟨?_, ?_, ?_, ?_, ?_⟩
  · have := hr 0 (.int .i64 c.r) rfl; simpa using this
  · exact hr 1 (.int .i64 c.e) rfl
  · exact hr 2 (.int .i64 c.n) rfl
  · exact hr 3 (.int .i64 c.s) rfl
  · intro j v hj
    have := hr (4 + j) v (by
      unfold ccells
      rw [List.getElem?_append_right (by simp)]
      simpa using hj)
    rw [Nat.add_assoc]; exact this
theorem crow_new (w : World) (c : ClT) (C : Array Value) (HC : Hid (C = (ccells c).toArray)) (t : TypeId) : CRow (w.alloc (.cells C t)) w.heap.size 0 c := by
  refine crow_of ?_
  intro j v hj
  rw [Nat.zero_add, cell_of_row _ _ j _ t (0, 0) (heap_alloc_new w _), HC.out]
  simpa using hj
set_option maxHeartbeats 2000000 in
theorem refRightC_any (c : ClT) (w : World) (C : Array Value) (HC : Hid (C = (ccells c).toArray)) :
    Calls Tryd.prog 44 #[.agg C] w fun e w' => e = .returned (.bool (rightC c)) ∧ Below w.heap.size w w' := by
  have HR := crow_new w c C HC 30
  have HB : Hid (Below w.heap.size w (w.alloc (.cells C 30))) := (Below.refl _ _).alloc (Nat.le_refl _) _
  have c0 := HR.r
  have c1 := HR.e
  have c2 := HR.n
  have c3 := HR.s
  simp only [Nat.zero_add] at c1 c2 c3
  have WI : Hid (∀ (n a b : Int) (W : World), Calls Tryd.prog 42 #[.int .i64 n, .int .i64 a, .int .i64 b] W fun e w' => e = .returned (.bool (decide (a ≤ n) && decide (n ≤ b))) ∧ w' = W) := within8_any
  obtain ⟨b1, hb1⟩ : ∃ b, (decide (1 ≤ c.r) && decide (c.r ≤ 5)) = b := ⟨_, rfl⟩
  obtain ⟨b2, hb2⟩ : ∃ b, (decide (1 ≤ c.e) && decide (c.e ≤ 900000000)) = b := ⟨_, rfl⟩
  obtain ⟨b3, hb3⟩ : ∃ b, (decide (1 ≤ c.n) && decide (c.n ≤ 3)) = b := ⟨_, rfl⟩
  obtain ⟨b4, hb4⟩ : ∃ b, (decide (0 ≤ c.s) && decide (c.s ≤ 100000)) = b := ⟨_, rfl⟩
  have W1 := hidk (WI.out c.r 1 5)
  have W2 := hidk (WI.out c.e 1 900000000)
  have W3 := hidk (WI.out c.n 1 3)
  have W4 := hidk (WI.out c.s 0 100000)
  rw [hb1] at W1
  rw [hb2] at W2
  rw [hb3] at W3
  rw [hb4] at W4
  have hE : rightC c = (b1 && (b2 && (b3 && b4))) := by
    rw [← hb1, ← hb2, ← hb3, ← hb4]
    unfold rightC
    simp only [Bool.and_assoc]
  rw [hE]
  obtain ⟨r, hr⟩ : ∃ r, r = c.r := ⟨_, rfl⟩
  obtain ⟨e, he⟩ : ∃ r, r = c.e := ⟨_, rfl⟩
  obtain ⟨n, hn⟩ : ∃ r, r = c.n := ⟨_, rfl⟩
  obtain ⟨s, hs⟩ : ∃ r, r = c.s := ⟨_, rfl⟩
  rw [← hr] at c0 W1
  rw [← he] at c1 W2
  rw [← hn] at c2 W3
  rw [← hs] at c3 W4
  clear hE hb1 hb2 hb3 hb4 WI HR hr he hn hs HC
  cases b1
  · go_enter Tryd.func44, Tryd.ntmps44
    go_wp2_with fail
    refine (W1.out _).mono ?_
    rintro e w1 ⟨rfl, rfl⟩
    go_wp2
    go_ret
    exact ⟨rfl, HB.out⟩
  cases b2
  · go_enter Tryd.func44, Tryd.ntmps44
    go_wp2_with fail
    refine (W1.out _).mono ?_
    rintro e w1 ⟨rfl, rfl⟩
    go_wp2_with fail
    refine (W2.out _).mono ?_
    rintro e w1 ⟨rfl, rfl⟩
    go_wp2
    go_ret
    exact ⟨rfl, HB.out⟩
  cases b3
  · go_enter Tryd.func44, Tryd.ntmps44
    go_wp2_with fail
    refine (W1.out _).mono ?_
    rintro e w1 ⟨rfl, rfl⟩
    go_wp2_with fail
    refine (W2.out _).mono ?_
    rintro e w1 ⟨rfl, rfl⟩
    go_wp2_with fail
    refine (W3.out _).mono ?_
    rintro e w1 ⟨rfl, rfl⟩
    go_wp2
    go_ret
    exact ⟨rfl, HB.out⟩
  · go_enter Tryd.func44, Tryd.ntmps44
    go_wp2_with fail
    refine (W1.out _).mono ?_
    rintro e w1 ⟨rfl, rfl⟩
    go_wp2_with fail
    refine (W2.out _).mono ?_
    rintro e w1 ⟨rfl, rfl⟩
    go_wp2_with fail
    refine (W3.out _).mono ?_
    rintro e w1 ⟨rfl, rfl⟩
    go_wp2_with fail
    refine (W4.out _).mono ?_
    rintro e w1 ⟨rfl, rfl⟩
    go_wp2
    go_ret
    exact ⟨rfl, HB.out⟩
set_option maxHeartbeats 8000000 in
theorem refCB_any (c : ClT) (hd : c.d.length = 32) (w : World) (C : Array Value) (HC : Hid (C = (ccells c).toArray)) :
    Calls Tryd.prog 74 #[.agg C] w fun e w' => ∃ v, e = .returned v ∧ w'.ownsRow w.heap.size 5 1 v (claimB c).length (cellsOf (claimB c)) ∧ Below w.heap.size w w' := by
  obtain ⟨r, Hr⟩ : ∃ r, Hid (r = c.r) := ⟨c.r, hidk rfl⟩
  obtain ⟨e, He⟩ : ∃ r, Hid (r = c.e) := ⟨c.e, hidk rfl⟩
  obtain ⟨n, Hn⟩ : ∃ r, Hid (r = c.n) := ⟨c.n, hidk rfl⟩
  obtain ⟨s, Hs⟩ : ∃ r, Hid (r = c.s) := ⟨c.s, hidk rfl⟩
  obtain ⟨n1, Hn1⟩ : ∃ s : ByteArray, Hid (s = nOf r) := ⟨nOf r, hidk rfl⟩
  obtain ⟨n2, Hn2⟩ : ∃ s : ByteArray, Hid (s = nOf e) := ⟨nOf e, hidk rfl⟩
  obtain ⟨n3, Hn3⟩ : ∃ x : ByteArray, Hid (x = nOf n) := ⟨nOf n, hidk rfl⟩
  obtain ⟨n4, Hn4⟩ : ∃ x : ByteArray, Hid (x = nOf s) := ⟨nOf s, hidk rfl⟩
  obtain ⟨x5, HX⟩ : ∃ x : ByteArray, Hid (x = ⟨c.d.toArray⟩) := ⟨⟨c.d.toArray⟩, hidk rfl⟩
  obtain ⟨D, HD, HSD, H1D, H32D⟩ := dig_row' c.d hd
  have N1 : Hid (∀ W, Calls Tryd.prog 55 #[.int .i64 r] W fun e w' => e = .returned (.string n1) ∧ Below W.heap.size W w') := fun W => by rw [Hn1.out]; exact refNum_any r W
  have N2 : Hid (∀ W, Calls Tryd.prog 55 #[.int .i64 e] W fun e w' => e = .returned (.string n2) ∧ Below W.heap.size W w') := fun W => by rw [Hn2.out]; exact refNum_any e W
  have N3 : Hid (∀ W, Calls Tryd.prog 55 #[.int .i64 n] W fun e w' => e = .returned (.string n3) ∧ Below W.heap.size W w') := fun W => by rw [Hn3.out]; exact refNum_any n W
  have N4 : Hid (∀ W, Calls Tryd.prog 55 #[.int .i64 s] W fun e w' => e = .returned (.string n4) ∧ Below W.heap.size W w') := fun W => by rw [Hn4.out]; exact refNum_any s W
  have X5 : Hid (∀ W, Calls Tryd.prog 97 #[.agg D] W fun e w' => e = .returned (.string x5) ∧ Below W.heap.size W w') := fun W => by
    have := refText_any c.d hd W x5 HX D.toList (by show _ = _; rw [HD.out])
    simpa using this
  have hL5 : cL c = [n1, n2, n3, n4, x5] := by rw [Hn1.out, Hn2.out, Hn3.out, Hn4.out, HX.out, Hr.out, He.out, Hn.out, Hs.out]; rfl
  have RW : Hid (∀ W, Calls Tryd.prog 54 #[.slice (some ⟨W.heap.size, 0, none⟩) 5 5] (W.alloc (.cells #[.string n1, .string n2, .string n3, .string n4, .string x5] 9)) fun e w' => ∃ v, e = .returned v ∧ w'.ownsRow W.heap.size 5 1 v (claimB c).length (cellsOf (claimB c)) ∧ Below W.heap.size W w') := fun W => by
    have h1 : ∀ y ∈ [n1, n2, n3, n4, x5], y.size ≤ 65536 := fun y hy => by
      rw [← hL5] at hy
      unfold cL at hy
      simp only [List.mem_cons, List.not_mem_nil, or_false] at hy
      rcases hy with rfl | rfl | rfl | rfl | rfl
      · exact Nat.le_trans (nOf_size _) (by omega)
      · exact Nat.le_trans (nOf_size _) (by omega)
      · exact Nat.le_trans (nOf_size _) (by omega)
      · exact Nat.le_trans (nOf_size _) (by omega)
      · rw [bA_size]; omega
    refine (refRow_any (some ⟨W.heap.size, 0, none⟩) 5 5 [n1, n2, n3, n4, x5] (W.alloc (.cells #[.string n1, .string n2, .string n3, .string n4, .string x5] 9)) (texts_new W [n1, n2, n3, n4, x5] 9) (by omega) h1).mono ?_
    rintro e w' ⟨v, he, ho, hb⟩
    rw [← hL5] at ho
    exact ⟨v, he, own_lower ho (by simp), ((Below.refl _ _).alloc (Nat.le_refl _) _).trans (hb.mono (by simp))⟩
  have HR := hidk (crow_new w c C HC 30)
  have HB : Hid (Below w.heap.size w (w.alloc (.cells C 30))) := (Below.refl _ _).alloc (Nat.le_refl _) _
  have HDL : Hid (D.toList = cellsOf c.d) := by show _ = _; rw [HD.out]
  clear HC HX hL5 HD Hn1 Hn2 Hn3 Hn4
  go_enter Tryd.func74, Tryd.ntmps74
  go_wp2
  have HBc : Hid (Below w.heap.size w (w.alloc (.cells C 30)).drew) := HB.out.drew
  clear HB
  refine wp_region_held_drew (S := (fun W => CRow W w.heap.size 0 c)) (by kernel_rfl) (show CRow (w.alloc (.cells C 30)).drew w.heap.size 0 c from HR.out.keep (Below.refl _ _).drew) (fun hHeld => ?_)
  refine wpAnyH_take (i := 0) (oi := { dst := some 3, op := Op.fieldAddr 30 (Operand.tmp 1) 0, type := 0, pos := "ref.go:21", after := #[], guard := none }) (v := .pointer (some ⟨w.heap.size, 0, none⟩)) rfl (by kernel_rfl) (by kernel_rfl) (by kernel_rfl) (fun _ _ _ h => h) (Or.inl ⟨by rfl, by intro W hSw; go_simp⟩) hHeld ?_
  try simp only [Act.put, List.setIfInBounds_toArray, List.set_cons_zero, List.set_cons_succ]
  refine wpAnyH_take (i := 1) (oi := { dst := some 4, op := Op.load 3 (Operand.tmp 3), type := 3, pos := "ref.go:21", after := #[{ on := 0, ground := Ground.data }], guard := none }) (v := .int .i64 r) rfl (by kernel_rfl) (by kernel_rfl) (by kernel_rfl) (fun _ _ _ h => h) (Or.inl ⟨by rfl, by intro W hSw; have h1 := hSw.r; rw [← Hr.out] at h1; go_simp⟩) hHeld ?_
  try simp only [Act.put, List.setIfInBounds_toArray, List.set_cons_zero, List.set_cons_succ]
  refine wpAnyH_take (i := 3) (oi := { dst := some 6, op := Op.fieldAddr 30 (Operand.tmp 1) 1, type := 0, pos := "ref.go:21", after := #[], guard := none }) (v := .pointer (some ⟨w.heap.size, 1, none⟩)) rfl (by kernel_rfl) (by kernel_rfl) (by kernel_rfl) (fun _ _ _ h => h) (Or.inl ⟨by rfl, by intro W hSw; go_simp⟩) hHeld ?_
  try simp only [Act.put, List.setIfInBounds_toArray, List.set_cons_zero, List.set_cons_succ]
  refine wpAnyH_take (i := 4) (oi := { dst := some 7, op := Op.load 3 (Operand.tmp 6), type := 3, pos := "ref.go:21", after := #[{ on := 3, ground := Ground.data }], guard := none }) (v := .int .i64 e) rfl (by kernel_rfl) (by kernel_rfl) (by kernel_rfl) (fun _ _ _ h => h) (Or.inl ⟨by rfl, by intro W hSw; have h1 := hSw.e; rw [← He.out, Nat.zero_add] at h1; go_simp⟩) hHeld ?_
  try simp only [Act.put, List.setIfInBounds_toArray, List.set_cons_zero, List.set_cons_succ]
  refine wpAnyH_take (i := 6) (oi := { dst := some 9, op := Op.fieldAddr 30 (Operand.tmp 1) 2, type := 0, pos := "ref.go:21", after := #[], guard := none }) (v := .pointer (some ⟨w.heap.size, 2, none⟩)) rfl (by kernel_rfl) (by kernel_rfl) (by kernel_rfl) (fun _ _ _ h => h) (Or.inl ⟨by rfl, by intro W hSw; go_simp⟩) hHeld ?_
  try simp only [Act.put, List.setIfInBounds_toArray, List.set_cons_zero, List.set_cons_succ]
  refine wpAnyH_take (i := 7) (oi := { dst := some 10, op := Op.load 3 (Operand.tmp 9), type := 3, pos := "ref.go:21", after := #[{ on := 6, ground := Ground.data }], guard := none }) (v := .int .i64 n) rfl (by kernel_rfl) (by kernel_rfl) (by kernel_rfl) (fun _ _ _ h => h) (Or.inl ⟨by rfl, by intro W hSw; have h1 := hSw.n; rw [← Hn.out, Nat.zero_add] at h1; go_simp⟩) hHeld ?_
  try simp only [Act.put, List.setIfInBounds_toArray, List.set_cons_zero, List.set_cons_succ]
  refine wpAnyH_take (i := 9) (oi := { dst := some 12, op := Op.fieldAddr 30 (Operand.tmp 1) 3, type := 0, pos := "ref.go:21", after := #[], guard := none }) (v := .pointer (some ⟨w.heap.size, 3, none⟩)) rfl (by kernel_rfl) (by kernel_rfl) (by kernel_rfl) (fun _ _ _ h => h) (Or.inl ⟨by rfl, by intro W hSw; go_simp⟩) hHeld ?_
  try simp only [Act.put, List.setIfInBounds_toArray, List.set_cons_zero, List.set_cons_succ]
  refine wpAnyH_take (i := 10) (oi := { dst := some 13, op := Op.load 3 (Operand.tmp 12), type := 3, pos := "ref.go:21", after := #[{ on := 9, ground := Ground.data }], guard := none }) (v := .int .i64 s) rfl (by kernel_rfl) (by kernel_rfl) (by kernel_rfl) (fun _ _ _ h => h) (Or.inl ⟨by rfl, by intro W hSw; have h1 := hSw.s; rw [← Hs.out, Nat.zero_add] at h1; go_simp⟩) hHeld ?_
  try simp only [Act.put, List.setIfInBounds_toArray, List.set_cons_zero, List.set_cons_succ]
  refine wpAnyH_take (i := 12) (oi := { dst := some 15, op := Op.fieldAddr 30 (Operand.tmp 1) 4, type := 0, pos := "ref.go:21", after := #[], guard := none }) (v := .pointer (some ⟨w.heap.size, 4, none⟩)) rfl (by kernel_rfl) (by kernel_rfl) (by kernel_rfl) (fun _ _ _ h => h) (Or.inl ⟨by rfl, by intro W hSw; go_simp⟩) hHeld ?_
  try simp only [Act.put, List.setIfInBounds_toArray, List.set_cons_zero, List.set_cons_succ]
  refine wpAnyH_take (i := 13) (oi := { dst := some 16, op := Op.load 24 (Operand.tmp 15), type := 24, pos := "ref.go:21", after := #[{ on := 12, ground := Ground.data }], guard := none }) (v := .agg D) rfl (by kernel_rfl) (by kernel_rfl) (by kernel_rfl) (fun _ _ _ h => h) (yieldsIf_mid (by rfl) 24 (.tmp 15) rfl w.heap.size 4 rfl D _ (fun W h => by rw [HDL.out]; have := h.d; rwa [Nat.zero_add] at this) Tryd.underlying24 rfl HSD.out) hHeld ?_
  try simp only [Act.put, List.setIfInBounds_toArray, List.set_cons_zero, List.set_cons_succ]
  refine wpAnyH_ready (rs := [2]) (by kernel_rfl) (by simp) ?_
  refine (AllReadyH.cons (o := { dst := some 5, op := Op.call { callee := Callee.value (Operand.func 55), args := #[Operand.tmp 4], argTypes := #[3] }, type := 9, pos := "ref.go:21", after := #[{ on := 1, ground := Ground.data }], guard := none }) rfl (fun K hK => ?_) AllReadyH.nil)
  go_simp
  refine (N1.out _).mono ?_
  rintro e w2 ⟨rfl, hb1⟩
  replace HBc := hidk (HBc.out.trans (hb1.mono HBc.out.size))
  go_wp2_with fail
  refine hK.out _ _ (hHeld.keep hb1) (fun hHeld => ?_)
  clear hK K
  try simp only [Act.put, List.setIfInBounds_toArray, List.set_cons_zero, List.set_cons_succ]
  refine wpAnyH_ready (rs := [5]) (by kernel_rfl) (by simp) ?_
  refine (AllReadyH.cons (o := { dst := some 8, op := Op.call { callee := Callee.value (Operand.func 55), args := #[Operand.tmp 7], argTypes := #[3] }, type := 9, pos := "ref.go:21", after := #[{ on := 4, ground := Ground.data }, { on := 2, ground := Ground.chain }], guard := none }) rfl (fun K hK => ?_) AllReadyH.nil)
  go_simp
  refine (N2.out _).mono ?_
  rintro e w5 ⟨rfl, hb2⟩
  replace HBc := hidk (HBc.out.trans (hb2.mono HBc.out.size))
  go_wp2_with fail
  refine hK.out _ _ (hHeld.keep hb2) (fun hHeld => ?_)
  clear hK K
  try simp only [Act.put, List.setIfInBounds_toArray, List.set_cons_zero, List.set_cons_succ]
  refine wpAnyH_ready (rs := [8]) (by kernel_rfl) (by simp) ?_
  refine (AllReadyH.cons (o := { dst := some 11, op := Op.call { callee := Callee.value (Operand.func 55), args := #[Operand.tmp 10], argTypes := #[3] }, type := 9, pos := "ref.go:21", after := #[{ on := 7, ground := Ground.data }, { on := 5, ground := Ground.chain }], guard := none }) rfl (fun K hK => ?_) AllReadyH.nil)
  go_simp
  refine (N3.out _).mono ?_
  rintro e w8 ⟨rfl, hb3⟩
  replace HBc := hidk (HBc.out.trans (hb3.mono HBc.out.size))
  go_wp2_with fail
  refine hK.out _ _ (hHeld.keep hb3) (fun hHeld => ?_)
  clear hK K
  try simp only [Act.put, List.setIfInBounds_toArray, List.set_cons_zero, List.set_cons_succ]
  refine wpAnyH_ready (rs := [11]) (by kernel_rfl) (by simp) ?_
  refine (AllReadyH.cons (o := { dst := some 14, op := Op.call { callee := Callee.value (Operand.func 55), args := #[Operand.tmp 13], argTypes := #[3] }, type := 9, pos := "ref.go:21", after := #[{ on := 10, ground := Ground.data }, { on := 8, ground := Ground.chain }], guard := none }) rfl (fun K hK => ?_) AllReadyH.nil)
  go_simp
  refine (N4.out _).mono ?_
  rintro e w11 ⟨rfl, hb4⟩
  replace HBc := hidk (HBc.out.trans (hb4.mono HBc.out.size))
  go_wp2_with fail
  refine hK.out _ _ (hHeld.keep hb4) (fun hHeld => ?_)
  clear hK K
  try simp only [Act.put, List.setIfInBounds_toArray, List.set_cons_zero, List.set_cons_succ]
  refine wpAnyH_ready (rs := [14]) (by kernel_rfl) (by simp) ?_
  refine (AllReadyH.cons (o := { dst := some 17, op := Op.call { callee := Callee.value (Operand.func 97), args := #[Operand.tmp 16], argTypes := #[24] }, type := 9, pos := "ref.go:21", after := #[{ on := 13, ground := Ground.data }, { on := 11, ground := Ground.chain }], guard := none }) rfl (fun K hK => ?_) AllReadyH.nil)
  go_simp
  refine (X5.out _).mono ?_
  rintro e w14 ⟨rfl, hb5⟩
  replace HBc := hidk (HBc.out.trans (hb5.mono HBc.out.size))
  go_wp2_with fail
  refine hK.out _ _ (hHeld.keep hb5) (fun hHeld => ?_)
  clear hK K
  try simp only [Act.put, List.setIfInBounds_toArray, List.set_cons_zero, List.set_cons_succ]
  refine wpAnyH_ready (rs := [15]) (by kernel_rfl) (by simp) ?_
  refine (AllReadyH.cons (o := { dst := some 18, op := Op.buildSlice 93 5 #[(0, Operand.tmp 5), (1, Operand.tmp 8), (2, Operand.tmp 11), (3, Operand.tmp 14), (4, Operand.tmp 17)], type := 93, pos := "ref.go:21", after := #[{ on := 2, ground := Ground.data }, { on := 5, ground := Ground.data }, { on := 8, ground := Ground.data }, { on := 11, ground := Ground.data }, { on := 14, ground := Ground.data }], guard := none }) rfl (fun K hK => ?_) AllReadyH.nil)
  have HR14 := hidk hHeld
  go_simp
  refine hK.out _ _ (hHeld.keep ((Below.refl _ _).alloc (Nat.le_refl _) _)) (fun hHeld => ?_)
  clear hK K
  try simp only [Act.put, List.setIfInBounds_toArray, List.set_cons_zero, List.set_cons_succ]
  refine wpAnyH_ready (rs := [16]) (by kernel_rfl) (by simp) ?_
  refine (AllReadyH.cons (o := { dst := some 19, op := Op.call { callee := Callee.value (Operand.func 54), args := #[Operand.tmp 18], argTypes := #[93] }, type := 33, pos := "ref.go:21", after := #[{ on := 15, ground := Ground.data }, { on := 14, ground := Ground.chain }], guard := none }) rfl (fun K hK => ?_) AllReadyH.nil)
  go_simp
  refine (RW.out _).mono ?_
  rintro e w16 ⟨v, rfl, hown, hb6⟩
  have HOWN := hidk (own_lower hown HBc.out.size)
  replace HBc := hidk (HBc.out.trans (hb6.mono HBc.out.size))
  go_wp2_with fail
  refine hK.out _ _ (HR14.out.keep hb6) (fun hHeld => ?_)
  clear hK K
  try simp only [Act.put, List.setIfInBounds_toArray, List.set_cons_zero, List.set_cons_succ]
  refine wpAnyH_take (i := 17) (oi := { dst := some 2, op := Op.assign (Operand.tmp 19), type := 33, pos := "ref.go:21", after := #[{ on := 16, ground := Ground.data }, { on := 16, ground := Ground.chain }, { on := 0, ground := Ground.phase }, { on := 1, ground := Ground.phase }, { on := 2, ground := Ground.phase }, { on := 3, ground := Ground.phase }, { on := 4, ground := Ground.phase }, { on := 5, ground := Ground.phase }, { on := 6, ground := Ground.phase }, { on := 7, ground := Ground.phase }, { on := 8, ground := Ground.phase }, { on := 9, ground := Ground.phase }, { on := 10, ground := Ground.phase }, { on := 11, ground := Ground.phase }, { on := 12, ground := Ground.phase }, { on := 13, ground := Ground.phase }, { on := 14, ground := Ground.phase }, { on := 15, ground := Ground.phase }, { on := 16, ground := Ground.phase }], guard := none }) (v := v) rfl (by kernel_rfl) (by kernel_rfl) (by kernel_rfl) (fun _ _ _ h => h) (Or.inl ⟨by rfl, by intro W hSw; go_simp⟩) hHeld ?_
  try simp only [Act.put, List.setIfInBounds_toArray, List.set_cons_zero, List.set_cons_succ]
  refine wpAnyH_done (by kernel_rfl) ?_ _
  go_wp2
  go_ret
  exact ⟨_, rfl, HOWN.out, HBc.out⟩
end Go.Proofs.YtgkfodmccfnaoaaDoor

/- What the document's GetClaim answers. -/
namespace Go.Proofs.YtgkfodmccfnaoaaDoor
open Go.RowKit Sums Nums
set_option linter.unusedVariables false
set_option linter.unusedSimpArgs false
set_option maxRecDepth 100000
theorem infoC : (Tryd.prog.info? 30).map (fun i => (i.zero, i.size)) = some (some (.agg (ccells zeroC).toArray), 36) := by kernel_rfl
theorem builtC0 : Tryd.prog.built 30 [] = some (ccells zeroC).toArray := by kernel_rfl
theorem one_cellsC (c : ClT) : (ccells c).toArray.all (·.oneCell') = true := by
  rw [List.all_toArray, List.all_eq_true]
  intro v hv
  unfold ccells at hv
  simp only [List.mem_append, List.mem_cons, List.not_mem_nil, or_false] at hv
  rcases hv with (rfl | rfl | rfl | rfl) | hv
  · rfl
  · rfl
  · rfl
  · rfl
  · exact cellsOf_one _ v hv
theorem claim_row5 (c : ClT) (hd : c.d.length = 32) : ∃ C : Array Value, Hid (C = (ccells c).toArray) ∧ Hid ((Tryd.prog.info? 30).map (·.size) = some C.size) ∧ Hid (C.all (·.oneCell') = true) ∧ Hid (C.size = 36) := by
  refine ⟨(ccells c).toArray, hidk rfl, ?_, one_cellsC c, ?_⟩
  · show _ = _
    rw [sizeC]; simp [ccells_length c hd]
  · show _ = _
    simp [ccells_length c hd]
theorem noughtsC : ∃ Z : Array Value, Hid (Z = (ccells zeroC).toArray) ∧ Hid ((Tryd.prog.info? 30).map (fun i => (i.zero, i.size)) = some (some (.agg Z), Z.size)) ∧ Hid (Tryd.prog.built 30 [] = some Z) ∧ Hid (Z.size = 36) :=
  ⟨(ccells zeroC).toArray, hidk rfl, infoC, builtC0, hidk rfl⟩
theorem builtC (c : ClT) (hd : c.d.length = 32) (D R : Array Value) (HD : Hid (D = (cellsOf c.d).toArray)) (HR : Hid (R = (ccells c).toArray)) : Tryd.prog.built 30 [(0, .int .i64 c.r), (1, .int .i64 c.e), (2, .int .i64 c.n), (3, .int .i64 c.s), (4, .agg D)] = some R := by
  have hi := infoC
  cases hq : Tryd.prog.info? 30 with
  | none => rw [hq] at hi; cases hi
  | some i =>
    rw [hq] at hi
    simp only [Option.map_some, Option.some.injEq, Prod.mk.injEq] at hi
    have hD := size23
    have h3 : (Tryd.prog.info? 3).map (·.size) = some 1 := by kernel_rfl
    cases hqD : Tryd.prog.info? 24 with
    | none => rw [hqD] at hD; cases hD
    | some iD =>
      cases hq3 : Tryd.prog.info? 3 with
      | none => rw [hq3] at h3; cases h3
      | some i3 =>
        rw [hqD] at hD
        rw [hq3] at h3
        simp only [Option.map_some, Option.some.injEq] at hD h3
        unfold Program.built
        simp only [hq, Tryd.underlying30, hi.1, List.mapM_cons, List.mapM_nil, hqD, hq3, hD, h3, Option.map_some, Option.bind_eq_bind, Option.bind_some, Option.pure_def]
        show Instr.fill _ (ccells zeroC).toArray _ = some R
        have hd32 : D.size = 32 := by rw [HD.out]; simp [cellsOf_length, hd]
        refine (fill_val _ 0 0 1 (.int .i64 c.r) #[.int .i64 c.r] _ [] [.int .i64 0] ([.int .i64 0, .int .i64 0, .int .i64 0] ++ cellsOf (List.replicate 32 0)) _ rfl rfl rfl (by simp [ccells, zeroC]) rfl rfl).trans ?_
        refine (fill_val _ 1 1 1 (.int .i64 c.e) #[.int .i64 c.e] _ [.int .i64 c.r] [.int .i64 0] ([.int .i64 0, .int .i64 0] ++ cellsOf (List.replicate 32 0)) _ rfl rfl rfl (by simp) rfl rfl).trans ?_
        refine (fill_val _ 2 2 1 (.int .i64 c.n) #[.int .i64 c.n] _ [.int .i64 c.r, .int .i64 c.e] [.int .i64 0] ([.int .i64 0] ++ cellsOf (List.replicate 32 0)) _ rfl rfl rfl (by simp) rfl rfl).trans ?_
        refine (fill_val _ 3 3 1 (.int .i64 c.s) #[.int .i64 c.s] _ [.int .i64 c.r, .int .i64 c.e, .int .i64 c.n] [.int .i64 0] (cellsOf (List.replicate 32 0)) _ rfl rfl rfl (by simp) rfl rfl).trans ?_
        refine (fill_val _ 4 4 32 (.agg D) D _ [.int .i64 c.r, .int .i64 c.e, .int .i64 c.n, .int .i64 c.s] (cellsOf (List.replicate 32 0)) [] _ rfl rfl hd32 (by simp) rfl (by simp [cellsOf_length])).trans ?_
        simp only [Instr.fill, List.append_nil, Option.some.injEq]
        rw [HR.out, HD.out]
        rfl
end Go.Proofs.YtgkfodmccfnaoaaDoor

/- The statements' own example of signing, over what the calls of package head answer. -/
namespace Go.Proofs.YtgkfodmccfnaoaaDoor
open Go.RowKit Sums Nums
set_option linter.unusedVariables false
set_option linter.unusedSimpArgs false
set_option maxRecDepth 100000
theorem wpList_build_none_w {P : Program} {ops : Array Oper} {rest : List Oper} {o : Oper} {a : Act} {w : World} {Q : Exit → Act → World → Prop} (hw : Region.wanted o (yielded ops a.tmps) = true) (t : TypeId) (ho : o.op = .build t #[])
    (cs : Array Value) (hb : P.built t [] = some cs) (h : wpList P ops Q rest (a.put o.dst (.agg cs)) w) : wpList P ops Q (o :: rest) a w :=
  BigFrame.wpList_want hw fun _ hK => by
    have hr := run_build w t #[] cs (by simpa using hb)
    unfold Oper.wp execOp
    simp [ho, hr]
    exact hK _ _ h
end Go.Proofs.YtgkfodmccfnaoaaDoor

/- The statements' own example of a head's bytes, over what the calls of package head answer. -/
namespace Go.Proofs.YtgkfodmccfnaoaaDoor
open Go.RowKit Sums Nums
set_option linter.unusedVariables false
set_option linter.unusedSimpArgs false
set_option maxRecDepth 100000

end Go.Proofs.YtgkfodmccfnaoaaDoor

/- What HeadTurned says of any input, over what the calls of package head answer. -/
namespace Go.Proofs.YtgkfodmccfnaoaaDoor
open Go.RowKit Sums Nums
set_option linter.unusedVariables false
set_option linter.unusedSimpArgs false
set_option maxRecDepth 100000
/-- A row stored in the midst of a variable. -/
theorem wpList_set_mid {P : Program} {ops : Array Oper} {rest : List Oper} {o : Oper} {a : Act} {w : World} {Q : Exit → Act → World → Prop} (hgd : o.guard = none) (ty : TypeId) (x y : Operand) (ho : o.op = .store ty x y)
    (g k : Nat) (D : Array Value) (hx : a.eval x = .pointer (some ⟨g, k, none⟩)) (hy : a.eval y = .agg D) (t' : TypeId) (Z : Array Value) (hg : w.heap[g]? = some (.cells Z t' (0, 0))) (hk : k + D.size ≤ Z.size) (hi : (P.info? ty).map (·.size) = some D.size) (h1 : D.all (·.oneCell') = true)
    (h : ∀ w', Hid (Wrote g (Z.toList.take k ++ D.toList ++ Z.toList.drop (k + D.size)).toArray t' w w') → wpList P ops Q rest (a.put o.dst undef) w') : wpList P ops Q (o :: rest) a w := by
  refine wpList_plain hgd fun K hK => ?_
  have hkk := hK _ _ (h _ (wrote_row hg))
  have h1' : ∀ v ∈ D.toList, v.oneCell' = true := by
    intro v hv
    rw [Array.all_eq_true'] at h1
    exact h1 v (by simpa using hv)
  have hst := run_storeCells_at P g k t' D.toList 0 Z w hg (by simpa using hk) h1'
  cases hq : P.info? ty with
  | none => simp [hq] at hi
  | some i =>
    have hs : i.size = D.size := by simpa [hq] using hi
    unfold Oper.wp execOp
    simp only [ho, hx, hy, Instr.storeAt, Instr.sureAddr, Sem.run_bind, Sem.run_pure, Result.andThen_ok]
    simp only [Nat.add_zero, Nat.zero_add] at hst
    simp [storeVar, sizeOf, typeInfo, hq, Value.cells, hs, hst]
    simp only [List.append_assoc] at hkk ⊢
    exact hkk
theorem wpList_mid_w {P : Program} {ops : Array Oper} {rest : List Oper} {op : Oper} {a : Act} {w : World} {Q : Exit → Act → World → Prop} (hw : Region.wanted op (yielded ops a.tmps) = true) (ty : TypeId) (x : Operand) (ho : op.op = .load ty x)
    (b o : Nat) (hx : a.eval x = .pointer (some ⟨b, o, none⟩)) (D : Array Value) (d : TypeDesc) (hc : w.rangeAt b o D.toList)
    (hu : P.underlying ty = some d) (hd : d.isRow = true) (hi : (P.info? ty).map (·.size) = some D.size)
    (h : wpList P ops Q rest (a.put op.dst (.agg D)) w) : wpList P ops Q (op :: rest) a w := by
  have hy : YieldsIf P ops (fun W => W = w) op (.agg D) a := yieldsIf_mid hw ty x ho b o hx D d (fun W e => by rw [e]; exact hc) hu hd hi
  rcases hy with ⟨_, hv⟩ | ⟨hf, _⟩
  · exact BigFrame.wpList_want hw fun K hK => by
      simp only [Oper.wp, hv w rfl, Oper.upon]
      first | exact .inl (hK _ _ h) | exact hK _ _ h
  · rw [hw] at hf; cases hf
end Go.Proofs.YtgkfodmccfnaoaaDoor

/- What the document's Right answers. -/
namespace Go.Proofs.YtgkfodmccfnaoaaDoor
open Go.RowKit Sums Nums
set_option linter.unusedVariables false
set_option linter.unusedSimpArgs false
set_option maxRecDepth 100000
/-- What the parts of an entry's row read as. -/
structure ERow (W : World) (g o : Nat) (x : EnT) : Prop where
  k : W.cell? ⟨g, o, none⟩ = some (.int .i64 x.k)
  c : W.cell? ⟨g, o + 1, none⟩ = some (.int .i64 x.c)
  s : W.cell? ⟨g, o + 2, none⟩ = some (.int .i64 x.s)
  t : W.cell? ⟨g, o + 3, none⟩ = some (.string x.t)
  h : W.rangeAt g (o + 4) (scells x.h)
  m : W.rangeAt g (o + 73) (ccells x.m)
theorem ERow.keep {W W' : World} {g o : Nat} {x : EnT} (r : ERow W g o x) (hb : Below W.heap.size W W') : ERow W' g o x := by
  have hg : g < W.heap.size := World.block_lt_of_cell? _ _ r.k
  exact ⟨(hb.cell hg).trans r.k, (hb.cell hg).trans r.c, (hb.cell hg).trans r.s, (hb.cell hg).trans r.t, range_keep hb r.h, range_keep hb r.m⟩
theorem erow_of {W : World} {g o : Nat} {x : EnT} (ok : OkE x) (hr : W.rangeAt g o (ecells x)) : ERow W g o x := by
  have hs := scells_length x.h ok.h ok.g
  refine ⟨?_, ?_, ?_, ?_, ?_, ?_⟩
  · have := hr 0 (.int .i64 x.k) rfl; simpa using this
  · exact hr 1 (.int .i64 x.c) rfl
  · exact hr 2 (.int .i64 x.s) rfl
  · exact hr 3 (.string x.t) rfl
  · intro j v hj
    have hlt := (List.getElem?_eq_some_iff.1 hj).1
    have := hr (4 + j) v (by
      unfold ecells
      rw [List.append_assoc, List.getElem?_append_right (by simp), List.getElem?_append_left (by simpa using hlt)]
      simpa using hj)
    rw [Nat.add_assoc]; exact this
  · intro j v hj
    have := hr (73 + j) v (by
      unfold ecells
      rw [List.getElem?_append_right (by simp [hs])]
      simp only [List.length_append, hs, List.length_cons, List.length_nil]
      rw [show 73 + j - (0 + 1 + 1 + 1 + 1 + 69) = j by omega]
      exact hj)
    rw [Nat.add_assoc]; exact this
theorem erow_new (w : World) (x : EnT) (ok : OkE x) (X : Array Value) (HX : Hid (X = (ecells x).toArray)) (t : TypeId) : ERow (w.alloc (.cells X t)) w.heap.size 0 x := by
  refine erow_of ok ?_
  intro j v hj
  rw [Nat.zero_add, cell_of_row _ _ j _ t (0, 0) (heap_alloc_new w _), HX.out]
  simpa using hj
theorem right_user {x : EnT} (h : x.k = 1) : rightE x = ((decide (1 ≤ x.c) && decide (x.c ≤ 3)) && ((decide (1 ≤ x.s) && decide (x.s ≤ 1000000)) && (decide (x.t.size ≤ 200) && (eqSB x.h zeroS && eqCB x.m zeroC)))) := by
  unfold rightE
  rw [if_pos h, Bool.eq_iff_iff]
  simp only [Bool.and_eq_true, decide_eq_true_eq, and_assoc]
theorem right_anchor {x : EnT} (h : x.k = 2) : rightE x = (decide (x.c = 0) && (decide (x.s = 0) && (decide (x.t.size = 0) && (mayS x.h && eqCB x.m zeroC)))) := by
  unfold rightE
  rw [if_neg (by omega), if_pos h, Bool.eq_iff_iff]
  simp only [Bool.and_eq_true, decide_eq_true_eq, and_assoc]
theorem right_claim {x : EnT} (h : x.k = 3) : rightE x = (decide (x.c = 0) && (decide (x.s = 0) && (decide (x.t.size = 0) && (eqSB x.h zeroS && rightC x.m)))) := by
  unfold rightE
  rw [if_neg (by omega), if_neg (by omega), if_pos h, Bool.eq_iff_iff]
  simp only [Bool.and_eq_true, decide_eq_true_eq, and_assoc]
theorem right_none {x : EnT} (h1 : ¬ x.k = 1) (h2 : ¬ x.k = 2) (h3 : ¬ x.k = 3) : rightE x = false := by
  unfold rightE
  rw [if_neg h1, if_neg h2, if_neg h3]
theorem text_zero (t : ByteArray) : t.toList.isEmpty = decide (t.size = 0) := by
  rw [Bool.eq_iff_iff, List.isEmpty_iff, decide_eq_true_eq, ByteArray.toList_eq]
  constructor
  · intro h
    have := congrArg List.length h
    exact this
  · intro h
    exact List.eq_nil_of_length_eq_zero h
set_option maxHeartbeats 8000000 in
theorem refRight_user (x : EnT) (ok : OkE x) (hk : x.k = 1) (w : World) (X : Array Value) (HX : Hid (X = (ecells x).toArray)) :
    Calls Tryd.prog 23 #[.agg X] w fun e w' => e = .returned (.bool (rightE x)) ∧ Below w.heap.size w w' := by
  have HR := erow_new w x ok X HX 32
  have HB : Hid (Below w.heap.size w (w.alloc (.cells X 32))) := (Below.refl _ _).alloc (Nat.le_refl _) _
  have c0 := HR.k
  have c1 := HR.c
  have c2 := HR.s
  have c3 := HR.t
  have hrh := HR.h
  have hrm := HR.m
  simp only [Nat.zero_add] at c1 c2 c3 hrh hrm
  obtain ⟨Q, HQ, HSQ, H1Q, H69Q⟩ := sign_row x.h ok.h ok.g
  obtain ⟨C, HC, HSC, H1C, H36C⟩ := claim_row5 x.m ok.m
  obtain ⟨ZS, HZS, HAS, HBS, H69S⟩ := noughtsS
  obtain ⟨ZC, HZC, HAC, HBC, H36Z⟩ := noughtsC
  have RQ : Hid (∀ W, Below (w.alloc (.cells X 32)).heap.size (w.alloc (.cells X 32)) W → W.rangeAt w.heap.size 4 Q.toList) := fun W hb => by rw [HQ.out]; exact range_keep hb (by simpa using hrh)
  have RC : Hid (∀ W, Below (w.alloc (.cells X 32)).heap.size (w.alloc (.cells X 32)) W → W.rangeAt w.heap.size 73 C.toList) := fun W hb => by rw [HC.out]; exact range_keep hb (by simpa using hrm)
  have H0 : Hid (Below (w.alloc (.cells X 32)).heap.size (w.alloc (.cells X 32)) (w.alloc (.cells X 32))) := Below.refl _ _
  have WI : Hid (∀ (n a b : Int) (W : World), Calls Tryd.prog 42 #[.int .i64 n, .int .i64 a, .int .i64 b] W fun e w' => e = .returned (.bool (decide (a ≤ n) && decide (n ≤ b))) ∧ w' = W) := within8_any
  obtain ⟨b1, hb1⟩ : ∃ b, (decide (1 ≤ x.c) && decide (x.c ≤ 3)) = b := ⟨_, rfl⟩
  obtain ⟨b2, hb2⟩ : ∃ b, (decide (1 ≤ x.s) && decide (x.s ≤ 1000000)) = b := ⟨_, rfl⟩
  obtain ⟨b3, hb3⟩ : ∃ b, decide (x.t.size ≤ 200) = b := ⟨_, rfl⟩
  have hb3' : decide ((x.t.size : Int) ≤ 200) = b3 := by rw [← hb3, Bool.eq_iff_iff, decide_eq_true_eq, decide_eq_true_eq]; omega
  obtain ⟨b4, hb4⟩ : ∃ b, eqSB x.h zeroS = b := ⟨_, rfl⟩
  obtain ⟨b5, hb5⟩ : ∃ b, eqCB x.m zeroC = b := ⟨_, rfl⟩
  have EQS : ∀ W, (binOp .eql 28 (.agg Q) (.agg ZS)).run Tryd.prog W = .ok (.bool b4) W := fun W => eqSigned x.h zeroS ok.h rfl ok.g rfl Q ZS HQ HZS b4 (by rw [← hb4]; exact eqSB_iff _ _) W
  have EQC : ∀ W, (binOp .eql 30 (.agg C) (.agg ZC)).run Tryd.prog W = .ok (.bool b5) W := fun W => eqClaim x.m zeroC ok.m rfl C ZC HC HZC b5 (by rw [← hb5]; exact eqCB_iff _ _) W
  have W1 := hidk (WI.out x.c 1 3)
  have W2 := hidk (WI.out x.s 1 1000000)
  rw [hb1] at W1
  rw [hb2] at W2
  rw [right_user hk]
  rw [hb1, hb2, hb3, hb4, hb5]
  rw [hk] at c0
  obtain ⟨c, hc⟩ : ∃ c, c = x.c := ⟨_, rfl⟩
  obtain ⟨s, hs⟩ : ∃ c, c = x.s := ⟨_, rfl⟩
  obtain ⟨t, ht⟩ : ∃ c, c = x.t := ⟨_, rfl⟩
  rw [← hc] at c1 W1
  rw [← hs] at c2 W2
  rw [← ht] at c3 hb3 hb3'
  have hml : t.size ≤ 9223372036854775807 ∨ 9223372036854775807 < t.size := by omega
  clear hb1 hb2 hb4 hb5 WI HR hrh hrm HX HQ HC HZS HZC ok hc hs ht hml
  cases b1
  · go_enter Tryd.func23, Tryd.ntmps23
    go_wp2_with fail
    refine (W1.out _).mono ?_
    rintro e w1 ⟨rfl, rfl⟩
    go_wp2
    go_ret
    exact ⟨rfl, HB.out⟩
  cases b2
  · go_enter Tryd.func23, Tryd.ntmps23
    go_wp2_with fail
    refine (W1.out _).mono ?_
    rintro e w1 ⟨rfl, rfl⟩
    go_wp2_with fail
    refine (W2.out _).mono ?_
    rintro e w1 ⟨rfl, rfl⟩
    go_wp2
    go_ret
    exact ⟨rfl, HB.out⟩
  cases b3
  · go_enter Tryd.func23, Tryd.ntmps23
    go_wp2_with fail
    refine (W1.out _).mono ?_
    rintro e w1 ⟨rfl, rfl⟩
    go_wp2_with fail
    refine (W2.out _).mono ?_
    rintro e w1 ⟨rfl, rfl⟩
    go_wp2
    go_ret
    exact ⟨rfl, HB.out⟩
  cases b4
  · go_enter Tryd.func23, Tryd.ntmps23
    go_wp2_with fail
    refine (W1.out _).mono ?_
    rintro e w1 ⟨rfl, rfl⟩
    go_wp2_with fail
    refine (W2.out _).mono ?_
    rintro e w1 ⟨rfl, rfl⟩
    go_wp2_with (first
      | (show wpList _ _ _ ({ dst := some 23, op := _, type := _, pos := _, after := _, guard := _ } :: _) _ _; refine wpList_mid_w (by rfl) 28 (.tmp 22) rfl w.heap.size 4 rfl Q _ (RQ.out _ H0.out) Tryd.underlying28 rfl HSQ.out ?_; try simp only [Act.put, List.setIfInBounds_toArray, List.set_cons_zero, List.set_cons_succ])
      | (show wpList _ _ _ ({ dst := some 24, op := _, type := _, pos := _, after := _, guard := _ } :: _) _ _; refine wpList_build_none_w (by rfl) 28 rfl ZS HBS.out ?_; try simp only [Act.put, List.setIfInBounds_toArray, List.set_cons_zero, List.set_cons_succ])
      | (show wpList _ _ _ ({ dst := some 29, op := _, type := _, pos := _, after := _, guard := _ } :: _) _ _; refine wpList_mid_w (by rfl) 30 (.tmp 28) rfl w.heap.size 73 rfl C _ (RC.out _ H0.out) Tryd.underlying30 rfl HSC.out ?_; try simp only [Act.put, List.setIfInBounds_toArray, List.set_cons_zero, List.set_cons_succ])
      | (show wpList _ _ _ ({ dst := some 30, op := _, type := _, pos := _, after := _, guard := _ } :: _) _ _; refine wpList_build_none_w (by rfl) 30 rfl ZC HBC.out ?_; try simp only [Act.put, List.setIfInBounds_toArray, List.set_cons_zero, List.set_cons_succ])
      | fail)
    go_ret
    exact ⟨rfl, HB.out⟩
  · go_enter Tryd.func23, Tryd.ntmps23
    go_wp2_with fail
    refine (W1.out _).mono ?_
    rintro e w1 ⟨rfl, rfl⟩
    go_wp2_with fail
    refine (W2.out _).mono ?_
    rintro e w1 ⟨rfl, rfl⟩
    go_wp2_with (first
      | (show wpList _ _ _ ({ dst := some 23, op := _, type := _, pos := _, after := _, guard := _ } :: _) _ _; refine wpList_mid_w (by rfl) 28 (.tmp 22) rfl w.heap.size 4 rfl Q _ (RQ.out _ H0.out) Tryd.underlying28 rfl HSQ.out ?_; try simp only [Act.put, List.setIfInBounds_toArray, List.set_cons_zero, List.set_cons_succ])
      | (show wpList _ _ _ ({ dst := some 24, op := _, type := _, pos := _, after := _, guard := _ } :: _) _ _; refine wpList_build_none_w (by rfl) 28 rfl ZS HBS.out ?_; try simp only [Act.put, List.setIfInBounds_toArray, List.set_cons_zero, List.set_cons_succ])
      | (show wpList _ _ _ ({ dst := some 29, op := _, type := _, pos := _, after := _, guard := _ } :: _) _ _; refine wpList_mid_w (by rfl) 30 (.tmp 28) rfl w.heap.size 73 rfl C _ (RC.out _ H0.out) Tryd.underlying30 rfl HSC.out ?_; try simp only [Act.put, List.setIfInBounds_toArray, List.set_cons_zero, List.set_cons_succ])
      | (show wpList _ _ _ ({ dst := some 30, op := _, type := _, pos := _, after := _, guard := _ } :: _) _ _; refine wpList_build_none_w (by rfl) 30 rfl ZC HBC.out ?_; try simp only [Act.put, List.setIfInBounds_toArray, List.set_cons_zero, List.set_cons_succ])
      | fail)
    go_ret
    exact ⟨rfl, HB.out⟩
set_option maxHeartbeats 8000000 in
theorem refRight_anchor (x : EnT) (ok : OkE x) (hk : x.k = 2) (w : World) (X : Array Value) (HX : Hid (X = (ecells x).toArray)) :
    Calls Tryd.prog 23 #[.agg X] w fun e w' => e = .returned (.bool (rightE x)) ∧ Below w.heap.size w w' := by
  have HR := erow_new w x ok X HX 32
  have HB : Hid (Below w.heap.size w (w.alloc (.cells X 32))) := (Below.refl _ _).alloc (Nat.le_refl _) _
  have c0 := HR.k
  have c1 := HR.c
  have c2 := HR.s
  have c3 := HR.t
  have hrh := HR.h
  have hrm := HR.m
  simp only [Nat.zero_add] at c1 c2 c3 hrh hrm
  obtain ⟨Q, HQ, HSQ, H1Q, H69Q⟩ := sign_row x.h ok.h ok.g
  obtain ⟨C, HC, HSC, H1C, H36C⟩ := claim_row5 x.m ok.m
  obtain ⟨ZS, HZS, HAS, HBS, H69S⟩ := noughtsS
  obtain ⟨ZC, HZC, HAC, HBC, H36Z⟩ := noughtsC
  have RQ : Hid (∀ W, Below (w.alloc (.cells X 32)).heap.size (w.alloc (.cells X 32)) W → W.rangeAt w.heap.size 4 Q.toList) := fun W hb => by rw [HQ.out]; exact range_keep hb (by simpa using hrh)
  have RC : Hid (∀ W, Below (w.alloc (.cells X 32)).heap.size (w.alloc (.cells X 32)) W → W.rangeAt w.heap.size 73 C.toList) := fun W hb => by rw [HC.out]; exact range_keep hb (by simpa using hrm)
  have H0 : Hid (Below (w.alloc (.cells X 32)).heap.size (w.alloc (.cells X 32)) (w.alloc (.cells X 32))) := Below.refl _ _
  obtain ⟨b1, hb1⟩ : ∃ b, decide (x.c = 0) = b := ⟨_, rfl⟩
  obtain ⟨b2, hb2⟩ : ∃ b, decide (x.s = 0) = b := ⟨_, rfl⟩
  obtain ⟨b3, hb3⟩ : ∃ b, decide (x.t.size = 0) = b := ⟨_, rfl⟩
  have q1 : (x.c == 0) = b1 := by rw [← hb1, Bool.eq_iff_iff, beq_iff_eq, decide_eq_true_eq]
  have q2 : (x.s == 0) = b2 := by rw [← hb2, Bool.eq_iff_iff, beq_iff_eq, decide_eq_true_eq]
  have q3 : x.t.toList.isEmpty = b3 := by rw [← hb3]; exact text_zero x.t
  have EQ1 : ∀ W, (binOp .eql 3 (.int .i64 x.c) (.int .i64 0)).run Tryd.prog W = .ok (.bool b1) W := fun W => by rw [← q1]; simp [go_sem]
  have EQ2 : ∀ W, (binOp .eql 3 (.int .i64 x.s) (.int .i64 0)).run Tryd.prog W = .ok (.bool b2) W := fun W => by rw [← q2]; simp [go_sem]
  obtain ⟨b4, hb4⟩ : ∃ b, mayS x.h = b := ⟨_, rfl⟩
  obtain ⟨b5, hb5⟩ : ∃ b, eqCB x.m zeroC = b := ⟨_, rfl⟩
  have MY : Hid (∀ W, Calls Tryd.prog 43 #[.agg Q] W fun e w' => e = .returned (.bool b4) ∧ Below W.heap.size W w') := fun W => by rw [← hb4]; exact refMay_any x.h ok.h W Q HQ
  have EQC : ∀ W, (binOp .eql 30 (.agg C) (.agg ZC)).run Tryd.prog W = .ok (.bool b5) W := fun W => eqClaim x.m zeroC ok.m rfl C ZC HC HZC b5 (by rw [← hb5]; exact eqCB_iff _ _) W
  rw [right_anchor hk]
  rw [hb1, hb2, hb3, hb4, hb5]
  rw [hk] at c0
  obtain ⟨c, hc⟩ : ∃ c, c = x.c := ⟨_, rfl⟩
  obtain ⟨s, hs⟩ : ∃ c, c = x.s := ⟨_, rfl⟩
  obtain ⟨t, ht⟩ : ∃ c, c = x.t := ⟨_, rfl⟩
  rw [← hc] at c1 q1 EQ1
  rw [← hs] at c2 q2 EQ2
  rw [← ht] at c3 q3
  clear hb1 hb2 hb3 hb4 hb5 HR hrh hrm HX HQ HC HZS HZC ok hc hs ht
  cases b1
  · go_enter Tryd.func23, Tryd.ntmps23
    go_wp2
    go_ret
    exact ⟨rfl, HB.out⟩
  cases b2
  · go_enter Tryd.func23, Tryd.ntmps23
    go_wp2
    go_ret
    exact ⟨rfl, HB.out⟩
  cases b3
  · go_enter Tryd.func23, Tryd.ntmps23
    go_wp2
    go_ret
    exact ⟨rfl, HB.out⟩
  cases b4
  · go_enter Tryd.func23, Tryd.ntmps23
    go_wp2_with (first
      | (show wpList _ _ _ ({ dst := some 50, op := _, type := _, pos := _, after := _, guard := _ } :: _) _ _; refine wpList_mid_w (by rfl) 28 (.tmp 49) rfl w.heap.size 4 rfl Q _ (RQ.out _ H0.out) Tryd.underlying28 rfl HSQ.out ?_; try simp only [Act.put, List.setIfInBounds_toArray, List.set_cons_zero, List.set_cons_succ])
      | fail)
    refine (MY.out _).mono ?_
    rintro e w1 ⟨rfl, hb1⟩
    have HB1 := hidk (HB.out.trans (hb1.mono HB.out.size))
    have HRC1 := hidk (RC.out _ hb1)
    clear hb1
    go_wp2_with (first
      | fail)
    go_ret
    exact ⟨rfl, HB1.out⟩
  · go_enter Tryd.func23, Tryd.ntmps23
    go_wp2_with (first
      | (show wpList _ _ _ ({ dst := some 50, op := _, type := _, pos := _, after := _, guard := _ } :: _) _ _; refine wpList_mid_w (by rfl) 28 (.tmp 49) rfl w.heap.size 4 rfl Q _ (RQ.out _ H0.out) Tryd.underlying28 rfl HSQ.out ?_; try simp only [Act.put, List.setIfInBounds_toArray, List.set_cons_zero, List.set_cons_succ])
      | fail)
    refine (MY.out _).mono ?_
    rintro e w1 ⟨rfl, hb1⟩
    have HB1 := hidk (HB.out.trans (hb1.mono HB.out.size))
    have HRC1 := hidk (RC.out _ hb1)
    clear hb1
    go_wp2_with (first
      | (show wpList _ _ _ ({ dst := some 55, op := _, type := _, pos := _, after := _, guard := _ } :: _) _ _; refine wpList_mid_w (by rfl) 30 (.tmp 54) rfl w.heap.size 73 rfl C _ HRC1.out Tryd.underlying30 rfl HSC.out ?_; try simp only [Act.put, List.setIfInBounds_toArray, List.set_cons_zero, List.set_cons_succ])
      | (show wpList _ _ _ ({ dst := some 56, op := _, type := _, pos := _, after := _, guard := _ } :: _) _ _; refine wpList_build_none_w (by rfl) 30 rfl ZC HBC.out ?_; try simp only [Act.put, List.setIfInBounds_toArray, List.set_cons_zero, List.set_cons_succ])
      | fail)
    go_ret
    exact ⟨rfl, HB1.out⟩
set_option maxHeartbeats 8000000 in
theorem refRight_claim (x : EnT) (ok : OkE x) (hk : x.k = 3) (w : World) (X : Array Value) (HX : Hid (X = (ecells x).toArray)) :
    Calls Tryd.prog 23 #[.agg X] w fun e w' => e = .returned (.bool (rightE x)) ∧ Below w.heap.size w w' := by
  have HR := erow_new w x ok X HX 32
  have HB : Hid (Below w.heap.size w (w.alloc (.cells X 32))) := (Below.refl _ _).alloc (Nat.le_refl _) _
  have c0 := HR.k
  have c1 := HR.c
  have c2 := HR.s
  have c3 := HR.t
  have hrh := HR.h
  have hrm := HR.m
  simp only [Nat.zero_add] at c1 c2 c3 hrh hrm
  obtain ⟨Q, HQ, HSQ, H1Q, H69Q⟩ := sign_row x.h ok.h ok.g
  obtain ⟨C, HC, HSC, H1C, H36C⟩ := claim_row5 x.m ok.m
  obtain ⟨ZS, HZS, HAS, HBS, H69S⟩ := noughtsS
  obtain ⟨ZC, HZC, HAC, HBC, H36Z⟩ := noughtsC
  have RQ : Hid (∀ W, Below (w.alloc (.cells X 32)).heap.size (w.alloc (.cells X 32)) W → W.rangeAt w.heap.size 4 Q.toList) := fun W hb => by rw [HQ.out]; exact range_keep hb (by simpa using hrh)
  have RC : Hid (∀ W, Below (w.alloc (.cells X 32)).heap.size (w.alloc (.cells X 32)) W → W.rangeAt w.heap.size 73 C.toList) := fun W hb => by rw [HC.out]; exact range_keep hb (by simpa using hrm)
  have H0 : Hid (Below (w.alloc (.cells X 32)).heap.size (w.alloc (.cells X 32)) (w.alloc (.cells X 32))) := Below.refl _ _
  obtain ⟨b1, hb1⟩ : ∃ b, decide (x.c = 0) = b := ⟨_, rfl⟩
  obtain ⟨b2, hb2⟩ : ∃ b, decide (x.s = 0) = b := ⟨_, rfl⟩
  obtain ⟨b3, hb3⟩ : ∃ b, decide (x.t.size = 0) = b := ⟨_, rfl⟩
  have q1 : (x.c == 0) = b1 := by rw [← hb1, Bool.eq_iff_iff, beq_iff_eq, decide_eq_true_eq]
  have q2 : (x.s == 0) = b2 := by rw [← hb2, Bool.eq_iff_iff, beq_iff_eq, decide_eq_true_eq]
  have q3 : x.t.toList.isEmpty = b3 := by rw [← hb3]; exact text_zero x.t
  have EQ1 : ∀ W, (binOp .eql 3 (.int .i64 x.c) (.int .i64 0)).run Tryd.prog W = .ok (.bool b1) W := fun W => by rw [← q1]; simp [go_sem]
  have EQ2 : ∀ W, (binOp .eql 3 (.int .i64 x.s) (.int .i64 0)).run Tryd.prog W = .ok (.bool b2) W := fun W => by rw [← q2]; simp [go_sem]
  obtain ⟨b4, hb4⟩ : ∃ b, eqSB x.h zeroS = b := ⟨_, rfl⟩
  obtain ⟨b5, hb5⟩ : ∃ b, rightC x.m = b := ⟨_, rfl⟩
  have EQS : ∀ W, (binOp .eql 28 (.agg Q) (.agg ZS)).run Tryd.prog W = .ok (.bool b4) W := fun W => eqSigned x.h zeroS ok.h rfl ok.g rfl Q ZS HQ HZS b4 (by rw [← hb4]; exact eqSB_iff _ _) W
  have RR : Hid (∀ W, Calls Tryd.prog 44 #[.agg C] W fun e w' => e = .returned (.bool b5) ∧ Below W.heap.size W w') := fun W => by rw [← hb5]; exact refRightC_any x.m W C HC
  rw [right_claim hk]
  rw [hb1, hb2, hb3, hb4, hb5]
  rw [hk] at c0
  obtain ⟨c, hc⟩ : ∃ c, c = x.c := ⟨_, rfl⟩
  obtain ⟨s, hs⟩ : ∃ c, c = x.s := ⟨_, rfl⟩
  obtain ⟨t, ht⟩ : ∃ c, c = x.t := ⟨_, rfl⟩
  rw [← hc] at c1 q1 EQ1
  rw [← hs] at c2 q2 EQ2
  rw [← ht] at c3 q3
  clear hb1 hb2 hb3 hb4 hb5 HR hrh hrm HX HQ HC HZS HZC ok hc hs ht
  cases b1
  · go_enter Tryd.func23, Tryd.ntmps23
    go_wp2
    go_ret
    exact ⟨rfl, HB.out⟩
  cases b2
  · go_enter Tryd.func23, Tryd.ntmps23
    go_wp2
    go_ret
    exact ⟨rfl, HB.out⟩
  cases b3
  · go_enter Tryd.func23, Tryd.ntmps23
    go_wp2
    go_ret
    exact ⟨rfl, HB.out⟩
  cases b4
  · go_enter Tryd.func23, Tryd.ntmps23
    go_wp2_with (first
      | (show wpList _ _ _ ({ dst := some 76, op := _, type := _, pos := _, after := _, guard := _ } :: _) _ _; refine wpList_mid_w (by rfl) 28 (.tmp 75) rfl w.heap.size 4 rfl Q _ (RQ.out _ H0.out) Tryd.underlying28 rfl HSQ.out ?_; try simp only [Act.put, List.setIfInBounds_toArray, List.set_cons_zero, List.set_cons_succ])
      | (show wpList _ _ _ ({ dst := some 77, op := _, type := _, pos := _, after := _, guard := _ } :: _) _ _; refine wpList_build_none_w (by rfl) 28 rfl ZS HBS.out ?_; try simp only [Act.put, List.setIfInBounds_toArray, List.set_cons_zero, List.set_cons_succ])
      | (show wpList _ _ _ ({ dst := some 82, op := _, type := _, pos := _, after := _, guard := _ } :: _) _ _; refine wpList_mid_w (by rfl) 30 (.tmp 81) rfl w.heap.size 73 rfl C _ (RC.out _ H0.out) Tryd.underlying30 rfl HSC.out ?_; try simp only [Act.put, List.setIfInBounds_toArray, List.set_cons_zero, List.set_cons_succ])
      | fail)
    go_ret
    exact ⟨rfl, HB.out⟩
  · go_enter Tryd.func23, Tryd.ntmps23
    go_wp2_with (first
      | (show wpList _ _ _ ({ dst := some 76, op := _, type := _, pos := _, after := _, guard := _ } :: _) _ _; refine wpList_mid_w (by rfl) 28 (.tmp 75) rfl w.heap.size 4 rfl Q _ (RQ.out _ H0.out) Tryd.underlying28 rfl HSQ.out ?_; try simp only [Act.put, List.setIfInBounds_toArray, List.set_cons_zero, List.set_cons_succ])
      | (show wpList _ _ _ ({ dst := some 77, op := _, type := _, pos := _, after := _, guard := _ } :: _) _ _; refine wpList_build_none_w (by rfl) 28 rfl ZS HBS.out ?_; try simp only [Act.put, List.setIfInBounds_toArray, List.set_cons_zero, List.set_cons_succ])
      | (show wpList _ _ _ ({ dst := some 82, op := _, type := _, pos := _, after := _, guard := _ } :: _) _ _; refine wpList_mid_w (by rfl) 30 (.tmp 81) rfl w.heap.size 73 rfl C _ (RC.out _ H0.out) Tryd.underlying30 rfl HSC.out ?_; try simp only [Act.put, List.setIfInBounds_toArray, List.set_cons_zero, List.set_cons_succ])
      | fail)
    refine (RR.out _).mono ?_
    rintro e w1 ⟨rfl, hb1⟩
    have HB1 := hidk (HB.out.trans (hb1.mono HB.out.size))
    clear hb1
    go_wp2_with fail
    go_ret
    exact ⟨rfl, HB1.out⟩
set_option maxHeartbeats 4000000 in
theorem refRight_none (x : EnT) (ok : OkE x) (h1 : ¬ x.k = 1) (h2 : ¬ x.k = 2) (h3 : ¬ x.k = 3) (w : World) (X : Array Value) (HX : Hid (X = (ecells x).toArray)) :
    Calls Tryd.prog 23 #[.agg X] w fun e w' => e = .returned (.bool (rightE x)) ∧ Below w.heap.size w w' := by
  rw [right_none h1 h2 h3]
  have HB : Hid (Below w.heap.size w (w.alloc (.cells X 32))) := (Below.refl _ _).alloc (Nat.le_refl _) _
  have c0 := (erow_new w x ok X HX 32).k
  have q1 : (x.k == 1) = false := by rw [beq_eq_false_iff_ne]; exact h1
  have q2 : (x.k == 2) = false := by rw [beq_eq_false_iff_ne]; exact h2
  have q3 : (x.k == 3) = false := by rw [beq_eq_false_iff_ne]; exact h3
  have d1 : decide (x.k = 1) = false := by rw [decide_eq_false_iff_not]; exact h1
  have d2 : decide (x.k = 2) = false := by rw [decide_eq_false_iff_not]; exact h2
  have d3 : decide (x.k = 3) = false := by rw [decide_eq_false_iff_not]; exact h3
  obtain ⟨k, hk⟩ : ∃ k, k = x.k := ⟨_, rfl⟩
  rw [← hk] at c0 q1 q2 q3 d1 d2 d3 h1 h2 h3
  clear HX ok hk
  go_enter Tryd.func23, Tryd.ntmps23
  go_wp2
  go_ret
  exact ⟨rfl, HB.out⟩
theorem refRightE_any (x : EnT) (ok : OkE x) (w : World) (X : Array Value) (HX : Hid (X = (ecells x).toArray)) :
    Calls Tryd.prog 23 #[.agg X] w fun e w' => e = .returned (.bool (rightE x)) ∧ Below w.heap.size w w' := by
  by_cases h1 : x.k = 1
  · exact refRight_user x ok h1 w X HX
  by_cases h2 : x.k = 2
  · exact refRight_anchor x ok h2 w X HX
  by_cases h3 : x.k = 3
  · exact refRight_claim x ok h3 w X HX
  exact refRight_none x ok h1 h2 h3 w X HX
end Go.Proofs.YtgkfodmccfnaoaaDoor

/- What the document's fields, Bytes and Put answer, of right entries. -/
namespace Go.Proofs.YtgkfodmccfnaoaaDoor
open Go.RowKit Sums Nums
set_option linter.unusedVariables false
set_option linter.unusedSimpArgs false
set_option maxRecDepth 100000
theorem ERow.low {W W' : World} {g o B : Nat} {x : EnT} (r : ERow W g o x) (hb : Below B W W') (hg : g < B) : ERow W' g o x :=
  ⟨(hb.cell hg).trans r.k, (hb.cell hg).trans r.c, (hb.cell hg).trans r.s, (hb.cell hg).trans r.t, fun j v hj => (hb.cell hg).trans (r.h j v hj), fun j v hj => (hb.cell hg).trans (r.m j v hj)⟩
/-- The entry, and the fields that were laid behind one another. -/
structure FO (w : World) (x : EnT) (v : Value) (fs : List (Int × ByteArray)) (W : World) : Prop where
  row : ERow W w.heap.size 0 x
  own : W.ownsRow (w.heap.size + 1) 56 2 v fs.length (fcells fs)
  nil : v = .slice none 0 0 ↔ fs = []
  below : Below w.heap.size w W
  size : w.heap.size + 1 ≤ W.heap.size
theorem FO.keep {w W W' : World} {x : EnT} {v : Value} {fs : List (Int × ByteArray)} (h : FO w x v fs W) (hb : Below W.heap.size W W') : FO w x v fs W' :=
  ⟨h.row.keep hb, h.own.kept (row := none) ⟨hb.os, hb.tape, hb.output, hb.size, fun j hj _ => hb.block j hj⟩ (by cases hv : v.ownBlock <;> simp), h.nil, h.below.trans (hb.mono h.below.size), Nat.le_trans h.size hb.size⟩
theorem FO.first {w W : World} {x : EnT} (hr : ERow W w.heap.size 0 x) (hb : Below w.heap.size w W) (hs : w.heap.size + 1 ≤ W.heap.size) (n : ByteArray) : FO w x (.slice (some ⟨W.heap.size, 0, none⟩) 1 1) [(1, n)] (W.alloc (.cells #[.int .i64 1, .string n] 56)) := by
  have h0 : Below W.heap.size W (W.alloc (.cells #[.int .i64 1, .string n] 56)) := (Below.refl _ _).alloc (Nat.le_refl _) _
  refine ⟨hr.keep h0, ⟨rfl, .inr ⟨W.heap.size, 1, #[.int .i64 1, .string n], rfl, hs, heap_alloc_new W _, Nat.le_refl _, by unfold maxLen; decide, rfl, rfl⟩⟩, ?_, hb.trans (h0.mono hb.size), by simp; omega⟩
  constructor
  · intro e; cases e
  · intro e; cases e
theorem FO.app {w W : World} {x : EnT} {v : Value} {fs : List (Int × ByteArray)} (h : FO w x v fs W) (hl : fs.length ≤ 1000) (t : Int) (n : ByteArray) :
    ∃ v' w1, (Builtin.append_ #[58, 58] 58 #[v, .slice (some ⟨W.heap.size, 0, none⟩) 1 1]).run Tryd.prog (W.alloc (.cells #[.int .i64 t, .string n] 56)) = .ok v' w1 ∧ FO w x v' (fs ++ [(t, n)]) w1 := by
  obtain ⟨v', w1, hr, ho, hb, _, _⟩ := run_append_field W (w.heap.size + 1) v fs (t, n) h.own h.nil h.size (by omega)
  refine ⟨v', w1, hr, h.row.low hb (by omega), by rw [List.length_append]; exact ho, ?_, h.below.trans (hb.mono (by omega)), Nat.le_trans h.size hb.size⟩
  constructor
  · intro e
    subst e
    rcases ho.2 with ⟨_, h0⟩ | ⟨g, cap, cur, e, _⟩
    · omega
    · cases e
  · intro e; simp at e
set_option maxHeartbeats 2000000 in
theorem refFields_user (x : EnT) (ok : OkE x) (hk : x.k = 1) (hright : rightE x = true) (w : World) (X : Array Value) (HX : Hid (X = (ecells x).toArray)) :
    Calls Tryd.prog 46 #[.agg X] w fun e w' => ∃ v, e = .returned v ∧ w'.ownsRow w.heap.size 56 2 v (fieldsE x).length (fcells (fieldsE x)) ∧ Below w.heap.size w w' := by
  have HR := hidk (erow_new w x ok X HX 32)
  have HB : Hid (Below w.heap.size w (w.alloc (.cells X 32))) := (Below.refl _ _).alloc (Nat.le_refl _) _
  have c0 := HR.out.k
  rw [hk] at c0
  obtain ⟨n1, Hn1⟩ : ∃ n, Hid (n = nOf 1) := ⟨_, hidk rfl⟩
  have N1 : Hid (∀ W, Calls Tryd.prog 55 #[.int .i64 1] W fun e w' => e = .returned (.string n1) ∧ Below W.heap.size W w') := fun W => by rw [Hn1.out]; exact refNum_any 1 W
  obtain ⟨c, hc⟩ : ∃ c, Hid (c = x.c) := ⟨_, hidk rfl⟩
  obtain ⟨s, hs⟩ : ∃ c, Hid (c = x.s) := ⟨_, hidk rfl⟩
  obtain ⟨t, ht⟩ : ∃ c, Hid (c = x.t) := ⟨_, hidk rfl⟩
  obtain ⟨n2, Hn2⟩ : ∃ n, Hid (n = nOf c) := ⟨_, hidk rfl⟩
  obtain ⟨n3, Hn3⟩ : ∃ n, Hid (n = nOf s) := ⟨_, hidk rfl⟩
  have N2 : Hid (∀ W, Calls Tryd.prog 55 #[.int .i64 c] W fun e w' => e = .returned (.string n2) ∧ Below W.heap.size W w') := fun W => by rw [Hn2.out]; exact refNum_any c W
  have N3 : Hid (∀ W, Calls Tryd.prog 55 #[.int .i64 s] W fun e w' => e = .returned (.string n3) ∧ Below W.heap.size W w') := fun W => by rw [Hn3.out]; exact refNum_any s W
  have HFE : Hid (fieldsE x = [(1, n1), (2, n2), (3, n3), (4, t)]) := by show _ = _; rw [fields_user hk, Hn1.out, Hn2.out, Hn3.out, hc.out, hs.out, ht.out]
  clear Hn1 Hn2 Hn3 HX
  go_enter Tryd.func46, Tryd.ntmps46
  go_wp2_with fail
  refine (N1.out _).mono ?_
  rintro e w1 ⟨rfl, hb1⟩
  have HF1 := hidk (FO.first (x := x) (HR.out.keep hb1) (HB.out.trans (hb1.mono HB.out.size)) (by have := hb1.size; simp at this; omega) n1)
  have k1 := HF1.out.row.k
  rw [hk] at k1
  clear hb1 HR HB N1 c0
  have c1 := HF1.out.row.c
  rw [← hc.out, Nat.zero_add] at c1
  go_wp2_with fail
  refine (N2.out _).mono ?_
  rintro e w2 ⟨rfl, hb2⟩
  have HF2 := hidk (HF1.out.keep hb2)
  obtain ⟨v3, w3, hr3, hF3⟩ := HF2.out.app (by simp) 2 n2
  have HRUN3 := hidk hr3
  have HF3 := hidk hF3
  have c2 := HF3.out.row.s
  rw [← hs.out, Nat.zero_add] at c2
  clear hb2 HF1 HF2 hr3 hF3 N2 c1 k1
  go_wp2_with (first
    | (show wpList _ _ _ ({ dst := some 19, op := _, type := _, pos := _, after := _, guard := _ } :: _) _ _; refine wpList_append_run rfl (.tmp 13) (.tmp 18) 58 58 rfl _ _ v3 w3 rfl rfl HRUN3.out ?_; try simp only [Act.put, List.setIfInBounds_toArray, List.set_cons_zero, List.set_cons_succ])
    | fail)
  refine (N3.out _).mono ?_
  rintro e w4 ⟨rfl, hb4⟩
  have HF4 := hidk (HF3.out.keep hb4)
  obtain ⟨v5, w5, hr5, hF5⟩ := HF4.out.app (by simp) 3 n3
  have HRUN5 := hidk hr5
  have HF5 := hidk hF5
  have c3 := HF5.out.row.t
  rw [← ht.out, Nat.zero_add] at c3
  obtain ⟨v6, w6, hr6, hF6⟩ := HF5.out.app (by simp) 4 t
  have HRUN6 := hidk hr6
  have HF6 := hidk hF6
  clear hb4 HF3 HF4 HF5 hr5 hF5 hr6 hF6 N3 c2 HRUN3
  go_wp2_with (first
    | (show wpList _ _ _ ({ dst := some 26, op := _, type := _, pos := _, after := _, guard := _ } :: _) _ _; refine wpList_append_run rfl (.tmp 20) (.tmp 25) 58 58 rfl _ _ v5 w5 rfl rfl HRUN5.out ?_; try simp only [Act.put, List.setIfInBounds_toArray, List.set_cons_zero, List.set_cons_succ])
    | (show wpList _ _ _ ({ dst := some 32, op := _, type := _, pos := _, after := _, guard := _ } :: _) _ _; refine wpList_append_run rfl (.tmp 27) (.tmp 31) 58 58 rfl _ _ v6 w6 rfl rfl HRUN6.out ?_; try simp only [Act.put, List.setIfInBounds_toArray, List.set_cons_zero, List.set_cons_succ])
    | fail)
  go_ret
  refine ⟨_, rfl, ?_, HF6.out.below⟩
  rw [HFE.out]
  exact own_lower HF6.out.own (by omega)
set_option maxHeartbeats 2000000 in
theorem refFields_anchor (x : EnT) (ok : OkE x) (hk : x.k = 2) (hright : rightE x = true) (w : World) (X : Array Value) (HX : Hid (X = (ecells x).toArray)) :
    Calls Tryd.prog 46 #[.agg X] w fun e w' => ∃ v, e = .returned v ∧ w'.ownsRow w.heap.size 56 2 v (fieldsE x).length (fcells (fieldsE x)) ∧ Below w.heap.size w w' := by
  have HR := hidk (erow_new w x ok X HX 32)
  have HB : Hid (Below w.heap.size w (w.alloc (.cells X 32))) := (Below.refl _ _).alloc (Nat.le_refl _) _
  have c0 := HR.out.k
  rw [hk] at c0
  obtain ⟨n1, Hn1⟩ : ∃ n, Hid (n = nOf 2) := ⟨_, hidk rfl⟩
  have N1 : Hid (∀ W, Calls Tryd.prog 55 #[.int .i64 2] W fun e w' => e = .returned (.string n1) ∧ Below W.heap.size W w') := fun W => by rw [Hn1.out]; exact refNum_any 2 W
  obtain ⟨Q, HQ, HSQ, H1Q, HZQ⟩ := sign_row x.h ok.h ok.g
  obtain ⟨L, hL⟩ : ∃ l, l = signB x.h := ⟨_, rfl⟩
  obtain ⟨n2, Hn2⟩ : ∃ n : ByteArray, Hid (n = ⟨L.toArray⟩) := ⟨_, hidk rfl⟩
  have SB : Hid (∀ W, Calls Tryd.prog 73 #[.agg Q] W fun e w' => ∃ v, e = .returned v ∧ w'.ownsRow W.heap.size 5 1 v L.length (cellsOf L) ∧ Below W.heap.size W w') := fun W => by rw [hL]; exact refSB_any x.h ok.h ok.g W Q HQ
  have HFE : Hid (fieldsE x = [(1, n1), (5, n2)]) := by show _ = _; rw [fields_anchor hk, Hn1.out, Hn2.out, hL]; rfl
  have HRQ : Hid (∀ W, ERow W w.heap.size 0 x → W.rangeAt w.heap.size 4 Q.toList) := fun W h => by
    have := h.h
    rw [Nat.zero_add] at this
    rw [HQ.out]; simpa using this
  have CV : Hid (∀ W a cap, Reads W a L.length cap L → (convert 33 9 (.slice a L.length cap)).run Tryd.prog W = .ok (.string n2) W) := fun W a cap h => by rw [Hn2.out]; exact conv_reads h
  obtain ⟨len, hlen⟩ : ∃ n, Hid (n = L.length) := ⟨_, hidk rfl⟩
  rw [← hlen.out] at SB CV
  clear Hn1 Hn2 HX HQ hL
  go_enter Tryd.func46, Tryd.ntmps46
  go_wp2_with fail
  refine (N1.out _).mono ?_
  rintro e w1 ⟨rfl, hb1⟩
  have HF1 := hidk (FO.first (x := x) (HR.out.keep hb1) (HB.out.trans (hb1.mono HB.out.size)) (by have := hb1.size; simp at this; omega) n1)
  have k1 := HF1.out.row.k
  rw [hk] at k1
  clear hb1 HR HB N1 c0
  go_wp2_with (first
    | (show wpList _ _ _ ({ dst := some 37, op := _, type := _, pos := _, after := _, guard := _ } :: _) _ _; refine wpList_mid rfl 28 (.tmp 36) rfl w.heap.size 4 rfl Q _ (HRQ.out _ HF1.out.row) Tryd.underlying28 rfl HSQ.out ?_; try simp only [Act.put, List.setIfInBounds_toArray, List.set_cons_zero, List.set_cons_succ])
    | fail)
  refine (SB.out _).mono ?_
  rintro e w2 ⟨v, rfl, hown, hb2⟩
  rw [hlen.out] at hown
  obtain ⟨a2, cap2, rfl, hR2⟩ := reads_own hown
  rw [← hlen.out] at hR2 ⊢
  have c2 := CV.out w2 a2 cap2 hR2
  have HF2 := hidk (HF1.out.keep hb2)
  obtain ⟨v3, w3, hr3, hF3⟩ := HF2.out.app (by simp) 5 n2
  have HRUN3 := hidk hr3
  have HF3 := hidk hF3
  clear hown hR2 hb2 HF1 HF2 hr3 hF3 SB CV k1 HRQ
  go_wp2_with (first
    | (show wpList _ _ _ ({ dst := some 42, op := _, type := _, pos := _, after := _, guard := _ } :: _) _ _; refine wpList_append_run rfl (.tmp 35) (.tmp 41) 58 58 rfl _ _ v3 w3 rfl rfl HRUN3.out ?_; try simp only [Act.put, List.setIfInBounds_toArray, List.set_cons_zero, List.set_cons_succ])
    | fail)
  go_ret
  refine ⟨_, rfl, ?_, HF3.out.below⟩
  rw [HFE.out]
  exact own_lower HF3.out.own (by omega)
set_option maxHeartbeats 2000000 in
theorem refFields_claim (x : EnT) (ok : OkE x) (hk : x.k = 3) (hright : rightE x = true) (w : World) (X : Array Value) (HX : Hid (X = (ecells x).toArray)) :
    Calls Tryd.prog 46 #[.agg X] w fun e w' => ∃ v, e = .returned v ∧ w'.ownsRow w.heap.size 56 2 v (fieldsE x).length (fcells (fieldsE x)) ∧ Below w.heap.size w w' := by
  have HR := hidk (erow_new w x ok X HX 32)
  have HB : Hid (Below w.heap.size w (w.alloc (.cells X 32))) := (Below.refl _ _).alloc (Nat.le_refl _) _
  have c0 := HR.out.k
  rw [hk] at c0
  obtain ⟨n1, Hn1⟩ : ∃ n, Hid (n = nOf 3) := ⟨_, hidk rfl⟩
  have N1 : Hid (∀ W, Calls Tryd.prog 55 #[.int .i64 3] W fun e w' => e = .returned (.string n1) ∧ Below W.heap.size W w') := fun W => by rw [Hn1.out]; exact refNum_any 3 W
  obtain ⟨Q, HQ, HSQ, H1Q, HZQ⟩ := claim_row5 x.m ok.m
  obtain ⟨L, hL⟩ : ∃ l, l = claimB x.m := ⟨_, rfl⟩
  obtain ⟨n2, Hn2⟩ : ∃ n : ByteArray, Hid (n = ⟨L.toArray⟩) := ⟨_, hidk rfl⟩
  have SB : Hid (∀ W, Calls Tryd.prog 74 #[.agg Q] W fun e w' => ∃ v, e = .returned v ∧ w'.ownsRow W.heap.size 5 1 v L.length (cellsOf L) ∧ Below W.heap.size W w') := fun W => by rw [hL]; exact refCB_any x.m ok.m W Q HQ
  have HFE : Hid (fieldsE x = [(1, n1), (6, n2)]) := by show _ = _; rw [fields_claim hk, Hn1.out, Hn2.out, hL]; rfl
  have HRQ : Hid (∀ W, ERow W w.heap.size 0 x → W.rangeAt w.heap.size 73 Q.toList) := fun W h => by
    have := h.m
    rw [Nat.zero_add] at this
    rw [HQ.out]; simpa using this
  have CV : Hid (∀ W a cap, Reads W a L.length cap L → (convert 33 9 (.slice a L.length cap)).run Tryd.prog W = .ok (.string n2) W) := fun W a cap h => by rw [Hn2.out]; exact conv_reads h
  obtain ⟨len, hlen⟩ : ∃ n, Hid (n = L.length) := ⟨_, hidk rfl⟩
  rw [← hlen.out] at SB CV
  clear Hn1 Hn2 HX HQ hL
  go_enter Tryd.func46, Tryd.ntmps46
  go_wp2_with fail
  refine (N1.out _).mono ?_
  rintro e w1 ⟨rfl, hb1⟩
  have HF1 := hidk (FO.first (x := x) (HR.out.keep hb1) (HB.out.trans (hb1.mono HB.out.size)) (by have := hb1.size; simp at this; omega) n1)
  have k1 := HF1.out.row.k
  rw [hk] at k1
  clear hb1 HR HB N1 c0
  go_wp2_with (first
    | (show wpList _ _ _ ({ dst := some 47, op := _, type := _, pos := _, after := _, guard := _ } :: _) _ _; refine wpList_mid rfl 30 (.tmp 46) rfl w.heap.size 73 rfl Q _ (HRQ.out _ HF1.out.row) Tryd.underlying30 rfl HSQ.out ?_; try simp only [Act.put, List.setIfInBounds_toArray, List.set_cons_zero, List.set_cons_succ])
    | fail)
  refine (SB.out _).mono ?_
  rintro e w2 ⟨v, rfl, hown, hb2⟩
  rw [hlen.out] at hown
  obtain ⟨a2, cap2, rfl, hR2⟩ := reads_own hown
  rw [← hlen.out] at hR2 ⊢
  have c2 := CV.out w2 a2 cap2 hR2
  have HF2 := hidk (HF1.out.keep hb2)
  obtain ⟨v3, w3, hr3, hF3⟩ := HF2.out.app (by simp) 6 n2
  have HRUN3 := hidk hr3
  have HF3 := hidk hF3
  clear hown hR2 hb2 HF1 HF2 hr3 hF3 SB CV k1 HRQ
  go_wp2_with (first
    | (show wpList _ _ _ ({ dst := some 52, op := _, type := _, pos := _, after := _, guard := _ } :: _) _ _; refine wpList_append_run rfl (.tmp 45) (.tmp 51) 58 58 rfl _ _ v3 w3 rfl rfl HRUN3.out ?_; try simp only [Act.put, List.setIfInBounds_toArray, List.set_cons_zero, List.set_cons_succ])
    | fail)
  go_ret
  refine ⟨_, rfl, ?_, HF3.out.below⟩
  rw [HFE.out]
  exact own_lower HF3.out.own (by omega)
theorem refFields_any (x : EnT) (ok : OkE x) (hright : rightE x = true) (w : World) (X : Array Value) (HX : Hid (X = (ecells x).toArray)) :
    Calls Tryd.prog 46 #[.agg X] w fun e w' => ∃ v, e = .returned v ∧ w'.ownsRow w.heap.size 56 2 v (fieldsE x).length (fcells (fieldsE x)) ∧ Below w.heap.size w w' := by
  rcases right_kinds hright with ⟨hk, _⟩ | ⟨hk, _⟩ | ⟨hk, _⟩
  · exact refFields_user x ok hk hright w X HX
  · exact refFields_anchor x ok hk hright w X HX
  · exact refFields_claim x ok hk hright w X HX
theorem fieldsE_small {x : EnT} (ok : OkE x) (h : rightE x = true) : (∀ f ∈ fieldsE x, f.2.size ≤ maxLen) ∧ (fieldsE x).length ≤ 400 := by
  have hb : ∀ n : Nat, n ≤ 1000 → n ≤ maxLen := fun n hn => by unfold maxLen; omega
  rcases right_kinds h with ⟨hk, h1⟩ | ⟨hk, h1⟩ | ⟨hk, h1⟩
  · rw [fields_user hk]
    refine ⟨fun f hf => ?_, by simp⟩
    simp only [List.mem_cons, List.not_mem_nil, or_false] at hf
    rcases hf with rfl | rfl | rfl | rfl
    · exact hb (nOf 1).size (Nat.le_trans (nOf_size _) (by omega))
    · exact hb (nOf (x.c)).size (Nat.le_trans (nOf_size _) (by omega))
    · exact hb (nOf (x.s)).size (Nat.le_trans (nOf_size _) (by omega))
    · exact hb _ (by show x.t.size ≤ 1000; omega)
  · rw [fields_anchor hk]
    refine ⟨fun f hf => ?_, by simp⟩
    simp only [List.mem_cons, List.not_mem_nil, or_false] at hf
    rcases hf with rfl | rfl
    · exact hb (nOf 2).size (Nat.le_trans (nOf_size _) (by omega))
    · exact hb _ (by show (bA (signB x.h)).size ≤ 1000; rw [bA_size]; have := signB_length x.h ok.h ok.g; omega)
  · rw [fields_claim hk]
    refine ⟨fun f hf => ?_, by simp⟩
    simp only [List.mem_cons, List.not_mem_nil, or_false] at hf
    rcases hf with rfl | rfl
    · exact hb (nOf 3).size (Nat.le_trans (nOf_size _) (by omega))
    · exact hb _ (by show (bA (claimB x.m)).size ≤ 1000; rw [bA_size]; have := claimB_length x.m ok.m; omega)
set_option maxHeartbeats 2000000 in
theorem refEB_any (x : EnT) (ok : OkE x) (hright : rightE x = true) (w : World) (X : Array Value) (HX : Hid (X = (ecells x).toArray)) :
    Calls Tryd.prog 24 #[.agg X] w fun e w' => ∃ v, e = .returned v ∧ w'.ownsRow w.heap.size 5 1 v (entryB x).length (cellsOf (entryB x)) ∧ Below w.heap.size w w' := by
  have HSX : Hid ((Tryd.prog.info? 32).map (·.size) = some X.size) := by show _ = _; rw [sizeE, HX.out]; simp [ecells_length x ok]
  have HR : Hid ((w.alloc (.cells X 32)).heap[w.heap.size]? = some (.cells X 32 (0, 0))) := heap_alloc_new w _
  have HB : Hid (Below w.heap.size w (w.alloc (.cells X 32))) := (Below.refl _ _).alloc (Nat.le_refl _) _
  have FF : Hid (∀ W, Calls Tryd.prog 46 #[.agg X] W fun e w' => ∃ v, e = .returned v ∧ w'.ownsRow W.heap.size 56 2 v (fieldsE x).length (fcells (fieldsE x)) ∧ Below W.heap.size W w') := fun W => refFields_any x ok hright W X HX
  have hsm := fieldsE_small ok hright
  have h0 := layE_entry hright ok
  obtain ⟨fs, hfs⟩ : ∃ f, f = fieldsE x := ⟨_, rfl⟩
  have hEB : entryB x = rowOf fs := by unfold entryB rowOf; rw [hfs, if_pos h0]
  rw [hEB]
  rw [← hfs] at FF hsm h0
  obtain ⟨len, hlen⟩ : ∃ n, Hid (n = fs.length) := ⟨_, hidk rfl⟩
  have LL : Hid (∀ W a cap, FReads W.heap.size W a len cap fs → Calls Tryd.prog 45 #[.slice a len cap] W fun e W' => ∃ v, e = .returned (.tuple #[v, .int .i64 0]) ∧ W'.ownsRow W.heap.size 5 1 v (rowOf fs).length (cellsOf (rowOf fs)) ∧ Below W.heap.size W W') := fun W a cap h => by
    have := refLay_any a len cap fs W h (by rw [hlen.out]; exact hsm.2)
    rwa [h0] at this
  have HSM := hidk hsm.1
  clear HX hEB hsm h0 hfs hright
  go_enter Tryd.func24, Tryd.ntmps24
  go_wp2_with (first
    | (show wpList _ _ _ ({ dst := some 6, op := _, type := _, pos := _, after := _, guard := _ } :: _) _ _; refine wpList_load_row rfl 32 (.tmp 1) rfl w.heap.size rfl 32 X (0, 0) _ HR.out Tryd.underlying32 rfl HSX.out ?_; try simp only [Act.put, List.setIfInBounds_toArray, List.set_cons_zero, List.set_cons_succ])
    | fail)
  refine (FF.out _).mono ?_
  rintro e w1 ⟨v, rfl, hown, hb1⟩
  obtain ⟨a1, c1, rfl, hF1⟩ := freads_own hown HSM.out
  rw [← hlen.out] at hF1 ⊢
  have HF1 := hidk hF1
  have HB1 := hidk (HB.out.trans (hb1.mono HB.out.size))
  clear hown hb1 hF1 HB HR FF
  go_wp2_with fail
  refine (LL.out _ _ _ HF1.out).mono ?_
  rintro e w2 ⟨v2, rfl, hown2, hb2⟩
  have HO := hidk (own_lower hown2 HB1.out.size)
  have HB2 := hidk (HB1.out.trans (hb2.mono HB1.out.size))
  clear hown2 hb2 HF1 HB1 LL
  go_wp2_with fail
  go_ret
  exact ⟨_, rfl, HO.out, HB2.out⟩
end Go.Proofs.YtgkfodmccfnaoaaDoor

/- What the document's Put, RightItem, ItemBytes and PutItem answer. -/
namespace Go.Proofs.YtgkfodmccfnaoaaDoor
open Go.RowKit Sums Nums
set_option linter.unusedVariables false
set_option linter.unusedSimpArgs false
set_option maxRecDepth 100000
/-- What the parts of an item's row read as. -/
theorem irow_new (w : World) (x : ItT) (X : Array Value) (HX : Hid (X = (icells x).toArray)) (t : TypeId) : (w.alloc (.cells X t)).cell? ⟨w.heap.size, 0, none⟩ = some (.int .i64 x.p) ∧ (w.alloc (.cells X t)).rangeAt w.heap.size 1 (ecells x.e) := by
  have each : ∀ j u, (icells x)[j]? = some u → (w.alloc (.cells X t)).cell? ⟨w.heap.size, j, none⟩ = some u := fun j u hj => by
    rw [cell_of_row _ _ j _ t (0, 0) (heap_alloc_new w _), HX.out]
    simpa using hj
  refine ⟨each 0 _ rfl, fun j v hj => each (1 + j) v ?_⟩
  unfold icells
  rw [List.getElem?_append_right (by simp)]
  simpa using hj
set_option maxHeartbeats 2000000 in
theorem refRightI_any (x : ItT) (ok : OkE x.e) (w : World) (X : Array Value) (HX : Hid (X = (icells x).toArray)) :
    Calls Tryd.prog 30 #[.agg X] w fun e w' => e = .returned (.bool (rightI x)) ∧ Below w.heap.size w w' := by
  have HB : Hid (Below w.heap.size w (w.alloc (.cells X 43))) := (Below.refl _ _).alloc (Nat.le_refl _) _
  obtain ⟨c0, hr⟩ := irow_new w x X HX 43
  obtain ⟨Q, HQ⟩ : ∃ Q : Array Value, Hid (Q = (ecells x.e).toArray) := ⟨_, hidk rfl⟩
  have HSQ : Hid ((Tryd.prog.info? 32).map (·.size) = some Q.size) := by show _ = _; rw [sizeE, HQ.out]; simp [ecells_length x.e ok]
  have HRQ : Hid ((w.alloc (.cells X 43)).rangeAt w.heap.size 1 Q.toList) := by show World.rangeAt _ _ _ _; rw [HQ.out]; simpa using hr
  obtain ⟨b1, hb1⟩ : ∃ b, (decide (1 ≤ x.p) && decide (x.p ≤ 900000000)) = b := ⟨_, rfl⟩
  obtain ⟨b2, hb2⟩ : ∃ b, rightE x.e = b := ⟨_, rfl⟩
  have W1 : Hid (∀ (W : World), Calls Tryd.prog 42 #[.int .i64 x.p, .int .i64 1, .int .i64 900000000] W fun e w' => e = .returned (.bool b1) ∧ w' = W) := fun W => by rw [← hb1]; exact within8_any x.p 1 900000000 W
  have R2 : Hid (∀ W, Calls Tryd.prog 23 #[.agg Q] W fun e w' => e = .returned (.bool b2) ∧ Below W.heap.size W w') := fun W => by rw [← hb2]; exact refRightE_any x.e ok W Q HQ
  have hE : rightI x = (b1 && b2) := by rw [← hb1, ← hb2]; rfl
  rw [hE]
  obtain ⟨p, hp⟩ : ∃ p, p = x.p := ⟨_, rfl⟩
  rw [← hp] at c0 W1
  clear hE hb1 hb2 hp HX HQ hr ok
  cases b1
  · go_enter Tryd.func30, Tryd.ntmps30
    go_wp2_with fail
    refine (W1.out _).mono ?_
    rintro e w1 ⟨rfl, rfl⟩
    go_wp2
    go_ret
    exact ⟨rfl, HB.out⟩
  · go_enter Tryd.func30, Tryd.ntmps30
    go_wp2_with fail
    refine (W1.out _).mono ?_
    rintro e w1 ⟨rfl, rfl⟩
    go_wp2_with (first
      | (show wpList _ _ _ ({ dst := some 8, op := _, type := _, pos := _, after := _, guard := _ } :: _) _ _; refine wpList_mid_w (by rfl) 32 (.tmp 7) rfl w.heap.size 1 rfl Q _ HRQ.out Tryd.underlying32 rfl HSQ.out ?_; try simp only [Act.put, List.setIfInBounds_toArray, List.set_cons_zero, List.set_cons_succ])
      | fail)
    refine (R2.out _).mono ?_
    rintro e w1 ⟨rfl, hb1⟩
    have HB1 := hidk (HB.out.trans (hb1.mono HB.out.size))
    clear hb1
    go_wp2
    go_ret
    exact ⟨rfl, HB1.out⟩
end Go.Proofs.YtgkfodmccfnaoaaDoor

/- What the calls of package entry answer, as the document says (their proofs are of one commit of the code). -/
namespace Go.Proofs.YtgkfodmccfnaoaaDoor
open Go.RowKit Sums Nums
set_option linter.unusedVariables false
set_option linter.unusedSimpArgs false
set_option maxRecDepth 100000
/-- A claim, an entry, an item that lies in a variable. -/
structure InC (c : ClT) : Prop where
  d : c.d.length = 32
  r : In64 c.r
  e : In64 c.e
  n : In64 c.n
  s : In64 c.s
structure InE (x : EnT) : Prop where
  k : In64 x.k
  c : In64 x.c
  s : In64 x.s
  t : x.t.size ≤ 100000
  h : InS x.h
  m : InC x.m
theorem InE.ok {x : EnT} (h : InE x) : OkE x := ⟨h.h.h.d, h.h.g, h.m.d⟩
structure InI (x : ItT) : Prop where
  p : In64 x.p
  e : InE x.e
def itemV (x : ItT) : Value := .agg (icells x).toArray
def cB (c : ClT) : List UInt8 := if rightC c = true then claimB c else []
def cE (c : ClT) : Int := if rightC c = true then 0 else 60
def eB (x : EnT) : List UInt8 := if rightE x = true then entryB x else []
def eE (x : EnT) : Int := if rightE x = true then 0 else 60
def iB (x : ItT) : List UInt8 := if rightI x = true then itemB x else []
def iE (x : ItT) : Int := if rightI x = true then 0 else 60
def leafO (x : ItT) : List UInt8 := if rightI x = true then leafI x else List.replicate 32 0
/-- What the calls of package entry answer. -/
structure EntryC : Prop where
  checkC : ∀ (c : ClT) (hc : InC c) (w : World) (C : Array Value) (HC : Hid (C = (ccells c).toArray)),
    Calls Tryd.prog 36 #[.agg C] w fun e w' => e = .returned (.int .i64 (cE c)) ∧ Below w.heap.size w w'
  putC : ∀ (c : ClT) (hc : InC c) (w : World) (C : Array Value) (HC : Hid (C = (ccells c).toArray)),
    Calls Tryd.prog 18 #[.agg C] w fun e w' => BytesE (cB c) (cE c) e w' ∧ Below w.heap.size w w'
  getC : ∀ (a : Option Addr) (len cap : Nat) (bs : List UInt8) (w : World) (hR : Reads w a len cap bs) (hl : len ≤ 100000) (R : Array Value) (HR : Hid (R = (ccells (getCO bs)).toArray)),
    Calls Tryd.prog 37 #[.slice a len cap] w fun e w' => e = .returned (.tuple #[.agg R, .int .i64 (getCE bs)]) ∧ Below w.heap.size w w'
  check : ∀ (x : EnT) (hx : InE x) (w : World) (X : Array Value) (HX : Hid (X = (ecells x).toArray)),
    Calls Tryd.prog 9 #[.agg X] w fun e w' => e = .returned (.int .i64 (eE x)) ∧ Below w.heap.size w w'
  put : ∀ (x : EnT) (hx : InE x) (w : World) (X : Array Value) (HX : Hid (X = (ecells x).toArray)),
    Calls Tryd.prog 7 #[.agg X] w fun e w' => BytesE (eB x) (eE x) e w' ∧ Below w.heap.size w w'
  get : ∀ (a : Option Addr) (len cap : Nat) (bs : List UInt8) (w : World) (hR : Reads w a len cap bs) (hl : len ≤ 100000) (R : Array Value) (HR : Hid (R = (ecells (getEO bs)).toArray)),
    Calls Tryd.prog 11 #[.slice a len cap] w fun e w' => e = .returned (.tuple #[.agg R, .int .i64 (getEE bs)]) ∧ Below w.heap.size w w'
  putI : ∀ (x : ItT) (hx : InI x) (w : World) (X : Array Value) (HX : Hid (X = (icells x).toArray)),
    Calls Tryd.prog 12 #[.agg X] w fun e w' => BytesE (iB x) (iE x) e w' ∧ Below w.heap.size w w'
  getI : ∀ (a : Option Addr) (len cap : Nat) (bs : List UInt8) (w : World) (hR : Reads w a len cap bs) (hl : len ≤ 100000) (R : Array Value) (HR : Hid (R = (icells (getIO bs)).toArray)),
    Calls Tryd.prog 15 #[.slice a len cap] w fun e w' => e = .returned (.tuple #[.agg R, .int .i64 (getIE bs)]) ∧ Below w.heap.size w w'
  leaf : ∀ (x : ItT) (hx : InI x) (w : World) (X D : Array Value) (HX : Hid (X = (icells x).toArray)) (hT : TabH w) (HD : Hid (D = (cellsOf (leafO x)).toArray)),
    Calls Tryd.prog 14 #[.agg X] w fun e w' => e = .returned (.tuple #[.agg D, .int .i64 (iE x)]) ∧ Below w.heap.size w w'
theorem rightC_in {c : ClT} (hr : rightC c = true) (hd : c.d.length = 32) : InC c := by
  have := (rightC_iff c).1 hr
  refine ⟨hd, ?_, ?_, ?_, ?_⟩ <;> unfold In64 <;> omega
theorem zeroC_in : InC zeroC := ⟨rfl, by unfold In64; decide, by unfold In64; decide, by unfold In64; decide, by unfold In64; decide⟩
theorem getCO_in (bs : List UInt8) : InC (getCO bs) := by
  unfold getCO
  cases h : getC bs with
  | none => exact zeroC_in
  | some x => exact rightC_in (getC_some h).1 (getC_some h).2.1
theorem zeroE_in : InE zeroE := ⟨by unfold In64; decide, by unfold In64; decide, by unfold In64; decide, by show 0 ≤ 100000; omega, zeroS_in, zeroC_in⟩
theorem rightE_in {x : EnT} (hr : rightE x = true) (ok : OkE x) : InE x := by
  have z0 : In64 0 := by unfold In64; decide
  by_cases h1 : x.k = 1
  · have hh := right_user h1
    rw [hr] at hh
    have hh := hh.symm
    simp only [Bool.and_eq_true, decide_eq_true_eq] at hh
    obtain ⟨⟨a1, a2⟩, ⟨a3, a4⟩, a5, a6, a7⟩ := hh
    exact ⟨by rw [h1]; unfold In64; decide, by unfold In64; omega, by unfold In64; omega, by omega, by rw [(eqSB_iff _ _).1 a6]; exact zeroS_in, by rw [(eqCB_iff _ _).1 a7]; exact zeroC_in⟩
  by_cases h2 : x.k = 2
  · have hh := right_anchor h2
    rw [hr] at hh
    have hh := hh.symm
    simp only [Bool.and_eq_true, decide_eq_true_eq] at hh
    obtain ⟨a1, a2, a3, a4, a5⟩ := hh
    exact ⟨by rw [h2]; unfold In64; decide, by rw [a1]; exact z0, by rw [a2]; exact z0, by omega, may_in a4 ok.h ok.g, by rw [(eqCB_iff _ _).1 a5]; exact zeroC_in⟩
  by_cases h3 : x.k = 3
  · have hh := right_claim h3
    rw [hr] at hh
    have hh := hh.symm
    simp only [Bool.and_eq_true, decide_eq_true_eq] at hh
    obtain ⟨a1, a2, a3, a4, a5⟩ := hh
    exact ⟨by rw [h3]; unfold In64; decide, by rw [a1]; exact z0, by rw [a2]; exact z0, by omega, by rw [(eqSB_iff _ _).1 a4]; exact zeroS_in, rightC_in a5 ok.m⟩
  rw [right_none h1 h2 h3] at hr
  cases hr
theorem getEO_in (bs : List UInt8) : InE (getEO bs) := by
  unfold getEO
  cases h : getE bs with
  | none => exact zeroE_in
  | some x => exact rightE_in (getE_some h).1 (getE_some h).2.1
theorem getIO_in (bs : List UInt8) : InI (getIO bs) := by
  unfold getIO
  cases h : getI bs with
  | none => exact ⟨by unfold In64; decide, zeroE_in⟩
  | some x =>
    obtain ⟨h1, h2, _⟩ := getI_some h
    have := (rightI_iff x).1 h1
    exact ⟨by show In64 x.p; unfold In64; omega, rightE_in this.2.2 h2⟩
theorem eB_length (x : EnT) (ok : OkE x) : (eB x).length ≤ 240 := by
  unfold eB
  split
  · rename_i h; exact entryB_length h ok
  · exact Nat.zero_le _
theorem cE_two (c : ClT) : cE c = 0 ∧ rightC c = true ∨ cE c = 60 ∧ rightC c = false := by
  unfold cE
  cases rightC c
  · exact .inr ⟨rfl, rfl⟩
  · exact .inl ⟨rfl, rfl⟩
theorem eE_two (x : EnT) : eE x = 0 ∧ rightE x = true ∨ eE x = 60 ∧ rightE x = false := by
  unfold eE
  cases rightE x
  · exact .inr ⟨rfl, rfl⟩
  · exact .inl ⟨rfl, rfl⟩
theorem iE_two (x : ItT) : iE x = 0 ∧ rightI x = true ∨ iE x = 60 ∧ rightI x = false := by
  unfold iE
  cases rightI x
  · exact .inr ⟨rfl, rfl⟩
  · exact .inl ⟨rfl, rfl⟩
end Go.Proofs.YtgkfodmccfnaoaaDoor

/- What the document's ItemBytes and PutItem answer. -/
namespace Go.Proofs.YtgkfodmccfnaoaaDoor
open Go.RowKit Sums Nums
set_option linter.unusedVariables false
set_option linter.unusedSimpArgs false
set_option maxRecDepth 100000
/-- What the parts of an item's row read as. -/
structure IRow (W : World) (g : Nat) (p : Int) (Q : Array Value) : Prop where
  p : W.cell? ⟨g, 0, none⟩ = some (.int .i64 p)
  e : W.rangeAt g 1 Q.toList
theorem IRow.keep {W W' : World} {g : Nat} {p : Int} {Q : Array Value} (r : IRow W g p Q) (hb : Below W.heap.size W W') : IRow W' g p Q :=
  ⟨(hb.cell (World.block_lt_of_cell? _ _ r.p)).trans r.p, range_keep hb r.e⟩
set_option maxHeartbeats 4000000 in
theorem refIB_any (x : ItT) (ok : OkE x.e) (hright : rightI x = true) (w : World) (X : Array Value) (HX : Hid (X = (icells x).toArray)) :
    Calls Tryd.prog 31 #[.agg X] w fun e w' => ∃ v, e = .returned v ∧ w'.ownsRow w.heap.size 5 1 v (itemB x).length (cellsOf (itemB x)) ∧ Below w.heap.size w w' := by
  have hre := ((rightI_iff x).1 hright).2.2
  obtain ⟨Q, HQ⟩ : ∃ Q : Array Value, Hid (Q = (ecells x.e).toArray) := ⟨_, hidk rfl⟩
  have HSQ : Hid ((Tryd.prog.info? 32).map (·.size) = some Q.size) := by show _ = _; rw [sizeE, HQ.out]; simp [ecells_length x.e ok]
  obtain ⟨p, Hp⟩ : ∃ p, Hid (p = x.p) := ⟨_, hidk rfl⟩
  have HR : Hid (IRow (w.alloc (.cells X 43)) w.heap.size p Q) := by
    obtain ⟨c0, hr⟩ := irow_new w x X HX 43
    exact ⟨by rw [Hp.out]; exact c0, by rw [HQ.out]; simpa using hr⟩
  obtain ⟨n1, Hn1⟩ : ∃ n : ByteArray, Hid (n = nOf p) := ⟨_, hidk rfl⟩
  obtain ⟨L, HL⟩ : ∃ l, Hid (l = entryB x.e) := ⟨_, hidk rfl⟩
  obtain ⟨n2, Hn2⟩ : ∃ n : ByteArray, Hid (n = ⟨L.toArray⟩) := ⟨_, hidk rfl⟩
  have N1 : Hid (∀ W, Calls Tryd.prog 55 #[.int .i64 p] W fun e w' => e = .returned (.string n1) ∧ Below W.heap.size W w') := fun W => by rw [Hn1.out]; exact refNum_any p W
  have B1 : Hid (∀ W, Calls Tryd.prog 24 #[.agg Q] W fun e w' => ∃ v, e = .returned v ∧ w'.ownsRow W.heap.size 5 1 v L.length (cellsOf L) ∧ Below W.heap.size W w') := fun W => by rw [HL.out]; exact refEB_any x.e ok hre W Q HQ
  have hL2 : iL x = [n1, n2] := by rw [Hn1.out, Hn2.out, HL.out, Hp.out]; rfl
  have RW : Hid (∀ W, Calls Tryd.prog 54 #[.slice (some ⟨W.heap.size, 0, none⟩) 2 2] (W.alloc (.cells #[.string n1, .string n2] 9)) fun e w' => ∃ v, e = .returned v ∧ w'.ownsRow W.heap.size 5 1 v (itemB x).length (cellsOf (itemB x)) ∧ Below W.heap.size W w') := fun W => by
    have h1 : ∀ y ∈ [n1, n2], y.size ≤ 65536 := fun y hy => by
      rw [← hL2] at hy
      unfold iL at hy
      simp only [List.mem_cons, List.not_mem_nil, or_false] at hy
      rcases hy with rfl | rfl
      · exact Nat.le_trans (nOf_size _) (by omega)
      · rw [bA_size]; have := entryB_length hre ok; omega
    refine (refRow_any (some ⟨W.heap.size, 0, none⟩) 2 2 [n1, n2] (W.alloc (.cells #[.string n1, .string n2] 9)) (texts_new W [n1, n2] 9) (by omega) h1).mono ?_
    rintro e w' ⟨v, he, ho, hb⟩
    rw [← hL2] at ho
    exact ⟨v, he, own_lower ho (by simp), ((Below.refl _ _).alloc (Nat.le_refl _) _).trans (hb.mono (by simp))⟩
  have HB : Hid (Below w.heap.size w (w.alloc (.cells X 43))) := (Below.refl _ _).alloc (Nat.le_refl _) _
  obtain ⟨res, HRES⟩ : ∃ r, Hid (r = itemB x) := ⟨_, hidk rfl⟩
  rw [← HRES.out] at RW ⊢
  clear HX HQ Hp Hn1 HL hL2 HRES hright hre ok
  go_enter Tryd.func31, Tryd.ntmps31
  go_wp2
  have HBc : Hid (Below w.heap.size w (w.alloc (.cells X 43)).drew) := HB.out.drew
  clear HB
  refine wp_region_held_drew (S := (fun W => IRow W w.heap.size p Q)) (by kernel_rfl) (HR.out.keep (Below.refl _ _).drew) (fun hHeld => ?_)
  refine wpAnyH_take (i := 0) (oi := { dst := some 3, op := Op.fieldAddr 43 (Operand.tmp 1) 0, type := 0, pos := "ref.go:129", after := #[], guard := none }) (v := .pointer (some ⟨w.heap.size, 0, none⟩)) rfl (by kernel_rfl) (by kernel_rfl) (by kernel_rfl) (fun _ _ _ h => h) (Or.inl ⟨by rfl, by intro W hSw; go_simp⟩) hHeld ?_
  try simp only [Act.put, List.setIfInBounds_toArray, List.set_cons_zero, List.set_cons_succ]
  refine wpAnyH_take (i := 1) (oi := { dst := some 4, op := Op.load 3 (Operand.tmp 3), type := 3, pos := "ref.go:129", after := #[{ on := 0, ground := Ground.data }], guard := none }) (v := .int .i64 p) rfl (by kernel_rfl) (by kernel_rfl) (by kernel_rfl) (fun _ _ _ h => h) (Or.inl ⟨by rfl, by intro W hSw; have h1 := hSw.p; go_simp⟩) hHeld ?_
  try simp only [Act.put, List.setIfInBounds_toArray, List.set_cons_zero, List.set_cons_succ]
  refine wpAnyH_take (i := 3) (oi := { dst := some 6, op := Op.fieldAddr 43 (Operand.tmp 1) 1, type := 0, pos := "ref.go:129", after := #[], guard := none }) (v := .pointer (some ⟨w.heap.size, 1, none⟩)) rfl (by kernel_rfl) (by kernel_rfl) (by kernel_rfl) (fun _ _ _ h => h) (Or.inl ⟨by rfl, by intro W hSw; go_simp⟩) hHeld ?_
  try simp only [Act.put, List.setIfInBounds_toArray, List.set_cons_zero, List.set_cons_succ]
  refine wpAnyH_take (i := 4) (oi := { dst := some 7, op := Op.load 32 (Operand.tmp 6), type := 32, pos := "ref.go:129", after := #[{ on := 3, ground := Ground.data }], guard := none }) (v := .agg Q) rfl (by kernel_rfl) (by kernel_rfl) (by kernel_rfl) (fun _ _ _ h => h) (yieldsIf_mid (by rfl) 32 (.tmp 6) rfl w.heap.size 1 rfl Q _ (fun _ h => h.e) Tryd.underlying32 rfl HSQ.out) hHeld ?_
  try simp only [Act.put, List.setIfInBounds_toArray, List.set_cons_zero, List.set_cons_succ]
  refine wpAnyH_ready (rs := [2]) (by kernel_rfl) (by simp) ?_
  refine (AllReadyH.cons (o := { dst := some 5, op := Op.call { callee := Callee.value (Operand.func 55), args := #[Operand.tmp 4], argTypes := #[3] }, type := 9, pos := "ref.go:129", after := #[{ on := 1, ground := Ground.data }], guard := none }) rfl (fun K hK => ?_) AllReadyH.nil)
  go_simp
  refine (N1.out _).mono ?_
  rintro e w2 ⟨rfl, hb1⟩
  replace HBc := hidk (HBc.out.trans (hb1.mono HBc.out.size))
  go_wp2_with fail
  refine hK.out _ _ (hHeld.keep hb1) (fun hHeld => ?_)
  clear hK K
  try simp only [Act.put, List.setIfInBounds_toArray, List.set_cons_zero, List.set_cons_succ]
  refine wpAnyH_ready (rs := [5]) (by kernel_rfl) (by simp) ?_
  refine (AllReadyH.cons (o := { dst := some 8, op := Op.call { callee := Callee.value (Operand.func 24), args := #[Operand.tmp 7], argTypes := #[32] }, type := 33, pos := "ref.go:129", after := #[{ on := 4, ground := Ground.data }, { on := 2, ground := Ground.chain }], guard := none }) rfl (fun K hK => ?_) AllReadyH.nil)
  go_simp
  refine (B1.out _).mono ?_
  rintro e w5 ⟨v5, rfl, ho5, hb2⟩
  obtain ⟨a5, c5, rfl, hr5⟩ := reads_own ho5
  have HV := hidk hr5
  replace HBc := hidk (HBc.out.trans (hb2.mono HBc.out.size))
  go_wp2_with fail
  refine hK.out _ _ (hHeld.keep hb2) (fun hHeld => ?_)
  clear hK K
  try simp only [Act.put, List.setIfInBounds_toArray, List.set_cons_zero, List.set_cons_succ]
  refine wpAnyH_ready (rs := [6]) (by kernel_rfl) (by simp) ?_
  refine (AllReadyH.cons (o := { dst := some 9, op := Op.convert 33 9 (Operand.tmp 8), type := 9, pos := "ref.go:129", after := #[{ on := 5, ground := Ground.data }], guard := none }) rfl (fun K hK => ?_) AllReadyH.nil)
  have hcv := conv_reads HV.out
  rw [← Hn2.out] at hcv
  go_simp
  clear hcv
  refine hK.out _ _ hHeld (fun hHeld => ?_)
  clear hK K
  try simp only [Act.put, List.setIfInBounds_toArray, List.set_cons_zero, List.set_cons_succ]
  refine wpAnyH_ready (rs := [7]) (by kernel_rfl) (by simp) ?_
  refine (AllReadyH.cons (o := { dst := some 10, op := Op.buildSlice 93 2 #[(0, Operand.tmp 5), (1, Operand.tmp 9)], type := 93, pos := "ref.go:129", after := #[{ on := 2, ground := Ground.data }, { on := 6, ground := Ground.data }], guard := none }) rfl (fun K hK => ?_) AllReadyH.nil)
  have HR14 := hidk hHeld
  go_simp
  refine hK.out _ _ (hHeld.keep ((Below.refl _ _).alloc (Nat.le_refl _) _)) (fun hHeld => ?_)
  clear hK K
  try simp only [Act.put, List.setIfInBounds_toArray, List.set_cons_zero, List.set_cons_succ]
  refine wpAnyH_ready (rs := [8]) (by kernel_rfl) (by simp) ?_
  refine (AllReadyH.cons (o := { dst := some 11, op := Op.call { callee := Callee.value (Operand.func 54), args := #[Operand.tmp 10], argTypes := #[93] }, type := 33, pos := "ref.go:129", after := #[{ on := 7, ground := Ground.data }, { on := 5, ground := Ground.chain }], guard := none }) rfl (fun K hK => ?_) AllReadyH.nil)
  go_simp
  refine (RW.out _).mono ?_
  rintro e w8 ⟨v, rfl, hown, hb6⟩
  have HOWN := hidk (own_lower hown HBc.out.size)
  replace HBc := hidk (HBc.out.trans (hb6.mono HBc.out.size))
  go_wp2_with fail
  refine hK.out _ _ (HR14.out.keep hb6) (fun hHeld => ?_)
  clear hK K
  try simp only [Act.put, List.setIfInBounds_toArray, List.set_cons_zero, List.set_cons_succ]
  refine wpAnyH_take (i := 9) (oi := { dst := some 2, op := Op.assign (Operand.tmp 11), type := 33, pos := "ref.go:129", after := #[{ on := 8, ground := Ground.data }, { on := 8, ground := Ground.chain }, { on := 0, ground := Ground.phase }, { on := 1, ground := Ground.phase }, { on := 2, ground := Ground.phase }, { on := 3, ground := Ground.phase }, { on := 4, ground := Ground.phase }, { on := 5, ground := Ground.phase }, { on := 6, ground := Ground.phase }, { on := 7, ground := Ground.phase }, { on := 8, ground := Ground.phase }], guard := none }) (v := v) rfl (by kernel_rfl) (by kernel_rfl) (by kernel_rfl) (fun _ _ _ h => h) (Or.inl ⟨by rfl, by intro W hSw; go_simp⟩) hHeld ?_
  try simp only [Act.put, List.setIfInBounds_toArray, List.set_cons_zero, List.set_cons_succ]
  refine wpAnyH_done (by kernel_rfl) ?_ _
  go_wp2
  go_ret
  exact ⟨_, rfl, HOWN.out, HBc.out⟩
set_option maxHeartbeats 2000000 in
theorem refPutI_any (x : ItT) (ok : OkE x.e) (w : World) (X : Array Value) (HX : Hid (X = (icells x).toArray)) :
    Calls Tryd.prog 13 #[.agg X] w fun e w' => BytesE (if rightI x = true then itemB x else []) (if rightI x = true then 0 else 60) e w' ∧ Below w.heap.size w w' := by
  have hnot : ∀ (x : Bool) (w : World), (Op.unary .not (.bool x)).run Tryd.prog w = .ok (.bool (!x)) w := fun _ _ => rfl
  have HSX : Hid ((Tryd.prog.info? 43).map (·.size) = some X.size) := by show _ = _; rw [sizeI, HX.out]; simp [icells_length x ok]
  have HR : Hid ((w.alloc (.cells X 43)).heap[w.heap.size]? = some (.cells X 43 (0, 0))) := heap_alloc_new w _
  have HB : Hid (Below w.heap.size w (w.alloc (.cells X 43))) := (Below.refl _ _).alloc (Nat.le_refl _) _
  have M1 : Hid (∀ W, Calls Tryd.prog 30 #[.agg X] W fun e w' => e = .returned (.bool (rightI x)) ∧ Below W.heap.size W w') := fun W => refRightI_any x ok W X HX
  by_cases hr : rightI x = true
  · have B1 : Hid (∀ W, Calls Tryd.prog 31 #[.agg X] W fun e w' => ∃ v, e = .returned v ∧ w'.ownsRow W.heap.size 5 1 v (itemB x).length (cellsOf (itemB x)) ∧ Below W.heap.size W w') := fun W => refIB_any x ok hr W X HX
    rw [hr] at M1
    rw [if_pos hr, if_pos hr]
    obtain ⟨l, Hl⟩ : ∃ l, Hid (l = itemB x) := ⟨_, hidk rfl⟩
    rw [← Hl.out] at B1 ⊢
    clear HX hr Hl
    go_enter Tryd.func13, Tryd.ntmps13
    go_wp2_with (first
      | (show wpList _ _ _ ({ dst := some 4, op := _, type := _, pos := _, after := _, guard := _ } :: _) _ _; refine wpList_load_row rfl 43 (.tmp 1) rfl w.heap.size rfl 43 X (0, 0) _ HR.out Tryd.underlying43 rfl HSX.out ?_; try simp only [Act.put, List.setIfInBounds_toArray, List.set_cons_zero, List.set_cons_succ])
      | fail)
    refine (M1.out _).mono ?_
    rintro e w1 ⟨rfl, hb1⟩
    have HB1 := hidk (HB.out.trans (hb1.mono HB.out.size))
    have HR1 := hidk ((hb1.block _ (heap_lt HR.out)).trans HR.out)
    clear hb1
    go_wp2_with (first
      | (show wpList _ _ _ ({ dst := some 7, op := _, type := _, pos := _, after := _, guard := _ } :: _) _ _; refine wpList_load_row rfl 43 (.tmp 1) rfl w.heap.size rfl 43 X (0, 0) _ HR1.out Tryd.underlying43 rfl HSX.out ?_; try simp only [Act.put, List.setIfInBounds_toArray, List.set_cons_zero, List.set_cons_succ])
      | fail)
    refine (B1.out _).mono ?_
    rintro e w2 ⟨v, rfl, ho, hb2⟩
    obtain ⟨a, cap, rfl, hR⟩ := reads_own ho
    have HQ := hidk hR
    have HB2 := hidk (HB1.out.trans (hb2.mono HB1.out.size))
    clear ho hb2 hR
    go_wp2
    go_ret2
    exact ⟨⟨a, cap, rfl, HQ.out⟩, HB2.out⟩
  · have hf : rightI x = false := by cases h : rightI x with | false => rfl | true => exact absurd h hr
    rw [hf] at M1
    rw [if_neg hr, if_neg hr]
    clear HX hr hf
    go_enter Tryd.func13, Tryd.ntmps13
    go_wp2_with (first
      | (show wpList _ _ _ ({ dst := some 4, op := _, type := _, pos := _, after := _, guard := _ } :: _) _ _; refine wpList_load_row rfl 43 (.tmp 1) rfl w.heap.size rfl 43 X (0, 0) _ HR.out Tryd.underlying43 rfl HSX.out ?_; try simp only [Act.put, List.setIfInBounds_toArray, List.set_cons_zero, List.set_cons_succ])
      | fail)
    refine (M1.out _).mono ?_
    rintro e w1 ⟨rfl, hb1⟩
    have HB1 := hidk (HB.out.trans (hb1.mono HB.out.size))
    clear hb1
    go_wp2
    go_ret2
    exact ⟨⟨none, 0, rfl, reads_none _⟩, HB1.out⟩
end Go.Proofs.YtgkfodmccfnaoaaDoor

/- What the document's Leaf of a right item answers. -/
namespace Go.Proofs.YtgkfodmccfnaoaaDoor
open Go.RowKit Sums Nums
set_option linter.unusedVariables false
set_option linter.unusedSimpArgs false
set_option maxRecDepth 100000
set_option maxHeartbeats 4000000 in
theorem refLeafI_any (x : ItT) (ok : OkE x.e) (hright : rightI x = true) (w : World) (X D : Array Value) (HX : Hid (X = (icells x).toArray)) (hK : Table 1 w) (HD : Hid (D = (cellsOf (leafI x)).toArray)) :
    Calls Tryd.prog 16 #[.agg X] w fun e w' => e = .returned (.agg D) ∧ Below w.heap.size w w' := by
  have h32 : (leafI x).length = 32 := sumD_length _
  have HSD : Hid ((Tryd.prog.info? 24).map (·.size) = some D.size) := by show _ = _; rw [size23, HD.out]; simp [cellsOf_length, h32]
  have H1D : Hid (D.all (·.oneCell') = true) := by show _ = _; rw [HD.out]; exact cellsOf_all _
  obtain ⟨Z, HZ, HA, HS, H1, H32⟩ := noughts27
  have HZD : Hid (Z.size = D.size) := by show _ = _; rw [H32.out, HD.out]; simp [cellsOf_length, h32]
  have HSX : Hid ((Tryd.prog.info? 43).map (·.size) = some X.size) := by show _ = _; rw [sizeI, HX.out]; simp [icells_length x ok]
  obtain ⟨L, HL⟩ : ∃ l, Hid (l = itemB x) := ⟨_, hidk rfl⟩
  obtain ⟨n, Hn⟩ : ∃ n : ByteArray, Hid (n = ⟨L.toArray⟩) := ⟨_, hidk rfl⟩
  have hln : L.length ≤ 256 := by rw [HL.out]; exact itemB_length hright ok
  have B1 : Hid (∀ W, Calls Tryd.prog 31 #[.agg X] W fun e w' => ∃ v, e = .returned v ∧ w'.ownsRow W.heap.size 5 1 v L.length (cellsOf L) ∧ Below W.heap.size W w') := fun W => by rw [HL.out]; exact refIB_any x ok hright W X HX
  have L1 : Hid (∀ W, Below w.heap.size w W → Calls Tryd.prog 34 #[.string n] W fun e w' => e = .returned (.agg D) ∧ Below W.heap.size W w') := fun W hb => refLeaf_any n W (by rw [Hn.out]; show L.toArray.size ≤ 999000; simp; omega) (hK.keep hb) D (by show _ = _; rw [HD.out, Hn.out]; unfold leafI; rw [← HL.out])
  have CV : Hid (∀ W a cap, Reads W a L.length cap L → (convert 33 9 (.slice a L.length cap)).run Tryd.prog W = .ok (.string n) W) := fun W a cap h => by rw [Hn.out]; exact conv_reads h
  clear HX HD HZ HL Hn hK h32 hright ok
  go_enter Tryd.func16, Tryd.ntmps16
  go_wp2_with (first
    | (show wpList _ _ _ ({ dst := some 2, op := _, type := _, pos := _, after := _, guard := _ } :: _) _ _; refine wpList_new_var rfl 24 rfl Z HA.out ?_; intro g2 w1 HM2; have HB1 : Hid (Below w.heap.size w w1) := ((Below.refl _ _).alloc (Nat.le_refl _) _).trans (HM2.out.below.mono (by simp)); have HR1 := hidk ((HM2.out.below.block _ (by simp)).trans (heap_alloc_new w (.cells X 43))); try simp only [Act.put, List.setIfInBounds_toArray, List.set_cons_zero, List.set_cons_succ])
    | (show wpList _ _ _ ({ dst := some 3, op := _, type := _, pos := _, after := _, guard := _ } :: _) _ _; refine wpList_load_row rfl 43 (.tmp 1) rfl w.heap.size rfl 43 X (0, 0) _ HR1.out Tryd.underlying43 rfl HSX.out ?_; try simp only [Act.put, List.setIfInBounds_toArray, List.set_cons_zero, List.set_cons_succ])
    | fail)
  have h2 : w.heap.size ≤ g2 := by have e := HM2.out.new; simp at e; omega
  have HG1 := hidk HM2.out.row
  clear HM2
  refine (B1.out _).mono ?_
  rintro e w2 ⟨v, rfl, hown, hb2⟩
  obtain ⟨a2, c2, rfl, hr2⟩ := reads_own hown
  have hcv := CV.out w2 a2 c2 hr2
  have HB2 := hidk (HB1.out.trans (hb2.mono HB1.out.size))
  have HG2 := hidk ((hb2.block _ (heap_lt HG1.out)).trans HG1.out)
  clear hown hr2 hb2 HB1 HR1 HG1 B1 CV
  go_wp2_with fail
  refine (L1.out _ HB2.out).mono ?_
  rintro e w3 ⟨rfl, hb3⟩
  have HB3 := hidk (HB2.out.trans (hb3.mono HB2.out.size))
  have HG3 := hidk ((hb3.block _ (heap_lt HG2.out)).trans HG2.out)
  clear hb3 HB2 HG2 L1 hcv
  go_wp2_with (first
    | (refine wpList_set_var rfl 24 (.tmp 2) (.tmp 6) rfl g2 D rfl rfl 24 Z HG3.out HSD.out HZD.out H1D.out ?_; intro w4 HW2; try simp only [Act.put, List.setIfInBounds_toArray, List.set_cons_zero, List.set_cons_succ])
    | fail)
  refine bodyPost_ret (v := .agg D) ?_ rfl ⟨rfl, HW2.out.below w.heap.size w HB3.out h2⟩
  exact results_cell_row (p := 2) (ty := 24) rfl _ _ g2 24 D (0, 0) _ rfl HW2.out.row Tryd.underlying24 rfl HSD.out
end Go.Proofs.YtgkfodmccfnaoaaDoor

/- An entry's fields written one by one. -/
namespace Go.Proofs.YtgkfodmccfnaoaaDoor
open Go.RowKit Sums Nums
set_option linter.unusedVariables false
set_option linter.unusedSimpArgs false
set_option maxRecDepth 100000
theorem eset_h (x : EnT) (ok : OkE x) (v : SgT) (h1 : v.h.d.length = 32) (h2 : v.g.length = 32) : ((ecells x).take 4 ++ scells v ++ (ecells x).drop (4 + 69)).toArray = (ecells { x with h := v }).toArray := by
  congr 1
  have hs := scells_length x.h ok.h ok.g
  show ([Value.int .i64 x.k, .int .i64 x.c, .int .i64 x.s, .string x.t] ++ scells v) ++ (([Value.int .i64 x.k, .int .i64 x.c, .int .i64 x.s, .string x.t] ++ scells x.h) ++ ccells x.m).drop 73 = ([Value.int .i64 x.k, .int .i64 x.c, .int .i64 x.s, .string x.t] ++ scells v) ++ ccells x.m
  rw [List.drop_left' (by simp [hs])]
theorem eset_m (x : EnT) (ok : OkE x) (v : ClT) (h1 : v.d.length = 32) : ((ecells x).take 73 ++ ccells v ++ (ecells x).drop (73 + 36)).toArray = (ecells { x with m := v }).toArray := by
  congr 1
  have hs := scells_length x.h ok.h ok.g
  have hl := ecells_length x ok
  rw [List.drop_of_length_le (by rw [hl]; omega), List.append_nil]
  show (([Value.int .i64 x.k, .int .i64 x.c, .int .i64 x.s, .string x.t] ++ scells x.h) ++ ccells x.m).take 73 ++ ccells v = ([Value.int .i64 x.k, .int .i64 x.c, .int .i64 x.s, .string x.t] ++ scells x.h) ++ ccells v
  rw [List.take_left' (by simp [hs])]
theorem infoE : (Tryd.prog.info? 32).map (fun i => (i.zero, i.size)) = some (some (.agg (ecells zeroE).toArray), 109) := by kernel_rfl
theorem builtE0 : Tryd.prog.built 32 [] = some (ecells zeroE).toArray := by kernel_rfl
theorem one_cellsE (x : EnT) : (ecells x).toArray.all (·.oneCell') = true := by
  rw [List.all_toArray, List.all_eq_true]
  intro v hv
  unfold ecells at hv
  simp only [List.mem_append, List.mem_cons, List.not_mem_nil, or_false] at hv
  rcases hv with ((rfl | rfl | rfl | rfl) | hv) | hv
  · rfl
  · rfl
  · rfl
  · rfl
  · have := one_cellsS x.h
    rw [List.all_toArray, List.all_eq_true] at this
    exact this v hv
  · have := one_cellsC x.m
    rw [List.all_toArray, List.all_eq_true] at this
    exact this v hv
end Go.Proofs.YtgkfodmccfnaoaaDoor

/- The statements' own examples of claims and items, over what the calls of package entry answer. -/
namespace Go.Proofs.YtgkfodmccfnaoaaDoor
open Go.RowKit Sums Nums
set_option linter.unusedVariables false
set_option linter.unusedSimpArgs false
set_option maxRecDepth 100000
theorem wpList_build_some {P : Program} {ops : Array Oper} {rest : List Oper} {o : Oper} {a : Act} {w : World} {Q : Exit → Act → World → Prop} (hg : o.guard = none) (t : TypeId) (parts : Array (Nat × Operand)) (ho : o.op = .build t parts) (vals : List (Nat × Value)) (hv : (parts.toList.map fun p => (p.1, a.eval p.2)) = vals)
    (cs : Array Value) (hb : P.built t vals = some cs) (h : wpList P ops Q rest (a.put o.dst (.agg cs)) w) : wpList P ops Q (o :: rest) a w := by
  refine wpList_build_row hg t parts ho cs ?_ h
  rw [← hb, ← hv, Array.toList_map]
/-! A user's entry, and an item with it. -/
def userE : EnT := ⟨1, 1, 2, ⟨#[97, 98]⟩, zeroS, zeroC⟩
theorem userE_ok : OkE userE := ⟨rfl, rfl, rfl⟩
theorem userE_right : rightE userE = true := by decide
theorem userE_in : InE userE := rightE_in userE_right userE_ok
def itemX : ItT := ⟨1, userE⟩
theorem itemX_right : rightI itemX = true := by decide
theorem itemX_in : InI itemX := ⟨by unfold In64; decide, userE_in⟩
theorem builtU : Tryd.prog.built 32 [(0, .int .i64 1), (1, .int .i64 1), (2, .int .i64 2), (3, .string ⟨#[97, 98]⟩)] = some (ecells userE).toArray := by kernel_rfl
theorem infoI : (Tryd.prog.info? 43).map (fun i => (i.zero, i.size)) = some (some (.agg (icells zeroI).toArray), 110) := by kernel_rfl
theorem builtI0 : Tryd.prog.built 43 [] = some (icells zeroI).toArray := by kernel_rfl
theorem one_cellsI (x : ItT) : (icells x).toArray.all (·.oneCell') = true := by
  have := one_cellsE x.e
  rw [List.all_toArray, List.all_eq_true] at this ⊢
  intro v hv
  unfold icells at hv
  simp only [List.mem_append, List.mem_cons, List.not_mem_nil, or_false] at hv
  rcases hv with rfl | hv
  · rfl
  · exact this v hv
theorem entry_row (x : EnT) (ok : OkE x) : ∃ C : Array Value, Hid (C = (ecells x).toArray) ∧ Hid ((Tryd.prog.info? 32).map (·.size) = some C.size) ∧ Hid (C.all (·.oneCell') = true) ∧ Hid (C.size = 109) := by
  refine ⟨(ecells x).toArray, hidk rfl, ?_, one_cellsE x, ?_⟩
  · show _ = _
    rw [sizeE]; simp [ecells_length x ok]
  · show _ = _
    simp [ecells_length x ok]
theorem item_row (x : ItT) (ok : OkE x.e) : ∃ C : Array Value, Hid (C = (icells x).toArray) ∧ Hid ((Tryd.prog.info? 43).map (·.size) = some C.size) ∧ Hid (C.all (·.oneCell') = true) ∧ Hid (C.size = 110) := by
  refine ⟨(icells x).toArray, hidk rfl, ?_, one_cellsI x, ?_⟩
  · show _ = _
    rw [sizeI]; simp [icells_length x ok]
  · show _ = _
    simp [icells_length x ok]
theorem noughtsE : ∃ Z : Array Value, Hid (Z = (ecells zeroE).toArray) ∧ Hid ((Tryd.prog.info? 32).map (fun i => (i.zero, i.size)) = some (some (.agg Z), Z.size)) ∧ Hid (Tryd.prog.built 32 [] = some Z) ∧ Hid (Z.size = 109) :=
  ⟨(ecells zeroE).toArray, hidk rfl, infoE, builtE0, hidk rfl⟩
theorem noughtsI : ∃ Z : Array Value, Hid (Z = (icells zeroI).toArray) ∧ Hid ((Tryd.prog.info? 43).map (fun i => (i.zero, i.size)) = some (some (.agg Z), Z.size)) ∧ Hid (Tryd.prog.built 43 [] = some Z) ∧ Hid (Z.size = 110) :=
  ⟨(icells zeroI).toArray, hidk rfl, infoI, builtI0, hidk rfl⟩
theorem user_any (w : World) (C : Array Value) (HC : Hid (C = (ecells userE).toArray)) :
    Calls Tryd.prog 26 #[] w fun e w' => e = .returned (.agg C) ∧ Below w.heap.size w w' := by
  obtain ⟨Z, HZ, HA, HBZ, H109⟩ := noughtsE
  have HSC : Hid ((Tryd.prog.info? 32).map (·.size) = some C.size) := by show _ = _; rw [sizeE, HC.out]; simp [ecells_length _ userE_ok]
  have H1C : Hid (C.all (·.oneCell') = true) := by show _ = _; rw [HC.out]; exact one_cellsE _
  have HZC : Hid (Z.size = C.size) := by show _ = _; rw [H109.out, HC.out]; simp [ecells_length _ userE_ok]
  have HBO : Hid (Tryd.prog.built 32 [(0, .int .i64 1), (1, .int .i64 1), (2, .int .i64 2), (3, .string ⟨#[97, 98]⟩)] = some C) := by show _ = _; rw [HC.out]; exact builtU
  clear HC HZ HBZ H109
  go_enter Tryd.func26, Tryd.ntmps26
  go_wp2_with (first
    | (show wpList _ _ _ ({ dst := some 0, op := _, type := _, pos := _, after := _, guard := _ } :: _) _ _; refine wpList_new_var rfl 32 rfl Z HA.out ?_; intro g0 w1 HM0; try simp only [Act.put, List.setIfInBounds_toArray, List.set_cons_zero, List.set_cons_succ])
    | (show wpList _ _ _ ({ dst := some 1, op := _, type := _, pos := _, after := _, guard := _ } :: _) _ _; refine wpList_build_some rfl 32 _ rfl _ rfl C HBO.out ?_; try simp only [Act.put, List.setIfInBounds_toArray, List.set_cons_zero, List.set_cons_succ])
    | (refine wpList_set_var rfl 32 (.tmp 0) (.tmp 1) rfl g0 C rfl rfl 32 Z HM0.out.row HSC.out HZC.out H1C.out ?_; intro w2 HW0; try simp only [Act.put, List.setIfInBounds_toArray, List.set_cons_zero, List.set_cons_succ])
    | fail)
  refine bodyPost_ret (v := .agg C) ?_ rfl ⟨rfl, HW0.out.below w.heap.size w HM0.out.below (Nat.le_of_eq HM0.out.new.symm)⟩
  exact results_cell_row (p := 0) (ty := 32) rfl _ _ g0 32 C (0, 0) _ rfl HW0.out.row Tryd.underlying32 rfl HSC.out
end Go.Proofs.YtgkfodmccfnaoaaDoor

/- The statements' own example of items, over what the calls of package entry answer. -/
namespace Go.Proofs.YtgkfodmccfnaoaaDoor
open Go.RowKit Sums Nums
set_option linter.unusedVariables false
set_option linter.unusedSimpArgs false
set_option maxRecDepth 100000
theorem builtI (x : ItT) (ok : OkE x.e) (C R : Array Value) (HC : Hid (C = (ecells x.e).toArray)) (HR : Hid (R = (icells x).toArray)) : Tryd.prog.built 43 [(0, .int .i64 x.p), (1, .agg C)] = some R := by
  have hi := infoI
  have hzl := ecells_length zeroE zeroE_ok
  cases hq : Tryd.prog.info? 43 with
  | none => rw [hq] at hi; cases hi
  | some i =>
    rw [hq] at hi
    simp only [Option.map_some, Option.some.injEq, Prod.mk.injEq] at hi
    have hE := sizeE
    have h3 : (Tryd.prog.info? 3).map (·.size) = some 1 := by kernel_rfl
    cases hqE : Tryd.prog.info? 32 with
    | none => rw [hqE] at hE; cases hE
    | some iE =>
      cases hq3 : Tryd.prog.info? 3 with
      | none => rw [hq3] at h3; cases h3
      | some i3 =>
        rw [hqE] at hE
        rw [hq3] at h3
        simp only [Option.map_some, Option.some.injEq] at hE h3
        unfold Program.built
        simp only [hq, Tryd.underlying43, hi.1, List.mapM_cons, List.mapM_nil, hqE, hq3, hE, h3, Option.map_some, Option.bind_eq_bind, Option.bind_some, Option.pure_def]
        show Instr.fill _ (icells zeroI).toArray _ = some R
        have hc : C.size = 109 := by rw [HC.out]; simp [ecells_length x.e ok]
        refine (fill_val _ 0 0 1 (.int .i64 x.p) #[.int .i64 x.p] _ [] [.int .i64 0] (ecells zeroE) _ rfl rfl rfl (by simp [icells, zeroI]) rfl rfl).trans ?_
        refine (fill_val _ 1 1 109 (.agg C) C _ [.int .i64 x.p] (ecells zeroE) [] _ rfl rfl hc (by simp) rfl hzl).trans ?_
        simp only [Instr.fill, List.append_nil, Option.some.injEq]
        rw [HR.out, HC.out]
        rfl
def itemL : List UInt8 := [1, 0, 0, 1, 1, 2, 0, 0, 21, 1, 0, 0, 1, 1, 2, 0, 0, 1, 1, 3, 0, 0, 1, 2, 4, 0, 0, 2, 97, 98]
theorem itemB_X : itemB itemX = itemL := by decide +kernel
theorem getEE_nil : getEE [] = 60 := by decide +kernel
theorem getEO_nil : getEO [] = zeroE := by
  have h := getEE_nil
  unfold getEE at h
  unfold getEO
  cases hq : getE [] with
  | none => rfl
  | some x => rw [hq] at h; simp at h
theorem iE_zero : iE zeroI = 60 := by decide
theorem eE_zero : eE zeroE = 60 := by decide
theorem zeroI_in : InI zeroI := ⟨by unfold In64; decide, zeroE_in⟩
theorem leafO_zero : leafO zeroI = List.replicate 32 0 := rfl
set_option maxHeartbeats 8000000 in
theorem items_true (ck : EntryC) (w : World) (hT : TabH w) : Calls Tryd.prog 10 #[] w fun e w' => e = .returned (.bool true) ∧ Below w.heap.size w w' := by
  obtain ⟨ZE, HZE, HAE, HBE, H109⟩ := noughtsE
  obtain ⟨ZI, HZI, HAI, HBI, H110⟩ := noughtsI
  obtain ⟨ZD, HZD, HAD, HSD, H1D, H32⟩ := noughts27
  obtain ⟨U, HU, HSU, H1U, H109U⟩ := entry_row userE userE_ok
  obtain ⟨X, HX, HSX, H1X, H110X⟩ := item_row itemX userE_ok
  have HZX : Hid (ZI.size = X.size) := by show _ = _; rw [H110.out, H110X.out]
  have HSZE : Hid ((Tryd.prog.info? 32).map (·.size) = some ZE.size) := by show _ = _; rw [sizeE, H109.out]
  have H1ZE : Hid (ZE.all (·.oneCell') = true) := by show _ = _; rw [HZE.out]; exact one_cellsE _
  have HB2 : Hid (Tryd.prog.built 43 [(0, .int .i64 1), (1, .agg U)] = some X) := builtI itemX userE_ok U X HU HX
  have US : Hid (∀ W, Calls Tryd.prog 26 #[] W fun e w' => e = .returned (.agg U) ∧ Below W.heap.size W w') := fun W => user_any W U HU
  obtain ⟨L, hL⟩ : ∃ L, L = itemB itemX := ⟨_, rfl⟩
  obtain ⟨n, hn⟩ : ∃ n, n = L.length := ⟨_, rfl⟩
  have PU : Hid (∀ W, Calls Tryd.prog 12 #[.agg X] W fun e w' => (∃ a cap, e = .returned (.tuple #[.slice a n cap, .int .i64 0]) ∧ Reads w' a n cap L) ∧ Below W.heap.size W w') := fun W => by
    have := ck.putI itemX itemX_in W X HX
    rw [show iB itemX = L by rw [hL]; unfold iB; rw [if_pos itemX_right], show iE itemX = 0 by decide] at this
    rw [hn]; exact this
  have GE : Hid (∀ W a cap, Reads W a n cap L → Calls Tryd.prog 15 #[.slice a n cap] W fun e w' => e = .returned (.tuple #[.agg X, .int .i64 0]) ∧ Below W.heap.size W w') := fun W a cap h => by
    have hg := getI_item itemX_right userE_ok
    have := ck.getI _ _ _ _ W h (by rw [hn, hL]; have := itemB_length itemX_right userE_ok; omega) X (by show _ = _; unfold getIO; rw [hL, hg]; exact HX.out)
    rwa [show getIE L = 0 by unfold getIE; rw [hL, hg]; rfl] at this
  have GN : Hid (∀ W, Calls Tryd.prog 11 #[.slice none 0 0] W fun e w' => e = .returned (.tuple #[.agg ZE, .int .i64 60]) ∧ Below W.heap.size W w') := fun W => by
    have := ck.get none 0 0 [] W (reads_none _) (by omega) ZE (by show _ = _; rw [getEO_nil]; exact HZE.out)
    rwa [getEE_nil] at this
  have LE : Hid (∀ W, Below w.heap.size w W → Calls Tryd.prog 14 #[.agg ZI] W fun e w' => e = .returned (.tuple #[.agg ZD, .int .i64 60]) ∧ Below W.heap.size W w') := fun W hb => by
    have := ck.leaf zeroI zeroI_in W ZI ZD HZI (hT.keep hb) (by show _ = _; rw [leafO_zero]; exact HZD.out)
    rwa [iE_zero] at this
  have CH1 : Hid (∀ W, Calls Tryd.prog 9 #[.agg U] W fun e w' => e = .returned (.int .i64 0) ∧ Below W.heap.size W w') := fun W => by
    have := ck.check userE userE_in W U HU
    rwa [show eE userE = 0 by decide] at this
  have CH0 : Hid (∀ W, Calls Tryd.prog 9 #[.agg ZE] W fun e w' => e = .returned (.int .i64 60) ∧ Below W.heap.size W w') := fun W => by
    have := ck.check zeroE zeroE_in W ZE HZE
    rwa [eE_zero] at this
  have EQ : ∀ W, (binOp .eql 43 (.agg X) (.agg X)).run Tryd.prog W = .ok (.bool true) W := fun W => eqItem itemX itemX userE_ok userE_ok X X HX HX true (by simp) W
  have CV : Hid (∀ W a cap, Reads W a n cap L → (convert 33 9 (.slice a n cap)).run Tryd.prog W = .ok (.string ⟨#[1, 0, 0, 1, 1, 2, 0, 0, 21, 1, 0, 0, 1, 1, 2, 0, 0, 1, 1, 3, 0, 0, 1, 2, 4, 0, 0, 2, 97, 98]⟩) W) := fun W a cap h => by
    have := conv_reads h
    rwa [hL, itemB_X] at this
  clear HX HZE HZI HZD HU H109 H110 H109U H110X H32 hL hn hT
  go_enter Tryd.func10, Tryd.ntmps10
  go_wp2_with fail
  refine (US.out _).mono ?_
  rintro e w0 ⟨rfl, hb0⟩
  have HB0 := hidk hb0
  clear hb0
  go_wp2_with (first
    | (show wpList _ _ _ ({ dst := some 11, op := _, type := _, pos := _, after := _, guard := _ } :: _) _ _; refine wpList_build_some rfl 43 _ rfl _ rfl X HB2.out ?_; try simp only [Act.put, List.setIfInBounds_toArray, List.set_cons_zero, List.set_cons_succ])
    | (show wpList _ _ _ ({ dst := some 1, op := _, type := _, pos := _, after := _, guard := _ } :: _) _ _; refine wpList_new_var rfl 43 rfl ZI HAI.out ?_; intro g1 w1 HM1; try simp only [Act.put, List.setIfInBounds_toArray, List.set_cons_zero, List.set_cons_succ])
    | (refine wpList_set_var rfl 43 (.tmp 1) (.tmp 11) rfl g1 X rfl rfl 43 ZI HM1.out.row HSX.out HZX.out H1X.out ?_; intro w2 HW1; try simp only [Act.put, List.setIfInBounds_toArray, List.set_cons_zero, List.set_cons_succ])
    | (show wpList _ _ _ ({ dst := some 13, op := _, type := _, pos := _, after := _, guard := _ } :: _) _ _; refine wpList_load_row rfl 43 (.tmp 1) rfl g1 rfl 43 X (0, 0) _ HW1.out.row Tryd.underlying43 rfl HSX.out ?_; try simp only [Act.put, List.setIfInBounds_toArray, List.set_cons_zero, List.set_cons_succ])
    | fail)
  have HB2' := hidk (HW1.out.below _ _ (HB0.out.trans (HM1.out.below.mono HB0.out.size)) (by rw [HM1.out.new]; exact HB0.out.size))
  have HR2 := hidk HW1.out.row
  clear HM1 HW1 HB0
  refine (PU.out _).mono ?_
  rintro e w3 ⟨⟨a3, c3, rfl, hR3⟩, hb3⟩
  have HQ3 := hidk hR3
  have HB3 := hidk (HB2'.out.trans (hb3.mono HB2'.out.size))
  have HR3 := hidk ((hb3.block _ (heap_lt HR2.out)).trans HR2.out)
  clear hb3 hR3 HB2' HR2 PU
  go_wp2_with fail
  refine (GE.out _ _ _ HQ3.out).mono ?_
  rintro e w4 ⟨rfl, hb4⟩
  have HB4 := hidk (HB3.out.trans (hb4.mono HB3.out.size))
  have HR4 := hidk ((hb4.block _ (heap_lt HR3.out)).trans HR3.out)
  have HQ4 := hidk (HQ3.out.below hb4)
  clear hb4 HB3 HR3 HQ3 GE
  go_wp2_with (first
    | (show wpList _ _ _ ({ dst := some 4, op := _, type := _, pos := _, after := _, guard := _ } :: _) _ _; refine wpList_new_var rfl 43 rfl ZI HAI.out ?_; intro g4 w5 HM4; try simp only [Act.put, List.setIfInBounds_toArray, List.set_cons_zero, List.set_cons_succ])
    | (refine wpList_set_var rfl 43 (.tmp 4) (.tmp 20) rfl g4 X rfl rfl 43 ZI HM4.out.row HSX.out HZX.out H1X.out ?_; intro w6 HW4; try simp only [Act.put, List.setIfInBounds_toArray, List.set_cons_zero, List.set_cons_succ])
    | fail)
  have HX6 := hidk (HW4.out.below _ _ HM4.out.below (Nat.le_of_eq HM4.out.new.symm))
  have HB6 := hidk (HB4.out.trans (HX6.out.mono HB4.out.size))
  have HR6 := hidk ((HX6.out.block _ (heap_lt HR4.out)).trans HR4.out)
  have HQ6 := hidk (HQ4.out.below HX6.out)
  have HR46 := hidk HW4.out.row
  clear HM4 HW4 HX6 HB4 HR4 HQ4
  refine (GN.out _).mono ?_
  rintro e w7 ⟨rfl, hb7⟩
  have HB7 := hidk (HB6.out.trans (hb7.mono HB6.out.size))
  have HR7 := hidk ((hb7.block _ (heap_lt HR6.out)).trans HR6.out)
  have HR47 := hidk ((hb7.block _ (heap_lt HR46.out)).trans HR46.out)
  have HQ7 := hidk (HQ6.out.below hb7)
  clear hb7 HB6 HR6 HQ6 HR46 GN
  go_wp2_with (first
    | (show wpList _ _ _ ({ dst := some 6, op := _, type := _, pos := _, after := _, guard := _ } :: _) _ _; refine wpList_new_var rfl 32 rfl ZE HAE.out ?_; intro g6 w8 HM6; try simp only [Act.put, List.setIfInBounds_toArray, List.set_cons_zero, List.set_cons_succ])
    | (refine wpList_set_var rfl 32 (.tmp 6) (.tmp 24) rfl g6 ZE rfl rfl 32 ZE HM6.out.row HSZE.out rfl H1ZE.out ?_; intro w9 HW6; try simp only [Act.put, List.setIfInBounds_toArray, List.set_cons_zero, List.set_cons_succ])
    | (show wpList _ _ _ ({ dst := some 27, op := _, type := _, pos := _, after := _, guard := _ } :: _) _ _; refine wpList_build_none rfl 43 rfl ZI HBI.out ?_; try simp only [Act.put, List.setIfInBounds_toArray, List.set_cons_zero, List.set_cons_succ])
    | fail)
  have HX9 := hidk (HW6.out.below _ _ HM6.out.below (Nat.le_of_eq HM6.out.new.symm))
  have HB9 := hidk (HB7.out.trans (HX9.out.mono HB7.out.size))
  have HR9 := hidk ((HX9.out.block _ (heap_lt HR7.out)).trans HR7.out)
  have HR49 := hidk ((HX9.out.block _ (heap_lt HR47.out)).trans HR47.out)
  have HQ9 := hidk (HQ7.out.below HX9.out)
  clear HM6 HW6 HX9 HB7 HR7 HQ7 HR47
  refine (LE.out _ HB9.out).mono ?_
  rintro e w10 ⟨rfl, hb10⟩
  have HB10 := hidk (HB9.out.trans (hb10.mono HB9.out.size))
  have HR10 := hidk ((hb10.block _ (heap_lt HR9.out)).trans HR9.out)
  have HR410 := hidk ((hb10.block _ (heap_lt HR49.out)).trans HR49.out)
  have HQ10 := hidk (HQ9.out.below hb10)
  clear hb10 HB9 HR9 HQ9 HR49 LE
  go_wp2_with (first
    | (show wpList _ _ _ ({ dst := some 8, op := _, type := _, pos := _, after := _, guard := _ } :: _) _ _; refine wpList_new_var rfl 24 rfl ZD HAD.out ?_; intro g8 w11 HM8; try simp only [Act.put, List.setIfInBounds_toArray, List.set_cons_zero, List.set_cons_succ])
    | (refine wpList_set_var rfl 24 (.tmp 8) (.tmp 29) rfl g8 ZD rfl rfl 24 ZD HM8.out.row HSD.out rfl H1D.out ?_; intro w12 HW8; try simp only [Act.put, List.setIfInBounds_toArray, List.set_cons_zero, List.set_cons_succ]; have HX12 := hidk (HW8.out.below _ _ HM8.out.below (Nat.le_of_eq HM8.out.new.symm)); have hcv := CV.out w12 _ _ (HQ10.out.below HX12.out))
    | (show wpList _ _ _ ({ dst := some 43, op := _, type := _, pos := _, after := _, guard := _ } :: _) _ _; refine wpList_load_row_w (by rfl) 43 (.tmp 4) rfl g4 rfl 43 X (0, 0) _ ((HX12.out.block _ (heap_lt HR410.out)).trans HR410.out) Tryd.underlying43 rfl HSX.out ?_; try simp only [Act.put, List.setIfInBounds_toArray, List.set_cons_zero, List.set_cons_succ])
    | (show wpList _ _ _ ({ dst := some 44, op := _, type := _, pos := _, after := _, guard := _ } :: _) _ _; refine wpList_load_row_w (by rfl) 43 (.tmp 1) rfl g1 rfl 43 X (0, 0) _ ((HX12.out.block _ (heap_lt HR10.out)).trans HR10.out) Tryd.underlying43 rfl HSX.out ?_; try simp only [Act.put, List.setIfInBounds_toArray, List.set_cons_zero, List.set_cons_succ])
    | fail)
  have HB12 := hidk (HB10.out.trans (HX12.out.mono HB10.out.size))
  clear HM8 HW8 HX12 HB10 HR10 HQ10 HR410 hcv
  refine (US.out _).mono ?_
  rintro e w13 ⟨rfl, hb13⟩
  have HB13 := hidk (HB12.out.trans (hb13.mono HB12.out.size))
  clear hb13 HB12 US
  go_wp2_with fail
  refine (CH1.out _).mono ?_
  rintro e w14 ⟨rfl, hb14⟩
  have HB14 := hidk (HB13.out.trans (hb14.mono HB13.out.size))
  clear hb14 HB13 CH1
  go_wp2_with (first
    | (show wpList _ _ _ ({ dst := some 61, op := _, type := _, pos := _, after := _, guard := _ } :: _) _ _; refine wpList_build_none_w (by rfl) 32 rfl ZE HBE.out ?_; try simp only [Act.put, List.setIfInBounds_toArray, List.set_cons_zero, List.set_cons_succ])
    | fail)
  refine (CH0.out _).mono ?_
  rintro e w15 ⟨rfl, hb15⟩
  have HB15 := hidk (HB14.out.trans (hb15.mono HB14.out.size))
  clear hb15 HB14 CH0
  go_wp2_with fail
  go_ret
  exact ⟨rfl, HB15.out⟩
end Go.Proofs.YtgkfodmccfnaoaaDoor

/- What EntryBytes says of any input, over what the calls of package entry answer. -/
namespace Go.Proofs.YtgkfodmccfnaoaaDoor
open Go.RowKit Sums Nums
set_option linter.unusedVariables false
set_option linter.unusedSimpArgs false
set_option maxRecDepth 100000
theorem neq_same (W : World) (s : ByteArray) : (binOp .neq 9 (.string s) (.string s)).run Tryd.prog W = .ok (.bool false) W := by simp [go_sem]
/-- An entry, an item that came in: its text may be of any length. -/
structure CmE (x : EnT) : Prop where
  k : In64 x.k
  c : In64 x.c
  s : In64 x.s
  t : x.t.size ≤ maxLen
  h : InS x.h
  m : InC x.m
theorem CmE.ok {x : EnT} (h : CmE x) : OkE x := ⟨h.h.h.d, h.h.g, h.m.d⟩
theorem CmE.in {x : EnT} (h : CmE x) (ht : ¬ 16384 < x.t.size) : InE x := ⟨h.k, h.c, h.s, by omega, h.h, h.m⟩
structure CmI (x : ItT) : Prop where
  p : In64 x.p
  e : CmE x.e
theorem CmI.in {x : ItT} (h : CmI x) (ht : ¬ 16384 < x.e.t.size) : InI x := ⟨h.p, h.e.in ht⟩
theorem icells_t {W : World} {g : Nat} {x : ItT} {X : Array Value} (HX : Hid (X = (icells x).toArray)) {t : TypeId} (h : W.heap[g]? = some (.cells X t (0, 0))) : W.cell? ⟨g, 4, none⟩ = some (.string x.e.t) := by
  rw [cell_of_row W g 4 _ t (0, 0) h, HX.out]; rfl
end Go.Proofs.YtgkfodmccfnaoaaDoor

/- What EntryItems says of any input, over what the calls of package entry answer. -/
namespace Go.Proofs.YtgkfodmccfnaoaaDoor
open Go.RowKit Sums Nums
set_option linter.unusedVariables false
set_option linter.unusedSimpArgs false
set_option maxRecDepth 100000
theorem built23 : Tryd.prog.built 24 [] = some (cellsOf (List.replicate 32 0)).toArray := by kernel_rfl
theorem leafO_length (x : ItT) : (leafO x).length = 32 := by
  unfold leafO
  split
  · exact sumD_length _
  · rfl
set_option maxHeartbeats 16000000 in
theorem entryItems_of (ck : EntryC) (x : ItT) (w : World) (X : Array Value) (HX : Hid (X = (icells x).toArray)) (hx : CmI x) (hK : Table 1 w) (hT : TabH w) :
    Calls Tryd.prog 4 #[.agg X] w fun e w' => e = .returned (.bool true) ∧ Below w.heap.size w w' := by
  have HR : Hid ((w.alloc (.cells X 43)).heap[w.heap.size]? = some (.cells X 43 (0, 0))) := heap_alloc_new w _
  have HB : Hid (Below w.heap.size w (w.alloc (.cells X 43))) := (Below.refl _ _).alloc (Nat.le_refl _) _
  have ct := icells_t HX HR.out
  have htm : x.e.t.size ≤ 9223372036854775807 := by have := hx.e.t; unfold maxLen at this; omega
  by_cases hlen : 16384 < x.e.t.size
  · obtain ⟨t, ht⟩ : ∃ t, t = x.e.t := ⟨_, rfl⟩
    rw [← ht] at ct hlen htm
    have d0 : decide (16384 < (t.size : Int)) = true := by rw [decide_eq_true_eq]; omega
    have d0' : decide (16384 < t.size) = true := by rw [decide_eq_true_eq]; omega
    clear hlen ht hx hT HX hK
    go_enter Tryd.func4, Tryd.ntmps4
    go_wp2
    go_ret
    exact ⟨rfl, HB.out⟩
  have hin := hx.in hlen
  have hok := hx.e.ok
  have HSX : Hid ((Tryd.prog.info? 43).map (·.size) = some X.size) := by show _ = _; rw [sizeI, HX.out]; simp [icells_length _ hok]
  have H1X : Hid (X.all (·.oneCell') = true) := by show _ = _; rw [HX.out]; exact one_cellsI _
  obtain ⟨Z, HZ, HA, HBZ, H110⟩ := noughtsI
  have HZX : Hid (Z.size = X.size) := by show _ = _; rw [H110.out, HX.out]; simp [icells_length _ hok]
  obtain ⟨E, hE⟩ : ∃ E, E = iE x := ⟨_, rfl⟩
  obtain ⟨L, hL⟩ : ∃ L, L = iB x := ⟨_, rfl⟩
  obtain ⟨len, hlen'⟩ : ∃ n, n = L.length := ⟨_, rfl⟩
  obtain ⟨ZD, HZD, HAD, HSZD, H1ZD, H32⟩ := noughts27
  obtain ⟨D, HD, HSD, H1D, H32D⟩ := dig_row' (leafO x) (leafO_length x)
  have HZDD : Hid (ZD.size = D.size) := by show _ = _; rw [H32.out, H32D.out]
  have PG : Hid (∀ W, Calls Tryd.prog 12 #[.agg X] W fun e w' => (∃ a cap, e = .returned (.tuple #[.slice a len cap, .int .i64 E]) ∧ Reads w' a len cap L) ∧ Below W.heap.size W w') := fun W => by rw [hE, hlen', hL]; exact ck.putI x hin W X HX
  have PR : Hid (∀ W, Calls Tryd.prog 13 #[.agg X] W fun e w' => (∃ a cap, e = .returned (.tuple #[.slice a len cap, .int .i64 E]) ∧ Reads w' a len cap L) ∧ Below W.heap.size W w') := fun W => by rw [hE, hlen', hL]; exact refPutI_any x hok W X HX
  have LF : Hid (∀ W, Below w.heap.size w W → Calls Tryd.prog 14 #[.agg X] W fun e w' => e = .returned (.tuple #[.agg D, .int .i64 E]) ∧ Below W.heap.size W w') := fun W hb => by rw [hE]; exact ck.leaf x hin W X D HX (hT.keep hb) HD
  have IT : Hid (∀ W, Below w.heap.size w W → Calls Tryd.prog 10 #[] W fun e w' => e = .returned (.bool true) ∧ Below W.heap.size W w') := fun W hb => items_true ck W (hT.keep hb)
  have h07 := iE_two x
  rw [← hE] at h07
  obtain ⟨T, HT⟩ : ∃ T : ByteArray, Hid (T = ⟨L.toArray⟩) := ⟨_, hidk rfl⟩
  have GS : Hid (E = 0 → ∀ W a cap, Reads W a len cap L → Calls Tryd.prog 15 #[.slice a len cap] W fun e w' => e = .returned (.tuple #[.agg X, .int .i64 0]) ∧ Below W.heap.size W w') := fun h0 W a cap hr => by
    have hm : rightI x = true := by
      rcases h07 with ⟨_, h⟩ | ⟨h, _⟩
      · exact h
      · omega
    have e1 : L = itemB x := by rw [hL]; unfold iB; rw [if_pos hm]
    have e2 : getI L = some x := by rw [e1]; exact getI_item hm hok
    have hl := itemB_length hm hok
    have := ck.getI a _ cap L W hr (by rw [hlen', e1]; omega) X (by show _ = _; unfold getIO; rw [e2]; exact HX.out)
    have e3 : getIE L = 0 := by unfold getIE; rw [e2]; rfl
    rwa [e3] at this
  have RL : Hid (E = 0 → ∀ W, Below w.heap.size w W → Calls Tryd.prog 16 #[.agg X] W fun e w' => e = .returned (.agg D) ∧ Below W.heap.size W w') := fun h0 W hb => by
    have hm : rightI x = true := by
      rcases h07 with ⟨_, h⟩ | ⟨h, _⟩
      · exact h
      · omega
    exact refLeafI_any x hok hm W X D HX (hK.keep hb) (by show _ = _; rw [HD.out]; unfold leafO; rw [if_pos hm])
  have SL : Hid (E = 0 → ∀ W, Below w.heap.size w W → Calls Tryd.prog 17 #[.string T] W fun e w' => e = .returned (.agg D) ∧ Below W.heap.size W w') := fun h0 W hb => by
    have hm : rightI x = true := by
      rcases h07 with ⟨_, h⟩ | ⟨h, _⟩
      · exact h
      · omega
    have e1 : L = itemB x := by rw [hL]; unfold iB; rw [if_pos hm]
    have hl := itemB_length hm hok
    have et : T.data.toList = itemB x := by rw [HT.out, e1]
    exact leaf_any T W (by show T.data.size ≤ _; rw [← Array.length_toList, et]; omega) (hT.keep hb) D (by show _ = _; rw [HD.out, et]; unfold leafO; rw [if_pos hm]; rfl)
  have EQ : ∀ W, (binOp .eql 43 (.agg X) (.agg X)).run Tryd.prog W = .ok (.bool true) W := fun W => eqItem x x hok hok X X HX HX true (by simp) W
  have ED : ∀ W, (binOp .eql 24 (.agg D) (.agg D)).run Tryd.prog W = .ok (.bool true) W := fun W => eqDigV _ _ (leafO_length x) (leafO_length x) D D HD HD true (by simp) W
  have EZ : Hid (E = 60 → ∀ W, (binOp .eql 24 (.agg D) (.agg ZD)).run Tryd.prog W = .ok (.bool true) W) := fun h0 W => by
    have hm : rightI x = false := by
      rcases h07 with ⟨h, _⟩ | ⟨_, h⟩
      · omega
      · exact h
    exact eqDigV (leafO x) (List.replicate 32 0) (leafO_length x) rfl D ZD HD HZD true (by rw [decide_eq_true_eq]; unfold leafO; rw [hm]; rfl) W
  have BD : Hid (Tryd.prog.built 24 [] = some ZD) := by show _ = _; rw [HZD.out]; exact built23
  have h08 : E = 0 ∨ E = 60 := by rcases h07 with ⟨h, _⟩ | ⟨h, _⟩ <;> omega
  have CV : Hid (∀ W a cap, Reads W a len cap L → (convert 33 9 (.slice a len cap)).run Tryd.prog W = .ok (.string T) W) := fun W a cap h => by rw [HT.out]; exact conv_reads h
  have NE : ∀ W, (binOp .neq 9 (.string T) (.string T)).run Tryd.prog W = .ok (.bool false) W := fun W => neq_same W T
  obtain ⟨t, ht⟩ : ∃ t, t = x.e.t := ⟨_, rfl⟩
  rw [← ht] at ct hlen htm
  have d0 : decide (16384 < (t.size : Int)) = false := by rw [decide_eq_false_iff_not]; omega
  have d0' : decide (16384 < t.size) = false := by rw [decide_eq_false_iff_not]; omega
  clear HX hx hin hok hE hL hlen' HZ HBZ H110 HT h07 hT hlen ht HZD HD H32 H32D hK
  go_enter Tryd.func4, Tryd.ntmps4
  go_wp2_with (first
    | (show wpList _ _ _ ({ dst := some 17, op := _, type := _, pos := _, after := _, guard := _ } :: _) _ _; refine wpList_load_row rfl 43 (.tmp 1) rfl w.heap.size rfl 43 X (0, 0) _ HR.out Tryd.underlying43 rfl HSX.out ?_; try simp only [Act.put, List.setIfInBounds_toArray, List.set_cons_zero, List.set_cons_succ])
    | fail)
  refine (PG.out _).mono ?_
  rintro e w1 ⟨⟨a1, cap1, rfl, hR1⟩, hb1⟩
  have HQ1 := hidk hR1
  have HB1 := hidk (HB.out.trans (hb1.mono HB.out.size))
  have HR1 := hidk ((hb1.block _ (heap_lt HR.out)).trans HR.out)
  clear hb1 hR1 HB HR PG ct d0 d0' htm
  go_wp2_with (first
    | (show wpList _ _ _ ({ dst := some 22, op := _, type := _, pos := _, after := _, guard := _ } :: _) _ _; refine wpList_load_row rfl 43 (.tmp 1) rfl w.heap.size rfl 43 X (0, 0) _ HR1.out Tryd.underlying43 rfl HSX.out ?_; try simp only [Act.put, List.setIfInBounds_toArray, List.set_cons_zero, List.set_cons_succ])
    | fail)
  refine (PR.out _).mono ?_
  rintro e w2 ⟨⟨a2, cap2, rfl, hR2⟩, hb2⟩
  have HQ2 := hidk (And.intro (HQ1.out.below hb2) hR2)
  have HB2 := hidk (HB1.out.trans (hb2.mono HB1.out.size))
  have HR2 := hidk ((hb2.block _ (heap_lt HR1.out)).trans HR1.out)
  clear hb2 hR2 HB1 HR1 HQ1 PR
  go_wp2_with (first
    | (show wpList _ _ _ ({ dst := some 27, op := _, type := _, pos := _, after := _, guard := _ } :: _) _ _; refine wpList_load_row rfl 43 (.tmp 1) rfl w.heap.size rfl 43 X (0, 0) _ HR2.out Tryd.underlying43 rfl HSX.out ?_; try simp only [Act.put, List.setIfInBounds_toArray, List.set_cons_zero, List.set_cons_succ])
    | fail)
  refine (LF.out _ HB2.out).mono ?_
  rintro e w3 ⟨rfl, hb3⟩
  have HQ3 := hidk (And.intro (HQ2.out.1.below hb3) (HQ2.out.2.below hb3))
  have HB3 := hidk (HB2.out.trans (hb3.mono HB2.out.size))
  have HR3 := hidk ((hb3.block _ (heap_lt HR2.out)).trans HR2.out)
  clear hb3 HB2 HR2 HQ2 LF
  rcases h08 with rfl | rfl
  · go_wp2_with (first
      | (show wpList _ _ _ ({ dst := some 7, op := _, type := _, pos := _, after := _, guard := _ } :: _) _ _; refine wpList_new_var rfl 24 rfl ZD HAD.out ?_; intro g7 w4 HM7; try simp only [Act.put, List.setIfInBounds_toArray, List.set_cons_zero, List.set_cons_succ])
      | (refine wpList_set_var rfl 24 (.tmp 7) (.tmp 29) rfl g7 D rfl rfl 24 ZD HM7.out.row HSD.out HZDD.out H1D.out ?_; intro w5 HW7; try simp only [Act.put, List.setIfInBounds_toArray, List.set_cons_zero, List.set_cons_succ]; have HX5 := hidk (HW7.out.below _ _ HM7.out.below (Nat.le_of_eq HM7.out.new.symm)); have c1 := CV.out w5 a1 cap1 (HQ3.out.1.below HX5.out); have c2 := CV.out w5 a2 cap2 (HQ3.out.2.below HX5.out))
      | fail)
    have HB5 := hidk (HB3.out.trans (HX5.out.mono HB3.out.size))
    have HR5 := hidk ((HX5.out.block _ (heap_lt HR3.out)).trans HR3.out)
    have HQ5 := hidk (HQ3.out.1.below HX5.out)
    have HR75 := hidk HW7.out.row
    clear HM7 HW7 HX5 HB3 HR3 HQ3 c1 c2
    refine (GS.out (by trivial) _ _ _ HQ5.out).mono ?_
    rintro e w6 ⟨rfl, hb6⟩
    have HB6 := hidk (HB5.out.trans (hb6.mono HB5.out.size))
    have HR6 := hidk ((hb6.block _ (heap_lt HR5.out)).trans HR5.out)
    have HR76 := hidk ((hb6.block _ (heap_lt HR75.out)).trans HR75.out)
    have HQ6 := hidk (HQ5.out.below hb6)
    clear hb6 HB5 HR5 HR75 HQ5 GS NE
    go_wp2_with (first
      | (show wpList _ _ _ ({ dst := some 9, op := _, type := _, pos := _, after := _, guard := _ } :: _) _ _; refine wpList_new_var rfl 43 rfl Z HA.out ?_; intro g9 w7 HM9; try simp only [Act.put, List.setIfInBounds_toArray, List.set_cons_zero, List.set_cons_succ])
      | (refine wpList_set_var rfl 43 (.tmp 9) (.tmp 57) rfl g9 X rfl rfl 43 Z HM9.out.row HSX.out HZX.out H1X.out ?_; intro w8 HW9; try simp only [Act.put, List.setIfInBounds_toArray, List.set_cons_zero, List.set_cons_succ])
      | fail)
    have HX8 := hidk (HW9.out.below _ _ HM9.out.below (Nat.le_of_eq HM9.out.new.symm))
    have HBc := hidk (HB6.out.trans (HX8.out.mono HB6.out.size)).drew
    have HS8 : Hid (w8.heap[w.heap.size]? = some (.cells X 43 (0, 0)) ∧ w8.heap[g7]? = some (.cells D 24 (0, 0)) ∧ w8.heap[g9]? = some (.cells X 43 (0, 0)) ∧ Reads w8 a1 len cap1 L) := ⟨(HX8.out.block _ (heap_lt HR6.out)).trans HR6.out, (HX8.out.block _ (heap_lt HR76.out)).trans HR76.out, HW9.out.row, HQ6.out.below HX8.out⟩
    clear HM9 HW9 HX8 HB6 HR6 HR76 HQ6
    refine wp_region_held_drew (S := (fun W => W.heap[w.heap.size]? = some (.cells X 43 (0, 0)) ∧ W.heap[g7]? = some (.cells D 24 (0, 0)) ∧ W.heap[g9]? = some (.cells X 43 (0, 0)) ∧ Reads W a1 len cap1 L)) (by kernel_rfl) ⟨HS8.out.1, HS8.out.2.1, HS8.out.2.2.1, HS8.out.2.2.2.below (Below.refl _ _).drew⟩ (fun hHeld => ?_)
    refine wpAnyH_ready (rs := [0]) (by kernel_rfl) (by simp) ?_
    refine (AllReadyH.cons (o := { dst := some 59, op := Op.call { callee := Callee.value (Operand.func 10), args := #[], argTypes := #[] }, type := 4, pos := "law.go:82", after := #[], guard := none }) rfl (fun K hK => ?_) AllReadyH.nil)
    go_simp
    refine (IT.out _ HBc.out).mono ?_
    rintro e v0 ⟨rfl, hb0⟩
    replace HBc := hidk (HBc.out.trans (hb0.mono HBc.out.size))
    go_wp2_with fail
    refine hK.out _ _ ⟨(hb0.block _ (heap_lt hHeld.1)).trans hHeld.1, (hb0.block _ (heap_lt hHeld.2.1)).trans hHeld.2.1, (hb0.block _ (heap_lt hHeld.2.2.1)).trans hHeld.2.2.1, hHeld.2.2.2.below hb0⟩ (fun hHeld => ?_)
    clear hK K
    try simp only [Act.put, List.setIfInBounds_toArray, List.set_cons_zero, List.set_cons_succ]
    refine wpAnyH_take (i := 1) (oi := { dst := some 60, op := Op.move (Operand.tmp 59), type := 4, pos := "law.go:82", after := #[{ on := 0, ground := Ground.data }, { on := 0, ground := Ground.chain }], guard := none }) (v := .bool true) rfl (by kernel_rfl) (by kernel_rfl) (by kernel_rfl) (fun _ _ _ h => h) (Or.inl ⟨by rfl, by intro W hSw; go_simp⟩) hHeld ?_
    try simp only [Act.put, List.setIfInBounds_toArray, List.set_cons_zero, List.set_cons_succ]
    refine wpAnyH_take (i := 2) (oi := { dst := some 61, op := Op.move (Operand.tmp 10), type := 34, pos := "law.go:82", after := #[{ on := 1, ground := Ground.guard }], guard := some (1, true) }) (v := .int .i64 0) rfl (by kernel_rfl) (by kernel_rfl) (by kernel_rfl) (fun _ _ _ h => h) (Or.inl ⟨by rfl, by intro W hSw; go_simp⟩) hHeld ?_
    try simp only [Act.put, List.setIfInBounds_toArray, List.set_cons_zero, List.set_cons_succ]
    refine wpAnyH_take (i := 3) (oi := { dst := some 62, op := Op.binOp BinOp.eql 34 (Operand.tmp 61) (Operand.const (Value.int IntKind.i64 0)) 34, type := 4, pos := "law.go:82", after := #[{ on := 2, ground := Ground.data }, { on := 1, ground := Ground.guard }], guard := some (1, true) }) (v := .bool true) rfl (by kernel_rfl) (by kernel_rfl) (by kernel_rfl) (fun _ _ _ h => h) (Or.inl ⟨by rfl, by intro W hSw; go_simp⟩) hHeld ?_
    try simp only [Act.put, List.setIfInBounds_toArray, List.set_cons_zero, List.set_cons_succ]
    refine wpAnyH_take (i := 4) (oi := { dst := some 63, op := Op.pick (Operand.tmp 60) (Operand.tmp 62) (Operand.const (Value.bool false)), type := 4, pos := "law.go:82", after := #[{ on := 1, ground := Ground.data }, { on := 3, ground := Ground.data }], guard := none }) (v := .bool true) rfl (by kernel_rfl) (by kernel_rfl) (by kernel_rfl) (fun _ _ _ h => h) (Or.inl ⟨by rfl, by intro W hSw; go_simp⟩) hHeld ?_
    try simp only [Act.put, List.setIfInBounds_toArray, List.set_cons_zero, List.set_cons_succ]
    refine wpAnyH_take (i := 5) (oi := { dst := some 64, op := Op.move (Operand.tmp 63), type := 4, pos := "law.go:82", after := #[{ on := 4, ground := Ground.data }, { on := 1, ground := Ground.chain }], guard := none }) (v := .bool true) rfl (by kernel_rfl) (by kernel_rfl) (by kernel_rfl) (fun _ _ _ h => h) (Or.inl ⟨by rfl, by intro W hSw; go_simp⟩) hHeld ?_
    try simp only [Act.put, List.setIfInBounds_toArray, List.set_cons_zero, List.set_cons_succ]
    refine wpAnyH_take (i := 6) (oi := { dst := some 65, op := Op.load 43 (Operand.tmp 9), type := 43, pos := "law.go:82", after := #[{ on := 5, ground := Ground.guard }], guard := some (5, true) }) (v := .agg X) rfl (by kernel_rfl) (by kernel_rfl) (by kernel_rfl) (fun _ _ _ h => h) (yieldsIf_row (by rfl) 43 (.tmp 9) rfl g9 rfl 43 X (0, 0) _ (fun _ h => h.2.2.1) Tryd.underlying43 rfl HSX.out) hHeld ?_
    try simp only [Act.put, List.setIfInBounds_toArray, List.set_cons_zero, List.set_cons_succ]
    refine wpAnyH_take (i := 7) (oi := { dst := some 66, op := Op.load 43 (Operand.tmp 1), type := 43, pos := "law.go:82", after := #[{ on := 5, ground := Ground.guard }], guard := some (5, true) }) (v := .agg X) rfl (by kernel_rfl) (by kernel_rfl) (by kernel_rfl) (fun _ _ _ h => h) (yieldsIf_row (by rfl) 43 (.tmp 1) rfl w.heap.size rfl 43 X (0, 0) _ (fun _ h => h.1) Tryd.underlying43 rfl HSX.out) hHeld ?_
    try simp only [Act.put, List.setIfInBounds_toArray, List.set_cons_zero, List.set_cons_succ]
    refine wpAnyH_take (i := 8) (oi := { dst := some 67, op := Op.binOp BinOp.eql 43 (Operand.tmp 65) (Operand.tmp 66) 43, type := 4, pos := "law.go:82", after := #[{ on := 6, ground := Ground.data }, { on := 7, ground := Ground.data }, { on := 5, ground := Ground.guard }], guard := some (5, true) }) (v := .bool true) rfl (by kernel_rfl) (by kernel_rfl) (by kernel_rfl) (fun _ _ _ h => h) (Or.inl ⟨by rfl, by intro W hSw; have := EQ W; go_simp⟩) hHeld ?_
    try simp only [Act.put, List.setIfInBounds_toArray, List.set_cons_zero, List.set_cons_succ]
    refine wpAnyH_take (i := 9) (oi := { dst := some 68, op := Op.pick (Operand.tmp 64) (Operand.tmp 67) (Operand.const (Value.bool false)), type := 4, pos := "law.go:82", after := #[{ on := 5, ground := Ground.data }, { on := 8, ground := Ground.data }], guard := none }) (v := .bool true) rfl (by kernel_rfl) (by kernel_rfl) (by kernel_rfl) (fun _ _ _ h => h) (Or.inl ⟨by rfl, by intro W hSw; go_simp⟩) hHeld ?_
    try simp only [Act.put, List.setIfInBounds_toArray, List.set_cons_zero, List.set_cons_succ]
    refine wpAnyH_take (i := 10) (oi := { dst := some 69, op := Op.move (Operand.tmp 68), type := 4, pos := "law.go:82", after := #[{ on := 9, ground := Ground.data }, { on := 5, ground := Ground.chain }], guard := none }) (v := .bool true) rfl (by kernel_rfl) (by kernel_rfl) (by kernel_rfl) (fun _ _ _ h => h) (Or.inl ⟨by rfl, by intro W hSw; go_simp⟩) hHeld ?_
    try simp only [Act.put, List.setIfInBounds_toArray, List.set_cons_zero, List.set_cons_succ]
    refine wpAnyH_take (i := 11) (oi := { dst := some 70, op := Op.load 24 (Operand.tmp 7), type := 24, pos := "law.go:82", after := #[{ on := 10, ground := Ground.guard }], guard := some (10, true) }) (v := .agg D) rfl (by kernel_rfl) (by kernel_rfl) (by kernel_rfl) (fun _ _ _ h => h) (yieldsIf_row (by rfl) 24 (.tmp 7) rfl g7 rfl 24 D (0, 0) _ (fun _ h => h.2.1) Tryd.underlying24 rfl HSD.out) hHeld ?_
    try simp only [Act.put, List.setIfInBounds_toArray, List.set_cons_zero, List.set_cons_succ]
    refine wpAnyH_take (i := 12) (oi := { dst := some 71, op := Op.load 43 (Operand.tmp 1), type := 43, pos := "law.go:82", after := #[{ on := 10, ground := Ground.guard }], guard := some (10, true) }) (v := .agg X) rfl (by kernel_rfl) (by kernel_rfl) (by kernel_rfl) (fun _ _ _ h => h) (yieldsIf_row (by rfl) 43 (.tmp 1) rfl w.heap.size rfl 43 X (0, 0) _ (fun _ h => h.1) Tryd.underlying43 rfl HSX.out) hHeld ?_
    try simp only [Act.put, List.setIfInBounds_toArray, List.set_cons_zero, List.set_cons_succ]
    refine wpAnyH_ready (rs := [13]) (by kernel_rfl) (by simp) ?_
    refine (AllReadyH.cons (o := { dst := some 72, op := Op.call { callee := Callee.value (Operand.func 16), args := #[Operand.tmp 71], argTypes := #[43] }, type := 24, pos := "law.go:82", after := #[{ on := 12, ground := Ground.data }, { on := 10, ground := Ground.chain }, { on := 10, ground := Ground.guard }], guard := some (10, true) }) rfl (fun K hK => ?_) AllReadyH.nil)
    go_simp
    refine (RL.out (by trivial) _ HBc.out).mono ?_
    rintro e v13 ⟨rfl, hb13⟩
    replace HBc := hidk (HBc.out.trans (hb13.mono HBc.out.size))
    go_wp2_with fail
    refine hK.out _ _ ⟨(hb13.block _ (heap_lt hHeld.1)).trans hHeld.1, (hb13.block _ (heap_lt hHeld.2.1)).trans hHeld.2.1, (hb13.block _ (heap_lt hHeld.2.2.1)).trans hHeld.2.2.1, hHeld.2.2.2.below hb13⟩ (fun hHeld => ?_)
    clear hK K
    try simp only [Act.put, List.setIfInBounds_toArray, List.set_cons_zero, List.set_cons_succ]
    refine wpAnyH_take (i := 14) (oi := { dst := some 73, op := Op.binOp BinOp.eql 24 (Operand.tmp 70) (Operand.tmp 72) 24, type := 4, pos := "law.go:82", after := #[{ on := 11, ground := Ground.data }, { on := 13, ground := Ground.data }, { on := 10, ground := Ground.guard }], guard := some (10, true) }) (v := .bool true) rfl (by kernel_rfl) (by kernel_rfl) (by kernel_rfl) (fun _ _ _ h => h) (Or.inl ⟨by rfl, by intro W hSw; have := ED W; go_simp⟩) hHeld ?_
    try simp only [Act.put, List.setIfInBounds_toArray, List.set_cons_zero, List.set_cons_succ]
    refine wpAnyH_take (i := 15) (oi := { dst := some 74, op := Op.pick (Operand.tmp 69) (Operand.tmp 73) (Operand.const (Value.bool false)), type := 4, pos := "law.go:82", after := #[{ on := 10, ground := Ground.data }, { on := 14, ground := Ground.data }], guard := none }) (v := .bool true) rfl (by kernel_rfl) (by kernel_rfl) (by kernel_rfl) (fun _ _ _ h => h) (Or.inl ⟨by rfl, by intro W hSw; go_simp⟩) hHeld ?_
    try simp only [Act.put, List.setIfInBounds_toArray, List.set_cons_zero, List.set_cons_succ]
    refine wpAnyH_take (i := 16) (oi := { dst := some 75, op := Op.move (Operand.tmp 74), type := 4, pos := "law.go:82", after := #[{ on := 15, ground := Ground.data }, { on := 13, ground := Ground.chain }], guard := none }) (v := .bool true) rfl (by kernel_rfl) (by kernel_rfl) (by kernel_rfl) (fun _ _ _ h => h) (Or.inl ⟨by rfl, by intro W hSw; go_simp⟩) hHeld ?_
    try simp only [Act.put, List.setIfInBounds_toArray, List.set_cons_zero, List.set_cons_succ]
    refine wpAnyH_take (i := 17) (oi := { dst := some 76, op := Op.load 24 (Operand.tmp 7), type := 24, pos := "law.go:82", after := #[{ on := 16, ground := Ground.guard }], guard := some (16, true) }) (v := .agg D) rfl (by kernel_rfl) (by kernel_rfl) (by kernel_rfl) (fun _ _ _ h => h) (yieldsIf_row (by rfl) 24 (.tmp 7) rfl g7 rfl 24 D (0, 0) _ (fun _ h => h.2.1) Tryd.underlying24 rfl HSD.out) hHeld ?_
    try simp only [Act.put, List.setIfInBounds_toArray, List.set_cons_zero, List.set_cons_succ]
    refine wpAnyH_take (i := 18) (oi := { dst := some 77, op := Op.move (Operand.tmp 3), type := 33, pos := "law.go:82", after := #[{ on := 16, ground := Ground.guard }], guard := some (16, true) }) (v := .slice a1 len cap1) rfl (by kernel_rfl) (by kernel_rfl) (by kernel_rfl) (fun _ _ _ h => h) (Or.inl ⟨by rfl, by intro W hSw; go_simp⟩) hHeld ?_
    try simp only [Act.put, List.setIfInBounds_toArray, List.set_cons_zero, List.set_cons_succ]
    refine wpAnyH_take (i := 19) (oi := { dst := some 78, op := Op.convert 33 9 (Operand.tmp 77), type := 9, pos := "law.go:82", after := #[{ on := 18, ground := Ground.data }, { on := 16, ground := Ground.guard }], guard := some (16, true) }) (v := .string T) rfl (by kernel_rfl) (by kernel_rfl) (by kernel_rfl) (fun _ _ _ h => h) (Or.inl ⟨by rfl, by intro W hSw; have := CV.out W a1 cap1 hSw.2.2.2; go_simp⟩) hHeld ?_
    try simp only [Act.put, List.setIfInBounds_toArray, List.set_cons_zero, List.set_cons_succ]
    refine wpAnyH_ready (rs := [20]) (by kernel_rfl) (by simp) ?_
    refine (AllReadyH.cons (o := { dst := some 79, op := Op.call { callee := Callee.value (Operand.func 17), args := #[Operand.tmp 78], argTypes := #[9] }, type := 24, pos := "law.go:82", after := #[{ on := 19, ground := Ground.data }, { on := 16, ground := Ground.chain }, { on := 16, ground := Ground.guard }], guard := some (16, true) }) rfl (fun K hK => ?_) AllReadyH.nil)
    go_simp
    refine (SL.out (by trivial) _ HBc.out).mono ?_
    rintro e v20 ⟨rfl, hb20⟩
    replace HBc := hidk (HBc.out.trans (hb20.mono HBc.out.size))
    go_wp2_with fail
    refine hK.out _ _ ⟨(hb20.block _ (heap_lt hHeld.1)).trans hHeld.1, (hb20.block _ (heap_lt hHeld.2.1)).trans hHeld.2.1, (hb20.block _ (heap_lt hHeld.2.2.1)).trans hHeld.2.2.1, hHeld.2.2.2.below hb20⟩ (fun hHeld => ?_)
    clear hK K
    try simp only [Act.put, List.setIfInBounds_toArray, List.set_cons_zero, List.set_cons_succ]
    refine wpAnyH_take (i := 21) (oi := { dst := some 80, op := Op.binOp BinOp.eql 24 (Operand.tmp 76) (Operand.tmp 79) 24, type := 4, pos := "law.go:82", after := #[{ on := 17, ground := Ground.data }, { on := 20, ground := Ground.data }, { on := 16, ground := Ground.guard }], guard := some (16, true) }) (v := .bool true) rfl (by kernel_rfl) (by kernel_rfl) (by kernel_rfl) (fun _ _ _ h => h) (Or.inl ⟨by rfl, by intro W hSw; have := ED W; go_simp⟩) hHeld ?_
    try simp only [Act.put, List.setIfInBounds_toArray, List.set_cons_zero, List.set_cons_succ]
    refine wpAnyH_take (i := 22) (oi := { dst := some 81, op := Op.pick (Operand.tmp 75) (Operand.tmp 80) (Operand.const (Value.bool false)), type := 4, pos := "law.go:82", after := #[{ on := 16, ground := Ground.data }, { on := 21, ground := Ground.data }], guard := none }) (v := .bool true) rfl (by kernel_rfl) (by kernel_rfl) (by kernel_rfl) (fun _ _ _ h => h) (Or.inl ⟨by rfl, by intro W hSw; go_simp⟩) hHeld ?_
    try simp only [Act.put, List.setIfInBounds_toArray, List.set_cons_zero, List.set_cons_succ]
    refine wpAnyH_take (i := 23) (oi := { dst := some 2, op := Op.assign (Operand.tmp 81), type := 4, pos := "law.go:82", after := #[{ on := 22, ground := Ground.data }, { on := 20, ground := Ground.chain }, { on := 0, ground := Ground.phase }, { on := 1, ground := Ground.phase }, { on := 2, ground := Ground.phase }, { on := 3, ground := Ground.phase }, { on := 4, ground := Ground.phase }, { on := 5, ground := Ground.phase }, { on := 6, ground := Ground.phase }, { on := 7, ground := Ground.phase }, { on := 8, ground := Ground.phase }, { on := 9, ground := Ground.phase }, { on := 10, ground := Ground.phase }, { on := 11, ground := Ground.phase }, { on := 12, ground := Ground.phase }, { on := 13, ground := Ground.phase }, { on := 14, ground := Ground.phase }, { on := 15, ground := Ground.phase }, { on := 16, ground := Ground.phase }, { on := 17, ground := Ground.phase }, { on := 18, ground := Ground.phase }, { on := 19, ground := Ground.phase }, { on := 20, ground := Ground.phase }, { on := 21, ground := Ground.phase }, { on := 22, ground := Ground.phase }], guard := none }) (v := .bool true) rfl (by kernel_rfl) (by kernel_rfl) (by kernel_rfl) (fun _ _ _ h => h) (Or.inl ⟨by rfl, by intro W hSw; go_simp⟩) hHeld ?_
    try simp only [Act.put, List.setIfInBounds_toArray, List.set_cons_zero, List.set_cons_succ]
    refine wpAnyH_done (by kernel_rfl) ?_ _
    go_wp2_with fail
    go_ret
    exact ⟨rfl, HBc.out⟩
  · have ez := EZ.out (by trivial)
    go_wp2_with (first
      | (show wpList _ _ _ ({ dst := some 7, op := _, type := _, pos := _, after := _, guard := _ } :: _) _ _; refine wpList_new_var rfl 24 rfl ZD HAD.out ?_; intro g7 w4 HM7; try simp only [Act.put, List.setIfInBounds_toArray, List.set_cons_zero, List.set_cons_succ])
      | (refine wpList_set_var rfl 24 (.tmp 7) (.tmp 29) rfl g7 D rfl rfl 24 ZD HM7.out.row HSD.out HZDD.out H1D.out ?_; intro w5 HW7; try simp only [Act.put, List.setIfInBounds_toArray, List.set_cons_zero, List.set_cons_succ]; have HX5 := hidk (HW7.out.below _ _ HM7.out.below (Nat.le_of_eq HM7.out.new.symm)); have c1 := CV.out w5 a1 cap1 (HQ3.out.1.below HX5.out); have c2 := CV.out w5 a2 cap2 (HQ3.out.2.below HX5.out))
      | fail)
    have HB5 := hidk (HB3.out.trans (HX5.out.mono HB3.out.size))
    have HR75 := hidk HW7.out.row
    clear HM7 HW7 HX5 HB3 HR3 HQ3 c1 c2
    refine (IT.out _ HB5.out).mono ?_
    rintro e w6 ⟨rfl, hb6⟩
    have HB6 := hidk (HB5.out.trans (hb6.mono HB5.out.size))
    have HR76 := hidk ((hb6.block _ (heap_lt HR75.out)).trans HR75.out)
    clear hb6 HB5 HR75 IT
    go_wp2_with (first
      | (show wpList _ _ _ ({ dst := some 50, op := _, type := _, pos := _, after := _, guard := _ } :: _) _ _; refine wpList_load_row_w (by rfl) 24 (.tmp 7) rfl g7 rfl 24 D (0, 0) _ HR76.out Tryd.underlying24 rfl HSD.out ?_; try simp only [Act.put, List.setIfInBounds_toArray, List.set_cons_zero, List.set_cons_succ])
      | (show wpList _ _ _ ({ dst := some 51, op := _, type := _, pos := _, after := _, guard := _ } :: _) _ _; refine wpList_build_none_w (by rfl) 24 rfl ZD BD.out ?_; try simp only [Act.put, List.setIfInBounds_toArray, List.set_cons_zero, List.set_cons_succ])
      | fail)
    go_ret
    exact ⟨rfl, HB6.out⟩
theorem entryItems_in (ck : EntryC) (z0 : ItT) (w : World) (w0 : CmI z0) (hK : Table 1 w) (hT : TabH w) :
    Calls Tryd.prog 4 #[itemV z0] w fun e w' => e = .returned (.bool true) ∧ Below w.heap.size w w' :=
  entryItems_of ck z0 w _ (hidk rfl) w0 hK hT
end Go.Proofs.YtgkfodmccfnaoaaDoor

/- What the program takes of a row, and that it is the thing whose bytes these are if it is laid as them. -/
namespace Go.Proofs.YtgkfodmccfnaoaaDoor
open Nums Sums
set_option linter.unusedVariables false
set_option maxRecDepth 100000
/-- The data of the first field of a tag. -/
def fdD (tag : Int) : List (Int × ByteArray) → ByteArray
  | [] => ⟨#[]⟩
  | f :: r => if f.1 = tag then f.2 else fdD tag r
theorem fdD_le (tag : Int) (n : Nat) : ∀ fs : List (Int × ByteArray), (∀ f ∈ fs, f.2.size ≤ n) → (fdD tag fs).size ≤ n
  | [], _ => Nat.zero_le _
  | f :: r, h => by
    show (if f.1 = tag then f.2 else fdD tag r).size ≤ n
    split
    · exact h f (List.mem_cons_self ..)
    · exact fdD_le tag n r fun y hy => h y (List.mem_cons_of_mem _ hy)
def fdN (tag : Int) (fs : List (Int × ByteArray)) : Int := vOf (fdD tag fs).data.toList
def fdG (tag : Int) (fs : List (Int × ByteArray)) : List UInt8 := (fdD tag fs).data.toList.take 32 ++ List.replicate (32 - (fdD tag fs).size) 0
theorem fdG_length (tag : Int) (fs : List (Int × ByteArray)) : (fdG tag fs).length = 32 := by
  unfold fdG
  have e : (fdD tag fs).data.toList.length = (fdD tag fs).size := rfl
  rw [List.length_append, List.length_take, List.length_replicate, e]
  omega
theorem vOf_nOf (n : Int) (h : 0 ≤ n ∧ n ≤ 4611686018427387903) : vOf (nOf n).data.toList = n := by
  have h1 := valO_nOf n h
  unfold valO at h1
  unfold vOf
  split at h1
  · rename_i hh; rw [if_pos hh]; exact h1
  · omega
theorem readF_65 (bs : List UInt8) : ∀ f ∈ readF bs, f.2.size ≤ 65536 := by
  intro f hf
  unfold readF at hf
  by_cases h : readE bs = 0
  · rw [if_pos h] at hf
    unfold toF at hf
    obtain ⟨x, hx, rfl⟩ := List.mem_map.1 hf
    have := parse_small _ _ _ x hx
    show x.d.toArray.size ≤ 65536
    simp
    omega
  · rw [if_neg h] at hf; simp at hf
/-- A claim that is taken of a row. -/
def takeC (fs : List (Int × ByteArray)) : ClT := ⟨fdN 1 fs, fdN 2 fs, fdN 3 fs, fdN 4 fs, fdG 5 fs⟩
theorem takeC_cL (c : ClT) (hr : rightC c = true) (hd : c.d.length = 32) : takeC (fieldsN (cL c)) = c := by
  have hb := (rightC_iff c).1 hr
  have e : fieldsN (cL c) = [(1, nOf c.r), (2, nOf c.e), (3, nOf c.n), (4, nOf c.s), (5, bA c.d)] := rfl
  have e5 : fdG 5 (fieldsN (cL c)) = c.d := by
    have e6 : fdD 5 (fieldsN (cL c)) = bA c.d := rfl
    unfold fdG
    rw [e6, bA_list, bA_size, hd, List.take_of_length_le (by omega)]
    simp
  unfold takeC
  rw [e5]
  show (⟨vOf (nOf c.r).data.toList, vOf (nOf c.e).data.toList, vOf (nOf c.n).data.toList, vOf (nOf c.s).data.toList, c.d⟩ : ClT) = c
  rw [vOf_nOf c.r (by omega), vOf_nOf c.e (by omega), vOf_nOf c.n (by omega), vOf_nOf c.s (by omega)]
theorem getC_take (bs : List UInt8) : getC bs = if rightC (takeC (readF bs)) = true ∧ claimB (takeC (readF bs)) = bs then some (takeC (readF bs)) else none := by
  by_cases h : rightC (takeC (readF bs)) = true ∧ claimB (takeC (readF bs)) = bs
  · rw [if_pos h]
    have := getC_claim (takeC (readF bs)) h.1 (fdG_length 5 _)
    rw [h.2] at this
    exact this
  · rw [if_neg h]
    cases hg : getC bs with
    | none => rfl
    | some c =>
      exfalso
      obtain ⟨hr, hd, hb⟩ := getC_some hg
      have hf : readF bs = fieldsN (cL c) := by rw [← hb]; exact (read_row (layE_cL c hd)).2
      apply h
      rw [hf, takeC_cL c hr hd]
      exact ⟨hr, hb⟩
/-- An entry that is taken of a row. -/
def takeE (fs : List (Int × ByteArray)) : EnT := ⟨fdN 1 fs, fdN 2 fs, fdN 3 fs, fdD 4 fs, getSO (fdD 5 fs).data.toList, getCO (fdD 6 fs).data.toList⟩
theorem takeE_ok (fs : List (Int × ByteArray)) : OkE (takeE fs) := ⟨(getSO_ok _).1, (getSO_ok _).2, getCO_ok _⟩
theorem getSO_none : getSO (⟨#[]⟩ : ByteArray).data.toList = zeroS := by
  have h : (Go.Proofs.YtgkfodmccfnaoaaDoor.getS []).isSome = false := by decide +kernel
  unfold getSO
  cases hq : Go.Proofs.YtgkfodmccfnaoaaDoor.getS (⟨#[]⟩ : ByteArray).data.toList with
  | none => rfl
  | some x =>
    have hq' : Go.Proofs.YtgkfodmccfnaoaaDoor.getS [] = some x := hq
    rw [hq'] at h; cases h
theorem getCO_none : getCO (⟨#[]⟩ : ByteArray).data.toList = zeroC := by
  have h : (getC []).isSome = false := by decide +kernel
  unfold getCO
  cases hq : getC (⟨#[]⟩ : ByteArray).data.toList with
  | none => rfl
  | some x =>
    have hq' : getC [] = some x := hq
    rw [hq'] at h; cases h
theorem takeE_fields {x : EnT} (h : rightE x = true) (ok : OkE x) : takeE (fieldsE x) = x := by
  have v0 : vOf (⟨#[]⟩ : ByteArray).data.toList = 0 := rfl
  rcases right_kinds h with ⟨hk, c1, c2, s1, s2, ht, hh, hm⟩ | ⟨hk, hc, hs, ht, hh, hm⟩ | ⟨hk, hc, hs, ht, hh, hm⟩
  · rw [fields_user hk]
    show (⟨vOf (nOf 1).data.toList, vOf (nOf x.c).data.toList, vOf (nOf x.s).data.toList, x.t, getSO (⟨#[]⟩ : ByteArray).data.toList, getCO (⟨#[]⟩ : ByteArray).data.toList⟩ : EnT) = x
    rw [vOf_nOf 1 (by omega), vOf_nOf x.c (by omega), vOf_nOf x.s (by omega), getSO_none, getCO_none]
    exact enT_ext ⟨hk.symm, rfl, rfl, rfl, hh.symm, hm.symm⟩
  · rw [fields_anchor hk]
    show (⟨vOf (nOf 2).data.toList, vOf (⟨#[]⟩ : ByteArray).data.toList, vOf (⟨#[]⟩ : ByteArray).data.toList, ⟨#[]⟩, getSO (signB x.h), getCO (⟨#[]⟩ : ByteArray).data.toList⟩ : EnT) = x
    have e : getSO (signB x.h) = x.h := by unfold getSO; rw [getS_sign x.h hh ok.h ok.g]; rfl
    rw [vOf_nOf 2 (by omega), e, getCO_none, v0]
    exact enT_ext ⟨hk.symm, hc.symm, hs.symm, by rw [empty_of ht]; rfl, rfl, hm.symm⟩
  · rw [fields_claim hk]
    show (⟨vOf (nOf 3).data.toList, vOf (⟨#[]⟩ : ByteArray).data.toList, vOf (⟨#[]⟩ : ByteArray).data.toList, ⟨#[]⟩, getSO (⟨#[]⟩ : ByteArray).data.toList, getCO (claimB x.m)⟩ : EnT) = x
    have e : getCO (claimB x.m) = x.m := by unfold getCO; rw [getC_claim x.m hm ok.m]; rfl
    rw [vOf_nOf 3 (by omega), e, getSO_none, v0]
    exact enT_ext ⟨hk.symm, hc.symm, hs.symm, by rw [empty_of ht]; rfl, hh.symm, rfl⟩
theorem getE_take (bs : List UInt8) : getE bs = if rightE (takeE (readF bs)) = true ∧ entryB (takeE (readF bs)) = bs then some (takeE (readF bs)) else none := by
  by_cases h : rightE (takeE (readF bs)) = true ∧ entryB (takeE (readF bs)) = bs
  · rw [if_pos h]
    have := getE_entry h.1 (takeE_ok _)
    rw [h.2] at this
    exact this
  · rw [if_neg h]
    cases hg : getE bs with
    | none => rfl
    | some c =>
      exfalso
      obtain ⟨hr, ok, hb⟩ := getE_some hg
      have hf : readF bs = fieldsE c := by rw [← hb]; exact (read_row (layE_entry hr ok)).2
      apply h
      rw [hf, takeE_fields hr ok]
      exact ⟨hr, hb⟩
/-- An item that is taken of a row. -/
def takeI (fs : List (Int × ByteArray)) : ItT := ⟨fdN 1 fs, getEO (fdD 2 fs).data.toList⟩
theorem getEO_okT (bs : List UInt8) : OkE (getEO bs) := by
  unfold getEO
  cases h : getE bs with
  | none => exact zeroE_ok
  | some x => exact (getE_some h).2.1
theorem takeI_ok (fs : List (Int × ByteArray)) : OkE (takeI fs).e := getEO_okT _
theorem takeI_iL {x : ItT} (h : rightI x = true) (ok : OkE x.e) : takeI (fieldsN (iL x)) = x := by
  obtain ⟨h1, h2, h3⟩ := (rightI_iff x).1 h
  show (⟨vOf (nOf x.p).data.toList, getEO (entryB x.e)⟩ : ItT) = x
  have e : getEO (entryB x.e) = x.e := by unfold getEO; rw [getE_entry h3 ok]; rfl
  rw [vOf_nOf x.p (by omega), e]
theorem getI_take (bs : List UInt8) : getI bs = if rightI (takeI (readF bs)) = true ∧ itemB (takeI (readF bs)) = bs then some (takeI (readF bs)) else none := by
  by_cases h : rightI (takeI (readF bs)) = true ∧ itemB (takeI (readF bs)) = bs
  · rw [if_pos h]
    have := getI_item h.1 (takeI_ok _)
    rw [h.2] at this
    exact this
  · rw [if_neg h]
    cases hg : getI bs with
    | none => rfl
    | some c =>
      exfalso
      obtain ⟨hr, ok, hb⟩ := getI_some hg
      have hf : readF bs = fieldsN (iL c) := by rw [← hb]; exact (read_row (layE_iL hr ok)).2
      apply h
      rw [hf, takeI_iL hr ok]
      exact ⟨hr, hb⟩
/-! What a thing that is read answers: the thing, and the error. -/
theorem getCO_yes {bs : List UInt8} (h : rightC (takeC (readF bs)) = true ∧ claimB (takeC (readF bs)) = bs) : getCO bs = takeC (readF bs) ∧ getCE bs = 0 := by
  unfold getCO getCE
  rw [getC_take, if_pos h]
  exact ⟨rfl, rfl⟩
theorem getCO_no {bs : List UInt8} (h : ¬ (rightC (takeC (readF bs)) = true ∧ claimB (takeC (readF bs)) = bs)) : getCO bs = zeroC ∧ getCE bs = 60 := by
  unfold getCO getCE
  rw [getC_take, if_neg h]
  exact ⟨rfl, rfl⟩
theorem getEO_yes {bs : List UInt8} (h : rightE (takeE (readF bs)) = true ∧ entryB (takeE (readF bs)) = bs) : getEO bs = takeE (readF bs) ∧ getEE bs = 0 := by
  unfold getEO getEE
  rw [getE_take, if_pos h]
  exact ⟨rfl, rfl⟩
theorem getEO_no {bs : List UInt8} (h : ¬ (rightE (takeE (readF bs)) = true ∧ entryB (takeE (readF bs)) = bs)) : getEO bs = zeroE ∧ getEE bs = 60 := by
  unfold getEO getEE
  rw [getE_take, if_neg h]
  exact ⟨rfl, rfl⟩
theorem getIO_yes {bs : List UInt8} (h : rightI (takeI (readF bs)) = true ∧ itemB (takeI (readF bs)) = bs) : getIO bs = takeI (readF bs) ∧ getIE bs = 0 := by
  unfold getIO getIE
  rw [getI_take, if_pos h]
  exact ⟨rfl, rfl⟩
theorem getIO_no {bs : List UInt8} (h : ¬ (rightI (takeI (readF bs)) = true ∧ itemB (takeI (readF bs)) = bs)) : getIO bs = zeroI ∧ getIE bs = 60 := by
  unfold getIO getIE
  rw [getI_take, if_neg h]
  exact ⟨rfl, rfl⟩
/-! What is taken can lie in a variable. -/
theorem In64.of_v (l : List UInt8) : In64 (vOf l) := by
  unfold vOf In64
  split
  · rename_i h
    unfold isNum at h
    simp only [decide_eq_true_eq] at h
    omega
  · omega
theorem takeC_in (fs : List (Int × ByteArray)) : InC (takeC fs) := ⟨fdG_length 5 fs, In64.of_v _, In64.of_v _, In64.of_v _, In64.of_v _⟩
theorem takeE_in (fs : List (Int × ByteArray)) (hs : ∀ f ∈ fs, f.2.size ≤ 65536) : InE (takeE fs) :=
  ⟨In64.of_v _, In64.of_v _, In64.of_v _, Nat.le_trans (fdD_le 4 65536 fs hs) (by omega), getSO_in _, getCO_in _⟩
theorem takeI_in (fs : List (Int × ByteArray)) : InI (takeI fs) := ⟨In64.of_v _, getEO_in _⟩
end Go.Proofs.YtgkfodmccfnaoaaDoor

/- What the small calls of package entry answer: within, CheckClaim, numberField; bytes.Equal; what a row's data, number and digest answer. -/
namespace Go.Proofs.YtgkfodmccfnaoaaDoor
open Go.RowKit Sums Nums
set_option linter.unusedVariables false
set_option linter.unusedSimpArgs false
set_option maxRecDepth 100000
theorem eWithin_any (n a b : Int) (w : World) : Calls Tryd.prog 29 #[.int .i64 n, .int .i64 a, .int .i64 b] w fun e w' => e = .returned (.bool (decide (a ≤ n) && decide (n ≤ b))) ∧ w' = w := by
  by_cases h1 : a ≤ n
  · have d1 : decide (a ≤ n) = true := by rw [decide_eq_true_eq]; exact h1
    obtain ⟨x, hx⟩ : ∃ x, decide (n ≤ b) = x := ⟨_, rfl⟩
    rw [d1, hx]
    clear h1
    go_enter Tryd.func29, Tryd.ntmps29
    go_wp2
    go_ret
    exact ⟨rfl, rfl⟩
  · have d1 : decide (a ≤ n) = false := by rw [decide_eq_false_iff_not]; exact h1
    rw [d1]
    clear h1
    go_enter Tryd.func29, Tryd.ntmps29
    go_wp2
    go_ret
    exact ⟨rfl, rfl⟩
set_option maxHeartbeats 2000000 in
theorem eCheckC_any (c : ClT) (w : World) (C : Array Value) (HC : Hid (C = (ccells c).toArray)) :
    Calls Tryd.prog 36 #[.agg C] w fun e w' => e = .returned (.int .i64 (cE c)) ∧ Below w.heap.size w w' := by
  have HR := crow_new w c C HC 30
  have HB : Hid (Below w.heap.size w (w.alloc (.cells C 30))) := (Below.refl _ _).alloc (Nat.le_refl _) _
  have hnot : ∀ (x : Bool) (w : World), (Op.unary .not (.bool x)).run Tryd.prog w = .ok (.bool (!x)) w := fun _ _ => rfl
  have c0 := HR.r
  have c1 := HR.e
  have c2 := HR.n
  have c3 := HR.s
  simp only [Nat.zero_add] at c1 c2 c3
  have WI : Hid (∀ (n a b : Int) (W : World), Calls Tryd.prog 29 #[.int .i64 n, .int .i64 a, .int .i64 b] W fun e w' => e = .returned (.bool (decide (a ≤ n) && decide (n ≤ b))) ∧ w' = W) := eWithin_any
  obtain ⟨b1, hb1⟩ : ∃ b, (decide (1 ≤ c.r) && decide (c.r ≤ 5)) = b := ⟨_, rfl⟩
  obtain ⟨b2, hb2⟩ : ∃ b, (decide (1 ≤ c.e) && decide (c.e ≤ 900000000)) = b := ⟨_, rfl⟩
  obtain ⟨b3, hb3⟩ : ∃ b, (decide (1 ≤ c.n) && decide (c.n ≤ 3)) = b := ⟨_, rfl⟩
  obtain ⟨b4, hb4⟩ : ∃ b, (decide (0 ≤ c.s) && decide (c.s ≤ 100000)) = b := ⟨_, rfl⟩
  have W1 := hidk (WI.out c.r 1 5)
  have W2 := hidk (WI.out c.e 1 900000000)
  have W3 := hidk (WI.out c.n 1 3)
  have W4 := hidk (WI.out c.s 0 100000)
  rw [hb1] at W1
  rw [hb2] at W2
  rw [hb3] at W3
  rw [hb4] at W4
  have hE : cE c = if (b1 && (b2 && (b3 && b4))) = true then 0 else 60 := by
    rw [← hb1, ← hb2, ← hb3, ← hb4]
    unfold cE rightC
    simp only [Bool.and_assoc]
  rw [hE]
  obtain ⟨r, hr⟩ : ∃ r, r = c.r := ⟨_, rfl⟩
  obtain ⟨e, he⟩ : ∃ r, r = c.e := ⟨_, rfl⟩
  obtain ⟨n, hn⟩ : ∃ r, r = c.n := ⟨_, rfl⟩
  obtain ⟨s, hs⟩ : ∃ r, r = c.s := ⟨_, rfl⟩
  rw [← hr] at c0 W1
  rw [← he] at c1 W2
  rw [← hn] at c2 W3
  rw [← hs] at c3 W4
  clear hE hb1 hb2 hb3 hb4 WI HR hr he hn hs HC
  cases b1
  · go_enter Tryd.func36, Tryd.ntmps36
    go_wp2_with fail
    refine (W1.out _).mono ?_
    rintro e w1 ⟨rfl, rfl⟩
    go_wp2
    go_ret
    exact ⟨rfl, HB.out⟩
  cases b2
  · go_enter Tryd.func36, Tryd.ntmps36
    go_wp2_with fail
    refine (W1.out _).mono ?_
    rintro e w1 ⟨rfl, rfl⟩
    go_wp2_with fail
    refine (W2.out _).mono ?_
    rintro e w1 ⟨rfl, rfl⟩
    go_wp2
    go_ret
    exact ⟨rfl, HB.out⟩
  cases b3
  · go_enter Tryd.func36, Tryd.ntmps36
    go_wp2_with fail
    refine (W1.out _).mono ?_
    rintro e w1 ⟨rfl, rfl⟩
    go_wp2_with fail
    refine (W2.out _).mono ?_
    rintro e w1 ⟨rfl, rfl⟩
    go_wp2_with fail
    refine (W3.out _).mono ?_
    rintro e w1 ⟨rfl, rfl⟩
    go_wp2
    go_ret
    exact ⟨rfl, HB.out⟩
  cases b4
  · go_enter Tryd.func36, Tryd.ntmps36
    go_wp2_with fail
    refine (W1.out _).mono ?_
    rintro e w1 ⟨rfl, rfl⟩
    go_wp2_with fail
    refine (W2.out _).mono ?_
    rintro e w1 ⟨rfl, rfl⟩
    go_wp2_with fail
    refine (W3.out _).mono ?_
    rintro e w1 ⟨rfl, rfl⟩
    go_wp2_with fail
    refine (W4.out _).mono ?_
    rintro e w1 ⟨rfl, rfl⟩
    go_wp2
    go_ret
    exact ⟨rfl, HB.out⟩
  · go_enter Tryd.func36, Tryd.ntmps36
    go_wp2_with fail
    refine (W1.out _).mono ?_
    rintro e w1 ⟨rfl, rfl⟩
    go_wp2_with fail
    refine (W2.out _).mono ?_
    rintro e w1 ⟨rfl, rfl⟩
    go_wp2_with fail
    refine (W3.out _).mono ?_
    rintro e w1 ⟨rfl, rfl⟩
    go_wp2_with fail
    refine (W4.out _).mono ?_
    rintro e w1 ⟨rfl, rfl⟩
    go_wp2
    go_ret
    exact ⟨rfl, HB.out⟩
set_option maxHeartbeats 2000000 in
theorem eNum_any (t n : Int) (w : World) : Calls Tryd.prog 20 #[.int .i64 t, .int .i64 n] w fun e w' => e = .returned (.agg #[.int .i64 t, .string (nOf n)]) ∧ Below w.heap.size w w' := by
  obtain ⟨x, Hx⟩ : ∃ x : ByteArray, Hid (x = nOf n) := ⟨nOf n, hidk rfl⟩
  obtain ⟨E, HE⟩ : ∃ E, Hid (E = neOf n) := ⟨_, hidk rfl⟩
  have N1 : Hid (∀ W, Calls Tryd.prog 38 #[.int .i64 n] W fun e w' => e = .returned (.tuple #[.string x, .int .i64 E]) ∧ Below W.heap.size W w') := fun W => by rw [Hx.out, HE.out]; exact number_any n W
  rw [← Hx.out]
  clear Hx HE
  go_enter Tryd.func20, Tryd.ntmps20
  go_wp2_with fail
  refine (N1.out _).mono ?_
  rintro e w1 ⟨rfl, hb1⟩
  have hlt : w.heap.size < w1.heap.size := by have := hb1.size; simp at this; omega
  have hg : w1.heap[w.heap.size]? = some (.cells #[.int .i64 0, .string ⟨#[]⟩] 56 (0, 0)) := (hb1.block _ (by simp)).trans (heap_alloc_new w _)
  have c0 : w1.cell? ⟨w.heap.size, 0, none⟩ = some (.int .i64 0) := by rw [cell_of_row w1 _ 0 _ 56 (0, 0) hg]; rfl
  have c1 : w1.cell? ⟨w.heap.size, 1, none⟩ = some (.string ⟨#[]⟩) := by rw [cell_of_row w1 _ 1 _ 56 (0, 0) hg]; rfl
  have HB : Hid (Below w.heap.size w w1) := ((Below.refl _ _).alloc (Nat.le_refl _) _).trans (hb1.mono (by simp))
  have f0 : w1.frozen? ⟨w.heap.size, 0, none⟩ = false := frozen_of_row w1 _ 0 _ _ hg
  have f1 : w1.frozen? ⟨w.heap.size, 1, none⟩ = false := frozen_of_row w1 _ 1 _ _ hg
  clear hb1
  have HG2 := hidk (Go.heap_setCell_same _ _ 1 _ _ (.string x) (Go.heap_setCell_same w1 _ 0 _ _ (.int .i64 t) hg))
  clear hg
  go_wp2
  refine bodyPost_ret (v := .agg #[.int .i64 t, .string x]) ?_ rfl ⟨rfl, (HB.out.setCell (Nat.le_refl _) _).setCell (Nat.le_refl _) _⟩
  exact results_cell_row (p := 4) (ty := 56) rfl _ _ w.heap.size 56 #[.int .i64 t, .string x] (0, 0) _ rfl HG2.out Tryd.underlying56 rfl (by kernel_rfl)
theorem eSame_any (a b : Option Addr) (la ca lb cb : Nat) (l r : List UInt8) (w : World) (h1 : Reads w a la ca l) (h2 : Reads w b lb cb r) (x : Bool) (hx : x = true ↔ l = r) :
    Calls Tryd.prog 50 #[.slice a la ca, .slice b lb cb] w fun e w' => e = .returned (.bool x) ∧ w' = w := by
  have k1 := conv_reads h1
  have k2 := conv_reads h2
  obtain ⟨s, hs⟩ : ∃ s : ByteArray, s = ⟨l.toArray⟩ := ⟨_, rfl⟩
  obtain ⟨t, ht⟩ : ∃ s : ByteArray, s = ⟨r.toArray⟩ := ⟨_, rfl⟩
  have hq : (s.toList == t.toList) = x := by
    cases x
    · have hne : l ≠ r := fun h => by have := hx.2 h; cases this
      exact text_ne fun e => hne (by rw [hs, ht] at e; have := congrArg (fun z : ByteArray => z.data.toList) e; simpa using this)
    · rw [hs, ht, hx.1 rfl]; exact beq_self_eq_true _
  rw [← hs] at k1
  rw [← ht] at k2
  clear h1 h2 hs ht hx
  go_enter Tryd.func50, Tryd.ntmps50
  go_wp2
  go_ret
  exact ⟨rfl, rfl⟩
set_option maxHeartbeats 4000000 in
theorem eData_any (n₀ : Nat) (a : Option Addr) (len cap : Nat) (fs : List (Int × ByteArray)) (tag : Int) (w : World) (hR : FReads n₀ w a len cap fs) (hn : n₀ ≤ w.heap.size) :
    Calls Tryd.prog 52 #[.slice a len cap, .int .i64 tag] w fun e w' => e = .returned (.string (fdD tag fs)) ∧ Below w.heap.size w w' := by
  have hlen := hR.1
  have hmx : len ≤ 9223372036854775807 := by have h2 := hR.2.1; have h3 := hR.2.2.1; omega
  have HR := hidk hR
  have hz : ∀ w, (sizeOf 56).run Tryd.prog w = .ok 2 w := fun w => sizeOf_of (by kernel_rfl) w
  obtain ⟨x, Hx⟩ : ∃ x, Hid (x = fdD tag fs) := ⟨_, hidk rfl⟩
  rw [← Hx.out]
  clear hR
  go_enter Tryd.func52, Tryd.ntmps52
  go_wp2
  go_loopw [9] (fun v wr => ∃ k : Nat, k ≤ len ∧ v = .int .i64 k ∧ Hid (Below w.heap.size w wr ∧ x = fdD tag (fs.drop k))) (fun v _ => len - (intOf v).toNat)
  case atStart => exact ⟨0, by omega, rfl, ⟨Below.refl _ _, by rw [List.drop_zero]; exact Hx.out⟩⟩
  case round =>
    obtain ⟨k, hk, rfl, HK⟩ := hrel
    by_cases hlt : k < len
    · have hdk : decide ((k : Int) < (len : Int)) = true := by rw [decide_eq_true_eq]; omega
      have hw := wrap_int ((k : Int) + 1) (by omega) (by omega)
      have hkf : k < fs.length := by omega
      obtain ⟨b, off, rfl, hbn, hcell⟩ : ∃ b off, a = some ⟨b, off, none⟩ ∧ b < n₀ ∧ ∀ (i : Nat) (h : i < fs.length), w.cell? ⟨b, off + i * 2, none⟩ = some (.int .i64 fs[i].1) ∧ w.cell? ⟨b, off + i * 2 + 1, none⟩ = some (.string fs[i].2) := by
        rcases HR.out.2.2.2.2 with ⟨_, h0⟩ | ⟨_, _, h0⟩ | ⟨b, off, e, hb, hc⟩
        · have := HR.out.2.1; omega
        · omega
        · exact ⟨b, off, e, hb, hc⟩
      have hcc := hcell k hkf
      obtain ⟨⟨tg, dt⟩, hf⟩ : ∃ f, f = fs[k] := ⟨_, rfl⟩
      rw [← hf] at hcc
      have c1 := (HK.out.1.cell (p := ⟨b, off + k * 2, none⟩) (by show b < _; omega)).trans hcc.1
      have c2 := (HK.out.1.cell (p := ⟨b, off + k * 2 + 1, none⟩) (by show b < _; omega)).trans hcc.2
      simp only at c1 c2
      have hx : x = if tg = tag then dt else fdD tag (fs.drop (k + 1)) := by
        rw [HK.out.2, List.drop_eq_getElem_cons hkf, ← hf]
        rfl
      have ix : ∀ W, (Instr.indexAt 87 (.slice (some ⟨b, off, none⟩) len cap) (.int .i64 (k : Int))).run Tryd.prog W = .ok (.pointer (some ⟨b, off + k * 2, none⟩)) W := fun W => by
        simp [Instr.indexAt, asIntOf, run_underlying Tryd.underlying87, hz, hlt]
        rw [add_plain]
      have HB := hidk (HK.out.1.alloc HK.out.1.size (.cells #[.int .i64 tg, .string dt] 56))
      clear hcell hcc hf HR
      by_cases ht : tg = tag
      · rw [if_pos ht] at hx
        subst hx ht
        clear HK
        go_wp2
        go_ret
        exact ⟨rfl, HB.out⟩
      · rw [if_neg ht] at hx
        have hb : (tg == tag) = false := by rw [beq_eq_false_iff_ne]; exact ht
        have HX := hidk hx
        clear hx HK
        go_wp2
        go_roundw
        case rel => exact ⟨k + 1, by omega, by go_num, ⟨HB.out, HX.out⟩⟩
        case measure => simp [intOf]; omega
    · obtain rfl : len = k := by omega
      have hx : x = ⟨#[]⟩ := by rw [HK.out.2, List.drop_of_length_le (by omega)]; rfl
      subst hx
      go_wp2
      go_ret
      exact ⟨rfl, HK.out.1⟩
set_option maxHeartbeats 2000000 in
theorem eNumber_any (n₀ : Nat) (a : Option Addr) (len cap : Nat) (fs : List (Int × ByteArray)) (tag : Int) (w : World) (hR : FReads n₀ w a len cap fs) (hn : n₀ ≤ w.heap.size) :
    Calls Tryd.prog 51 #[.slice a len cap, .int .i64 tag] w fun e w' => e = .returned (.int .i64 (fdN tag fs)) ∧ Below w.heap.size w w' := by
  have D1 := hidk (eData_any n₀ a len cap fs tag w hR hn)
  have hs := fdD_le tag maxLen fs hR.2.2.2.1
  unfold fdN
  obtain ⟨d, hd⟩ : ∃ d, d = fdD tag fs := ⟨_, rfl⟩
  rw [← hd] at D1 hs ⊢
  obtain ⟨n, hn'⟩ : ∃ n, n = vOf d.data.toList := ⟨_, rfl⟩
  obtain ⟨E, hE⟩ : ∃ n, n = eOf d.data.toList := ⟨_, rfl⟩
  have V1 : Hid (∀ W, Calls Tryd.prog 77 #[.string d] W fun e w' => e = .returned (.tuple #[.int .i64 n, .int .i64 E]) ∧ W = w') := fun W => by rw [hn', hE]; exact value_any d W hs
  rw [← hn']
  clear hd hn' hE hs hR
  go_enter Tryd.func51, Tryd.ntmps51
  go_wp2_with fail
  refine D1.out.mono ?_
  rintro e w1 ⟨rfl, hb1⟩
  have HB := hidk hb1
  clear hb1
  go_wp2_with fail
  refine (V1.out _).mono ?_
  rintro e w2 ⟨rfl, rfl⟩
  go_wp2
  go_ret
  exact ⟨rfl, HB.out⟩
/-! A digest's bytes copied out of a text of any length. -/
theorem run_copy_upto {P : Program} (w : World) (dT sT ty elem : TypeId) (g : Nat) (s : ByteArray) (cur : Array Value) (t : TypeId) (k : Nat)
    (hu : P.underlying dT = some (.slice elem)) (hs : (P.info? elem).map (·.size) = some 1) (hg : w.heap[g]? = some (.cells cur t (0, 0))) (hc : cur.size = 32) (hk : k = Nat.min s.size 32) :
    (Builtin.copy_ #[dT, sT] ty #[.slice (some ⟨g, 0, none⟩) 32 32, .string s]).run P w =
      .ok (goInt k) (w.setRow g (Lib.byteCells (s.data.toList.take k) ++ cur.toList.drop k).toArray) := by
  have hk2 : k ≤ s.size := by rw [hk]; exact Nat.min_le_left _ _
  have hk3 : k ≤ 32 := by rw [hk]; exact Nat.min_le_right _ _
  have hsz : s.data.toList.length = s.size := rfl
  have hlen : (Lib.byteCells (s.data.toList.take k)).length = k := by rw [Lib.byteCells_length, List.length_take, hsz]; omega
  have hst := run_storeCells_at P g 0 t (Lib.byteCells (s.data.toList.take k)) 0 cur w hg (by rw [hlen]; omega) (Lib.byteCells_one _)
  have hmin : Nat.min s.size 32 = k := hk.symm
  have htk : List.take k (List.map (fun b : UInt8 => Value.int IntKind.u8 (b.toNat : Int)) s.data.toList) = Lib.byteCells (s.data.toList.take k) := by
    rw [← List.map_take]
    rfl
  rw [hlen] at hst
  simp only [Nat.add_zero, List.take_zero, List.nil_append, Nat.zero_add] at hst
  clear hk
  cases hq : P.info? elem with
  | none => simp [hq] at hs
  | some i =>
    simp [Builtin.copy_, run_underlying hu, Builtin.lenOf, Builtin.firstCells, sizeOf, typeInfo, hq, hmin]
    rw [htk, hst]
    simp [Result.andThen]
theorem step_copy_text {ops : Array Oper} {o : Oper} {a : Act} {w : World} {K : Act → World → Prop} {Q : Exit → Act → World → Prop} {E : Prop} (hw : Region.wanted o (yielded ops a.tmps) = true) (s x : Operand) (hop : o.op = Op.call { callee := Callee.builtin Builtin.copy, args := #[s, x], argTypes := #[33, 9] })
    (g : Nat) (t : TypeId) (hs : a.eval s = .slice (some ⟨g, 0, none⟩) 32 32) (u : ByteArray) (hx : a.eval x = .string u) (Z D : Array Value) (HZ : Hid (Z = (cellsOf (List.replicate 32 0)).toArray)) (HD : Hid (D = (cellsOf (u.data.toList.take 32 ++ List.replicate (32 - u.size) 0)).toArray))
    (hg : w.heap[g]? = some (.cells Z t (0, 0))) (k : Nat) (hk : k = Nat.min u.size 32)
    (h : ∀ w', Hid (Wrote g D t w w') → K (a.put o.dst (.int .i64 k)) w') : if Region.wanted o (yielded ops a.tmps) = true then Oper.wp Tryd.prog o a w K Q else E := by
  rw [if_pos hw]
  have hz : Z.size = 32 := by rw [HZ.out]; simp [cellsOf_length]
  have hrun := run_copy_upto (P := Tryd.prog) w 33 9 o.type 5 g u Z t k Tryd.underlying33 (by kernel_rfl) hg hz hk
  have hsz : u.data.toList.length = u.size := rfl
  have e : (Lib.byteCells (u.data.toList.take k) ++ Z.toList.drop k).toArray = D := by
    rw [HD.out, HZ.out]
    congr 1
    have e1 : u.data.toList.take k = u.data.toList.take 32 := by
      rw [hk]
      by_cases h32 : u.size ≤ 32
      · rw [show Nat.min u.size 32 = u.size from Nat.min_eq_left h32, List.take_of_length_le (by omega), List.take_of_length_le (by omega)]
      · rw [show Nat.min u.size 32 = 32 from Nat.min_eq_right (by omega)]
    rw [e1]
    show List.map _ _ ++ List.drop k (List.map _ _) = List.map _ (_ ++ _)
    rw [List.map_append, ← List.map_drop, List.drop_replicate]
    congr 3
    rw [hk]
    by_cases h32 : u.size ≤ 32
    · rw [show Nat.min u.size 32 = u.size from Nat.min_eq_left h32]
    · rw [show Nat.min u.size 32 = 32 from Nat.min_eq_right (by omega)]; omega
  rw [e] at hrun
  unfold Oper.wp
  simp [execOp, hop, resolve, invoke, builtin, hs, hx, hrun, Result.andThen, goInt]
  exact h _ (wrote_row hg)
set_option maxHeartbeats 4000000 in
theorem eDigest_any (n₀ : Nat) (a : Option Addr) (len cap : Nat) (fs : List (Int × ByteArray)) (tag : Int) (w : World) (hR : FReads n₀ w a len cap fs) (hn : n₀ ≤ w.heap.size) (D : Array Value) (HD : Hid (D = (cellsOf (fdG tag fs)).toArray)) :
    Calls Tryd.prog 91 #[.slice a len cap, .int .i64 tag] w fun e w' => e = .returned (.agg D) ∧ Below w.heap.size w w' := by
  obtain ⟨Z, HZ, HA, HS, H1, H32⟩ := noughts27
  have D1 : Hid (∀ W, Below w.heap.size w W → Calls Tryd.prog 52 #[.slice a len cap, .int .i64 tag] W fun e w' => e = .returned (.string (fdD tag fs)) ∧ Below W.heap.size W w') := fun W hb => eData_any n₀ a len cap fs tag W ((hR.below (hb.mono hn))) (Nat.le_trans hn hb.size)
  have HSD : Hid ((Tryd.prog.info? 24).map (·.size) = some D.size) := by show _ = _; rw [size23, HD.out]; simp [cellsOf_length, fdG_length]
  have H1D : Hid (D.all (·.oneCell') = true) := by show _ = _; rw [HD.out]; exact cellsOf_all _
  have HZD : Hid (Z.size = D.size) := by show _ = _; rw [H32.out, HD.out]; simp [cellsOf_length, fdG_length]
  have HDD : Hid (D = (cellsOf ((fdD tag fs).data.toList.take 32 ++ List.replicate (32 - (fdD tag fs).size) 0)).toArray) := HD
  obtain ⟨u, hu⟩ : ∃ u, u = fdD tag fs := ⟨_, rfl⟩
  rw [← hu] at D1 HDD
  obtain ⟨k, Hk⟩ : ∃ k, Hid (k = Nat.min u.size 32) := ⟨_, hidk rfl⟩
  have hsl := slice_at
  clear hR HD hu
  go_enter Tryd.func91, Tryd.ntmps91
  go_wp2_with (first
    | (show wpList _ _ _ ({ dst := some 4, op := _, type := _, pos := _, after := _, guard := _ } :: _) _ _; refine wpList_new_var rfl 24 rfl Z HA.out ?_; intro g4 w1 HM4; try simp only [Act.put, List.setIfInBounds_toArray, List.set_cons_zero, List.set_cons_succ])
    | (show wpList _ _ _ ({ dst := some 5, op := _, type := _, pos := _, after := _, guard := _ } :: _) _ _; refine wpList_new_var rfl 24 rfl Z HA.out ?_; intro g5 w2 HM5; try simp only [Act.put, List.setIfInBounds_toArray, List.set_cons_zero, List.set_cons_succ])
    | fail)
  have HB2 : Hid (Below w.heap.size w w2) := HM4.out.below.trans (HM5.out.below.mono HM4.out.below.size)
  have h4 : w.heap.size ≤ g4 := Nat.le_of_eq HM4.out.new.symm
  have h5 : g4 < g5 := by have e1 := HM5.out.new; have := heap_lt HM4.out.row; omega
  have HR4 : Hid (w2.heap[g4]? = some (.cells Z 24 (0, 0))) := (HM5.out.below.block _ (heap_lt HM4.out.row)).trans HM4.out.row
  have HR5 : Hid (w2.heap[g5]? = some (.cells Z 24 (0, 0))) := HM5.out.row
  clear HM4 HM5
  refine wp_region_held_drew (S := (fun W => W.heap[g4]? = some (.cells Z 24 (0, 0)))) (by kernel_rfl) HR4.out (fun hHeld => ?_)
  refine wpAnyH_take (i := 0) (oi := { dst := some 6, op := Op.slice 24 (Operand.tmp 5) none none none, type := 33, pos := "row.go:71", after := #[], guard := none }) (v := .slice (some ⟨g5, 0, none⟩) 32 32) rfl (by kernel_rfl) (by kernel_rfl) (by kernel_rfl) (fun _ _ _ h => h) (Or.inl ⟨by rfl, by intro W hSw; have := hsl W g5 0; go_simp⟩) hHeld ?_
  try simp only [Act.put, List.setIfInBounds_toArray, List.set_cons_zero, List.set_cons_succ]
  refine wpAnyH_take (i := 1) (oi := { dst := some 7, op := Op.move (Operand.tmp 0), type := 87, pos := "row.go:71", after := #[], guard := none }) (v := .slice a len cap) rfl (by kernel_rfl) (by kernel_rfl) (by kernel_rfl) (fun _ _ _ h => h) (Or.inl ⟨by rfl, by intro W hSw; go_simp⟩) hHeld ?_
  try simp only [Act.put, List.setIfInBounds_toArray, List.set_cons_zero, List.set_cons_succ]
  refine wpAnyH_take (i := 2) (oi := { dst := some 8, op := Op.move (Operand.tmp 1), type := 3, pos := "row.go:71", after := #[], guard := none }) (v := .int .i64 tag) rfl (by kernel_rfl) (by kernel_rfl) (by kernel_rfl) (fun _ _ _ h => h) (Or.inl ⟨by rfl, by intro W hSw; go_simp⟩) hHeld ?_
  try simp only [Act.put, List.setIfInBounds_toArray, List.set_cons_zero, List.set_cons_succ]
  refine wpAnyH_ready (rs := [3]) (by kernel_rfl) (by simp) ?_
  refine (AllReadyH.cons (o := { dst := some 9, op := Op.call { callee := Callee.value (Operand.func 52), args := #[Operand.tmp 7, Operand.tmp 8], argTypes := #[87, 3] }, type := 9, pos := "row.go:71", after := #[{ on := 1, ground := Ground.data }, { on := 2, ground := Ground.data }], guard := none }) rfl (fun K hK => ?_) AllReadyH.nil)
  go_simp
  refine (D1.out _ HB2.out.drew).mono ?_
  rintro e w3 ⟨rfl, hb3⟩
  have HB3 := hidk (HB2.out.drew.trans (hb3.mono HB2.out.size))
  have HR53 := hidk ((hb3.block g5 (heap_lt HR5.out)).trans HR5.out)
  go_wp2_with fail
  refine hK.out _ _ ((hb3.block g4 (heap_lt HR4.out)).trans HR4.out) (fun hHeld => ?_)
  clear hK K
  try simp only [Act.put, List.setIfInBounds_toArray, List.set_cons_zero, List.set_cons_succ]
  refine wpAnyH_ready (rs := [4]) (by kernel_rfl) (by simp) ?_
  refine (AllReadyH.cons (o := { dst := some 10, op := Op.call { callee := Callee.builtin Builtin.copy, args := #[Operand.tmp 6, Operand.tmp 9], argTypes := #[33, 9] }, type := 3, pos := "row.go:71", after := #[{ on := 0, ground := Ground.data }, { on := 3, ground := Ground.data }, { on := 3, ground := Ground.chain }], guard := none }) rfl (fun K hK => ?_) AllReadyH.nil)
  refine step_copy_text (by rfl) (.tmp 6) (.tmp 9) rfl g5 24 rfl u rfl Z D HZ HDD HR53.out k Hk.out ?_
  intro wz HW5
  refine hK.out _ _ ((HW5.out.other _ (by omega)).trans hHeld) (fun hHeld => ?_)
  clear hK K
  try simp only [Act.put, List.setIfInBounds_toArray, List.set_cons_zero, List.set_cons_succ]
  refine wpAnyH_done (by kernel_rfl) ?_ _
  go_wp2_with (first
    | (show wpList _ _ _ ({ dst := some 11, op := _, type := _, pos := _, after := _, guard := _ } :: _) _ _; refine wpList_load_row rfl 24 (.tmp 5) rfl g5 rfl 24 D (0, 0) _ HW5.out.row Tryd.underlying24 rfl HSD.out ?_; try simp only [Act.put, List.setIfInBounds_toArray, List.set_cons_zero, List.set_cons_succ])
    | (refine wpList_set_var rfl 24 (.tmp 4) (.tmp 11) rfl g4 D rfl rfl 24 Z hHeld HSD.out HZD.out H1D.out ?_; intro w5 HW4; try simp only [Act.put, List.setIfInBounds_toArray, List.set_cons_zero, List.set_cons_succ])
    | fail)
  refine bodyPost_ret (v := .agg D) ?_ rfl ⟨rfl, HW4.out.below _ _ (HW5.out.below _ _ HB3.out (by omega)) h4⟩
  exact results_cell_row (p := 4) (ty := 24) rfl _ _ g4 24 D (0, 0) _ rfl HW4.out.row Tryd.underlying24 rfl HSD.out
end Go.Proofs.YtgkfodmccfnaoaaDoor

/- What the small calls of package head answer: within, Check, mayBe, numberField, digestField. -/
namespace Go.Proofs.YtgkfodmccfnaoaaDoor
open Go.RowKit Sums Nums
set_option linter.unusedVariables false
set_option linter.unusedSimpArgs false
set_option maxRecDepth 100000
theorem hWithin_any (n a b : Int) (w : World) : Calls Tryd.prog 94 #[.int .i64 n, .int .i64 a, .int .i64 b] w fun e w' => e = .returned (.bool (decide (a ≤ n) && decide (n ≤ b))) ∧ w' = w := by
  by_cases h1 : a ≤ n
  · have d1 : decide (a ≤ n) = true := by rw [decide_eq_true_eq]; exact h1
    obtain ⟨x, hx⟩ : ∃ x, decide (n ≤ b) = x := ⟨_, rfl⟩
    rw [d1, hx]
    clear h1
    go_enter Tryd.func94, Tryd.ntmps94
    go_wp2
    go_ret
    exact ⟨rfl, rfl⟩
  · have d1 : decide (a ≤ n) = false := by rw [decide_eq_false_iff_not]; exact h1
    rw [d1]
    clear h1
    go_enter Tryd.func94, Tryd.ntmps94
    go_wp2
    go_ret
    exact ⟨rfl, rfl⟩
set_option maxHeartbeats 2000000 in
theorem hCheck_any (h : HdT) (hd : h.d.length = 32) (w : World) (C : Array Value) (HC : Hid (C = (hcells h).toArray)) :
    Calls Tryd.prog 75 #[.agg C] w fun e w' => e = .returned (.int .i64 (putE h)) ∧ Below w.heap.size w w' := by
  have HR := hrow_new w h hd C HC 26
  have HB : Hid (Below w.heap.size w (w.alloc (.cells C 26))) := (Below.refl _ _).alloc (Nat.le_refl _) _
  have c0 := HR.r
  have c1 := HR.e
  have c2 := HR.s
  have c4 := HR.t
  simp only [Nat.zero_add] at c1 c2 c4
  have hnot : ∀ (x : Bool) (w : World), (Op.unary .not (.bool x)).run Tryd.prog w = .ok (.bool (!x)) w := fun _ _ => rfl
  have WI : Hid (∀ (n a b : Int) (W : World), Calls Tryd.prog 94 #[.int .i64 n, .int .i64 a, .int .i64 b] W fun e w' => e = .returned (.bool (decide (a ≤ n) && decide (n ≤ b))) ∧ w' = W) := hWithin_any
  obtain ⟨b1, hb1⟩ : ∃ b, (decide (1 ≤ h.r) && decide (h.r ≤ 5)) = b := ⟨_, rfl⟩
  obtain ⟨b2, hb2⟩ : ∃ b, (decide (1 ≤ h.e) && decide (h.e ≤ 900000000)) = b := ⟨_, rfl⟩
  obtain ⟨b3, hb3⟩ : ∃ b, (decide (0 ≤ h.s) && decide (h.s ≤ 100000)) = b := ⟨_, rfl⟩
  obtain ⟨b4, hb4⟩ : ∃ b, (decide (0 ≤ h.t) && decide (h.t ≤ 900000000)) = b := ⟨_, rfl⟩
  have W1 := hidk (WI.out h.r 1 5)
  have W2 := hidk (WI.out h.e 1 900000000)
  have W3 := hidk (WI.out h.s 0 100000)
  have W4 := hidk (WI.out h.t 0 900000000)
  rw [hb1] at W1
  rw [hb2] at W2
  rw [hb3] at W3
  rw [hb4] at W4
  have hE : putE h = if (b1 && (b2 && (b3 && b4))) = true then 0 else 70 := by
    rw [← hb1, ← hb2, ← hb3, ← hb4]
    unfold putE rightH
    simp only [Bool.and_assoc]
  rw [hE]
  obtain ⟨r, hr⟩ : ∃ r, r = h.r := ⟨_, rfl⟩
  obtain ⟨e, he⟩ : ∃ r, r = h.e := ⟨_, rfl⟩
  obtain ⟨s, hs⟩ : ∃ r, r = h.s := ⟨_, rfl⟩
  obtain ⟨t, ht⟩ : ∃ r, r = h.t := ⟨_, rfl⟩
  rw [← hr] at c0 W1
  rw [← he] at c1 W2
  rw [← hs] at c2 W3
  rw [← ht] at c4 W4
  clear hE hb1 hb2 hb3 hb4 WI HR hr he hs ht HC
  cases b1
  · go_enter Tryd.func75, Tryd.ntmps75
    go_wp2_with fail
    refine (W1.out _).mono ?_
    rintro e w1 ⟨rfl, rfl⟩
    go_wp2
    go_ret
    exact ⟨rfl, HB.out⟩
  cases b2
  · go_enter Tryd.func75, Tryd.ntmps75
    go_wp2_with fail
    refine (W1.out _).mono ?_
    rintro e w1 ⟨rfl, rfl⟩
    go_wp2_with fail
    refine (W2.out _).mono ?_
    rintro e w1 ⟨rfl, rfl⟩
    go_wp2
    go_ret
    exact ⟨rfl, HB.out⟩
  cases b3
  · go_enter Tryd.func75, Tryd.ntmps75
    go_wp2_with fail
    refine (W1.out _).mono ?_
    rintro e w1 ⟨rfl, rfl⟩
    go_wp2_with fail
    refine (W2.out _).mono ?_
    rintro e w1 ⟨rfl, rfl⟩
    go_wp2_with fail
    refine (W3.out _).mono ?_
    rintro e w1 ⟨rfl, rfl⟩
    go_wp2
    go_ret
    exact ⟨rfl, HB.out⟩
  cases b4
  · go_enter Tryd.func75, Tryd.ntmps75
    go_wp2_with fail
    refine (W1.out _).mono ?_
    rintro e w1 ⟨rfl, rfl⟩
    go_wp2_with fail
    refine (W2.out _).mono ?_
    rintro e w1 ⟨rfl, rfl⟩
    go_wp2_with fail
    refine (W3.out _).mono ?_
    rintro e w1 ⟨rfl, rfl⟩
    go_wp2_with fail
    refine (W4.out _).mono ?_
    rintro e w1 ⟨rfl, rfl⟩
    go_wp2
    go_ret
    exact ⟨rfl, HB.out⟩
  · go_enter Tryd.func75, Tryd.ntmps75
    go_wp2_with fail
    refine (W1.out _).mono ?_
    rintro e w1 ⟨rfl, rfl⟩
    go_wp2_with fail
    refine (W2.out _).mono ?_
    rintro e w1 ⟨rfl, rfl⟩
    go_wp2_with fail
    refine (W3.out _).mono ?_
    rintro e w1 ⟨rfl, rfl⟩
    go_wp2_with fail
    refine (W4.out _).mono ?_
    rintro e w1 ⟨rfl, rfl⟩
    go_wp2
    go_ret
    exact ⟨rfl, HB.out⟩
theorem putE_ok (h : HdT) : putE h = 0 ∧ rightH h = true ∨ putE h = 70 ∧ rightH h = false := by
  unfold putE
  cases rightH h
  · exact .inr ⟨rfl, rfl⟩
  · exact .inl ⟨rfl, rfl⟩
set_option maxHeartbeats 2000000 in
theorem hMay_any (s : SgT) (hd : s.h.d.length = 32) (w : World) (C : Array Value) (HC : Hid (C = (scells s).toArray)) :
    Calls Tryd.prog 65 #[.agg C] w fun e w' => e = .returned (.bool (mayS s)) ∧ Below w.heap.size w w' := by
  have HR := hidk (srow_new w s hd C HC 28)
  have HB : Hid (Below w.heap.size w (w.alloc (.cells C 28))) := (Below.refl _ _).alloc (Nat.le_refl _) _
  obtain ⟨HCs, HHC, HSH, H36⟩ := head_row s.h hd
  have HRH : Hid ((w.alloc (.cells C 28)).rangeAt w.heap.size 0 HCs.toList) := by rw [HHC.out]; exact HR.out.h
  obtain ⟨n, Hn⟩ : ∃ n, Hid (n = s.n) := ⟨s.n, hidk rfl⟩
  obtain ⟨b2, hb2⟩ : ∃ b, (decide (1 ≤ n) && decide (n ≤ 3)) = b := ⟨_, rfl⟩
  obtain ⟨E, hE0⟩ : ∃ E, E = putE s.h := ⟨_, rfl⟩
  have R1 : Hid (∀ W, Calls Tryd.prog 75 #[.agg HCs] W fun e w' => e = .returned (.int .i64 E) ∧ Below W.heap.size W w') := fun W => by rw [hE0]; exact hCheck_any s.h hd W HCs HHC
  have W2 : Hid (∀ W, Calls Tryd.prog 94 #[.int .i64 n, .int .i64 1, .int .i64 3] W fun e w' => e = .returned (.bool b2) ∧ w' = W) := fun W => by rw [← hb2]; exact hWithin_any n 1 3 W
  have hM : mayS s = (rightH s.h && b2) := by
    rw [← hb2, Hn.out]
    unfold mayS
    rw [Bool.and_assoc]
  rw [hM]
  have hp := putE_ok s.h
  rw [← hE0] at hp
  clear hM hb2 HC hE0
  rcases hp with ⟨rfl, hr⟩ | ⟨rfl, hr⟩
  · rw [hr]
    clear hr
    go_enter Tryd.func65, Tryd.ntmps65
    go_wp2_with (first
      | (show wpList _ _ _ ({ dst := some 4, op := _, type := _, pos := _, after := _, guard := _ } :: _) _ _; refine wpList_mid rfl 26 (.tmp 3) rfl w.heap.size 0 rfl HCs _ HRH.out Tryd.underlying26 rfl HSH.out ?_; try simp only [Act.put, List.setIfInBounds_toArray, List.set_cons_zero, List.set_cons_succ])
      | fail)
    refine (R1.out _).mono ?_
    rintro e w1 ⟨rfl, hb⟩
    have HB1 := hidk (HB.out.trans (hb.mono HB.out.size))
    have hc := (HR.out.keep hb).n
    rw [← Hn.out, Nat.zero_add] at hc
    clear hb
    go_wp2_with fail
    refine (W2.out _).mono ?_
    rintro e w2 ⟨rfl, rfl⟩
    go_wp2
    go_ret
    exact ⟨rfl, HB1.out⟩
  · rw [hr]
    clear hr
    go_enter Tryd.func65, Tryd.ntmps65
    go_wp2_with (first
      | (show wpList _ _ _ ({ dst := some 4, op := _, type := _, pos := _, after := _, guard := _ } :: _) _ _; refine wpList_mid rfl 26 (.tmp 3) rfl w.heap.size 0 rfl HCs _ HRH.out Tryd.underlying26 rfl HSH.out ?_; try simp only [Act.put, List.setIfInBounds_toArray, List.set_cons_zero, List.set_cons_succ])
      | fail)
    refine (R1.out _).mono ?_
    rintro e w1 ⟨rfl, hb⟩
    have HB1 := hidk (HB.out.trans (hb.mono HB.out.size))
    clear hb
    go_wp2
    go_ret
    exact ⟨rfl, HB1.out⟩
set_option maxHeartbeats 2000000 in
theorem hNum_any (t n : Int) (w : World) : Calls Tryd.prog 67 #[.int .i64 t, .int .i64 n] w fun e w' => e = .returned (.agg #[.int .i64 t, .string (nOf n)]) ∧ Below w.heap.size w w' := by
  obtain ⟨x, Hx⟩ : ∃ x : ByteArray, Hid (x = nOf n) := ⟨nOf n, hidk rfl⟩
  obtain ⟨E, HE⟩ : ∃ E, Hid (E = neOf n) := ⟨_, hidk rfl⟩
  have N1 : Hid (∀ W, Calls Tryd.prog 38 #[.int .i64 n] W fun e w' => e = .returned (.tuple #[.string x, .int .i64 E]) ∧ Below W.heap.size W w') := fun W => by rw [Hx.out, HE.out]; exact number_any n W
  rw [← Hx.out]
  clear Hx HE
  go_enter Tryd.func67, Tryd.ntmps67
  go_wp2_with fail
  refine (N1.out _).mono ?_
  rintro e w1 ⟨rfl, hb1⟩
  have hlt : w.heap.size < w1.heap.size := by have := hb1.size; simp at this; omega
  have hg : w1.heap[w.heap.size]? = some (.cells #[.int .i64 0, .string ⟨#[]⟩] 56 (0, 0)) := (hb1.block _ (by simp)).trans (heap_alloc_new w _)
  have c0 : w1.cell? ⟨w.heap.size, 0, none⟩ = some (.int .i64 0) := by rw [cell_of_row w1 _ 0 _ 56 (0, 0) hg]; rfl
  have c1 : w1.cell? ⟨w.heap.size, 1, none⟩ = some (.string ⟨#[]⟩) := by rw [cell_of_row w1 _ 1 _ 56 (0, 0) hg]; rfl
  have HB : Hid (Below w.heap.size w w1) := ((Below.refl _ _).alloc (Nat.le_refl _) _).trans (hb1.mono (by simp))
  have f0 : w1.frozen? ⟨w.heap.size, 0, none⟩ = false := frozen_of_row w1 _ 0 _ _ hg
  have f1 : w1.frozen? ⟨w.heap.size, 1, none⟩ = false := frozen_of_row w1 _ 1 _ _ hg
  clear hb1
  have HG2 := hidk (Go.heap_setCell_same _ _ 1 _ _ (.string x) (Go.heap_setCell_same w1 _ 0 _ _ (.int .i64 t) hg))
  clear hg
  go_wp2
  refine bodyPost_ret (v := .agg #[.int .i64 t, .string x]) ?_ rfl ⟨rfl, (HB.out.setCell (Nat.le_refl _) _).setCell (Nat.le_refl _) _⟩
  exact results_cell_row (p := 4) (ty := 56) rfl _ _ w.heap.size 56 #[.int .i64 t, .string x] (0, 0) _ rfl HG2.out Tryd.underlying56 rfl (by kernel_rfl)
set_option maxHeartbeats 2000000 in
theorem hDig_any (t : Int) (d : List UInt8) (hd : d.length = 32) (w : World) (D : Array Value) (HD : Hid (D = (cellsOf d).toArray)) : Calls Tryd.prog 68 #[.int .i64 t, .agg D] w fun e w' => e = .returned (.agg #[.int .i64 t, .string (bA d)]) ∧ Below w.heap.size w w' := by
  obtain ⟨x, Hx⟩ : ∃ x : ByteArray, Hid (x = bA d) := ⟨bA d, hidk rfl⟩
  have HCV : Hid (∀ (W : World) (g : Nat), W.heap[g]? = some (.cells D 24 (0, 0)) → Sem.run Tryd.prog (convert 33 9 (.slice (some ⟨g, 0, none⟩) 32 32)) W = .ok (.string x) W) := fun W g h => by
    rw [Hx.out]
    refine conv_at W g 0 d hd fun j v hj => ?_
    rw [Nat.zero_add, cell_of_row W g j _ _ (0, 0) h, HD.out]
    simpa using hj
  have HSL := hidk slice_at
  rw [← Hx.out]
  clear Hx HD
  have hn0 : (w.alloc (.cells D 24)).heap[w.heap.size]? = some (.cells D 24 (0, 0)) := heap_alloc_new w _
  have hcv := HCV.out ((w.alloc (.cells D 24)).alloc (.cells #[.int .i64 0, .string ⟨#[]⟩] 56)) w.heap.size (heap_keep hn0)
  have hsl := HSL.out ((w.alloc (.cells D 24)).alloc (.cells #[.int .i64 0, .string ⟨#[]⟩] 56)) w.heap.size 0
  have hg := heap_alloc_new (w.alloc (.cells D 24)) (.cells #[.int .i64 0, .string ⟨#[]⟩] 56)
  rw [alloc_size] at hg
  have hg2 := heap_alloc_new (w.alloc (.cells D 24)) (.cells #[.int .i64 t, .string x] 56)
  rw [alloc_size] at hg2
  have HG2 := hidk hg2
  have HB : Hid (Below w.heap.size w ((w.alloc (.cells D 24)).alloc (.cells #[.int .i64 t, .string x] 56))) := ((Below.refl _ _).alloc (Nat.le_refl _) _).alloc (by simp) _
  clear HCV HSL hn0 hg hg2
  go_enter Tryd.func68, Tryd.ntmps68
  go_wp2
  refine bodyPost_ret (v := .agg #[.int .i64 t, .string x]) ?_ rfl ⟨rfl, HB.out⟩
  exact results_cell_row (p := 4) (ty := 56) rfl _ _ (w.heap.size + 1) 56 #[.int .i64 t, .string x] (0, 0) _ rfl HG2.out Tryd.underlying56 rfl (by kernel_rfl)
end Go.Proofs.YtgkfodmccfnaoaaDoor
