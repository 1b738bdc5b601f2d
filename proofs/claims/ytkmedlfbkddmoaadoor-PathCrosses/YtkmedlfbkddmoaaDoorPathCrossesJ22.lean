/- Texts of our own that the row of PathCrosses leans on, part 22. -/
import Derived.Test.YtkmedlfbkddmoaaDoorPathCrossesJ0
import Derived.Test.YtkmedlfbkddmoaaDoorPathCrossesJ15
import Derived.Test.YtkmedlfbkddmoaaDoorPathCrossesJ17
import Derived.Test.YtkmedlfbkddmoaaDoorPathCrossesJ19
import Derived.Test.YtkmedlfbkddmoaaDoorPathCrossesJ20
import Derived.Test.YtkmedlfbkddmoaaDoorPathCrossesJ21
import Derived.RangeFuncNested
import Derived.RangeFuncBound
import Derived.RangeFuncCalls
import Derived.RangeFuncLeaves
import Derived.RangeFuncBox
import Derived.Shelf.Abstract
import Derived.Shelf.RegionOpen
import Derived.WalkKit
import Derived.OwnWalkIn
import Derived.TacticsInMore
import Derived.LoopNIn
import Derived.LoopIn
import Derived.Lib.BufferWrite
/- What the calls of package head answer, as the document says (their proofs are of one commit of the code). -/
namespace Go.Proofs.YtkmedlfbkddmoaaDoor
open Go.RowKit Sums Nums
set_option linter.unusedVariables false
set_option linter.unusedSimpArgs false
set_option maxRecDepth 100000
def TabH (w : World) : Prop := Table 0 w
theorem TabH.keep {w w' : World} (h : TabH w) (hb : Below w.heap.size w w') : TabH w' := Table.keep h hb
structure InH (h : HdT) : Prop where
  d : h.d.length = 32
  r : In64 h.r
  e : In64 h.e
  s : In64 h.s
  t : In64 h.t
structure InS (s : SgT) : Prop where
  h : InH s.h
  n : In64 s.n
  g : s.g.length = 32
def BytesE (bs : List UInt8) (E : Int) (e : Ending) (w' : World) : Prop := ∃ a cap, e = .returned (.tuple #[.slice a bs.length cap, .int .i64 E]) ∧ Reads w' a bs.length cap bs
def putB (h : HdT) : List UInt8 := if rightH h = true then headB h else []
def putE (h : HdT) : Int := if rightH h = true then 0 else 70
def putSB (s : SgT) : List UInt8 := if mayS s = true then signB s else []
def putSE (s : SgT) : Int := if mayS s = true then 0 else 70
structure HeadC : Prop where
  check : ∀ (h : HdT) (hh : InH h) (w : World) (C : Array Value) (HC : Hid (C = (hcells h).toArray)),
    Calls Tryd.prog 22 #[.agg C] w fun e w' => e = .returned (.int .i64 (putE h)) ∧ Below w.heap.size w w'
  put : ∀ (h : HdT) (hh : InH h) (w : World) (C : Array Value) (HC : Hid (C = (hcells h).toArray)),
    Calls Tryd.prog 68 #[.agg C] w fun e w' => BytesE (putB h) (putE h) e w' ∧ Below w.heap.size w w'
  sign : ∀ (master : List UInt8) (h : HdT) (n : Int) (w : World) (M C R : Array Value) (HM : Hid (M = (cellsOf master).toArray)) (HC : Hid (C = (hcells h).toArray)) (hm : master.length = 32) (hh : InH h) (hn : In64 n) (hT : TabH w) (HR : Hid (R = (scells (signO master h n)).toArray)),
    Calls Tryd.prog 9 #[.agg M, .agg C, .int .i64 n] w fun e w' => e = .returned (.tuple #[.agg R, .int .i64 (signE h n)]) ∧ Below w.heap.size w w'
  verify : ∀ (master : List UInt8) (s : SgT) (w : World) (M C : Array Value) (HM : Hid (M = (cellsOf master).toArray)) (HC : Hid (C = (scells s).toArray)) (hm : master.length = 32) (hs : InS s) (hT : TabH w),
    Calls Tryd.prog 49 #[.agg M, .agg C] w fun e w' => e = .returned (.int .i64 (verE master s)) ∧ Below w.heap.size w w'
  putS : ∀ (s : SgT) (hs : InS s) (w : World) (C : Array Value) (HC : Hid (C = (scells s).toArray)),
    Calls Tryd.prog 47 #[.agg C] w fun e w' => BytesE (putSB s) (putSE s) e w' ∧ Below w.heap.size w w'
theorem right_in {h : HdT} (hr : rightH h = true) (hd : h.d.length = 32) : InH h := by
  have := (rightH_iff h).1 hr
  refine ⟨hd, ?_, ?_, ?_, ?_⟩ <;> unfold In64 <;> omega
theorem zero_in : InH zeroH := ⟨rfl, by unfold In64; decide, by unfold In64; decide, by unfold In64; decide, by unfold In64; decide⟩
theorem may_in {s : SgT} (hm : mayS s = true) (hd : s.h.d.length = 32) (hg : s.g.length = 32) : InS s := by
  have := (mayS_iff s).1 hm
  exact ⟨right_in this.1 hd, by unfold In64; omega, hg⟩
theorem zeroS_in : InS zeroS := ⟨zero_in, by unfold In64; decide, rfl⟩
theorem wpList_build_two {P : Program} {ops : Array Oper} {rest : List Oper} {o : Oper} {a : Act} {w : World} {Q : Exit → Act → World → Prop} (hg : o.guard = none) (t : TypeId) (i j : Nat) (x y : Operand) (ho : o.op = .build t #[(i, x), (j, y)])
    (cs : Array Value) (v u : Value) (hv : a.eval x = v) (hu : a.eval y = u) (hb : P.built t [(i, v), (j, u)] = some cs) (h : wpList P ops Q rest (a.put o.dst (.agg cs)) w) : wpList P ops Q (o :: rest) a w :=
  wpList_build_row hg t #[(i, x), (j, y)] ho cs (by simpa [hv, hu] using hb) h
def ccells (c : ClT) : List Value := [.int .i64 c.r, .int .i64 c.e, .int .i64 c.n, .int .i64 c.s] ++ cellsOf c.d
theorem ccells_length (c : ClT) (hd : c.d.length = 32) : (ccells c).length = 36 := by simp [ccells, cellsOf_length, hd]
def ecells (x : EnT) : List Value := [.int .i64 x.k, .int .i64 x.c, .int .i64 x.s, .string x.t] ++ scells x.h ++ ccells x.m
theorem ecells_length (x : EnT) (ok : OkE x) : (ecells x).length = 109 := by simp [ecells, scells_length _ ok.h ok.g, ccells_length _ ok.m]
def icells (x : ItT) : List Value := [.int .i64 x.p] ++ ecells x.e
theorem icells_length (x : ItT) (ok : OkE x.e) : (icells x).length = 110 := by simp [icells, ecells_length _ ok]
theorem heldC : Tryd.prog.stoodInHeld 39 = false := by kernel_rfl
theorem heldE : Tryd.prog.stoodInHeld 41 = false := by kernel_rfl
theorem heldI : Tryd.prog.stoodInHeld 43 = false := by kernel_rfl
theorem sizeC : (Tryd.prog.info? 39).map (·.size) = some 36 := by kernel_rfl
theorem sizeE : (Tryd.prog.info? 41).map (·.size) = some 109 := by kernel_rfl
theorem sizeI : (Tryd.prog.info? 43).map (·.size) = some 110 := by kernel_rfl
theorem sizeOf_of {t : TypeId} {n : Nat} (h : (Tryd.prog.info? t).map (·.size) = some n) (w : World) : (sizeOf t).run Tryd.prog w = .ok n w := by
  cases hq : Tryd.prog.info? t with
  | none => simp [hq] at h
  | some i => simp [hq] at h; simp [sizeOf, typeInfo, hq, h]
theorem part_struct {t : TypeId} {fs : Array Field} {n : Nat} (hu : Tryd.prog.underlying t = some (.struct fs)) (hs : (Tryd.prog.info? t).map (·.size) = some n) (l : List Value) (off : Nat) (m : List Value) (h : (l.drop off).take n = m) (w : World) : (Go.part t l.toArray off).run Tryd.prog w = .ok (.agg m.toArray) w := by
  have e := cut_list l off n m h
  simp only [Go.part, isAgg, run_underlying hu, sizeOf_of hs, Sem.run_bind, Sem.run_pure, Result.andThen_ok, if_true, e]
theorem part_kind (l : List Value) (off : Nat) (v : Value) (h : l[off]? = some v) (w : World) : (Go.part 37 l.toArray off).run Tryd.prog w = .ok v w := by
  simp [Go.part, isAgg, run_underlying Tryd.underlying37, h]
theorem part_str (l : List Value) (off : Nat) (v : Value) (h : l[off]? = some v) (w : World) : (Go.part 9 l.toArray off).run Tryd.prog w = .ok v w := by
  simp [Go.part, isAgg, run_underlying Tryd.underlying9, h]
theorem ccells_d (c : ClT) (hd : c.d.length = 32) : ((ccells c).drop 4).take 32 = cellsOf c.d := by
  show (cellsOf c.d).take 32 = _
  rw [List.take_of_length_le (by rw [cellsOf_length, hd]; omega)]
theorem ecells_h (x : EnT) (ok : OkE x) : ((ecells x).drop 4).take 69 = scells x.h := by
  show (scells x.h ++ ccells x.m).take 69 = _
  rw [List.take_left' (scells_length _ ok.h ok.g)]
theorem ecells_m (x : EnT) (ok : OkE x) : ((ecells x).drop 73).take 36 = ccells x.m := by
  unfold ecells
  rw [List.drop_left' (by simp [scells_length _ ok.h ok.g]), List.take_of_length_le (by rw [ccells_length _ ok.m]; omega)]
theorem icells_e (x : ItT) (ok : OkE x.e) : ((icells x).drop 1).take 109 = ecells x.e := by
  show (ecells x.e).take 109 = _
  rw [List.take_of_length_le (by rw [ecells_length _ ok]; omega)]
theorem equalClaim (d : Nat) (a b : ClT) (ha : a.d.length = 32) (hb : b.d.length = 32) (x : Bool) (hx : x = true ↔ a = b) (w : World) : (Op.equalIn (d + 4) 39 (.agg (ccells a).toArray) (.agg (ccells b).toArray)).run Tryd.prog w = .ok x w := by
  have hf : Tryd.prog.fieldsOf 39 = #[{ name := "Region", type := 3, offset := 0, embedded := false, tag := "", pkgPath := "", byteOffset := 0 }, { name := "Epoch", type := 3, offset := 1, embedded := false, tag := "", pkgPath := "", byteOffset := 8 }, { name := "Node", type := 3, offset := 2, embedded := false, tag := "", pkgPath := "", byteOffset := 16 }, { name := "Size", type := 3, offset := 3, embedded := false, tag := "", pkgPath := "", byteOffset := 24 }, { name := "Root", type := 26, offset := 4, embedded := false, tag := "", pkgPath := "", byteOffset := 32 }] := by
    unfold Program.fieldsOf; rw [Tryd.underlying39]
  have p0a := fun W => part_int (ccells a) 0 (.int .i64 a.r) rfl W
  have p0b := fun W => part_int (ccells b) 0 (.int .i64 b.r) rfl W
  have x0 := fun W => run_equalIn_int (P := Tryd.prog) W (d + 2) 3 .i64 .i64 a.r b.r Tryd.underlying3
  obtain ⟨b0, h0⟩ : ∃ x, (a.r == b.r) = x := ⟨_, rfl⟩
  rw [h0] at x0
  have p1a := fun W => part_int (ccells a) 1 (.int .i64 a.e) rfl W
  have p1b := fun W => part_int (ccells b) 1 (.int .i64 b.e) rfl W
  have x1 := fun W => run_equalIn_int (P := Tryd.prog) W (d + 2) 3 .i64 .i64 a.e b.e Tryd.underlying3
  obtain ⟨b1, h1⟩ : ∃ x, (a.e == b.e) = x := ⟨_, rfl⟩
  rw [h1] at x1
  have p2a := fun W => part_int (ccells a) 2 (.int .i64 a.n) rfl W
  have p2b := fun W => part_int (ccells b) 2 (.int .i64 b.n) rfl W
  have x2 := fun W => run_equalIn_int (P := Tryd.prog) W (d + 2) 3 .i64 .i64 a.n b.n Tryd.underlying3
  obtain ⟨b2, h2⟩ : ∃ x, (a.n == b.n) = x := ⟨_, rfl⟩
  rw [h2] at x2
  have p3a := fun W => part_int (ccells a) 3 (.int .i64 a.s) rfl W
  have p3b := fun W => part_int (ccells b) 3 (.int .i64 b.s) rfl W
  have x3 := fun W => run_equalIn_int (P := Tryd.prog) W (d + 2) 3 .i64 .i64 a.s b.s Tryd.underlying3
  obtain ⟨b3, h3⟩ : ∃ x, (a.s == b.s) = x := ⟨_, rfl⟩
  rw [h3] at x3
  have p4a := fun W => part_dig (ccells a) 4 _ (ccells_d a ha) W
  have p4b := fun W => part_dig (ccells b) 4 _ (ccells_d b hb) W
  have x4 : ∀ W, (Op.equalIn (d + 3) 26 (.agg (cellsOf a.d).toArray) (.agg (cellsOf b.d).toArray)).run Tryd.prog W = .ok (a.d == b.d) W := fun W => run_equalIn_bytes (P := Tryd.prog) W (d + 1) 26 5 32 Tryd.underlying26 Tryd.underlying5 sizeOf5 a.d b.d ha hb
  obtain ⟨b4, h4⟩ : ∃ x, (a.d == b.d) = x := ⟨_, rfl⟩
  rw [h4] at x4
  rw [run_equalIn_struct w (d + 3) 39 _ _ (by rw [hf]; exact Tryd.underlying39) heldC, hf]
  have hq : x = (b0 && b1 && b2 && b3 && b4) := by
    rw [Bool.eq_iff_iff, hx]
    simp only [Bool.and_eq_true]
    rw [← h0, ← h1, ← h2, ← h3, ← h4]
    simp only [beq_iff_eq]
    constructor
    · rintro rfl; simp
    · rintro ⟨⟨⟨⟨e0, e1⟩, e2⟩, e3⟩, e4⟩
      cases a; cases b
      simp only at e0 e1 e2 e3 e4
      rw [e0, e1, e2, e3, e4]
  rw [hq]
  obtain ⟨A, hA⟩ : ∃ A, (ccells a).toArray = A := ⟨_, rfl⟩
  obtain ⟨B, hB⟩ : ∃ B, (ccells b).toArray = B := ⟨_, rfl⟩
  rw [hA] at p0a p1a p2a p3a p4a
  rw [hB] at p0b p1b p2b p3b p4b
  rw [hA, hB]
  obtain ⟨D4, hD4⟩ : ∃ D, (cellsOf a.d).toArray = D := ⟨_, rfl⟩
  obtain ⟨E4, hE4⟩ : ∃ D, (cellsOf b.d).toArray = D := ⟨_, rfl⟩
  rw [hD4] at p4a x4
  rw [hE4] at p4b x4
  simp [Op.eqFields, p0a, p0b, x0, p1a, p1b, x1, p2a, p2b, x2, p3a, p3b, x3, p4a, p4b, x4]
  cases b0 <;> cases b1 <;> cases b2 <;> cases b3 <;> cases b4 <;> simp
theorem equalEntry (d : Nat) (a b : EnT) (ha : OkE a) (hb : OkE b) (x : Bool) (hx : x = true ↔ a = b) (w : World) : (Op.equalIn (d + 6) 41 (.agg (ecells a).toArray) (.agg (ecells b).toArray)).run Tryd.prog w = .ok x w := by
  have hf : Tryd.prog.fieldsOf 41 = #[{ name := "Kind", type := 37, offset := 0, embedded := false, tag := "", pkgPath := "", byteOffset := 0 }, { name := "Client", type := 3, offset := 1, embedded := false, tag := "", pkgPath := "", byteOffset := 8 }, { name := "Seq", type := 3, offset := 2, embedded := false, tag := "", pkgPath := "", byteOffset := 16 }, { name := "Text", type := 9, offset := 3, embedded := false, tag := "", pkgPath := "", byteOffset := 24 }, { name := "Head", type := 33, offset := 4, embedded := false, tag := "", pkgPath := "", byteOffset := 40 }, { name := "Claim", type := 39, offset := 73, embedded := false, tag := "", pkgPath := "", byteOffset := 144 }] := by
    unfold Program.fieldsOf; rw [Tryd.underlying41]
  have p0a := fun W => part_kind (ecells a) 0 (.int .i64 a.k) rfl W
  have p0b := fun W => part_kind (ecells b) 0 (.int .i64 b.k) rfl W
  have x0 := fun W => run_equalIn_int (P := Tryd.prog) W (d + 4) 37 .i64 .i64 a.k b.k Tryd.underlying37
  obtain ⟨b0, h0⟩ : ∃ x, (a.k == b.k) = x := ⟨_, rfl⟩
  rw [h0] at x0
  have p1a := fun W => part_int (ecells a) 1 (.int .i64 a.c) rfl W
  have p1b := fun W => part_int (ecells b) 1 (.int .i64 b.c) rfl W
  have x1 := fun W => run_equalIn_int (P := Tryd.prog) W (d + 4) 3 .i64 .i64 a.c b.c Tryd.underlying3
  obtain ⟨b1, h1⟩ : ∃ x, (a.c == b.c) = x := ⟨_, rfl⟩
  rw [h1] at x1
  have p2a := fun W => part_int (ecells a) 2 (.int .i64 a.s) rfl W
  have p2b := fun W => part_int (ecells b) 2 (.int .i64 b.s) rfl W
  have x2 := fun W => run_equalIn_int (P := Tryd.prog) W (d + 4) 3 .i64 .i64 a.s b.s Tryd.underlying3
  obtain ⟨b2, h2⟩ : ∃ x, (a.s == b.s) = x := ⟨_, rfl⟩
  rw [h2] at x2
  have p3a := fun W => part_str (ecells a) 3 (.string a.t) rfl W
  have p3b := fun W => part_str (ecells b) 3 (.string b.t) rfl W
  have x3 := fun W => run_equalIn_string (P := Tryd.prog) W (d + 4) 9 a.t b.t Tryd.underlying9
  obtain ⟨b3, h3⟩ : ∃ x, (a.t.toList == b.t.toList) = x := ⟨_, rfl⟩
  rw [h3] at x3
  have p4a := fun W => part_struct Tryd.underlying33 sizeS (ecells a) 4 _ (ecells_h a ha) W
  have p4b := fun W => part_struct Tryd.underlying33 sizeS (ecells b) 4 _ (ecells_h b hb) W
  obtain ⟨b4, h4⟩ : ∃ x : Bool, x = true ↔ a.h = b.h := by
    by_cases h : a.h = b.h
    · exact ⟨true, by simp [h]⟩
    · exact ⟨false, by simp [h]⟩
  have x4 : ∀ W, (Op.equalIn (d + 5) 33 (.agg (scells a.h).toArray) (.agg (scells b.h).toArray)).run Tryd.prog W = .ok b4 W := fun W => equalSigned (d + 0) a.h b.h ha.h hb.h ha.g hb.g b4 h4 W
  have p5a := fun W => part_struct Tryd.underlying39 sizeC (ecells a) 73 _ (ecells_m a ha) W
  have p5b := fun W => part_struct Tryd.underlying39 sizeC (ecells b) 73 _ (ecells_m b hb) W
  obtain ⟨b5, h5⟩ : ∃ x : Bool, x = true ↔ a.m = b.m := by
    by_cases h : a.m = b.m
    · exact ⟨true, by simp [h]⟩
    · exact ⟨false, by simp [h]⟩
  have x5 : ∀ W, (Op.equalIn (d + 5) 39 (.agg (ccells a.m).toArray) (.agg (ccells b.m).toArray)).run Tryd.prog W = .ok b5 W := fun W => equalClaim (d + 1) a.m b.m ha.m hb.m b5 h5 W
  rw [run_equalIn_struct w (d + 5) 41 _ _ (by rw [hf]; exact Tryd.underlying41) heldE, hf]
  have hq : x = (b0 && b1 && b2 && b3 && b4 && b5) := by
    rw [Bool.eq_iff_iff, hx]
    simp only [Bool.and_eq_true]
    rw [← h0, ← h1, ← h2, ← h3, h4, h5]
    simp only [beq_iff_eq]
    constructor
    · rintro rfl; simp
    · rintro ⟨⟨⟨⟨⟨e0, e1⟩, e2⟩, e3⟩, e4⟩, e5⟩
      have e3' : a.t.data.toList = b.t.data.toList := by rw [ByteArray.toList_eq, ByteArray.toList_eq] at e3; exact e3
      exact enT_ext ⟨e0, e1, e2, e3', e4, e5⟩
  rw [hq]
  obtain ⟨A, hA⟩ : ∃ A, (ecells a).toArray = A := ⟨_, rfl⟩
  obtain ⟨B, hB⟩ : ∃ B, (ecells b).toArray = B := ⟨_, rfl⟩
  rw [hA] at p0a p1a p2a p3a p4a p5a
  rw [hB] at p0b p1b p2b p3b p4b p5b
  rw [hA, hB]
  obtain ⟨D4, hD4⟩ : ∃ D, (scells a.h).toArray = D := ⟨_, rfl⟩
  obtain ⟨E4, hE4⟩ : ∃ D, (scells b.h).toArray = D := ⟨_, rfl⟩
  rw [hD4] at p4a x4
  rw [hE4] at p4b x4
  obtain ⟨D5, hD5⟩ : ∃ D, (ccells a.m).toArray = D := ⟨_, rfl⟩
  obtain ⟨E5, hE5⟩ : ∃ D, (ccells b.m).toArray = D := ⟨_, rfl⟩
  rw [hD5] at p5a x5
  rw [hE5] at p5b x5
  simp [Op.eqFields, p0a, p0b, x0, p1a, p1b, x1, p2a, p2b, x2, p3a, p3b, x3, p4a, p4b, x4, p5a, p5b, x5]
  cases b0 <;> cases b1 <;> cases b2 <;> cases b3 <;> cases b4 <;> cases b5 <;> simp
theorem neqEntry (a b : EnT) (ha : OkE a) (hb : OkE b) (A B : Array Value) (HA : Hid (A = (ecells a).toArray)) (HB : Hid (B = (ecells b).toArray)) (x : Bool) (hx : x = false ↔ a = b) (w : World) : (binOp .neq 41 (.agg A) (.agg B)).run Tryd.prog w = .ok (.bool x) w := by
  rw [run_neq_struct, HA.out, HB.out, show (10000 : Nat) = 9994 + 6 from rfl, equalEntry 9994 a b ha hb (!x) (by rw [← hx]; simp)]; simp
theorem equalItem (d : Nat) (a b : ItT) (ha : OkE a.e) (hb : OkE b.e) (x : Bool) (hx : x = true ↔ a = b) (w : World) : (Op.equalIn (d + 7) 43 (.agg (icells a).toArray) (.agg (icells b).toArray)).run Tryd.prog w = .ok x w := by
  have hf : Tryd.prog.fieldsOf 43 = #[{ name := "Epoch", type := 3, offset := 0, embedded := false, tag := "", pkgPath := "", byteOffset := 0 }, { name := "Entry", type := 41, offset := 1, embedded := false, tag := "", pkgPath := "", byteOffset := 8 }] := by
    unfold Program.fieldsOf; rw [Tryd.underlying43]
  have p0a := fun W => part_int (icells a) 0 (.int .i64 a.p) rfl W
  have p0b := fun W => part_int (icells b) 0 (.int .i64 b.p) rfl W
  have x0 := fun W => run_equalIn_int (P := Tryd.prog) W (d + 5) 3 .i64 .i64 a.p b.p Tryd.underlying3
  obtain ⟨b0, h0⟩ : ∃ x, (a.p == b.p) = x := ⟨_, rfl⟩
  rw [h0] at x0
  have p1a := fun W => part_struct Tryd.underlying41 sizeE (icells a) 1 _ (icells_e a ha) W
  have p1b := fun W => part_struct Tryd.underlying41 sizeE (icells b) 1 _ (icells_e b hb) W
  obtain ⟨b1, h1⟩ : ∃ x : Bool, x = true ↔ a.e = b.e := by
    by_cases h : a.e = b.e
    · exact ⟨true, by simp [h]⟩
    · exact ⟨false, by simp [h]⟩
  have x1 : ∀ W, (Op.equalIn (d + 6) 41 (.agg (ecells a.e).toArray) (.agg (ecells b.e).toArray)).run Tryd.prog W = .ok b1 W := fun W => equalEntry (d + 0) a.e b.e ha hb b1 h1 W
  rw [run_equalIn_struct w (d + 6) 43 _ _ (by rw [hf]; exact Tryd.underlying43) heldI, hf]
  have hq : x = (b0 && b1) := by
    rw [Bool.eq_iff_iff, hx]
    simp only [Bool.and_eq_true]
    rw [← h0, h1]
    simp only [beq_iff_eq]
    constructor
    · rintro rfl; simp
    · rintro ⟨e0, e1⟩
      cases a; cases b
      simp only at e0 e1
      rw [e0, e1]
  rw [hq]
  obtain ⟨A, hA⟩ : ∃ A, (icells a).toArray = A := ⟨_, rfl⟩
  obtain ⟨B, hB⟩ : ∃ B, (icells b).toArray = B := ⟨_, rfl⟩
  rw [hA] at p0a p1a
  rw [hB] at p0b p1b
  rw [hA, hB]
  obtain ⟨D1, hD1⟩ : ∃ D, (ecells a.e).toArray = D := ⟨_, rfl⟩
  obtain ⟨E1, hE1⟩ : ∃ D, (ecells b.e).toArray = D := ⟨_, rfl⟩
  rw [hD1] at p1a x1
  rw [hE1] at p1b x1
  simp [Op.eqFields, p0a, p0b, x0, p1a, p1b, x1]
  cases b0 <;> cases b1 <;> simp
theorem eqItem (a b : ItT) (ha : OkE a.e) (hb : OkE b.e) (A B : Array Value) (HA : Hid (A = (icells a).toArray)) (HB : Hid (B = (icells b).toArray)) (x : Bool) (hx : x = true ↔ a = b) (w : World) : (binOp .eql 43 (.agg A) (.agg B)).run Tryd.prog w = .ok (.bool x) w := by
  rw [run_eql_struct, HA.out, HB.out, show (10000 : Nat) = 9993 + 7 from rfl, equalItem 9993 a b ha hb x hx]; rfl
structure CRow (W : World) (g o : Nat) (c : ClT) : Prop where
  r : W.cell? ⟨g, o, none⟩ = some (.int .i64 c.r)
  e : W.cell? ⟨g, o + 1, none⟩ = some (.int .i64 c.e)
  n : W.cell? ⟨g, o + 2, none⟩ = some (.int .i64 c.n)
  s : W.cell? ⟨g, o + 3, none⟩ = some (.int .i64 c.s)
  d : W.rangeAt g (o + 4) (cellsOf c.d)
theorem CRow.keep {W W' : World} {g o : Nat} {c : ClT} (h : CRow W g o c) (hb : Below W.heap.size W W') : CRow W' g o c := by
  have hg : g < W.heap.size := World.block_lt_of_cell? _ _ h.r
  exact ⟨(hb.cell hg).trans h.r, (hb.cell hg).trans h.e, (hb.cell hg).trans h.n, (hb.cell hg).trans h.s, range_keep hb h.d⟩
theorem crow_of {W : World} {g o : Nat} {c : ClT} (hr : W.rangeAt g o (ccells c)) : CRow W g o c := by
  refine ⟨?_, ?_, ?_, ?_, ?_⟩
  · have := hr 0 (.int .i64 c.r) rfl; simpa using this
  · exact hr 1 (.int .i64 c.e) rfl
  · exact hr 2 (.int .i64 c.n) rfl
  · exact hr 3 (.int .i64 c.s) rfl
  · intro j v hj
    have := hr (4 + j) v (by
      unfold ccells
      rw [List.getElem?_append_right (by simp)]
      simpa using hj)
    rw [Nat.add_assoc]; exact this
theorem crow_new (w : World) (c : ClT) (C : Array Value) (HC : Hid (C = (ccells c).toArray)) (t : TypeId) : CRow (w.alloc (.cells C t)) w.heap.size 0 c := by
  refine crow_of ?_
  intro j v hj
  rw [Nat.zero_add, cell_of_row _ _ j _ t (0, 0) (heap_alloc_new w _), HC.out]
  simpa using hj
theorem one_cellsC (c : ClT) : (ccells c).toArray.all (·.oneCell') = true := by
  rw [List.all_toArray, List.all_eq_true]
  intro v hv
  unfold ccells at hv
  simp only [List.mem_append, List.mem_cons, List.not_mem_nil, or_false] at hv
  rcases hv with (rfl | rfl | rfl | rfl) | hv
  · rfl
  · rfl
  · rfl
  · rfl
  · exact cellsOf_one _ v hv
theorem claim_row5 (c : ClT) (hd : c.d.length = 32) : ∃ C : Array Value, Hid (C = (ccells c).toArray) ∧ Hid ((Tryd.prog.info? 39).map (·.size) = some C.size) ∧ Hid (C.all (·.oneCell') = true) ∧ Hid (C.size = 36) := by
  refine ⟨(ccells c).toArray, hidk rfl, ?_, one_cellsC c, ?_⟩
  · show _ = _
    rw [sizeC]; simp [ccells_length c hd]
  · show _ = _
    simp [ccells_length c hd]
theorem wpList_mid_w {P : Program} {ops : Array Oper} {rest : List Oper} {op : Oper} {a : Act} {w : World} {Q : Exit → Act → World → Prop} (hw : Region.wanted op (yielded ops a.tmps) = true) (ty : TypeId) (x : Operand) (ho : op.op = .load ty x)
    (b o : Nat) (hx : a.eval x = .pointer (some ⟨b, o, none⟩)) (D : Array Value) (d : TypeDesc) (hc : w.rangeAt b o D.toList)
    (hu : P.underlying ty = some d) (hd : d.isRow = true) (hi : (P.info? ty).map (·.size) = some D.size)
    (h : wpList P ops Q rest (a.put op.dst (.agg D)) w) : wpList P ops Q (op :: rest) a w := by
  have hy : YieldsIf P ops (fun W => W = w) op (.agg D) a := yieldsIf_mid hw ty x ho b o hx D d (fun W e => by rw [e]; exact hc) hu hd hi
  rcases hy with ⟨_, hv⟩ | ⟨hf, _⟩
  · exact BigFrame.wpList_want hw fun K hK => by
      simp only [Oper.wp, hv w rfl, Oper.upon]
      first | exact .inl (hK _ _ h) | exact hK _ _ h
  · rw [hw] at hf; cases hf
def CameT (w W : World) (M C X : Array Value) : Prop := Below w.heap.size w W ∧ W.heap[w.heap.size]? = some (.cells M 23 (0, 0)) ∧ W.heap[w.heap.size + 1]? = some (.cells C 28 (0, 0)) ∧ W.heap[w.heap.size + 2]? = some (.cells X 28 (0, 0))
theorem CameT.keep {w W W' : World} {M C X : Array Value} (h : CameT w W M C X) (hb : Below W.heap.size W W') : CameT w W' M C X :=
  ⟨h.1.trans (hb.mono h.1.size), (hb.block _ (heap_lt h.2.1)).trans h.2.1, (hb.block _ (heap_lt h.2.2.1)).trans h.2.2.1, (hb.block _ (heap_lt h.2.2.2)).trans h.2.2.2⟩
structure ERow (W : World) (g o : Nat) (x : EnT) : Prop where
  k : W.cell? ⟨g, o, none⟩ = some (.int .i64 x.k)
  c : W.cell? ⟨g, o + 1, none⟩ = some (.int .i64 x.c)
  s : W.cell? ⟨g, o + 2, none⟩ = some (.int .i64 x.s)
  t : W.cell? ⟨g, o + 3, none⟩ = some (.string x.t)
  h : W.rangeAt g (o + 4) (scells x.h)
  m : W.rangeAt g (o + 73) (ccells x.m)
theorem ERow.keep {W W' : World} {g o : Nat} {x : EnT} (r : ERow W g o x) (hb : Below W.heap.size W W') : ERow W' g o x := by
  have hg : g < W.heap.size := World.block_lt_of_cell? _ _ r.k
  exact ⟨(hb.cell hg).trans r.k, (hb.cell hg).trans r.c, (hb.cell hg).trans r.s, (hb.cell hg).trans r.t, range_keep hb r.h, range_keep hb r.m⟩
theorem erow_of {W : World} {g o : Nat} {x : EnT} (ok : OkE x) (hr : W.rangeAt g o (ecells x)) : ERow W g o x := by
  have hs := scells_length x.h ok.h ok.g
  refine ⟨?_, ?_, ?_, ?_, ?_, ?_⟩
  · have := hr 0 (.int .i64 x.k) rfl; simpa using this
  · exact hr 1 (.int .i64 x.c) rfl
  · exact hr 2 (.int .i64 x.s) rfl
  · exact hr 3 (.string x.t) rfl
  · intro j v hj
    have hlt := (List.getElem?_eq_some_iff.1 hj).1
    have := hr (4 + j) v (by
      unfold ecells
      rw [List.append_assoc, List.getElem?_append_right (by simp), List.getElem?_append_left (by simpa using hlt)]
      simpa using hj)
    rw [Nat.add_assoc]; exact this
  · intro j v hj
    have := hr (73 + j) v (by
      unfold ecells
      rw [List.getElem?_append_right (by simp [hs])]
      simp only [List.length_append, hs, List.length_cons, List.length_nil]
      rw [show 73 + j - (0 + 1 + 1 + 1 + 1 + 69) = j by omega]
      exact hj)
    rw [Nat.add_assoc]; exact this
theorem erow_new (w : World) (x : EnT) (ok : OkE x) (X : Array Value) (HX : Hid (X = (ecells x).toArray)) (t : TypeId) : ERow (w.alloc (.cells X t)) w.heap.size 0 x := by
  refine erow_of ok ?_
  intro j v hj
  rw [Nat.zero_add, cell_of_row _ _ j _ t (0, 0) (heap_alloc_new w _), HX.out]
  simpa using hj
theorem right_user {x : EnT} (h : x.k = 1) : rightE x = ((decide (1 ≤ x.c) && decide (x.c ≤ 3)) && ((decide (1 ≤ x.s) && decide (x.s ≤ 1000000)) && (decide (x.t.size ≤ 200) && (eqSB x.h zeroS && eqCB x.m zeroC)))) := by
  unfold rightE
  rw [if_pos h, Bool.eq_iff_iff]
  simp only [Bool.and_eq_true, decide_eq_true_eq, and_assoc]
theorem right_anchor {x : EnT} (h : x.k = 2) : rightE x = (decide (x.c = 0) && (decide (x.s = 0) && (decide (x.t.size = 0) && (mayS x.h && eqCB x.m zeroC)))) := by
  unfold rightE
  rw [if_neg (by omega), if_pos h, Bool.eq_iff_iff]
  simp only [Bool.and_eq_true, decide_eq_true_eq, and_assoc]
theorem right_claim {x : EnT} (h : x.k = 3) : rightE x = (decide (x.c = 0) && (decide (x.s = 0) && (decide (x.t.size = 0) && (eqSB x.h zeroS && rightC x.m)))) := by
  unfold rightE
  rw [if_neg (by omega), if_neg (by omega), if_pos h, Bool.eq_iff_iff]
  simp only [Bool.and_eq_true, decide_eq_true_eq, and_assoc]
theorem right_none {x : EnT} (h1 : ¬ x.k = 1) (h2 : ¬ x.k = 2) (h3 : ¬ x.k = 3) : rightE x = false := by
  unfold rightE
  rw [if_neg h1, if_neg h2, if_neg h3]
theorem ERow.low {W W' : World} {g o B : Nat} {x : EnT} (r : ERow W g o x) (hb : Below B W W') (hg : g < B) : ERow W' g o x :=
  ⟨(hb.cell hg).trans r.k, (hb.cell hg).trans r.c, (hb.cell hg).trans r.s, (hb.cell hg).trans r.t, fun j v hj => (hb.cell hg).trans (r.h j v hj), fun j v hj => (hb.cell hg).trans (r.m j v hj)⟩
structure FO (w : World) (x : EnT) (v : Value) (fs : List (Int × ByteArray)) (W : World) : Prop where
  row : ERow W w.heap.size 0 x
  own : W.ownsRow (w.heap.size + 1) 110 2 v fs.length (fcells fs)
  nil : v = .slice none 0 0 ↔ fs = []
  below : Below w.heap.size w W
  size : w.heap.size + 1 ≤ W.heap.size
theorem FO.keep {w W W' : World} {x : EnT} {v : Value} {fs : List (Int × ByteArray)} (h : FO w x v fs W) (hb : Below W.heap.size W W') : FO w x v fs W' :=
  ⟨h.row.keep hb, h.own.kept (row := none) ⟨hb.os, hb.tape, hb.output, hb.size, fun j hj _ => hb.block j hj⟩ (by cases hv : v.ownBlock <;> simp), h.nil, h.below.trans (hb.mono h.below.size), Nat.le_trans h.size hb.size⟩
theorem FO.first {w W : World} {x : EnT} (hr : ERow W w.heap.size 0 x) (hb : Below w.heap.size w W) (hs : w.heap.size + 1 ≤ W.heap.size) (n : ByteArray) : FO w x (.slice (some ⟨W.heap.size, 0, none⟩) 1 1) [(1, n)] (W.alloc (.cells #[.int .i64 1, .string n] 110)) := by
  have h0 : Below W.heap.size W (W.alloc (.cells #[.int .i64 1, .string n] 110)) := (Below.refl _ _).alloc (Nat.le_refl _) _
  refine ⟨hr.keep h0, ⟨rfl, .inr ⟨W.heap.size, 1, #[.int .i64 1, .string n], rfl, hs, heap_alloc_new W _, Nat.le_refl _, by unfold maxLen; decide, rfl, rfl⟩⟩, ?_, hb.trans (h0.mono hb.size), by simp; omega⟩
  constructor
  · intro e; cases e
  · intro e; cases e
theorem FO.app {w W : World} {x : EnT} {v : Value} {fs : List (Int × ByteArray)} (h : FO w x v fs W) (hl : fs.length ≤ 1000) (t : Int) (n : ByteArray) :
    ∃ v' w1, (Builtin.append_ #[112, 112] 112 #[v, .slice (some ⟨W.heap.size, 0, none⟩) 1 1]).run Tryd.prog (W.alloc (.cells #[.int .i64 t, .string n] 110)) = .ok v' w1 ∧ FO w x v' (fs ++ [(t, n)]) w1 := by
  obtain ⟨v', w1, hr, ho, hb, _, _⟩ := run_append_field W (w.heap.size + 1) v fs (t, n) h.own h.nil h.size (by omega)
  refine ⟨v', w1, hr, h.row.low hb (by omega), by rw [List.length_append]; exact ho, ?_, h.below.trans (hb.mono (by omega)), Nat.le_trans h.size hb.size⟩
  constructor
  · intro e
    subst e
    rcases ho.2 with ⟨_, h0⟩ | ⟨g, cap, cur, e, _⟩
    · omega
    · cases e
  · intro e; simp at e
theorem fieldsE_small {x : EnT} (ok : OkE x) (h : rightE x = true) : (∀ f ∈ fieldsE x, f.2.size ≤ maxLen) ∧ (fieldsE x).length ≤ 400 := by
  have hb : ∀ n : Nat, n ≤ 1000 → n ≤ maxLen := fun n hn => by unfold maxLen; omega
  rcases right_kinds h with ⟨hk, h1⟩ | ⟨hk, h1⟩ | ⟨hk, h1⟩
  · rw [fields_user hk]
    refine ⟨fun f hf => ?_, by simp⟩
    simp only [List.mem_cons, List.not_mem_nil, or_false] at hf
    rcases hf with rfl | rfl | rfl | rfl
    · exact hb (nOf 1).size (Nat.le_trans (nOf_size _) (by omega))
    · exact hb (nOf (x.c)).size (Nat.le_trans (nOf_size _) (by omega))
    · exact hb (nOf (x.s)).size (Nat.le_trans (nOf_size _) (by omega))
    · exact hb _ (by show x.t.size ≤ 1000; omega)
  · rw [fields_anchor hk]
    refine ⟨fun f hf => ?_, by simp⟩
    simp only [List.mem_cons, List.not_mem_nil, or_false] at hf
    rcases hf with rfl | rfl
    · exact hb (nOf 2).size (Nat.le_trans (nOf_size _) (by omega))
    · exact hb _ (by show (bA (signB x.h)).size ≤ 1000; rw [bA_size]; have := signB_length x.h ok.h ok.g; omega)
  · rw [fields_claim hk]
    refine ⟨fun f hf => ?_, by simp⟩
    simp only [List.mem_cons, List.not_mem_nil, or_false] at hf
    rcases hf with rfl | rfl
    · exact hb (nOf 3).size (Nat.le_trans (nOf_size _) (by omega))
    · exact hb _ (by show (bA (claimB x.m)).size ≤ 1000; rw [bA_size]; have := claimB_length x.m ok.m; omega)
structure InC (c : ClT) : Prop where
  d : c.d.length = 32
  r : In64 c.r
  e : In64 c.e
  n : In64 c.n
  s : In64 c.s
structure InE (x : EnT) : Prop where
  k : In64 x.k
  c : In64 x.c
  s : In64 x.s
  t : x.t.size ≤ 100000
  h : InS x.h
  m : InC x.m
theorem InE.ok {x : EnT} (h : InE x) : OkE x := ⟨h.h.h.d, h.h.g, h.m.d⟩
structure InI (x : ItT) : Prop where
  p : In64 x.p
  e : InE x.e
def cB (c : ClT) : List UInt8 := if rightC c = true then claimB c else []
def cE (c : ClT) : Int := if rightC c = true then 0 else 60
def eB (x : EnT) : List UInt8 := if rightE x = true then entryB x else []
def eE (x : EnT) : Int := if rightE x = true then 0 else 60
def iB (x : ItT) : List UInt8 := if rightI x = true then itemB x else []
def iE (x : ItT) : Int := if rightI x = true then 0 else 60
def leafO (x : ItT) : List UInt8 := if rightI x = true then leafI x else List.replicate 32 0
structure EntryC : Prop where
  checkC : ∀ (c : ClT) (hc : InC c) (w : World) (C : Array Value) (HC : Hid (C = (ccells c).toArray)),
    Calls Tryd.prog 86 #[.agg C] w fun e w' => e = .returned (.int .i64 (cE c)) ∧ Below w.heap.size w w'
  putC : ∀ (c : ClT) (hc : InC c) (w : World) (C : Array Value) (HC : Hid (C = (ccells c).toArray)),
    Calls Tryd.prog 87 #[.agg C] w fun e w' => BytesE (cB c) (cE c) e w' ∧ Below w.heap.size w w'
  check : ∀ (x : EnT) (hx : InE x) (w : World) (X : Array Value) (HX : Hid (X = (ecells x).toArray)),
    Calls Tryd.prog 50 #[.agg X] w fun e w' => e = .returned (.int .i64 (eE x)) ∧ Below w.heap.size w w'
  put : ∀ (x : EnT) (hx : InE x) (w : World) (X : Array Value) (HX : Hid (X = (ecells x).toArray)),
    Calls Tryd.prog 51 #[.agg X] w fun e w' => BytesE (eB x) (eE x) e w' ∧ Below w.heap.size w w'
  putI : ∀ (x : ItT) (hx : InI x) (w : World) (X : Array Value) (HX : Hid (X = (icells x).toArray)),
    Calls Tryd.prog 34 #[.agg X] w fun e w' => BytesE (iB x) (iE x) e w' ∧ Below w.heap.size w w'
  leaf : ∀ (x : ItT) (hx : InI x) (w : World) (X D : Array Value) (HX : Hid (X = (icells x).toArray)) (hT : TabH w) (HD : Hid (D = (cellsOf (leafO x)).toArray)),
    Calls Tryd.prog 18 #[.agg X] w fun e w' => e = .returned (.tuple #[.agg D, .int .i64 (iE x)]) ∧ Below w.heap.size w w'
theorem zeroC_in : InC zeroC := ⟨rfl, by unfold In64; decide, by unfold In64; decide, by unfold In64; decide, by unfold In64; decide⟩
theorem zeroE_in : InE zeroE := ⟨by unfold In64; decide, by unfold In64; decide, by unfold In64; decide, by show 0 ≤ 100000; omega, zeroS_in, zeroC_in⟩
theorem eB_length (x : EnT) (ok : OkE x) : (eB x).length ≤ 240 := by
  unfold eB
  split
  · rename_i h; exact entryB_length h ok
  · exact Nat.zero_le _
theorem eE_two (x : EnT) : eE x = 0 ∧ rightE x = true ∨ eE x = 60 ∧ rightE x = false := by
  unfold eE
  cases rightE x
  · exact .inr ⟨rfl, rfl⟩
  · exact .inl ⟨rfl, rfl⟩
theorem iE_two (x : ItT) : iE x = 0 ∧ rightI x = true ∨ iE x = 60 ∧ rightI x = false := by
  unfold iE
  cases rightI x
  · exact .inr ⟨rfl, rfl⟩
  · exact .inl ⟨rfl, rfl⟩
structure IRow (W : World) (g : Nat) (p : Int) (Q : Array Value) : Prop where
  p : W.cell? ⟨g, 0, none⟩ = some (.int .i64 p)
  e : W.rangeAt g 1 Q.toList
theorem IRow.keep {W W' : World} {g : Nat} {p : Int} {Q : Array Value} (r : IRow W g p Q) (hb : Below W.heap.size W W') : IRow W' g p Q :=
  ⟨(hb.cell (World.block_lt_of_cell? _ _ r.p)).trans r.p, range_keep hb r.e⟩
theorem infoE : (Tryd.prog.info? 41).map (fun i => (i.zero, i.size)) = some (some (.agg (ecells zeroE).toArray), 109) := by kernel_rfl
theorem builtE0 : Tryd.prog.built 41 [] = some (ecells zeroE).toArray := by kernel_rfl
theorem one_cellsE (x : EnT) : (ecells x).toArray.all (·.oneCell') = true := by
  rw [List.all_toArray, List.all_eq_true]
  intro v hv
  unfold ecells at hv
  simp only [List.mem_append, List.mem_cons, List.not_mem_nil, or_false] at hv
  rcases hv with ((rfl | rfl | rfl | rfl) | hv) | hv
  · rfl
  · rfl
  · rfl
  · rfl
  · have := one_cellsS x.h
    rw [List.all_toArray, List.all_eq_true] at this
    exact this v hv
  · have := one_cellsC x.m
    rw [List.all_toArray, List.all_eq_true] at this
    exact this v hv
theorem wpList_build_some {P : Program} {ops : Array Oper} {rest : List Oper} {o : Oper} {a : Act} {w : World} {Q : Exit → Act → World → Prop} (hg : o.guard = none) (t : TypeId) (parts : Array (Nat × Operand)) (ho : o.op = .build t parts) (vals : List (Nat × Value)) (hv : (parts.toList.map fun p => (p.1, a.eval p.2)) = vals)
    (cs : Array Value) (hb : P.built t vals = some cs) (h : wpList P ops Q rest (a.put o.dst (.agg cs)) w) : wpList P ops Q (o :: rest) a w := by
  refine wpList_build_row hg t parts ho cs ?_ h
  rw [← hb, ← hv, Array.toList_map]
theorem infoI : (Tryd.prog.info? 43).map (fun i => (i.zero, i.size)) = some (some (.agg (icells zeroI).toArray), 110) := by kernel_rfl
theorem builtI0 : Tryd.prog.built 43 [] = some (icells zeroI).toArray := by kernel_rfl
theorem one_cellsI (x : ItT) : (icells x).toArray.all (·.oneCell') = true := by
  have := one_cellsE x.e
  rw [List.all_toArray, List.all_eq_true] at this ⊢
  intro v hv
  unfold icells at hv
  simp only [List.mem_append, List.mem_cons, List.not_mem_nil, or_false] at hv
  rcases hv with rfl | hv
  · rfl
  · exact this v hv
theorem entry_row (x : EnT) (ok : OkE x) : ∃ C : Array Value, Hid (C = (ecells x).toArray) ∧ Hid ((Tryd.prog.info? 41).map (·.size) = some C.size) ∧ Hid (C.all (·.oneCell') = true) ∧ Hid (C.size = 109) := by
  refine ⟨(ecells x).toArray, hidk rfl, ?_, one_cellsE x, ?_⟩
  · show _ = _
    rw [sizeE]; simp [ecells_length x ok]
  · show _ = _
    simp [ecells_length x ok]
theorem item_row (x : ItT) (ok : OkE x.e) : ∃ C : Array Value, Hid (C = (icells x).toArray) ∧ Hid ((Tryd.prog.info? 43).map (·.size) = some C.size) ∧ Hid (C.all (·.oneCell') = true) ∧ Hid (C.size = 110) := by
  refine ⟨(icells x).toArray, hidk rfl, ?_, one_cellsI x, ?_⟩
  · show _ = _
    rw [sizeI]; simp [icells_length x ok]
  · show _ = _
    simp [icells_length x ok]
theorem noughtsE : ∃ Z : Array Value, Hid (Z = (ecells zeroE).toArray) ∧ Hid ((Tryd.prog.info? 41).map (fun i => (i.zero, i.size)) = some (some (.agg Z), Z.size)) ∧ Hid (Tryd.prog.built 41 [] = some Z) ∧ Hid (Z.size = 109) :=
  ⟨(ecells zeroE).toArray, hidk rfl, infoE, builtE0, hidk rfl⟩
theorem noughtsI : ∃ Z : Array Value, Hid (Z = (icells zeroI).toArray) ∧ Hid ((Tryd.prog.info? 43).map (fun i => (i.zero, i.size)) = some (some (.agg Z), Z.size)) ∧ Hid (Tryd.prog.built 43 [] = some Z) ∧ Hid (Z.size = 110) :=
  ⟨(icells zeroI).toArray, hidk rfl, infoI, builtI0, hidk rfl⟩
theorem builtI (x : ItT) (ok : OkE x.e) (C R : Array Value) (HC : Hid (C = (ecells x.e).toArray)) (HR : Hid (R = (icells x).toArray)) : Tryd.prog.built 43 [(0, .int .i64 x.p), (1, .agg C)] = some R := by
  have hi := infoI
  have hzl := ecells_length zeroE zeroE_ok
  cases hq : Tryd.prog.info? 43 with
  | none => rw [hq] at hi; cases hi
  | some i =>
    rw [hq] at hi
    simp only [Option.map_some, Option.some.injEq, Prod.mk.injEq] at hi
    have hE := sizeE
    have h3 : (Tryd.prog.info? 3).map (·.size) = some 1 := by kernel_rfl
    cases hqE : Tryd.prog.info? 41 with
    | none => rw [hqE] at hE; cases hE
    | some iE =>
      cases hq3 : Tryd.prog.info? 3 with
      | none => rw [hq3] at h3; cases h3
      | some i3 =>
        rw [hqE] at hE
        rw [hq3] at h3
        simp only [Option.map_some, Option.some.injEq] at hE h3
        unfold Program.built
        simp only [hq, Tryd.underlying43, hi.1, List.mapM_cons, List.mapM_nil, hqE, hq3, hE, h3, Option.map_some, Option.bind_eq_bind, Option.bind_some, Option.pure_def]
        show Instr.fill _ (icells zeroI).toArray _ = some R
        have hc : C.size = 109 := by rw [HC.out]; simp [ecells_length x.e ok]
        refine (fill_val _ 0 0 1 (.int .i64 x.p) #[.int .i64 x.p] _ [] [.int .i64 0] (ecells zeroE) _ rfl rfl rfl (by simp [icells, zeroI]) rfl rfl).trans ?_
        refine (fill_val _ 1 1 109 (.agg C) C _ [.int .i64 x.p] (ecells zeroE) [] _ rfl rfl hc (by simp) rfl hzl).trans ?_
        simp only [Instr.fill, List.append_nil, Option.some.injEq]
        rw [HR.out, HC.out]
        rfl
structure CmE (x : EnT) : Prop where
  k : In64 x.k
  c : In64 x.c
  s : In64 x.s
  t : x.t.size ≤ maxLen
  h : InS x.h
  m : InC x.m
theorem CmE.ok {x : EnT} (h : CmE x) : OkE x := ⟨h.h.h.d, h.h.g, h.m.d⟩
theorem CmE.in {x : EnT} (h : CmE x) (ht : ¬ 16384 < x.t.size) : InE x := ⟨h.k, h.c, h.s, by omega, h.h, h.m⟩
structure CmI (x : ItT) : Prop where
  p : In64 x.p
  e : CmE x.e
theorem CmI.in {x : ItT} (h : CmI x) (ht : ¬ 16384 < x.e.t.size) : InI x := ⟨h.p, h.e.in ht⟩
end Go.Proofs.YtkmedlfbkddmoaaDoor
/- Variables of many cells within a fence. -/
namespace Go.Proofs.YtkmedlfbkddmoaaDoor
open Go.RowKit Go.Shelf Nums Sums
set_option linter.unusedVariables false
set_option linter.unusedSimpArgs false
set_option maxRecDepth 100000
theorem wpListIn_new_var {F : Fence} {n : Nat} {P : Program} {ops : Array Oper} {rest : List Oper} {o : Oper} {a : Act} {w : World} {Q : Exit → Act → World → Prop} (hg : o.guard = none) (t : TypeId) (ho : o.op = .alloc t)
    (cs : Array Value) (hz : (P.info? t).map (fun i => (i.zero, i.size)) = some (some (.agg cs), cs.size)) (h : ∀ g w', Hid (Made g cs t w w') → wpListIn F n P ops Q rest (a.put o.dst (.pointer (some ⟨g, 0, none⟩))) w') : wpListIn F n P ops Q (o :: rest) a w := by
  refine wpListIn_plain hg fun K hK => ?_
  have hk := hK _ _ (h w.heap.size _ ⟨rfl, heap_alloc_new w _, (Below.refl _ _).alloc (Nat.le_refl _) _⟩)
  refine ⟨fun f hf => (by simp [Oper.about, ho] at hf), ?_⟩
  rw [Oper.semAt_plain F _ _ (by rw [ho]; intro c hc; cases hc)]
  unfold execOp
  cases hq : P.info? t with
  | none => simp [hq] at hz
  | some i =>
    simp [hq] at hz
    simp [ho, Instr.alloc, newVar, zeroValue, typeInfo, hq, hz.1, go_sem]
    exact hk
theorem wpListIn_set_var {F : Fence} {n : Nat} {P : Program} {ops : Array Oper} {rest : List Oper} {o : Oper} {a : Act} {w : World} {Q : Exit → Act → World → Prop} (hgd : o.guard = none) (t : TypeId) (x y : Operand) (ho : o.op = .store t x y)
    (g : Nat) (D : Array Value) (hx : a.eval x = .pointer (some ⟨g, 0, none⟩)) (hy : a.eval y = .agg D) (t' : TypeId) (Z : Array Value) (hg : w.heap[g]? = some (.cells Z t' (0, 0))) (hi : (P.info? t).map (·.size) = some D.size) (hold : Z.size = D.size) (h1 : D.all (·.oneCell') = true)
    (h : ∀ w', Hid (Wrote g D t' w w') → wpListIn F n P ops Q rest (a.put o.dst undef) w') : wpListIn F n P ops Q (o :: rest) a w := by
  refine wpListIn_plain hgd fun K hK => ?_
  have hk := hK _ _ (h _ (wrote_row hg))
  refine ⟨fun f hf => (by simp [Oper.about, ho] at hf), ?_⟩
  rw [Oper.semAt_plain F _ _ (by rw [ho]; intro c hc; cases hc)]
  unfold execOp
  simp [ho, hx, hy, Instr.storeAt, Instr.sureAddr, Sem.run_bind, Result.andThen, run_storeVar_row w g t' t Z D hg hi hold h1]
  exact hk
theorem wpListIn_mid {F : Fence} {n : Nat} {P : Program} {ops : Array Oper} {rest : List Oper} {op : Oper} {a : Act} {w : World} {Q : Exit → Act → World → Prop} (hw : Region.wanted op (yielded ops a.tmps) = true) (ty : TypeId) (x : Operand) (ho : op.op = .load ty x)
    (b o : Nat) (hx : a.eval x = .pointer (some ⟨b, o, none⟩)) (D : Array Value) (d : TypeDesc) (hc : w.rangeAt b o D.toList)
    (hu : P.underlying ty = some d) (hd : d.isRow = true) (hi : (P.info? ty).map (·.size) = some D.size)
    (h : wpListIn F n P ops Q rest (a.put op.dst (.agg D)) w) : wpListIn F n P ops Q (op :: rest) a w := by
  refine BigFrame.wpListIn_want hw fun K hK => ?_
  have hk := hK _ _ h
  refine ⟨fun f hf => (by simp [Oper.about, ho] at hf), ?_⟩
  rw [Oper.semAt_plain F _ _ (by rw [ho]; intro c hc; cases hc)]
  unfold execOp
  simp only [ho, hx, Instr.loadAt, Instr.sureAddr, Sem.run_bind, Sem.run_pure, Result.andThen_ok, run_loadVar_mid w b o ty D.toList d hc hu hd (by simpa using hi)]
  exact hk
end Go.Proofs.YtkmedlfbkddmoaaDoor
/- What the program takes of a row, and that it is the thing whose bytes these are if it is laid as them. -/
namespace Go.Proofs.YtkmedlfbkddmoaaDoor
open Nums Sums
set_option linter.unusedVariables false
set_option maxRecDepth 100000
end Go.Proofs.YtkmedlfbkddmoaaDoor
/- What the small calls of package entry answer: within, CheckClaim, numberField; bytes.Equal; what a row's data, number and digest answer. -/
namespace Go.Proofs.YtkmedlfbkddmoaaDoor
open Go.RowKit Sums Nums
set_option linter.unusedVariables false
set_option linter.unusedSimpArgs false
set_option maxRecDepth 100000
theorem eWithin_any (n a b : Int) (w : World) : Calls Tryd.prog 52 #[.int .i64 n, .int .i64 a, .int .i64 b] w fun e w' => e = .returned (.bool (decide (a ≤ n) && decide (n ≤ b))) ∧ w' = w := by
  by_cases h1 : a ≤ n
  · have d1 : decide (a ≤ n) = true := by rw [decide_eq_true_eq]; exact h1
    obtain ⟨x, hx⟩ : ∃ x, decide (n ≤ b) = x := ⟨_, rfl⟩
    rw [d1, hx]
    clear h1
    go_enter Tryd.func52, Tryd.ntmps52
    go_wp2
    go_ret
    exact ⟨rfl, rfl⟩
  · have d1 : decide (a ≤ n) = false := by rw [decide_eq_false_iff_not]; exact h1
    rw [d1]
    clear h1
    go_enter Tryd.func52, Tryd.ntmps52
    go_wp2
    go_ret
    exact ⟨rfl, rfl⟩
set_option maxHeartbeats 2000000 in
theorem eCheckC_any (c : ClT) (w : World) (C : Array Value) (HC : Hid (C = (ccells c).toArray)) :
    Calls Tryd.prog 86 #[.agg C] w fun e w' => e = .returned (.int .i64 (cE c)) ∧ Below w.heap.size w w' := by
  have HR := crow_new w c C HC 39
  have HB : Hid (Below w.heap.size w (w.alloc (.cells C 39))) := (Below.refl _ _).alloc (Nat.le_refl _) _
  have hnot : ∀ (x : Bool) (w : World), (Op.unary .not (.bool x)).run Tryd.prog w = .ok (.bool (!x)) w := fun _ _ => rfl
  have c0 := HR.r
  have c1 := HR.e
  have c2 := HR.n
  have c3 := HR.s
  simp only [Nat.zero_add] at c1 c2 c3
  have WI : Hid (∀ (n a b : Int) (W : World), Calls Tryd.prog 52 #[.int .i64 n, .int .i64 a, .int .i64 b] W fun e w' => e = .returned (.bool (decide (a ≤ n) && decide (n ≤ b))) ∧ w' = W) := eWithin_any
  obtain ⟨b1, hb1⟩ : ∃ b, (decide (1 ≤ c.r) && decide (c.r ≤ 5)) = b := ⟨_, rfl⟩
  obtain ⟨b2, hb2⟩ : ∃ b, (decide (1 ≤ c.e) && decide (c.e ≤ 900000000)) = b := ⟨_, rfl⟩
  obtain ⟨b3, hb3⟩ : ∃ b, (decide (1 ≤ c.n) && decide (c.n ≤ 3)) = b := ⟨_, rfl⟩
  obtain ⟨b4, hb4⟩ : ∃ b, (decide (0 ≤ c.s) && decide (c.s ≤ 100000)) = b := ⟨_, rfl⟩
  have W1 := hidk (WI.out c.r 1 5)
  have W2 := hidk (WI.out c.e 1 900000000)
  have W3 := hidk (WI.out c.n 1 3)
  have W4 := hidk (WI.out c.s 0 100000)
  rw [hb1] at W1
  rw [hb2] at W2
  rw [hb3] at W3
  rw [hb4] at W4
  have hE : cE c = if (b1 && (b2 && (b3 && b4))) = true then 0 else 60 := by
    rw [← hb1, ← hb2, ← hb3, ← hb4]
    unfold cE rightC
    simp only [Bool.and_assoc]
  rw [hE]
  obtain ⟨r, hr⟩ : ∃ r, r = c.r := ⟨_, rfl⟩
  obtain ⟨e, he⟩ : ∃ r, r = c.e := ⟨_, rfl⟩
  obtain ⟨n, hn⟩ : ∃ r, r = c.n := ⟨_, rfl⟩
  obtain ⟨s, hs⟩ : ∃ r, r = c.s := ⟨_, rfl⟩
  rw [← hr] at c0 W1
  rw [← he] at c1 W2
  rw [← hn] at c2 W3
  rw [← hs] at c3 W4
  clear hE hb1 hb2 hb3 hb4 WI HR hr he hn hs HC
  cases b1
  · go_enter Tryd.func86, Tryd.ntmps86
    go_wp2_with fail
    refine (W1.out _).mono ?_
    rintro e w1 ⟨rfl, rfl⟩
    go_wp2
    go_ret
    exact ⟨rfl, HB.out⟩
  cases b2
  · go_enter Tryd.func86, Tryd.ntmps86
    go_wp2_with fail
    refine (W1.out _).mono ?_
    rintro e w1 ⟨rfl, rfl⟩
    go_wp2_with fail
    refine (W2.out _).mono ?_
    rintro e w1 ⟨rfl, rfl⟩
    go_wp2
    go_ret
    exact ⟨rfl, HB.out⟩
  cases b3
  · go_enter Tryd.func86, Tryd.ntmps86
    go_wp2_with fail
    refine (W1.out _).mono ?_
    rintro e w1 ⟨rfl, rfl⟩
    go_wp2_with fail
    refine (W2.out _).mono ?_
    rintro e w1 ⟨rfl, rfl⟩
    go_wp2_with fail
    refine (W3.out _).mono ?_
    rintro e w1 ⟨rfl, rfl⟩
    go_wp2
    go_ret
    exact ⟨rfl, HB.out⟩
  cases b4
  · go_enter Tryd.func86, Tryd.ntmps86
    go_wp2_with fail
    refine (W1.out _).mono ?_
    rintro e w1 ⟨rfl, rfl⟩
    go_wp2_with fail
    refine (W2.out _).mono ?_
    rintro e w1 ⟨rfl, rfl⟩
    go_wp2_with fail
    refine (W3.out _).mono ?_
    rintro e w1 ⟨rfl, rfl⟩
    go_wp2_with fail
    refine (W4.out _).mono ?_
    rintro e w1 ⟨rfl, rfl⟩
    go_wp2
    go_ret
    exact ⟨rfl, HB.out⟩
  · go_enter Tryd.func86, Tryd.ntmps86
    go_wp2_with fail
    refine (W1.out _).mono ?_
    rintro e w1 ⟨rfl, rfl⟩
    go_wp2_with fail
    refine (W2.out _).mono ?_
    rintro e w1 ⟨rfl, rfl⟩
    go_wp2_with fail
    refine (W3.out _).mono ?_
    rintro e w1 ⟨rfl, rfl⟩
    go_wp2_with fail
    refine (W4.out _).mono ?_
    rintro e w1 ⟨rfl, rfl⟩
    go_wp2
    go_ret
    exact ⟨rfl, HB.out⟩
set_option maxHeartbeats 2000000 in
theorem eNum_any (t n : Int) (w : World) : Calls Tryd.prog 54 #[.int .i64 t, .int .i64 n] w fun e w' => e = .returned (.agg #[.int .i64 t, .string (nOf n)]) ∧ Below w.heap.size w w' := by
  obtain ⟨x, Hx⟩ : ∃ x : ByteArray, Hid (x = nOf n) := ⟨nOf n, hidk rfl⟩
  obtain ⟨E, HE⟩ : ∃ E, Hid (E = neOf n) := ⟨_, hidk rfl⟩
  have N1 : Hid (∀ W, Calls Tryd.prog 77 #[.int .i64 n] W fun e w' => e = .returned (.tuple #[.string x, .int .i64 E]) ∧ Below W.heap.size W w') := fun W => by rw [Hx.out, HE.out]; exact number_any n W
  rw [← Hx.out]
  clear Hx HE
  go_enter Tryd.func54, Tryd.ntmps54
  go_wp2_with fail
  refine (N1.out _).mono ?_
  rintro e w1 ⟨rfl, hb1⟩
  have hlt : w.heap.size < w1.heap.size := by have := hb1.size; simp at this; omega
  have hg : w1.heap[w.heap.size]? = some (.cells #[.int .i64 0, .string ⟨#[]⟩] 110 (0, 0)) := (hb1.block _ (by simp)).trans (heap_alloc_new w _)
  have c0 : w1.cell? ⟨w.heap.size, 0, none⟩ = some (.int .i64 0) := by rw [cell_of_row w1 _ 0 _ 110 (0, 0) hg]; rfl
  have c1 : w1.cell? ⟨w.heap.size, 1, none⟩ = some (.string ⟨#[]⟩) := by rw [cell_of_row w1 _ 1 _ 110 (0, 0) hg]; rfl
  have HB : Hid (Below w.heap.size w w1) := ((Below.refl _ _).alloc (Nat.le_refl _) _).trans (hb1.mono (by simp))
  have f0 : w1.frozen? ⟨w.heap.size, 0, none⟩ = false := frozen_of_row w1 _ 0 _ _ hg
  have f1 : w1.frozen? ⟨w.heap.size, 1, none⟩ = false := frozen_of_row w1 _ 1 _ _ hg
  clear hb1
  have HG2 := hidk (Go.heap_setCell_same _ _ 1 _ _ (.string x) (Go.heap_setCell_same w1 _ 0 _ _ (.int .i64 t) hg))
  clear hg
  go_wp2
  refine bodyPost_ret (v := .agg #[.int .i64 t, .string x]) ?_ rfl ⟨rfl, (HB.out.setCell (Nat.le_refl _) _).setCell (Nat.le_refl _) _⟩
  exact results_cell_row (p := 4) (ty := 110) rfl _ _ w.heap.size 110 #[.int .i64 t, .string x] (0, 0) _ rfl HG2.out Tryd.underlying110 rfl (by kernel_rfl)
theorem eReads_no (w : World) : Reads w none 0 0 [] := ⟨rfl, Nat.le_refl _, by decide, .inl ⟨rfl, rfl⟩⟩
theorem eBytes_no (w : World) (E : Int) : BytesE [] E (.returned (.tuple #[.slice none 0 0, .int .i64 E])) w := ⟨none, 0, rfl, eReads_no w⟩
theorem eRow_ok {fs : List (Int × ByteArray)} (h : layE 0 fs = 0) : rowOf fs = rowB fs := by unfold rowOf; rw [if_pos h]
theorem eLay_lit (W : World) (cs : Array Value) (fs : List (Int × ByteArray)) (n : Nat) (l : List UInt8) (hcs : cs.toList = fcells fs) (hn : fs.length = n) (h4 : n ≤ 400) (hm : ∀ f ∈ fs, f.2.size ≤ maxLen) (hk : layE 0 fs = 0) (hl : rowB fs = l) :
    Calls Tryd.prog 53 #[.slice (some ⟨W.heap.size, 0, none⟩) n n] (W.alloc (.cells cs 110)) fun e w' => ∃ a c, e = .returned (.tuple #[.slice a l.length c, .int .i64 0]) ∧ Reads w' a l.length c l ∧ Below W.heap.size W w' := by
  subst hn
  have hF := freads_lit W cs (0, 0) fs hcs (by omega) hm
  rw [← alloc_size W (.cells cs 110)] at hF
  refine (lay_reads (some ⟨W.heap.size, 0, none⟩) fs.length fs.length fs _ hF h4 (k := 0) (l := l) hk (by rw [eRow_ok hk, hl])).mono ?_
  rintro e w' ⟨a, c, he, hrd, hb⟩
  exact ⟨a, c, he, hrd, ((Below.refl _ _).alloc (Nat.le_refl _) _).trans (hb.mono (by simp))⟩
set_option maxHeartbeats 2000000 in
theorem ePutC_no (c : ClT) (hd : c.d.length = 32) (hr : rightC c = false) (w : World) (C : Array Value) (HC : Hid (C = (ccells c).toArray)) :
    Calls Tryd.prog 87 #[.agg C] w fun e w' => BytesE [] 60 e w' ∧ Below w.heap.size w w' := by
  have HSC : Hid ((Tryd.prog.info? 39).map (·.size) = some C.size) := by show _ = _; rw [sizeC, HC.out]; simp [ccells_length c hd]
  have HR : Hid ((w.alloc (.cells C 39)).heap[w.heap.size]? = some (.cells C 39 (0, 0))) := heap_alloc_new w _
  have HB : Hid (Below w.heap.size w (w.alloc (.cells C 39))) := (Below.refl _ _).alloc (Nat.le_refl _) _
  have K1 : Hid (∀ W, Calls Tryd.prog 86 #[.agg C] W fun e w' => e = .returned (.int .i64 60) ∧ Below W.heap.size W w') := fun W => by
    have := eCheckC_any c W C HC
    rwa [show cE c = 60 by unfold cE; rw [hr]; rfl] at this
  clear HC hr
  go_enter Tryd.func87, Tryd.ntmps87
  go_wp2_with (first
    | (show aD 5 _ _ _ _ _ _ _ _ _ _ _; refine wpList_load_row rfl 39 (.tmp 1) rfl w.heap.size rfl 39 C (0, 0) _ HR.out Tryd.underlying39 rfl HSC.out ?_; try simp only [Act.put, pS1, pS2, pS3])
    | fail)
  refine (K1.out _).mono ?_
  rintro e w1 ⟨rfl, hb1⟩
  have HB1 := hidk (HB.out.trans (hb1.mono HB.out.size))
  clear hb1
  go_wp2
  go_ret2
  exact ⟨eBytes_no _ _, HB1.out⟩
set_option maxHeartbeats 8000000 in
theorem ePutC_yes (c : ClT) (hd : c.d.length = 32) (hr : rightC c = true) (w : World) (C : Array Value) (HC : Hid (C = (ccells c).toArray)) :
    Calls Tryd.prog 87 #[.agg C] w fun e w' => BytesE (claimB c) 0 e w' ∧ Below w.heap.size w w' := by
  have HSC : Hid ((Tryd.prog.info? 39).map (·.size) = some C.size) := by show _ = _; rw [sizeC, HC.out]; simp [ccells_length c hd]
  have HRW : Hid ((w.alloc (.cells C 39)).heap[w.heap.size]? = some (.cells C 39 (0, 0))) := heap_alloc_new w _
  have K1 : Hid (∀ W, Calls Tryd.prog 86 #[.agg C] W fun e w' => e = .returned (.int .i64 0) ∧ Below W.heap.size W w') := fun W => by
    have := eCheckC_any c W C HC
    rwa [show cE c = 0 by unfold cE; rw [hr]; rfl] at this
  obtain ⟨r, Hr⟩ : ∃ r, Hid (r = c.r) := ⟨c.r, hidk rfl⟩
  obtain ⟨e, He⟩ : ∃ r, Hid (r = c.e) := ⟨c.e, hidk rfl⟩
  obtain ⟨n, Hn⟩ : ∃ r, Hid (r = c.n) := ⟨c.n, hidk rfl⟩
  obtain ⟨s, Hs⟩ : ∃ r, Hid (r = c.s) := ⟨c.s, hidk rfl⟩
  obtain ⟨n1, Hn1⟩ : ∃ s : ByteArray, Hid (s = nOf r) := ⟨nOf r, hidk rfl⟩
  obtain ⟨n2, Hn2⟩ : ∃ s : ByteArray, Hid (s = nOf e) := ⟨nOf e, hidk rfl⟩
  obtain ⟨n3, Hn3⟩ : ∃ x : ByteArray, Hid (x = nOf n) := ⟨nOf n, hidk rfl⟩
  obtain ⟨n4, Hn4⟩ : ∃ x : ByteArray, Hid (x = nOf s) := ⟨nOf s, hidk rfl⟩
  obtain ⟨x5, HX⟩ : ∃ x : ByteArray, Hid (x = bA c.d) := ⟨bA c.d, hidk rfl⟩
  obtain ⟨l, Hl⟩ : ∃ l, Hid (l = claimB c) := ⟨claimB c, hidk rfl⟩
  have N1 : Hid (∀ W, Calls Tryd.prog 54 #[.int .i64 1, .int .i64 r] W fun e w' => e = .returned (.agg #[.int .i64 1, .string n1]) ∧ Below W.heap.size W w') := fun W => by rw [Hn1.out]; exact eNum_any 1 r W
  have N2 : Hid (∀ W, Calls Tryd.prog 54 #[.int .i64 2, .int .i64 e] W fun e w' => e = .returned (.agg #[.int .i64 2, .string n2]) ∧ Below W.heap.size W w') := fun W => by rw [Hn2.out]; exact eNum_any 2 e W
  have N3 : Hid (∀ W, Calls Tryd.prog 54 #[.int .i64 3, .int .i64 n] W fun e w' => e = .returned (.agg #[.int .i64 3, .string n3]) ∧ Below W.heap.size W w') := fun W => by rw [Hn3.out]; exact eNum_any 3 n W
  have N4 : Hid (∀ W, Calls Tryd.prog 54 #[.int .i64 4, .int .i64 s] W fun e w' => e = .returned (.agg #[.int .i64 4, .string n4]) ∧ Below W.heap.size W w') := fun W => by rw [Hn4.out]; exact eNum_any 4 s W
  have hL5 : fieldsN (cL c) = [(1, n1), (2, n2), (3, n3), (4, n4), (5, x5)] := by rw [Hn1.out, Hn2.out, Hn3.out, Hn4.out, HX.out, Hr.out, He.out, Hn.out, Hs.out]; rfl
  have LY : Hid (∀ W, Calls Tryd.prog 53 #[.slice (some ⟨W.heap.size, 0, none⟩) 5 5] (W.alloc (.cells #[.int .i64 1, .string n1, .int .i64 2, .string n2, .int .i64 3, .string n3, .int .i64 4, .string n4, .int .i64 5, .string x5] 110)) fun e w' => ∃ a c, e = .returned (.tuple #[.slice a l.length c, .int .i64 0]) ∧ Reads w' a l.length c l ∧ Below W.heap.size W w') := fun W => by
    have hk := layE_cL c hd
    rw [hL5] at hk
    refine eLay_lit W _ [((1 : Int), n1), (2, n2), (3, n3), (4, n4), (5, x5)] 5 l rfl rfl (by omega) (fun y hy => ?_) hk (by rw [Hl.out, ← hL5]; rfl)
    simp only [List.mem_cons, List.not_mem_nil, or_false] at hy
    unfold maxLen
    rcases hy with rfl | rfl | rfl | rfl | rfl
    · have := nOf_size r; rw [← Hn1.out] at this; show n1.size ≤ _; omega
    · have := nOf_size e; rw [← Hn2.out] at this; show n2.size ≤ _; omega
    · have := nOf_size n; rw [← Hn3.out] at this; show n3.size ≤ _; omega
    · have := nOf_size s; rw [← Hn4.out] at this; show n4.size ≤ _; omega
    · have := bA_size c.d; rw [← HX.out] at this; show x5.size ≤ _; omega
  have CV : Hid (∀ W, CRow W w.heap.size 0 c → Sem.run Tryd.prog (convert 81 9 (.slice (some ⟨w.heap.size, 4, none⟩) 32 32)) W = .ok (.string x5) W) := fun W h => by
    rw [HX.out]
    exact conv_at W w.heap.size 4 c.d hd (by have := h.d; rwa [Nat.zero_add] at this)
  have HR := hidk (crow_new w c C HC 39)
  have HB : Hid (Below w.heap.size w (w.alloc (.cells C 39))) := (Below.refl _ _).alloc (Nat.le_refl _) _
  have hsl := slice_at
  rw [← Hl.out]
  clear HC HX hL5 Hn1 Hn2 Hn3 Hn4 Hl hr
  go_enter Tryd.func87, Tryd.ntmps87
  go_wp2_with (first
    | (show aD 5 _ _ _ _ _ _ _ _ _ _ _; refine wpList_load_row rfl 39 (.tmp 1) rfl w.heap.size rfl 39 C (0, 0) _ HRW.out Tryd.underlying39 rfl HSC.out ?_; try simp only [Act.put, pS1, pS2, pS3])
    | fail)
  refine (K1.out _).mono ?_
  rintro e w0 ⟨rfl, hb0⟩
  have HB0 := hidk (HB.out.trans (hb0.mono HB.out.size))
  have HR0 := hidk (HR.out.keep hb0)
  clear hb0 HB HR HRW K1
  go_wp2
  refine wp_region_held_drew (S := (fun W => CRow W w.heap.size 0 c)) (by kernel_rfl) (show CRow w0.drew w.heap.size 0 c from HR0.out.keep (Below.refl _ _).drew) (fun hHeld => ?_)
  refine zX 0 (.pointer (some ⟨w.heap.size, 0, none⟩)) rfl hHeld ?_
  try simp only [Act.put, pS1, pS2, pS3]
  refine zW 1 (.int .i64 r) rfl (Or.inl ⟨by rfl, by intro W hSw; have h1 := hSw.r; rw [← Hr.out] at h1; go_simp⟩) hHeld ?_
  try simp only [Act.put, pS1, pS2, pS3]
  refine zX 3 (.pointer (some ⟨w.heap.size, 1, none⟩)) rfl hHeld ?_
  try simp only [Act.put, pS1, pS2, pS3]
  refine zW 4 (.int .i64 e) rfl (Or.inl ⟨by rfl, by intro W hSw; have h1 := hSw.e; rw [← He.out, Nat.zero_add] at h1; go_simp⟩) hHeld ?_
  try simp only [Act.put, pS1, pS2, pS3]
  refine zX 6 (.pointer (some ⟨w.heap.size, 2, none⟩)) rfl hHeld ?_
  try simp only [Act.put, pS1, pS2, pS3]
  refine zW 7 (.int .i64 n) rfl (Or.inl ⟨by rfl, by intro W hSw; have h1 := hSw.n; rw [← Hn.out, Nat.zero_add] at h1; go_simp⟩) hHeld ?_
  try simp only [Act.put, pS1, pS2, pS3]
  refine zX 9 (.pointer (some ⟨w.heap.size, 3, none⟩)) rfl hHeld ?_
  try simp only [Act.put, pS1, pS2, pS3]
  refine zW 10 (.int .i64 s) rfl (Or.inl ⟨by rfl, by intro W hSw; have h1 := hSw.s; rw [← Hs.out, Nat.zero_add] at h1; go_simp⟩) hHeld ?_
  try simp only [Act.put, pS1, pS2, pS3]
  refine zX 12 (.pointer (some ⟨w.heap.size, 4, none⟩)) rfl hHeld ?_
  try simp only [Act.put, pS1, pS2, pS3]
  refine zW 13 (.slice (some ⟨w.heap.size, 4, none⟩) 32 32) rfl (Or.inl ⟨by rfl, by intro W hSw; have := hsl W w.heap.size 4; go_simp⟩) hHeld ?_
  try simp only [Act.put, pS1, pS2, pS3]
  refine zW 14 (.string x5) rfl (Or.inl ⟨by rfl, by intro W hSw; have := CV.out W hSw; go_simp⟩) hHeld ?_
  try simp only [Act.put, pS1, pS2, pS3]
  refine zX 15 (.agg #[.int .i64 5, .string x5]) rfl hHeld ?_
  try simp only [Act.put, pS1, pS2, pS3]
  refine wpAnyH_ready (rs := [2]) (by kernel_rfl) (by simp) ?_
  refine (AllReadyH.cons (o := { dst := some 12, op := .call { callee := .value (.func 54), args := #[.const (.int .i64 1), .tmp 11], argTypes := #[3, 3] }, type := 110, pos := "entry.go:54", after := #[zD 1], guard := none }) rfl (fun K hK => ?_) AllReadyH.nil)
  go_simp
  refine (N1.out _).mono ?_
  rintro e w2 ⟨rfl, hb1⟩
  have HB1 := hidk (HB0.out.drew.trans (hb1.mono HB0.out.size))
  go_wp2_with fail
  refine hK.out _ _ (hHeld.keep hb1) (fun hHeld => ?_)
  clear hK K
  try simp only [Act.put, pS1, pS2, pS3]
  refine wpAnyH_ready (rs := [5]) (by kernel_rfl) (by simp) ?_
  refine (AllReadyH.cons (o := { dst := some 15, op := .call { callee := .value (.func 54), args := #[.const (.int .i64 2), .tmp 14], argTypes := #[3, 3] }, type := 110, pos := "entry.go:55", after := #[zD 4, zC 2], guard := none }) rfl (fun K hK => ?_) AllReadyH.nil)
  go_simp
  refine (N2.out _).mono ?_
  rintro e w5 ⟨rfl, hb2⟩
  have HB2 := hidk (HB1.out.trans (hb2.mono HB1.out.size))
  go_wp2_with fail
  refine hK.out _ _ (hHeld.keep hb2) (fun hHeld => ?_)
  clear hK K
  try simp only [Act.put, pS1, pS2, pS3]
  refine wpAnyH_ready (rs := [8]) (by kernel_rfl) (by simp) ?_
  refine (AllReadyH.cons (o := { dst := some 18, op := .call { callee := .value (.func 54), args := #[.const (.int .i64 3), .tmp 17], argTypes := #[3, 3] }, type := 110, pos := "entry.go:56", after := #[zD 7, zC 5], guard := none }) rfl (fun K hK => ?_) AllReadyH.nil)
  go_simp
  refine (N3.out _).mono ?_
  rintro e w8 ⟨rfl, hb3⟩
  have HB3 := hidk (HB2.out.trans (hb3.mono HB2.out.size))
  go_wp2_with fail
  refine hK.out _ _ (hHeld.keep hb3) (fun hHeld => ?_)
  clear hK K
  try simp only [Act.put, pS1, pS2, pS3]
  refine wpAnyH_ready (rs := [11]) (by kernel_rfl) (by simp) ?_
  refine (AllReadyH.cons (o := { dst := some 21, op := .call { callee := .value (.func 54), args := #[.const (.int .i64 4), .tmp 20], argTypes := #[3, 3] }, type := 110, pos := "entry.go:57", after := #[zD 10, zC 8], guard := none }) rfl (fun K hK => ?_) AllReadyH.nil)
  go_simp
  refine (N4.out _).mono ?_
  rintro e w11 ⟨rfl, hb4⟩
  have HB4 := hidk (HB3.out.trans (hb4.mono HB3.out.size))
  go_wp2_with fail
  refine hK.out _ _ (hHeld.keep hb4) (fun hHeld => ?_)
  clear hK K
  try simp only [Act.put, pS1, pS2, pS3]
  refine wpAnyH_ready (rs := [16]) (by kernel_rfl) (by simp) ?_
  refine (AllReadyH.cons (o := { dst := some 26, op := .buildSlice 112 5 #[(0, .tmp 12), (1, .tmp 15), (2, .tmp 18), (3, .tmp 21), (4, .tmp 25)], type := 112, pos := "entry.go:53", after := #[zD 2, zD 5, zD 8, zD 11, zD 15], guard := none }) rfl (fun K hK => ?_) AllReadyH.nil)
  have HR14 := hidk hHeld
  go_simp
  refine hK.out _ _ (hHeld.keep ((Below.refl _ _).alloc (Nat.le_refl _) _)) (fun hHeld => ?_)
  clear hK K
  try simp only [Act.put, pS1, pS2, pS3]
  refine wpAnyH_ready (rs := [17]) (by kernel_rfl) (by simp) ?_
  refine (AllReadyH.cons (o := { dst := some 27, op := .call { callee := .value (.func 53), args := #[.tmp 26], argTypes := #[112] }, type := 82, pos := "entry.go:53", after := #[zD 16, zC 11], guard := none }) rfl (fun K hK => ?_) AllReadyH.nil)
  go_simp
  refine (LY.out _).mono ?_
  rintro e w17 ⟨a17, c17, rfl, hrd, hb6⟩
  have HRD := hidk hrd
  have HBF := hidk (HB4.out.trans (hb6.mono HB4.out.size))
  go_wp2_with fail
  refine hK.out _ _ (HR14.out.keep hb6) (fun hHeld => ?_)
  clear hK K
  try simp only [Act.put, pS1, pS2, pS3]
  refine zX 18 (.slice a17 l.length c17) rfl hHeld ?_
  try simp only [Act.put, pS1, pS2, pS3]
  refine zX 19 (.int .i64 0) rfl hHeld ?_
  try simp only [Act.put, pS1, pS2, pS3]
  refine zX 20 (.slice a17 l.length c17) rfl hHeld ?_
  try simp only [Act.put, pS1, pS2, pS3]
  refine zX 21 (.int .i64 0) rfl hHeld ?_
  try simp only [Act.put, pS1, pS2, pS3]
  refine wpAnyH_done (by kernel_rfl) ?_ _
  go_wp2
  go_ret2
  exact ⟨⟨_, _, rfl, HRD.out⟩, HBF.out⟩
theorem ePutC_any (c : ClT) (hd : c.d.length = 32) (w : World) (C : Array Value) (HC : Hid (C = (ccells c).toArray)) :
    Calls Tryd.prog 87 #[.agg C] w fun e w' => BytesE (cB c) (cE c) e w' ∧ Below w.heap.size w w' := by
  unfold cB cE
  cases hr : rightC c
  · exact ePutC_no c hd hr w C HC
  · exact ePutC_yes c hd hr w C HC
theorem hWithin_any (n a b : Int) (w : World) : Calls Tryd.prog 44 #[.int .i64 n, .int .i64 a, .int .i64 b] w fun e w' => e = .returned (.bool (decide (a ≤ n) && decide (n ≤ b))) ∧ w' = w := by
  by_cases h1 : a ≤ n
  · have d1 : decide (a ≤ n) = true := by rw [decide_eq_true_eq]; exact h1
    obtain ⟨x, hx⟩ : ∃ x, decide (n ≤ b) = x := ⟨_, rfl⟩
    rw [d1, hx]
    clear h1
    go_enter Tryd.func44, Tryd.ntmps44
    go_wp2
    go_ret
    exact ⟨rfl, rfl⟩
  · have d1 : decide (a ≤ n) = false := by rw [decide_eq_false_iff_not]; exact h1
    rw [d1]
    clear h1
    go_enter Tryd.func44, Tryd.ntmps44
    go_wp2
    go_ret
    exact ⟨rfl, rfl⟩
set_option maxHeartbeats 2000000 in
theorem hCheck_any (h : HdT) (hd : h.d.length = 32) (w : World) (C : Array Value) (HC : Hid (C = (hcells h).toArray)) :
    Calls Tryd.prog 22 #[.agg C] w fun e w' => e = .returned (.int .i64 (putE h)) ∧ Below w.heap.size w w' := by
  have HR := hrow_new w h hd C HC 28
  have HB : Hid (Below w.heap.size w (w.alloc (.cells C 28))) := (Below.refl _ _).alloc (Nat.le_refl _) _
  have c0 := HR.r
  have c1 := HR.e
  have c2 := HR.s
  have c4 := HR.t
  simp only [Nat.zero_add] at c1 c2 c4
  have hnot : ∀ (x : Bool) (w : World), (Op.unary .not (.bool x)).run Tryd.prog w = .ok (.bool (!x)) w := fun _ _ => rfl
  have WI : Hid (∀ (n a b : Int) (W : World), Calls Tryd.prog 44 #[.int .i64 n, .int .i64 a, .int .i64 b] W fun e w' => e = .returned (.bool (decide (a ≤ n) && decide (n ≤ b))) ∧ w' = W) := hWithin_any
  obtain ⟨b1, hb1⟩ : ∃ b, (decide (1 ≤ h.r) && decide (h.r ≤ 5)) = b := ⟨_, rfl⟩
  obtain ⟨b2, hb2⟩ : ∃ b, (decide (1 ≤ h.e) && decide (h.e ≤ 900000000)) = b := ⟨_, rfl⟩
  obtain ⟨b3, hb3⟩ : ∃ b, (decide (0 ≤ h.s) && decide (h.s ≤ 100000)) = b := ⟨_, rfl⟩
  obtain ⟨b4, hb4⟩ : ∃ b, (decide (0 ≤ h.t) && decide (h.t ≤ 900000000)) = b := ⟨_, rfl⟩
  have W1 := hidk (WI.out h.r 1 5)
  have W2 := hidk (WI.out h.e 1 900000000)
  have W3 := hidk (WI.out h.s 0 100000)
  have W4 := hidk (WI.out h.t 0 900000000)
  rw [hb1] at W1
  rw [hb2] at W2
  rw [hb3] at W3
  rw [hb4] at W4
  have hE : putE h = if (b1 && (b2 && (b3 && b4))) = true then 0 else 70 := by
    rw [← hb1, ← hb2, ← hb3, ← hb4]
    unfold putE rightH
    simp only [Bool.and_assoc]
  rw [hE]
  obtain ⟨r, hr⟩ : ∃ r, r = h.r := ⟨_, rfl⟩
  obtain ⟨e, he⟩ : ∃ r, r = h.e := ⟨_, rfl⟩
  obtain ⟨s, hs⟩ : ∃ r, r = h.s := ⟨_, rfl⟩
  obtain ⟨t, ht⟩ : ∃ r, r = h.t := ⟨_, rfl⟩
  rw [← hr] at c0 W1
  rw [← he] at c1 W2
  rw [← hs] at c2 W3
  rw [← ht] at c4 W4
  clear hE hb1 hb2 hb3 hb4 WI HR hr he hs ht HC
  cases b1
  · go_enter Tryd.func22, Tryd.ntmps22
    go_wp2_with fail
    refine (W1.out _).mono ?_
    rintro e w1 ⟨rfl, rfl⟩
    go_wp2
    go_ret
    exact ⟨rfl, HB.out⟩
  cases b2
  · go_enter Tryd.func22, Tryd.ntmps22
    go_wp2_with fail
    refine (W1.out _).mono ?_
    rintro e w1 ⟨rfl, rfl⟩
    go_wp2_with fail
    refine (W2.out _).mono ?_
    rintro e w1 ⟨rfl, rfl⟩
    go_wp2
    go_ret
    exact ⟨rfl, HB.out⟩
  cases b3
  · go_enter Tryd.func22, Tryd.ntmps22
    go_wp2_with fail
    refine (W1.out _).mono ?_
    rintro e w1 ⟨rfl, rfl⟩
    go_wp2_with fail
    refine (W2.out _).mono ?_
    rintro e w1 ⟨rfl, rfl⟩
    go_wp2_with fail
    refine (W3.out _).mono ?_
    rintro e w1 ⟨rfl, rfl⟩
    go_wp2
    go_ret
    exact ⟨rfl, HB.out⟩
  cases b4
  · go_enter Tryd.func22, Tryd.ntmps22
    go_wp2_with fail
    refine (W1.out _).mono ?_
    rintro e w1 ⟨rfl, rfl⟩
    go_wp2_with fail
    refine (W2.out _).mono ?_
    rintro e w1 ⟨rfl, rfl⟩
    go_wp2_with fail
    refine (W3.out _).mono ?_
    rintro e w1 ⟨rfl, rfl⟩
    go_wp2_with fail
    refine (W4.out _).mono ?_
    rintro e w1 ⟨rfl, rfl⟩
    go_wp2
    go_ret
    exact ⟨rfl, HB.out⟩
  · go_enter Tryd.func22, Tryd.ntmps22
    go_wp2_with fail
    refine (W1.out _).mono ?_
    rintro e w1 ⟨rfl, rfl⟩
    go_wp2_with fail
    refine (W2.out _).mono ?_
    rintro e w1 ⟨rfl, rfl⟩
    go_wp2_with fail
    refine (W3.out _).mono ?_
    rintro e w1 ⟨rfl, rfl⟩
    go_wp2_with fail
    refine (W4.out _).mono ?_
    rintro e w1 ⟨rfl, rfl⟩
    go_wp2
    go_ret
    exact ⟨rfl, HB.out⟩
theorem putE_ok (h : HdT) : putE h = 0 ∧ rightH h = true ∨ putE h = 70 ∧ rightH h = false := by
  unfold putE
  cases rightH h
  · exact .inr ⟨rfl, rfl⟩
  · exact .inl ⟨rfl, rfl⟩
set_option maxHeartbeats 2000000 in
theorem hMay_any (s : SgT) (hd : s.h.d.length = 32) (w : World) (C : Array Value) (HC : Hid (C = (scells s).toArray)) :
    Calls Tryd.prog 23 #[.agg C] w fun e w' => e = .returned (.bool (mayS s)) ∧ Below w.heap.size w w' := by
  have HR := hidk (srow_new w s hd C HC 33)
  have HB : Hid (Below w.heap.size w (w.alloc (.cells C 33))) := (Below.refl _ _).alloc (Nat.le_refl _) _
  obtain ⟨HCs, HHC, HSH, H36⟩ := head_row s.h hd
  have HRH : Hid ((w.alloc (.cells C 33)).rangeAt w.heap.size 0 HCs.toList) := by rw [HHC.out]; exact HR.out.h
  obtain ⟨n, Hn⟩ : ∃ n, Hid (n = s.n) := ⟨s.n, hidk rfl⟩
  obtain ⟨b2, hb2⟩ : ∃ b, (decide (1 ≤ n) && decide (n ≤ 3)) = b := ⟨_, rfl⟩
  obtain ⟨E, hE0⟩ : ∃ E, E = putE s.h := ⟨_, rfl⟩
  have R1 : Hid (∀ W, Calls Tryd.prog 22 #[.agg HCs] W fun e w' => e = .returned (.int .i64 E) ∧ Below W.heap.size W w') := fun W => by rw [hE0]; exact hCheck_any s.h hd W HCs HHC
  have W2 : Hid (∀ W, Calls Tryd.prog 44 #[.int .i64 n, .int .i64 1, .int .i64 3] W fun e w' => e = .returned (.bool b2) ∧ w' = W) := fun W => by rw [← hb2]; exact hWithin_any n 1 3 W
  have hM : mayS s = (rightH s.h && b2) := by
    rw [← hb2, Hn.out]
    unfold mayS
    rw [Bool.and_assoc]
  rw [hM]
  have hp := putE_ok s.h
  rw [← hE0] at hp
  clear hM hb2 HC hE0
  rcases hp with ⟨rfl, hr⟩ | ⟨rfl, hr⟩
  · rw [hr]
    clear hr
    go_enter Tryd.func23, Tryd.ntmps23
    go_wp2_with (first
      | (show aD 4 _ _ _ _ _ _ _ _ _ _ _; refine wpList_mid rfl 28 (.tmp 3) rfl w.heap.size 0 rfl HCs _ HRH.out Tryd.underlying28 rfl HSH.out ?_; try simp only [Act.put, pS1, pS2, pS3])
      | fail)
    refine (R1.out _).mono ?_
    rintro e w1 ⟨rfl, hb⟩
    have HB1 := hidk (HB.out.trans (hb.mono HB.out.size))
    have hc := (HR.out.keep hb).n
    rw [← Hn.out, Nat.zero_add] at hc
    clear hb
    go_wp2_with fail
    refine (W2.out _).mono ?_
    rintro e w2 ⟨rfl, rfl⟩
    go_wp2
    go_ret
    exact ⟨rfl, HB1.out⟩
  · rw [hr]
    clear hr
    go_enter Tryd.func23, Tryd.ntmps23
    go_wp2_with (first
      | (show aD 4 _ _ _ _ _ _ _ _ _ _ _; refine wpList_mid rfl 28 (.tmp 3) rfl w.heap.size 0 rfl HCs _ HRH.out Tryd.underlying28 rfl HSH.out ?_; try simp only [Act.put, pS1, pS2, pS3])
      | fail)
    refine (R1.out _).mono ?_
    rintro e w1 ⟨rfl, hb⟩
    have HB1 := hidk (HB.out.trans (hb.mono HB.out.size))
    clear hb
    go_wp2
    go_ret
    exact ⟨rfl, HB1.out⟩
set_option maxHeartbeats 2000000 in
theorem hNum_any (t n : Int) (w : World) : Calls Tryd.prog 69 #[.int .i64 t, .int .i64 n] w fun e w' => e = .returned (.agg #[.int .i64 t, .string (nOf n)]) ∧ Below w.heap.size w w' := by
  obtain ⟨x, Hx⟩ : ∃ x : ByteArray, Hid (x = nOf n) := ⟨nOf n, hidk rfl⟩
  obtain ⟨E, HE⟩ : ∃ E, Hid (E = neOf n) := ⟨_, hidk rfl⟩
  have N1 : Hid (∀ W, Calls Tryd.prog 77 #[.int .i64 n] W fun e w' => e = .returned (.tuple #[.string x, .int .i64 E]) ∧ Below W.heap.size W w') := fun W => by rw [Hx.out, HE.out]; exact number_any n W
  rw [← Hx.out]
  clear Hx HE
  go_enter Tryd.func69, Tryd.ntmps69
  go_wp2_with fail
  refine (N1.out _).mono ?_
  rintro e w1 ⟨rfl, hb1⟩
  have hlt : w.heap.size < w1.heap.size := by have := hb1.size; simp at this; omega
  have hg : w1.heap[w.heap.size]? = some (.cells #[.int .i64 0, .string ⟨#[]⟩] 110 (0, 0)) := (hb1.block _ (by simp)).trans (heap_alloc_new w _)
  have c0 : w1.cell? ⟨w.heap.size, 0, none⟩ = some (.int .i64 0) := by rw [cell_of_row w1 _ 0 _ 110 (0, 0) hg]; rfl
  have c1 : w1.cell? ⟨w.heap.size, 1, none⟩ = some (.string ⟨#[]⟩) := by rw [cell_of_row w1 _ 1 _ 110 (0, 0) hg]; rfl
  have HB : Hid (Below w.heap.size w w1) := ((Below.refl _ _).alloc (Nat.le_refl _) _).trans (hb1.mono (by simp))
  have f0 : w1.frozen? ⟨w.heap.size, 0, none⟩ = false := frozen_of_row w1 _ 0 _ _ hg
  have f1 : w1.frozen? ⟨w.heap.size, 1, none⟩ = false := frozen_of_row w1 _ 1 _ _ hg
  clear hb1
  have HG2 := hidk (Go.heap_setCell_same _ _ 1 _ _ (.string x) (Go.heap_setCell_same w1 _ 0 _ _ (.int .i64 t) hg))
  clear hg
  go_wp2
  refine bodyPost_ret (v := .agg #[.int .i64 t, .string x]) ?_ rfl ⟨rfl, (HB.out.setCell (Nat.le_refl _) _).setCell (Nat.le_refl _) _⟩
  exact results_cell_row (p := 4) (ty := 110) rfl _ _ w.heap.size 110 #[.int .i64 t, .string x] (0, 0) _ rfl HG2.out Tryd.underlying110 rfl (by kernel_rfl)
set_option maxHeartbeats 2000000 in
theorem hDig_any (t : Int) (d : List UInt8) (hd : d.length = 32) (w : World) (D : Array Value) (HD : Hid (D = (cellsOf d).toArray)) : Calls Tryd.prog 70 #[.int .i64 t, .agg D] w fun e w' => e = .returned (.agg #[.int .i64 t, .string (bA d)]) ∧ Below w.heap.size w w' := by
  obtain ⟨x, Hx⟩ : ∃ x : ByteArray, Hid (x = bA d) := ⟨bA d, hidk rfl⟩
  have HCV : Hid (∀ (W : World) (g : Nat), W.heap[g]? = some (.cells D 26 (0, 0)) → Sem.run Tryd.prog (convert 81 9 (.slice (some ⟨g, 0, none⟩) 32 32)) W = .ok (.string x) W) := fun W g h => by
    rw [Hx.out]
    refine conv_at W g 0 d hd fun j v hj => ?_
    rw [Nat.zero_add, cell_of_row W g j _ _ (0, 0) h, HD.out]
    simpa using hj
  have HSL := hidk slice_at
  rw [← Hx.out]
  clear Hx HD
  have hn0 : (w.alloc (.cells D 26)).heap[w.heap.size]? = some (.cells D 26 (0, 0)) := heap_alloc_new w _
  have hcv := HCV.out ((w.alloc (.cells D 26)).alloc (.cells #[.int .i64 0, .string ⟨#[]⟩] 110)) w.heap.size (heap_keep hn0)
  have hsl := HSL.out ((w.alloc (.cells D 26)).alloc (.cells #[.int .i64 0, .string ⟨#[]⟩] 110)) w.heap.size 0
  have hg := heap_alloc_new (w.alloc (.cells D 26)) (.cells #[.int .i64 0, .string ⟨#[]⟩] 110)
  rw [alloc_size] at hg
  have hg2 := heap_alloc_new (w.alloc (.cells D 26)) (.cells #[.int .i64 t, .string x] 110)
  rw [alloc_size] at hg2
  have HG2 := hidk hg2
  have HB : Hid (Below w.heap.size w ((w.alloc (.cells D 26)).alloc (.cells #[.int .i64 t, .string x] 110))) := ((Below.refl _ _).alloc (Nat.le_refl _) _).alloc (by simp) _
  clear HCV HSL hn0 hg hg2
  go_enter Tryd.func70, Tryd.ntmps70
  go_wp2
  refine bodyPost_ret (v := .agg #[.int .i64 t, .string x]) ?_ rfl ⟨rfl, HB.out⟩
  exact results_cell_row (p := 4) (ty := 110) rfl _ _ (w.heap.size + 1) 110 #[.int .i64 t, .string x] (0, 0) _ rfl HG2.out Tryd.underlying110 rfl (by kernel_rfl)
theorem erow_row {W : World} {g : Nat} {x : EnT} (ok : OkE x) {X : Array Value} (HX : Hid (X = (ecells x).toArray)) {t : TypeId} (h : W.heap[g]? = some (.cells X t (0, 0))) : ERow W g 0 x := by
  refine erow_of ok fun j v hj => ?_
  rw [Nat.zero_add, cell_of_row _ _ j _ t (0, 0) h, HX.out]
  simpa using hj
def userR (x : EnT) : Bool := (decide (1 ≤ x.c) && decide (x.c ≤ 3)) && ((decide (1 ≤ x.s) && decide (x.s ≤ 1000000)) && decide (x.t.size ≤ 200))
def toldB (x : EnT) : Bool := if x.k = 1 then userR x else if x.k = 2 then mayS x.h else if x.k = 3 then rightC x.m else false
def bareE (x : EnT) : EnT := if x.k = 1 then ⟨x.k, x.c, x.s, x.t, zeroS, zeroC⟩ else if x.k = 2 then ⟨x.k, 0, 0, ⟨#[]⟩, x.h, zeroC⟩ else if x.k = 3 then ⟨x.k, 0, 0, ⟨#[]⟩, zeroS, x.m⟩ else zeroE
theorem bareE_ok {x : EnT} (ok : OkE x) : OkE (bareE x) := by
  unfold bareE
  split
  · exact ⟨rfl, rfl, rfl⟩
  split
  · exact ⟨ok.h, ok.g, rfl⟩
  split
  · exact ⟨rfl, rfl, ok.m⟩
  exact zeroE_ok
theorem size_none {t : ByteArray} : t.size = 0 ↔ t = ⟨#[]⟩ :=
  ⟨fun h => empty_of h, fun h => by rw [h]; rfl⟩
theorem told_right (x : EnT) : rightE x = true ↔ (toldB x = true ∧ bareE x = x) := by
  by_cases h1 : x.k = 1
  · rw [right_user h1]
    unfold toldB bareE userR
    rw [if_pos h1, if_pos h1]
    cases x
    simp only [Bool.and_eq_true, decide_eq_true_eq, eqSB_iff, eqCB_iff, EnT.mk.injEq, true_and]
    constructor
    · rintro ⟨a, b, c, d, e⟩; exact ⟨⟨a, b, c⟩, d.symm, e.symm⟩
    · rintro ⟨⟨a, b, c⟩, d, e⟩; exact ⟨a, b, c, d.symm, e.symm⟩
  by_cases h2 : x.k = 2
  · rw [right_anchor h2]
    unfold toldB bareE
    rw [if_neg h1, if_neg h1, if_pos h2, if_pos h2]
    cases x
    simp only [Bool.and_eq_true, decide_eq_true_eq, eqSB_iff, eqCB_iff, EnT.mk.injEq, true_and, size_none]
    constructor
    · rintro ⟨a, b, c, d, e⟩; exact ⟨d, a.symm, b.symm, c.symm, e.symm⟩
    · rintro ⟨d, a, b, c, e⟩; exact ⟨a.symm, b.symm, c.symm, d, e.symm⟩
  by_cases h3 : x.k = 3
  · rw [right_claim h3]
    unfold toldB bareE
    rw [if_neg h1, if_neg h1, if_neg h2, if_neg h2, if_pos h3, if_pos h3]
    cases x
    simp only [Bool.and_eq_true, decide_eq_true_eq, eqSB_iff, eqCB_iff, EnT.mk.injEq, true_and, and_true, size_none]
    constructor
    · rintro ⟨a, b, c, d, e⟩; exact ⟨e, a.symm, b.symm, c.symm, d.symm⟩
    · rintro ⟨e, a, b, c, d⟩; exact ⟨a.symm, b.symm, c.symm, d.symm, e⟩
  rw [right_none h1 h2 h3]
  unfold toldB
  rw [if_neg h1, if_neg h2, if_neg h3]
  simp
set_option maxHeartbeats 2000000 in
theorem eUser_any (x : EnT) (ok : OkE x) (w : World) (X : Array Value) (HX : Hid (X = (ecells x).toArray)) :
    Calls Tryd.prog 84 #[.agg X] w fun e w' => e = .returned (.bool (userR x)) ∧ Below w.heap.size w w' := by
  have HR := erow_new w x ok X HX 41
  have HB : Hid (Below w.heap.size w (w.alloc (.cells X 41))) := (Below.refl _ _).alloc (Nat.le_refl _) _
  have c1 := HR.c
  have c2 := HR.s
  have c3 := HR.t
  simp only [Nat.zero_add] at c1 c2 c3
  unfold userR
  obtain ⟨b1, hb1⟩ : ∃ b, (decide (1 ≤ x.c) && decide (x.c ≤ 3)) = b := ⟨_, rfl⟩
  obtain ⟨b2, hb2⟩ : ∃ b, (decide (1 ≤ x.s) && decide (x.s ≤ 1000000)) = b := ⟨_, rfl⟩
  obtain ⟨b3, hb3⟩ : ∃ b, decide (x.t.size ≤ 200) = b := ⟨_, rfl⟩
  have hb3' : decide ((x.t.size : Int) ≤ 200) = b3 := by rw [← hb3, Bool.eq_iff_iff, decide_eq_true_eq, decide_eq_true_eq]; omega
  have W1 := hidk (eWithin_any x.c 1 3)
  have W2 := hidk (eWithin_any x.s 1 1000000)
  rw [hb1] at W1
  rw [hb2] at W2
  rw [hb1, hb2, hb3]
  obtain ⟨c, hc⟩ : ∃ c, c = x.c := ⟨_, rfl⟩
  obtain ⟨s, hs⟩ : ∃ c, c = x.s := ⟨_, rfl⟩
  obtain ⟨t, ht⟩ : ∃ c, c = x.t := ⟨_, rfl⟩
  rw [← hc] at c1 W1
  rw [← hs] at c2 W2
  rw [← ht] at c3 hb3 hb3'
  clear hb1 hb2 HR HX ok hc hs ht
  cases b1
  · go_enter Tryd.func84, Tryd.ntmps84
    go_wp2_with fail
    refine (W1.out _).mono ?_
    rintro e w1 ⟨rfl, rfl⟩
    go_wp2
    go_ret
    exact ⟨rfl, HB.out⟩
  cases b2
  · go_enter Tryd.func84, Tryd.ntmps84
    go_wp2_with fail
    refine (W1.out _).mono ?_
    rintro e w1 ⟨rfl, rfl⟩
    go_wp2_with fail
    refine (W2.out _).mono ?_
    rintro e w1 ⟨rfl, rfl⟩
    go_wp2
    go_ret
    exact ⟨rfl, HB.out⟩
  · go_enter Tryd.func84, Tryd.ntmps84
    go_wp2_with fail
    refine (W1.out _).mono ?_
    rintro e w1 ⟨rfl, rfl⟩
    go_wp2_with fail
    refine (W2.out _).mono ?_
    rintro e w1 ⟨rfl, rfl⟩
    go_wp2
    go_ret
    exact ⟨rfl, HB.out⟩
set_option maxHeartbeats 2000000 in
theorem eMay_any (s : SgT) (hd : s.h.d.length = 32) (w : World) (C : Array Value) (HC : Hid (C = (scells s).toArray)) :
    Calls Tryd.prog 85 #[.agg C] w fun e w' => e = .returned (.bool (mayS s)) ∧ Below w.heap.size w w' := by
  have HR := hidk (srow_new w s hd C HC 33)
  have HB : Hid (Below w.heap.size w (w.alloc (.cells C 33))) := (Below.refl _ _).alloc (Nat.le_refl _) _
  obtain ⟨HCs, HHC, HSH, H36⟩ := head_row s.h hd
  have HRH : Hid ((w.alloc (.cells C 33)).rangeAt w.heap.size 0 HCs.toList) := by rw [HHC.out]; exact HR.out.h
  obtain ⟨n, Hn⟩ : ∃ n, Hid (n = s.n) := ⟨s.n, hidk rfl⟩
  obtain ⟨b2, hb2⟩ : ∃ b, (decide (1 ≤ n) && decide (n ≤ 3)) = b := ⟨_, rfl⟩
  obtain ⟨E, hE0⟩ : ∃ E, E = putE s.h := ⟨_, rfl⟩
  have R1 : Hid (∀ W, Calls Tryd.prog 22 #[.agg HCs] W fun e w' => e = .returned (.int .i64 E) ∧ Below W.heap.size W w') := fun W => by rw [hE0]; exact hCheck_any s.h hd W HCs HHC
  have W2 : Hid (∀ W, Calls Tryd.prog 52 #[.int .i64 n, .int .i64 1, .int .i64 3] W fun e w' => e = .returned (.bool b2) ∧ w' = W) := fun W => by rw [← hb2]; exact eWithin_any n 1 3 W
  have hM : mayS s = (rightH s.h && b2) := by
    rw [← hb2, Hn.out]
    unfold mayS
    rw [Bool.and_assoc]
  rw [hM]
  have hp := putE_ok s.h
  rw [← hE0] at hp
  clear hM hb2 HC hE0
  rcases hp with ⟨rfl, hr⟩ | ⟨rfl, hr⟩
  · rw [hr]
    clear hr
    go_enter Tryd.func85, Tryd.ntmps85
    go_wp2_with (first
      | (show aD 4 _ _ _ _ _ _ _ _ _ _ _; refine wpList_mid rfl 28 (.tmp 3) rfl w.heap.size 0 rfl HCs _ HRH.out Tryd.underlying28 rfl HSH.out ?_; try simp only [Act.put, pS1, pS2, pS3])
      | fail)
    refine (R1.out _).mono ?_
    rintro e w1 ⟨rfl, hb⟩
    have HB1 := hidk (HB.out.trans (hb.mono HB.out.size))
    have hc := (HR.out.keep hb).n
    rw [← Hn.out, Nat.zero_add] at hc
    clear hb
    go_wp2_with fail
    refine (W2.out _).mono ?_
    rintro e w2 ⟨rfl, rfl⟩
    go_wp2
    go_ret
    exact ⟨rfl, HB1.out⟩
  · rw [hr]
    clear hr
    go_enter Tryd.func85, Tryd.ntmps85
    go_wp2_with (first
      | (show aD 4 _ _ _ _ _ _ _ _ _ _ _; refine wpList_mid rfl 28 (.tmp 3) rfl w.heap.size 0 rfl HCs _ HRH.out Tryd.underlying28 rfl HSH.out ?_; try simp only [Act.put, pS1, pS2, pS3])
      | fail)
    refine (R1.out _).mono ?_
    rintro e w1 ⟨rfl, hb⟩
    have HB1 := hidk (HB.out.trans (hb.mono HB.out.size))
    clear hb
    go_wp2
    go_ret
    exact ⟨rfl, HB1.out⟩
theorem builtE4 (k c s : Int) (t : ByteArray) (R : Array Value) (HR : Hid (R = (ecells ⟨k, c, s, t, zeroS, zeroC⟩).toArray)) : Tryd.prog.built 41 [(0, .int .i64 k), (1, .int .i64 c), (2, .int .i64 s), (3, .string t)] = some R := by
  have hi := infoE
  cases hq : Tryd.prog.info? 41 with
  | none => rw [hq] at hi; cases hi
  | some i =>
    rw [hq] at hi
    simp only [Option.map_some, Option.some.injEq, Prod.mk.injEq] at hi
    have hH : (Tryd.prog.info? 37).map (·.size) = some 1 := by kernel_rfl
    have h9 : (Tryd.prog.info? 9).map (·.size) = some 1 := by kernel_rfl
    have h3 : (Tryd.prog.info? 3).map (·.size) = some 1 := by kernel_rfl
    have hS := sizeS
    have hC := sizeC
    cases hqH : Tryd.prog.info? 37 with
    | none => rw [hqH] at hH; cases hH
    | some iH =>
    cases hq9 : Tryd.prog.info? 9 with
    | none => rw [hq9] at h9; cases h9
    | some i9 =>
    cases hq3 : Tryd.prog.info? 3 with
    | none => rw [hq3] at h3; cases h3
    | some i3 =>
    cases hqS : Tryd.prog.info? 33 with
    | none => rw [hqS] at hS; cases hS
    | some iS =>
    cases hqC : Tryd.prog.info? 39 with
    | none => rw [hqC] at hC; cases hC
    | some iC =>
    rw [hqH] at hH
    rw [hq9] at h9
    rw [hq3] at h3
    rw [hqS] at hS
    rw [hqC] at hC
    simp only [Option.map_some, Option.some.injEq] at hH h9 h3 hS hC
    unfold Program.built
    simp only [hq, Tryd.underlying41, hi.1, List.mapM_cons, List.mapM_nil, hqH, hq9, hq3, hqS, hqC, hH, h9, h3, hS, hC, Option.map_some, Option.bind_eq_bind, Option.bind_some, Option.pure_def]
    show Instr.fill _ (ecells zeroE).toArray _ = some R
    refine (fill_val _ 0 0 1 (.int .i64 k) #[.int .i64 k] _ [] [.int .i64 0] ([.int .i64 0, .int .i64 0, .string ByteArray.empty] ++ scells zeroS ++ ccells zeroC) _ rfl rfl rfl (by simp [ecells, zeroE]) rfl rfl).trans ?_
    refine (fill_val _ 1 1 1 (.int .i64 c) #[.int .i64 c] _ [.int .i64 k] [.int .i64 0] ([.int .i64 0, .string ByteArray.empty] ++ scells zeroS ++ ccells zeroC) _ rfl rfl rfl (by simp) rfl rfl).trans ?_
    refine (fill_val _ 2 2 1 (.int .i64 s) #[.int .i64 s] _ [.int .i64 k, .int .i64 c] [.int .i64 0] ([.string ByteArray.empty] ++ scells zeroS ++ ccells zeroC) _ rfl rfl rfl (by simp) rfl rfl).trans ?_
    refine (fill_val _ 3 3 1 (.string t) #[.string t] _ [.int .i64 k, .int .i64 c, .int .i64 s] [.string ByteArray.empty] (scells zeroS ++ ccells zeroC) _ rfl rfl rfl (by simp) rfl rfl).trans ?_
    simp only [Instr.fill, List.append_nil, Option.some.injEq]
    rw [HR.out]
    rfl
theorem builtEh (k : Int) (h : SgT) (hd : h.h.d.length = 32) (hg : h.g.length = 32) (Q R : Array Value) (HQ : Hid (Q = (scells h).toArray)) (HR : Hid (R = (ecells ⟨k, 0, 0, ⟨#[]⟩, h, zeroC⟩).toArray)) : Tryd.prog.built 41 [(0, .int .i64 k), (4, .agg Q)] = some R := by
  have hi := infoE
  cases hq : Tryd.prog.info? 41 with
  | none => rw [hq] at hi; cases hi
  | some i =>
    rw [hq] at hi
    simp only [Option.map_some, Option.some.injEq, Prod.mk.injEq] at hi
    have hH : (Tryd.prog.info? 37).map (·.size) = some 1 := by kernel_rfl
    have h9 : (Tryd.prog.info? 9).map (·.size) = some 1 := by kernel_rfl
    have h3 : (Tryd.prog.info? 3).map (·.size) = some 1 := by kernel_rfl
    have hS := sizeS
    have hC := sizeC
    cases hqH : Tryd.prog.info? 37 with
    | none => rw [hqH] at hH; cases hH
    | some iH =>
    cases hq9 : Tryd.prog.info? 9 with
    | none => rw [hq9] at h9; cases h9
    | some i9 =>
    cases hq3 : Tryd.prog.info? 3 with
    | none => rw [hq3] at h3; cases h3
    | some i3 =>
    cases hqS : Tryd.prog.info? 33 with
    | none => rw [hqS] at hS; cases hS
    | some iS =>
    cases hqC : Tryd.prog.info? 39 with
    | none => rw [hqC] at hC; cases hC
    | some iC =>
    rw [hqH] at hH
    rw [hq9] at h9
    rw [hq3] at h3
    rw [hqS] at hS
    rw [hqC] at hC
    simp only [Option.map_some, Option.some.injEq] at hH h9 h3 hS hC
    unfold Program.built
    simp only [hq, Tryd.underlying41, hi.1, List.mapM_cons, List.mapM_nil, hqH, hq9, hq3, hqS, hqC, hH, h9, h3, hS, hC, Option.map_some, Option.bind_eq_bind, Option.bind_some, Option.pure_def]
    show Instr.fill _ (ecells zeroE).toArray _ = some R
    refine (fill_val _ 0 0 1 (.int .i64 k) #[.int .i64 k] _ [] [.int .i64 0] ([.int .i64 0, .int .i64 0, .string ByteArray.empty] ++ scells zeroS ++ ccells zeroC) _ rfl rfl rfl (by simp [ecells, zeroE]) rfl rfl).trans ?_
    refine (fill_val _ 4 4 69 (.agg Q) Q _ [.int .i64 k, .int .i64 0, .int .i64 0, .string ByteArray.empty] (scells zeroS) (ccells zeroC) _ rfl rfl (by rw [HQ.out]; simp [scells_length h hd hg]) (by simp) rfl (scells_length zeroS rfl rfl)).trans ?_
    simp only [Instr.fill, List.append_nil, Option.some.injEq]
    rw [HR.out, HQ.out]
    rfl
theorem builtEm (k : Int) (m : ClT) (hd : m.d.length = 32) (Q R : Array Value) (HQ : Hid (Q = (ccells m).toArray)) (HR : Hid (R = (ecells ⟨k, 0, 0, ⟨#[]⟩, zeroS, m⟩).toArray)) : Tryd.prog.built 41 [(0, .int .i64 k), (5, .agg Q)] = some R := by
  have hi := infoE
  cases hq : Tryd.prog.info? 41 with
  | none => rw [hq] at hi; cases hi
  | some i =>
    rw [hq] at hi
    simp only [Option.map_some, Option.some.injEq, Prod.mk.injEq] at hi
    have hH : (Tryd.prog.info? 37).map (·.size) = some 1 := by kernel_rfl
    have h9 : (Tryd.prog.info? 9).map (·.size) = some 1 := by kernel_rfl
    have h3 : (Tryd.prog.info? 3).map (·.size) = some 1 := by kernel_rfl
    have hS := sizeS
    have hC := sizeC
    cases hqH : Tryd.prog.info? 37 with
    | none => rw [hqH] at hH; cases hH
    | some iH =>
    cases hq9 : Tryd.prog.info? 9 with
    | none => rw [hq9] at h9; cases h9
    | some i9 =>
    cases hq3 : Tryd.prog.info? 3 with
    | none => rw [hq3] at h3; cases h3
    | some i3 =>
    cases hqS : Tryd.prog.info? 33 with
    | none => rw [hqS] at hS; cases hS
    | some iS =>
    cases hqC : Tryd.prog.info? 39 with
    | none => rw [hqC] at hC; cases hC
    | some iC =>
    rw [hqH] at hH
    rw [hq9] at h9
    rw [hq3] at h3
    rw [hqS] at hS
    rw [hqC] at hC
    simp only [Option.map_some, Option.some.injEq] at hH h9 h3 hS hC
    unfold Program.built
    simp only [hq, Tryd.underlying41, hi.1, List.mapM_cons, List.mapM_nil, hqH, hq9, hq3, hqS, hqC, hH, h9, h3, hS, hC, Option.map_some, Option.bind_eq_bind, Option.bind_some, Option.pure_def]
    show Instr.fill _ (ecells zeroE).toArray _ = some R
    refine (fill_val _ 0 0 1 (.int .i64 k) #[.int .i64 k] _ [] [.int .i64 0] ([.int .i64 0, .int .i64 0, .string ByteArray.empty] ++ scells zeroS ++ ccells zeroC) _ rfl rfl rfl (by simp [ecells, zeroE]) rfl rfl).trans ?_
    refine (fill_val _ 5 73 36 (.agg Q) Q _ ([.int .i64 k, .int .i64 0, .int .i64 0, .string ByteArray.empty] ++ scells zeroS) (ccells zeroC) [] _ rfl rfl (by rw [HQ.out]; simp [ccells_length m hd]) (by simp) (by simp [scells_length zeroS rfl rfl]) (ccells_length zeroC rfl)).trans ?_
    simp only [Instr.fill, List.append_nil, Option.some.injEq]
    rw [HR.out, HQ.out]
    rfl
set_option maxHeartbeats 8000000 in
theorem eTold_user (x : EnT) (ok : OkE x) (hk : x.k = 1) (w : World) (X B : Array Value) (HX : Hid (X = (ecells x).toArray)) (HB : Hid (B = (ecells (bareE x)).toArray)) :
    Calls Tryd.prog 73 #[.agg X] w fun e w' => e = .returned (.tuple #[.agg B, .bool (toldB x)]) ∧ Below w.heap.size w w' := by
  obtain ⟨Z, HZ, HA, HBZ, HNZ⟩ := noughtsE
  have HSX : Hid ((Tryd.prog.info? 41).map (·.size) = some X.size) := by show _ = _; rw [sizeE, HX.out]; simp [ecells_length _ ok]
  have HSB : Hid ((Tryd.prog.info? 41).map (·.size) = some B.size) := by show _ = _; rw [sizeE, HB.out]; simp [ecells_length _ (bareE_ok ok)]
  have H1B : Hid (B.all (·.oneCell') = true) := by show _ = _; rw [HB.out]; exact one_cellsE _
  have HZB : Hid (Z.size = B.size) := by show _ = _; rw [HNZ.out, HB.out]; simp [ecells_length _ (bareE_ok ok)]
  have HX0 : Hid ((w.alloc (.cells X 41)).heap[w.heap.size]? = some (.cells X 41 (0, 0))) := heap_alloc_new w _
  have HW0 : Hid (Below w.heap.size w (w.alloc (.cells X 41))) := (Below.refl _ _).alloc (Nat.le_refl _) _
  have ER : Hid (∀ W : World, W.heap[w.heap.size]? = some (.cells X 41 (0, 0)) → ERow W w.heap.size 0 x) := fun W h => erow_row ok HX h
  have K0 : Hid (∀ W : World, W.heap[w.heap.size]? = some (.cells X 41 (0, 0)) → W.cell? ⟨w.heap.size, 0, none⟩ = some (.int .i64 1)) := fun W h => by have := (ER.out W h).k; rwa [hk] at this
  obtain ⟨c, Hc⟩ : ∃ c, Hid (c = x.c) := ⟨_, hidk rfl⟩
  obtain ⟨s, Hs⟩ : ∃ c, Hid (c = x.s) := ⟨_, hidk rfl⟩
  obtain ⟨t, Ht⟩ : ∃ c, Hid (c = x.t) := ⟨_, hidk rfl⟩
  have K1 : Hid (∀ W : World, W.heap[w.heap.size]? = some (.cells X 41 (0, 0)) → W.cell? ⟨w.heap.size, 1, none⟩ = some (.int .i64 c)) := fun W h => by have := (ER.out W h).c; rwa [← Hc.out, Nat.zero_add] at this
  have K2 : Hid (∀ W : World, W.heap[w.heap.size]? = some (.cells X 41 (0, 0)) → W.cell? ⟨w.heap.size, 2, none⟩ = some (.int .i64 s)) := fun W h => by have := (ER.out W h).s; rwa [← Hs.out, Nat.zero_add] at this
  have K3 : Hid (∀ W : World, W.heap[w.heap.size]? = some (.cells X 41 (0, 0)) → W.cell? ⟨w.heap.size, 3, none⟩ = some (.string t)) := fun W h => by have := (ER.out W h).t; rwa [← Ht.out, Nat.zero_add] at this
  have BH : Hid (∀ W, (Instr.build 41 #[(0, .int .i64 1), (1, .int .i64 c), (2, .int .i64 s), (3, .string t)]).run Tryd.prog W = .ok (.agg B) W) := fun W => by
    refine run_build W 41 _ B (builtE4 1 c s t B ?_)
    show _ = _
    rw [HB.out, Hc.out, Hs.out, Ht.out]
    unfold bareE
    rw [if_pos hk, hk]
  obtain ⟨u, hu⟩ : ∃ u, u = userR x := ⟨_, rfl⟩
  have U1 : Hid (∀ W, Calls Tryd.prog 84 #[.agg X] W fun e w' => e = .returned (.bool u) ∧ Below W.heap.size W w') := fun W => by rw [hu]; exact eUser_any x ok W X HX
  rw [show toldB x = u by unfold toldB; rw [if_pos hk, hu]]
  clear HX HB HZ HBZ HNZ ok hk hu ER Hc Hs Ht
  go_enter Tryd.func73, Tryd.ntmps73
  go_wp2_with (first
    | (show aD 2 _ _ _ _ _ _ _ _ _ _ _; refine wpList_new_var rfl 41 rfl Z HA.out ?_; intro g2 w1 HM2; have c0 := K0.out w1 ((HM2.out.below.block _ (heap_lt HX0.out)).trans HX0.out); try simp only [Act.put, pS1, pS2, pS3])
    | fail)
  have hg2 : w.heap.size < g2 := by rw [HM2.out.new]; exact heap_lt HX0.out
  have HX1 := hidk ((HM2.out.below.block _ (heap_lt HX0.out)).trans HX0.out)
  have HR2 := hidk HM2.out.row
  have HB1 := hidk (HW0.out.trans (HM2.out.below.mono HW0.out.size))
  clear HM2 HX0 HW0 c0
  refine wp_region_held_drew (S := (fun W => W.heap[w.heap.size]? = some (.cells X 41 (0, 0)))) (by kernel_rfl) HX1.out (fun hHeld => ?_)
  refine zX 0 (.pointer (some ⟨w.heap.size, 0, none⟩)) rfl hHeld ?_
  try simp only [Act.put, pS1, pS2, pS3]
  refine zW 1 (.int .i64 1) rfl (Or.inl ⟨by rfl, by intro W hSw; have h1 := K0.out W hSw; go_simp⟩) hHeld ?_
  try simp only [Act.put, pS1, pS2, pS3]
  refine zX 2 (.pointer (some ⟨w.heap.size, 1, none⟩)) rfl hHeld ?_
  try simp only [Act.put, pS1, pS2, pS3]
  refine zW 3 (.int .i64 c) rfl (Or.inl ⟨by rfl, by intro W hSw; have h1 := K1.out W hSw; go_simp⟩) hHeld ?_
  try simp only [Act.put, pS1, pS2, pS3]
  refine zX 4 (.pointer (some ⟨w.heap.size, 2, none⟩)) rfl hHeld ?_
  try simp only [Act.put, pS1, pS2, pS3]
  refine zW 5 (.int .i64 s) rfl (Or.inl ⟨by rfl, by intro W hSw; have h1 := K2.out W hSw; go_simp⟩) hHeld ?_
  try simp only [Act.put, pS1, pS2, pS3]
  refine zX 6 (.pointer (some ⟨w.heap.size, 3, none⟩)) rfl hHeld ?_
  try simp only [Act.put, pS1, pS2, pS3]
  refine zW 7 (.string t) rfl (Or.inl ⟨by rfl, by intro W hSw; have h1 := K3.out W hSw; go_simp⟩) hHeld ?_
  try simp only [Act.put, pS1, pS2, pS3]
  refine zW 8 (.agg B) rfl (yieldsIf_build (by rfl) 41 _ rfl #[(0, .int .i64 1), (1, .int .i64 c), (2, .int .i64 s), (3, .string t)] rfl (.agg B) BH.out) hHeld ?_
  try simp only [Act.put, pS1, pS2, pS3]
  refine zW 9 (.agg X) rfl (yieldsIf_row (by rfl) 41 (.tmp 1) rfl w.heap.size rfl 41 X (0, 0) _ (fun _ h => h) Tryd.underlying41 rfl HSX.out) hHeld ?_
  try simp only [Act.put, pS1, pS2, pS3]
  refine wpAnyH_ready (rs := [10]) (by kernel_rfl) (by simp) ?_
  refine (AllReadyH.cons (o := { dst := some 18, op := .call { callee := .value (.func 84), args := #[.tmp 17], argTypes := #[41] }, type := 4, pos := "entry.go:120", after := #[zD 9], guard := none }) rfl (fun K hK => ?_) AllReadyH.nil)
  go_simp
  refine (U1.out _).mono ?_
  rintro e w10 ⟨rfl, hbc⟩
  have HBc := hidk (HB1.out.drew.trans (hbc.mono HB1.out.size))
  have HR2c := hidk ((hbc.block g2 (heap_lt HR2.out)).trans HR2.out)
  go_wp2_with fail
  refine hK.out _ _ ((hbc.block _ (heap_lt HX1.out)).trans HX1.out) (fun hHeld => ?_)
  clear hK K
  try simp only [Act.put, pS1, pS2, pS3]
  refine wpAnyH_ready (rs := [11]) (by kernel_rfl) (by simp) ?_
  refine (AllReadyH.cons (o := { dst := none, op := .store 41 (.tmp 2) (.tmp 16), type := 0, pos := "entry.go:120", after := #[zD 8, zC 10, zP 0, zP 1, zP 2, zP 3, zP 4, zP 5, zP 6, zP 7, zP 8, { on := 9, ground := Ground.textOnly Departure.lateStores }, { on := 10, ground := Ground.textOnly Departure.lateStoresUnsure }], guard := none }) rfl (fun K hK => ?_) AllReadyH.nil)
  refine step_set_var (by rfl) 41 (.tmp 2) (.tmp 16) rfl g2 B rfl rfl 41 Z HR2c.out HSB.out HZB.out H1B.out ?_
  intro wz HW2
  refine hK.out _ _ ((HW2.out.other _ (by omega)).trans hHeld) (fun hHeld => ?_)
  clear hK K
  try simp only [Act.put, pS1, pS2, pS3]
  refine zX 12 (.bool u) rfl hHeld ?_
  try simp only [Act.put, pS1, pS2, pS3]
  refine wpAnyH_done (by kernel_rfl) ?_ _
  go_wp2_with fail
  refine bodyPost_ret (v := .tuple #[.agg B, .bool u]) ?_ rfl ⟨rfl, HW2.out.below _ _ HBc.out (by omega)⟩
  exact results_row_tmp (p := 2) (q := 3) (ty := 41) rfl _ _ g2 41 B (0, 0) _ rfl HW2.out.row Tryd.underlying41 rfl HSB.out
set_option maxHeartbeats 8000000 in
theorem eTold_anchor (x : EnT) (ok : OkE x) (hk : x.k = 2) (w : World) (X B : Array Value) (HX : Hid (X = (ecells x).toArray)) (HB : Hid (B = (ecells (bareE x)).toArray)) :
    Calls Tryd.prog 73 #[.agg X] w fun e w' => e = .returned (.tuple #[.agg B, .bool (toldB x)]) ∧ Below w.heap.size w w' := by
  obtain ⟨Z, HZ, HA, HBZ, HNZ⟩ := noughtsE
  have HSX : Hid ((Tryd.prog.info? 41).map (·.size) = some X.size) := by show _ = _; rw [sizeE, HX.out]; simp [ecells_length _ ok]
  have HSB : Hid ((Tryd.prog.info? 41).map (·.size) = some B.size) := by show _ = _; rw [sizeE, HB.out]; simp [ecells_length _ (bareE_ok ok)]
  have H1B : Hid (B.all (·.oneCell') = true) := by show _ = _; rw [HB.out]; exact one_cellsE _
  have HZB : Hid (Z.size = B.size) := by show _ = _; rw [HNZ.out, HB.out]; simp [ecells_length _ (bareE_ok ok)]
  have HX0 : Hid ((w.alloc (.cells X 41)).heap[w.heap.size]? = some (.cells X 41 (0, 0))) := heap_alloc_new w _
  have HW0 : Hid (Below w.heap.size w (w.alloc (.cells X 41))) := (Below.refl _ _).alloc (Nat.le_refl _) _
  have ER : Hid (∀ W : World, W.heap[w.heap.size]? = some (.cells X 41 (0, 0)) → ERow W w.heap.size 0 x) := fun W h => erow_row ok HX h
  have K0 : Hid (∀ W : World, W.heap[w.heap.size]? = some (.cells X 41 (0, 0)) → W.cell? ⟨w.heap.size, 0, none⟩ = some (.int .i64 2)) := fun W h => by have := (ER.out W h).k; rwa [hk] at this
  obtain ⟨Q, HQ, HSQ, H1Q, H69Q⟩ := sign_row x.h ok.h ok.g
  have KQ : Hid (∀ W : World, W.heap[w.heap.size]? = some (.cells X 41 (0, 0)) → W.rangeAt w.heap.size 4 Q.toList) := fun W h => by have := (ER.out W h).h; rw [HQ.out]; simpa using this
  have BH : Hid (∀ W, (Instr.build 41 #[(0, .int .i64 2), (4, .agg Q)]).run Tryd.prog W = .ok (.agg B) W) := fun W => by
    refine run_build W 41 _ B (builtEh 2 x.h ok.h ok.g Q B HQ ?_)
    show _ = _
    rw [HB.out]
    unfold bareE
    rw [if_neg (by omega), if_pos hk, hk]
  obtain ⟨u, hu⟩ : ∃ u, u = mayS x.h := ⟨_, rfl⟩
  have U1 : Hid (∀ W, Calls Tryd.prog 85 #[.agg Q] W fun e w' => e = .returned (.bool u) ∧ Below W.heap.size W w') := fun W => by rw [hu]; exact eMay_any x.h ok.h W Q HQ
  rw [show toldB x = u by unfold toldB; rw [if_neg (by omega), if_pos hk, hu]]
  clear HX HB HZ HBZ HNZ ok hk hu ER HQ
  go_enter Tryd.func73, Tryd.ntmps73
  go_wp2_with (first
    | (show aD 2 _ _ _ _ _ _ _ _ _ _ _; refine wpList_new_var rfl 41 rfl Z HA.out ?_; intro g2 w1 HM2; have c0 := K0.out w1 ((HM2.out.below.block _ (heap_lt HX0.out)).trans HX0.out); try simp only [Act.put, pS1, pS2, pS3])
    | fail)
  have hg2 : w.heap.size < g2 := by rw [HM2.out.new]; exact heap_lt HX0.out
  have HX1 := hidk ((HM2.out.below.block _ (heap_lt HX0.out)).trans HX0.out)
  have HR2 := hidk HM2.out.row
  have HB1 := hidk (HW0.out.trans (HM2.out.below.mono HW0.out.size))
  clear HM2 HX0 HW0 c0
  refine wp_region_held_drew (S := (fun W => W.heap[w.heap.size]? = some (.cells X 41 (0, 0)))) (by kernel_rfl) HX1.out (fun hHeld => ?_)
  refine zX 0 (.pointer (some ⟨w.heap.size, 0, none⟩)) rfl hHeld ?_
  try simp only [Act.put, pS1, pS2, pS3]
  refine zW 1 (.int .i64 2) rfl (Or.inl ⟨by rfl, by intro W hSw; have h1 := K0.out W hSw; go_simp⟩) hHeld ?_
  try simp only [Act.put, pS1, pS2, pS3]
  refine zX 2 (.pointer (some ⟨w.heap.size, 4, none⟩)) rfl hHeld ?_
  try simp only [Act.put, pS1, pS2, pS3]
  refine zW 3 (.agg Q) rfl (yieldsIf_mid (by rfl) 33 (.tmp 23) rfl w.heap.size 4 rfl Q _ (fun W h => KQ.out W h) Tryd.underlying33 rfl HSQ.out) hHeld ?_
  try simp only [Act.put, pS1, pS2, pS3]
  refine zW 4 (.agg B) rfl (yieldsIf_build (by rfl) 41 _ rfl #[(0, .int .i64 2), (4, .agg Q)] rfl (.agg B) BH.out) hHeld ?_
  try simp only [Act.put, pS1, pS2, pS3]
  refine zX 5 (.pointer (some ⟨w.heap.size, 4, none⟩)) rfl hHeld ?_
  try simp only [Act.put, pS1, pS2, pS3]
  refine zW 6 (.agg Q) rfl (yieldsIf_mid (by rfl) 33 (.tmp 26) rfl w.heap.size 4 rfl Q _ (fun W h => KQ.out W h) Tryd.underlying33 rfl HSQ.out) hHeld ?_
  try simp only [Act.put, pS1, pS2, pS3]
  refine wpAnyH_ready (rs := [7]) (by kernel_rfl) (by simp) ?_
  refine (AllReadyH.cons (o := { dst := some 28, op := .call { callee := .value (.func 85), args := #[.tmp 27], argTypes := #[33] }, type := 4, pos := "entry.go:122", after := #[zD 6], guard := none }) rfl (fun K hK => ?_) AllReadyH.nil)
  go_simp
  refine (U1.out _).mono ?_
  rintro e w7 ⟨rfl, hbc⟩
  have HBc := hidk (HB1.out.drew.trans (hbc.mono HB1.out.size))
  have HR2c := hidk ((hbc.block g2 (heap_lt HR2.out)).trans HR2.out)
  go_wp2_with fail
  refine hK.out _ _ ((hbc.block _ (heap_lt HX1.out)).trans HX1.out) (fun hHeld => ?_)
  clear hK K
  try simp only [Act.put, pS1, pS2, pS3]
  refine wpAnyH_ready (rs := [8]) (by kernel_rfl) (by simp) ?_
  refine (AllReadyH.cons (o := { dst := none, op := .store 41 (.tmp 2) (.tmp 25), type := 0, pos := "entry.go:122", after := #[zD 4, zC 7, zP 0, zP 1, zP 2, zP 3, zP 4, { on := 5, ground := Ground.textOnly Departure.lateStores }, { on := 6, ground := Ground.textOnly Departure.lateStores }, { on := 7, ground := Ground.textOnly Departure.lateStoresUnsure }], guard := none }) rfl (fun K hK => ?_) AllReadyH.nil)
  refine step_set_var (by rfl) 41 (.tmp 2) (.tmp 25) rfl g2 B rfl rfl 41 Z HR2c.out HSB.out HZB.out H1B.out ?_
  intro wz HW2
  refine hK.out _ _ ((HW2.out.other _ (by omega)).trans hHeld) (fun hHeld => ?_)
  clear hK K
  try simp only [Act.put, pS1, pS2, pS3]
  refine zX 9 (.bool u) rfl hHeld ?_
  try simp only [Act.put, pS1, pS2, pS3]
  refine wpAnyH_done (by kernel_rfl) ?_ _
  go_wp2_with fail
  refine bodyPost_ret (v := .tuple #[.agg B, .bool u]) ?_ rfl ⟨rfl, HW2.out.below _ _ HBc.out (by omega)⟩
  exact results_row_tmp (p := 2) (q := 3) (ty := 41) rfl _ _ g2 41 B (0, 0) _ rfl HW2.out.row Tryd.underlying41 rfl HSB.out
set_option maxHeartbeats 8000000 in
theorem eTold_claim (x : EnT) (ok : OkE x) (hk : x.k = 3) (w : World) (X B : Array Value) (HX : Hid (X = (ecells x).toArray)) (HB : Hid (B = (ecells (bareE x)).toArray)) :
    Calls Tryd.prog 73 #[.agg X] w fun e w' => e = .returned (.tuple #[.agg B, .bool (toldB x)]) ∧ Below w.heap.size w w' := by
  obtain ⟨Z, HZ, HA, HBZ, HNZ⟩ := noughtsE
  have HSX : Hid ((Tryd.prog.info? 41).map (·.size) = some X.size) := by show _ = _; rw [sizeE, HX.out]; simp [ecells_length _ ok]
  have HSB : Hid ((Tryd.prog.info? 41).map (·.size) = some B.size) := by show _ = _; rw [sizeE, HB.out]; simp [ecells_length _ (bareE_ok ok)]
  have H1B : Hid (B.all (·.oneCell') = true) := by show _ = _; rw [HB.out]; exact one_cellsE _
  have HZB : Hid (Z.size = B.size) := by show _ = _; rw [HNZ.out, HB.out]; simp [ecells_length _ (bareE_ok ok)]
  have HX0 : Hid ((w.alloc (.cells X 41)).heap[w.heap.size]? = some (.cells X 41 (0, 0))) := heap_alloc_new w _
  have HW0 : Hid (Below w.heap.size w (w.alloc (.cells X 41))) := (Below.refl _ _).alloc (Nat.le_refl _) _
  have ER : Hid (∀ W : World, W.heap[w.heap.size]? = some (.cells X 41 (0, 0)) → ERow W w.heap.size 0 x) := fun W h => erow_row ok HX h
  have K0 : Hid (∀ W : World, W.heap[w.heap.size]? = some (.cells X 41 (0, 0)) → W.cell? ⟨w.heap.size, 0, none⟩ = some (.int .i64 3)) := fun W h => by have := (ER.out W h).k; rwa [hk] at this
  obtain ⟨Q, HQ, HSQ, H1Q, H36Q⟩ := claim_row5 x.m ok.m
  have KQ : Hid (∀ W : World, W.heap[w.heap.size]? = some (.cells X 41 (0, 0)) → W.rangeAt w.heap.size 73 Q.toList) := fun W h => by have := (ER.out W h).m; rw [HQ.out]; simpa using this
  have BH : Hid (∀ W, (Instr.build 41 #[(0, .int .i64 3), (5, .agg Q)]).run Tryd.prog W = .ok (.agg B) W) := fun W => by
    refine run_build W 41 _ B (builtEm 3 x.m ok.m Q B HQ ?_)
    show _ = _
    rw [HB.out]
    unfold bareE
    rw [if_neg (by omega), if_neg (by omega), if_pos hk, hk]
  obtain ⟨E, hE⟩ : ∃ u, u = cE x.m := ⟨_, rfl⟩
  have U1 : Hid (∀ W, Calls Tryd.prog 86 #[.agg Q] W fun e w' => e = .returned (.int .i64 E) ∧ Below W.heap.size W w') := fun W => by rw [hE]; exact eCheckC_any x.m W Q HQ
  obtain ⟨u, hu, huE⟩ : ∃ u, u = rightC x.m ∧ (E == 0) = u := ⟨_, rfl, by rw [hE]; unfold cE; cases rightC x.m <;> rfl⟩
  rw [show toldB x = u by unfold toldB; rw [if_neg (by omega), if_neg (by omega), if_pos hk, hu]]
  have HUE := hidk huE
  clear HX HB HZ HBZ HNZ ok hk hu ER HQ hE huE
  go_enter Tryd.func73, Tryd.ntmps73
  go_wp2_with (first
    | (show aD 2 _ _ _ _ _ _ _ _ _ _ _; refine wpList_new_var rfl 41 rfl Z HA.out ?_; intro g2 w1 HM2; have c0 := K0.out w1 ((HM2.out.below.block _ (heap_lt HX0.out)).trans HX0.out); try simp only [Act.put, pS1, pS2, pS3])
    | fail)
  have hg2 : w.heap.size < g2 := by rw [HM2.out.new]; exact heap_lt HX0.out
  have HX1 := hidk ((HM2.out.below.block _ (heap_lt HX0.out)).trans HX0.out)
  have HR2 := hidk HM2.out.row
  have HB1 := hidk (HW0.out.trans (HM2.out.below.mono HW0.out.size))
  clear HM2 HX0 HW0 c0
  refine wp_region_held_drew (S := (fun W => W.heap[w.heap.size]? = some (.cells X 41 (0, 0)))) (by kernel_rfl) HX1.out (fun hHeld => ?_)
  refine zX 0 (.pointer (some ⟨w.heap.size, 0, none⟩)) rfl hHeld ?_
  try simp only [Act.put, pS1, pS2, pS3]
  refine zW 1 (.int .i64 3) rfl (Or.inl ⟨by rfl, by intro W hSw; have h1 := K0.out W hSw; go_simp⟩) hHeld ?_
  try simp only [Act.put, pS1, pS2, pS3]
  refine zX 2 (.pointer (some ⟨w.heap.size, 73, none⟩)) rfl hHeld ?_
  try simp only [Act.put, pS1, pS2, pS3]
  refine zW 3 (.agg Q) rfl (yieldsIf_mid (by rfl) 39 (.tmp 33) rfl w.heap.size 73 rfl Q _ (fun W h => KQ.out W h) Tryd.underlying39 rfl HSQ.out) hHeld ?_
  try simp only [Act.put, pS1, pS2, pS3]
  refine zW 4 (.agg B) rfl (yieldsIf_build (by rfl) 41 _ rfl #[(0, .int .i64 3), (5, .agg Q)] rfl (.agg B) BH.out) hHeld ?_
  try simp only [Act.put, pS1, pS2, pS3]
  refine zX 5 (.pointer (some ⟨w.heap.size, 73, none⟩)) rfl hHeld ?_
  try simp only [Act.put, pS1, pS2, pS3]
  refine zW 6 (.agg Q) rfl (yieldsIf_mid (by rfl) 39 (.tmp 36) rfl w.heap.size 73 rfl Q _ (fun W h => KQ.out W h) Tryd.underlying39 rfl HSQ.out) hHeld ?_
  try simp only [Act.put, pS1, pS2, pS3]
  refine wpAnyH_ready (rs := [7]) (by kernel_rfl) (by simp) ?_
  refine (AllReadyH.cons (o := { dst := some 38, op := .call { callee := .value (.func 86), args := #[.tmp 37], argTypes := #[39] }, type := 29, pos := "entry.go:124", after := #[zD 6], guard := none }) rfl (fun K hK => ?_) AllReadyH.nil)
  go_simp
  refine (U1.out _).mono ?_
  rintro e w7 ⟨rfl, hbc⟩
  have HBc := hidk (HB1.out.drew.trans (hbc.mono HB1.out.size))
  have HR2c := hidk ((hbc.block g2 (heap_lt HR2.out)).trans HR2.out)
  go_wp2_with fail
  refine hK.out _ _ ((hbc.block _ (heap_lt HX1.out)).trans HX1.out) (fun hHeld => ?_)
  clear hK K
  try simp only [Act.put, pS1, pS2, pS3]
  refine zW 8 (.bool u) rfl (Or.inl ⟨by rfl, by intro W hSw; have h1 := HUE.out; go_simp⟩) hHeld ?_
  try simp only [Act.put, pS1, pS2, pS3]
  refine wpAnyH_ready (rs := [9]) (by kernel_rfl) (by simp) ?_
  refine (AllReadyH.cons (o := { dst := none, op := .store 41 (.tmp 2) (.tmp 35), type := 0, pos := "entry.go:124", after := #[zD 4, zC 7, zP 0, zP 1, zP 2, zP 3, zP 4, { on := 5, ground := Ground.textOnly Departure.lateStores }, { on := 6, ground := Ground.textOnly Departure.lateStores }, { on := 7, ground := Ground.textOnly Departure.lateStoresUnsure }, { on := 8, ground := Ground.textOnly Departure.lateStores }], guard := none }) rfl (fun K hK => ?_) AllReadyH.nil)
  refine step_set_var (by rfl) 41 (.tmp 2) (.tmp 35) rfl g2 B rfl rfl 41 Z HR2c.out HSB.out HZB.out H1B.out ?_
  intro wz HW2
  refine hK.out _ _ ((HW2.out.other _ (by omega)).trans hHeld) (fun hHeld => ?_)
  clear hK K
  try simp only [Act.put, pS1, pS2, pS3]
  refine zX 10 (.bool u) rfl hHeld ?_
  try simp only [Act.put, pS1, pS2, pS3]
  refine wpAnyH_done (by kernel_rfl) ?_ _
  go_wp2_with fail
  refine bodyPost_ret (v := .tuple #[.agg B, .bool u]) ?_ rfl ⟨rfl, HW2.out.below _ _ HBc.out (by omega)⟩
  exact results_row_tmp (p := 2) (q := 3) (ty := 41) rfl _ _ g2 41 B (0, 0) _ rfl HW2.out.row Tryd.underlying41 rfl HSB.out
set_option maxHeartbeats 8000000 in
theorem eTold_none (x : EnT) (ok : OkE x) (hk : ¬ x.k = 1 ∧ ¬ x.k = 2 ∧ ¬ x.k = 3) (w : World) (X B : Array Value) (HX : Hid (X = (ecells x).toArray)) (HB : Hid (B = (ecells (bareE x)).toArray)) :
    Calls Tryd.prog 73 #[.agg X] w fun e w' => e = .returned (.tuple #[.agg B, .bool (toldB x)]) ∧ Below w.heap.size w w' := by
  obtain ⟨Z, HZ, HA, HBZ, HNZ⟩ := noughtsE
  have HSX : Hid ((Tryd.prog.info? 41).map (·.size) = some X.size) := by show _ = _; rw [sizeE, HX.out]; simp [ecells_length _ ok]
  have HSB : Hid ((Tryd.prog.info? 41).map (·.size) = some B.size) := by show _ = _; rw [sizeE, HB.out]; simp [ecells_length _ (bareE_ok ok)]
  have H1B : Hid (B.all (·.oneCell') = true) := by show _ = _; rw [HB.out]; exact one_cellsE _
  have HZB : Hid (Z.size = B.size) := by show _ = _; rw [HNZ.out, HB.out]; simp [ecells_length _ (bareE_ok ok)]
  have HX0 : Hid ((w.alloc (.cells X 41)).heap[w.heap.size]? = some (.cells X 41 (0, 0))) := heap_alloc_new w _
  have HW0 : Hid (Below w.heap.size w (w.alloc (.cells X 41))) := (Below.refl _ _).alloc (Nat.le_refl _) _
  have ER : Hid (∀ W : World, W.heap[w.heap.size]? = some (.cells X 41 (0, 0)) → ERow W w.heap.size 0 x) := fun W h => erow_row ok HX h
  obtain ⟨h1, h2, h3⟩ := hk
  obtain rfl : B = Z := by rw [HB.out, HZ.out]; unfold bareE; rw [if_neg h1, if_neg h2, if_neg h3]
  rw [show toldB x = false by unfold toldB; rw [if_neg h1, if_neg h2, if_neg h3]]
  have q1 : (x.k == 1) = false := by rw [beq_eq_false_iff_ne]; exact h1
  have q2 : (x.k == 2) = false := by rw [beq_eq_false_iff_ne]; exact h2
  have q3 : (x.k == 3) = false := by rw [beq_eq_false_iff_ne]; exact h3
  have d1 : decide (x.k = 1) = false := by rw [decide_eq_false_iff_not]; exact h1
  have d2 : decide (x.k = 2) = false := by rw [decide_eq_false_iff_not]; exact h2
  have d3 : decide (x.k = 3) = false := by rw [decide_eq_false_iff_not]; exact h3
  obtain ⟨k, hk⟩ : ∃ k, k = x.k := ⟨_, rfl⟩
  rw [← hk] at q1 q2 q3 d1 d2 d3 h1 h2 h3
  have K0 : Hid (∀ W : World, W.heap[w.heap.size]? = some (.cells X 41 (0, 0)) → W.cell? ⟨w.heap.size, 0, none⟩ = some (.int .i64 k)) := fun W h => by have := (ER.out W h).k; rwa [← hk] at this
  clear HX HB HZ HNZ ok hk ER
  go_enter Tryd.func73, Tryd.ntmps73
  go_wp2_with (first
    | (show aD 2 _ _ _ _ _ _ _ _ _ _ _; refine wpList_new_var rfl 41 rfl B HA.out ?_; intro g2 w1 HM2; have c0 := K0.out w1 ((HM2.out.below.block _ (heap_lt HX0.out)).trans HX0.out); try simp only [Act.put, pS1, pS2, pS3])
    | (show aD 40 _ _ _ _ _ _ _ _ _ _ _; refine wpList_build_none rfl 41 rfl B HBZ.out ?_; try simp only [Act.put, pS1, pS2, pS3])
    | (refine wpList_set_var rfl 41 (.tmp 2) (.tmp 40) rfl g2 B rfl rfl 41 B HM2.out.row HSB.out rfl H1B.out ?_; intro wz HW2; try simp only [Act.put, pS1, pS2, pS3])
    | fail)
  have hg2 : w.heap.size < g2 := by rw [HM2.out.new]; exact heap_lt HX0.out
  have HB1 := hidk (HW0.out.trans (HM2.out.below.mono HW0.out.size))
  refine bodyPost_ret (v := .tuple #[.agg B, .bool false]) ?_ rfl ⟨rfl, HW2.out.below _ _ HB1.out (by omega)⟩
  exact results_row_tmp (p := 2) (q := 3) (ty := 41) rfl _ _ g2 41 B (0, 0) _ rfl HW2.out.row Tryd.underlying41 rfl HSB.out
theorem eTold_any (x : EnT) (ok : OkE x) (w : World) (X B : Array Value) (HX : Hid (X = (ecells x).toArray)) (HB : Hid (B = (ecells (bareE x)).toArray)) :
    Calls Tryd.prog 73 #[.agg X] w fun e w' => e = .returned (.tuple #[.agg B, .bool (toldB x)]) ∧ Below w.heap.size w w' := by
  by_cases h1 : x.k = 1
  · exact eTold_user x ok h1 w X B HX HB
  by_cases h2 : x.k = 2
  · exact eTold_anchor x ok h2 w X B HX HB
  by_cases h3 : x.k = 3
  · exact eTold_claim x ok h3 w X B HX HB
  exact eTold_none x ok ⟨h1, h2, h3⟩ w X B HX HB
set_option maxHeartbeats 4000000 in
theorem eCheck_any (x : EnT) (ok : OkE x) (w : World) (X : Array Value) (HX : Hid (X = (ecells x).toArray)) :
    Calls Tryd.prog 50 #[.agg X] w fun e w' => e = .returned (.int .i64 (eE x)) ∧ Below w.heap.size w w' := by
  have hnot : ∀ (x : Bool) (w : World), (Op.unary .not (.bool x)).run Tryd.prog w = .ok (.bool (!x)) w := fun _ _ => rfl
  obtain ⟨Z, HZ, HA, HBZ, HNZ⟩ := noughtsE
  obtain ⟨B, HB, HSB, H1B, HNB⟩ := entry_row (bareE x) (bareE_ok ok)
  have HSX : Hid ((Tryd.prog.info? 41).map (·.size) = some X.size) := by show _ = _; rw [sizeE, HX.out]; simp [ecells_length _ ok]
  have HZB : Hid (Z.size = B.size) := by show _ = _; rw [HNZ.out, HNB.out]
  have HX0 : Hid ((w.alloc (.cells X 41)).heap[w.heap.size]? = some (.cells X 41 (0, 0))) := heap_alloc_new w _
  have HW0 : Hid (Below w.heap.size w (w.alloc (.cells X 41))) := (Below.refl _ _).alloc (Nat.le_refl _) _
  obtain ⟨u, hu⟩ : ∃ u, u = toldB x := ⟨_, rfl⟩
  obtain ⟨q, hq⟩ : ∃ q : Bool, q = false ↔ bareE x = x := by
    by_cases h : bareE x = x
    · exact ⟨false, by simp [h]⟩
    · exact ⟨true, by simp [h]⟩
  have T1 : Hid (∀ W, Calls Tryd.prog 73 #[.agg X] W fun e w' => e = .returned (.tuple #[.agg B, .bool u]) ∧ Below W.heap.size W w') := fun W => by rw [hu]; exact eTold_any x ok W X B HX HB
  have NQ : ∀ W, (binOp .neq 41 (.agg B) (.agg X)).run Tryd.prog W = .ok (.bool q) W := fun W => neqEntry (bareE x) x (bareE_ok ok) ok B X HB HX q hq W
  have hE : eE x = if (u && !q) = true then 0 else 60 := by
    unfold eE
    congr 1
    rw [eq_iff_iff, told_right, hu, Bool.and_eq_true, ← hq]
    cases q <;> simp
  rw [hE]
  clear HX HB hE hu hq HZ HBZ HNZ HNB ok
  cases u
  · go_enter Tryd.func50, Tryd.ntmps50
    go_wp2_with (first
      | (show aD 6 _ _ _ _ _ _ _ _ _ _ _; refine wpList_load_row rfl 41 (.tmp 1) rfl w.heap.size rfl 41 X (0, 0) _ HX0.out Tryd.underlying41 rfl HSX.out ?_; try simp only [Act.put, pS1, pS2, pS3])
      | fail)
    refine (T1.out _).mono ?_
    rintro e w1 ⟨rfl, hb1⟩
    have HB1 := hidk (HW0.out.trans (hb1.mono HW0.out.size))
    clear hb1 T1
    go_wp2_with (first
      | (show aD 3 _ _ _ _ _ _ _ _ _ _ _; refine wpList_new_var rfl 41 rfl Z HA.out ?_; intro g3 w2 HM3; try simp only [Act.put, pS1, pS2, pS3])
      | (refine wpList_set_var rfl 41 (.tmp 3) (.tmp 8) rfl g3 B rfl rfl 41 Z HM3.out.row HSB.out HZB.out H1B.out ?_; intro w3 HW3; try simp only [Act.put, pS1, pS2, pS3])
      | fail)
    have h3 : w.heap.size ≤ g3 := by rw [HM3.out.new]; exact HB1.out.size
    go_ret
    exact ⟨rfl, HW3.out.below _ _ (HB1.out.trans (HM3.out.below.mono HB1.out.size)) h3⟩
  · go_enter Tryd.func50, Tryd.ntmps50
    go_wp2_with (first
      | (show aD 6 _ _ _ _ _ _ _ _ _ _ _; refine wpList_load_row rfl 41 (.tmp 1) rfl w.heap.size rfl 41 X (0, 0) _ HX0.out Tryd.underlying41 rfl HSX.out ?_; try simp only [Act.put, pS1, pS2, pS3])
      | fail)
    refine (T1.out _).mono ?_
    rintro e w1 ⟨rfl, hb1⟩
    have HB1 := hidk (HW0.out.trans (hb1.mono HW0.out.size))
    have HX1 := hidk ((hb1.block _ (heap_lt HX0.out)).trans HX0.out)
    have hx1 := heap_lt HX1.out
    clear hb1 T1
    cases q
    all_goals
      go_wp2_with (first
        | (show aD 3 _ _ _ _ _ _ _ _ _ _ _; refine wpList_new_var rfl 41 rfl Z HA.out ?_; intro g3 w2 HM3; try simp only [Act.put, pS1, pS2, pS3])
        | (refine wpList_set_var rfl 41 (.tmp 3) (.tmp 8) rfl g3 B rfl rfl 41 Z HM3.out.row HSB.out HZB.out H1B.out ?_; intro w3 HW3; try simp only [Act.put, pS1, pS2, pS3])
        | (show aD 13 _ _ _ _ _ _ _ _ _ _ _; refine wpList_load_row_w (by rfl) 41 (.tmp 3) rfl g3 rfl 41 B (0, 0) _ HW3.out.row Tryd.underlying41 rfl HSB.out ?_; try simp only [Act.put, pS1, pS2, pS3])
        | (show aD 14 _ _ _ _ _ _ _ _ _ _ _; refine wpList_load_row_w (by rfl) 41 (.tmp 1) rfl w.heap.size rfl 41 X (0, 0) _ ((HW3.out.other _ (by have e1 := HM3.out.new; omega)).trans ((HM3.out.below.block _ hx1).trans HX1.out)) Tryd.underlying41 rfl HSX.out ?_; try simp only [Act.put, pS1, pS2, pS3])
        | fail)
      have h3 : w.heap.size ≤ g3 := by rw [HM3.out.new]; exact HB1.out.size
      go_ret
      exact ⟨rfl, HW3.out.below _ _ (HB1.out.trans (HM3.out.below.mono HB1.out.size)) h3⟩
theorem reads_no (w : World) : Reads w none 0 0 [] := ⟨rfl, Nat.le_refl _, by decide, .inl ⟨rfl, rfl⟩⟩
theorem bytes_no (w : World) (E : Int) : BytesE [] E (.returned (.tuple #[.slice none 0 0, .int .i64 E])) w := ⟨none, 0, rfl, reads_no w⟩
theorem rowOf_ok {fs : List (Int × ByteArray)} (h : layE 0 fs = 0) : rowOf fs = rowB fs := by unfold rowOf; rw [if_pos h]
set_option maxHeartbeats 2000000 in
theorem hPut_no (h : HdT) (hd : h.d.length = 32) (hr : rightH h = false) (w : World) (C : Array Value) (HC : Hid (C = (hcells h).toArray)) :
    Calls Tryd.prog 68 #[.agg C] w fun e w' => BytesE [] 70 e w' ∧ Below w.heap.size w w' := by
  have HSC : Hid ((Tryd.prog.info? 28).map (·.size) = some C.size) := by show _ = _; rw [sizeH, HC.out]; simp [hcells_length h hd]
  have HR : Hid ((w.alloc (.cells C 28)).heap[w.heap.size]? = some (.cells C 28 (0, 0))) := heap_alloc_new w _
  have HB : Hid (Below w.heap.size w (w.alloc (.cells C 28))) := (Below.refl _ _).alloc (Nat.le_refl _) _
  have K1 : Hid (∀ W, Calls Tryd.prog 22 #[.agg C] W fun e w' => e = .returned (.int .i64 70) ∧ Below W.heap.size W w') := fun W => by
    have := hCheck_any h hd W C HC
    rwa [show putE h = 70 by unfold putE; rw [hr]; rfl] at this
  clear HC hr
  go_enter Tryd.func68, Tryd.ntmps68
  go_wp2_with (first
    | (show aD 5 _ _ _ _ _ _ _ _ _ _ _; refine wpList_load_row rfl 28 (.tmp 1) rfl w.heap.size rfl 28 C (0, 0) _ HR.out Tryd.underlying28 rfl HSC.out ?_; try simp only [Act.put, pS1, pS2, pS3])
    | fail)
  refine (K1.out _).mono ?_
  rintro e w1 ⟨rfl, hb1⟩
  have HB1 := hidk (HB.out.trans (hb1.mono HB.out.size))
  clear hb1
  go_wp2
  go_ret2
  exact ⟨bytes_no _ _, HB1.out⟩
set_option maxHeartbeats 8000000 in
theorem hPut_yes (h : HdT) (hd : h.d.length = 32) (hr : rightH h = true) (w : World) (C : Array Value) (HC : Hid (C = (hcells h).toArray)) :
    Calls Tryd.prog 68 #[.agg C] w fun e w' => BytesE (headB h) 0 e w' ∧ Below w.heap.size w w' := by
  have HSC : Hid ((Tryd.prog.info? 28).map (·.size) = some C.size) := by show _ = _; rw [sizeH, HC.out]; simp [hcells_length h hd]
  have HRW : Hid ((w.alloc (.cells C 28)).heap[w.heap.size]? = some (.cells C 28 (0, 0))) := heap_alloc_new w _
  have K1 : Hid (∀ W, Calls Tryd.prog 22 #[.agg C] W fun e w' => e = .returned (.int .i64 0) ∧ Below W.heap.size W w') := fun W => by
    have := hCheck_any h hd W C HC
    rwa [show putE h = 0 by unfold putE; rw [hr]; rfl] at this
  obtain ⟨r, Hr⟩ : ∃ r, Hid (r = h.r) := ⟨h.r, hidk rfl⟩
  obtain ⟨e, He⟩ : ∃ r, Hid (r = h.e) := ⟨h.e, hidk rfl⟩
  obtain ⟨s, Hs⟩ : ∃ r, Hid (r = h.s) := ⟨h.s, hidk rfl⟩
  obtain ⟨t, Ht⟩ : ∃ r, Hid (r = h.t) := ⟨h.t, hidk rfl⟩
  obtain ⟨n1, Hn1⟩ : ∃ s : ByteArray, Hid (s = nOf r) := ⟨nOf r, hidk rfl⟩
  obtain ⟨n2, Hn2⟩ : ∃ s : ByteArray, Hid (s = nOf e) := ⟨nOf e, hidk rfl⟩
  obtain ⟨n3, Hn3⟩ : ∃ x : ByteArray, Hid (x = nOf s) := ⟨nOf s, hidk rfl⟩
  obtain ⟨n5, Hn5⟩ : ∃ s : ByteArray, Hid (s = nOf t) := ⟨nOf t, hidk rfl⟩
  obtain ⟨x4, HX⟩ : ∃ x : ByteArray, Hid (x = bA h.d) := ⟨bA h.d, hidk rfl⟩
  obtain ⟨l, Hl⟩ : ∃ l, Hid (l = headB h) := ⟨headB h, hidk rfl⟩
  obtain ⟨D, HD, HSD, H1D, H32D⟩ := dig_row' h.d hd
  have N1 : Hid (∀ W, Calls Tryd.prog 69 #[.int .i64 1, .int .i64 r] W fun e w' => e = .returned (.agg #[.int .i64 1, .string n1]) ∧ Below W.heap.size W w') := fun W => by rw [Hn1.out]; exact hNum_any 1 r W
  have N2 : Hid (∀ W, Calls Tryd.prog 69 #[.int .i64 2, .int .i64 e] W fun e w' => e = .returned (.agg #[.int .i64 2, .string n2]) ∧ Below W.heap.size W w') := fun W => by rw [Hn2.out]; exact hNum_any 2 e W
  have N3 : Hid (∀ W, Calls Tryd.prog 69 #[.int .i64 3, .int .i64 s] W fun e w' => e = .returned (.agg #[.int .i64 3, .string n3]) ∧ Below W.heap.size W w') := fun W => by rw [Hn3.out]; exact hNum_any 3 s W
  have N5 : Hid (∀ W, Calls Tryd.prog 69 #[.int .i64 5, .int .i64 t] W fun e w' => e = .returned (.agg #[.int .i64 5, .string n5]) ∧ Below W.heap.size W w') := fun W => by rw [Hn5.out]; exact hNum_any 5 t W
  have X4 : Hid (∀ W, Calls Tryd.prog 70 #[.int .i64 4, .agg D] W fun e w' => e = .returned (.agg #[.int .i64 4, .string x4]) ∧ Below W.heap.size W w') := fun W => by rw [HX.out]; exact hDig_any 4 h.d hd W D HD
  have hL5 : fieldsN (hL h) = [(1, n1), (2, n2), (3, n3), (4, x4), (5, n5)] := by rw [Hn1.out, Hn2.out, Hn3.out, Hn5.out, HX.out, Hr.out, He.out, Hs.out, Ht.out]; rfl
  have LY : Hid (∀ W, Calls Tryd.prog 53 #[.slice (some ⟨W.heap.size, 0, none⟩) 5 5] (W.alloc (.cells #[.int .i64 1, .string n1, .int .i64 2, .string n2, .int .i64 3, .string n3, .int .i64 4, .string x4, .int .i64 5, .string n5] 110)) fun e w' => ∃ a c, e = .returned (.tuple #[.slice a l.length c, .int .i64 0]) ∧ Reads w' a l.length c l ∧ Below W.heap.size W w') := fun W => by
    have hk := layE_hL h hd
    have hrw := rowOf_ok hk
    rw [hL5] at hk hrw
    have hm : ∀ f ∈ [((1 : Int), n1), (2, n2), (3, n3), (4, x4), (5, n5)], f.2.size ≤ maxLen := fun y hy => by
      simp only [List.mem_cons, List.not_mem_nil, or_false] at hy
      unfold maxLen
      rcases hy with rfl | rfl | rfl | rfl | rfl
      · have := nOf_size r; rw [← Hn1.out] at this; show n1.size ≤ _; omega
      · have := nOf_size e; rw [← Hn2.out] at this; show n2.size ≤ _; omega
      · have := nOf_size s; rw [← Hn3.out] at this; show n3.size ≤ _; omega
      · have := bA_size h.d; rw [← HX.out] at this; show x4.size ≤ _; omega
      · have := nOf_size t; rw [← Hn5.out] at this; show n5.size ≤ _; omega
    have hF := freads_lit W #[.int .i64 1, .string n1, .int .i64 2, .string n2, .int .i64 3, .string n3, .int .i64 4, .string x4, .int .i64 5, .string n5] (0, 0) [((1 : Int), n1), (2, n2), (3, n3), (4, x4), (5, n5)] rfl (by show 5 ≤ 1048576; decide) hm
    rw [← alloc_size W (.cells #[.int .i64 1, .string n1, .int .i64 2, .string n2, .int .i64 3, .string n3, .int .i64 4, .string x4, .int .i64 5, .string n5] 110)] at hF
    refine (lay_reads (some ⟨W.heap.size, 0, none⟩) 5 5 [((1 : Int), n1), (2, n2), (3, n3), (4, x4), (5, n5)] _ hF (by decide) (k := 0) (l := l) hk (by rw [hrw, Hl.out, ← hL5]; rfl)).mono ?_
    rintro e w' ⟨a, c, he, hrd, hb⟩
    exact ⟨a, c, he, hrd, ((Below.refl _ _).alloc (Nat.le_refl _) _).trans (hb.mono (by simp))⟩
  have HR := hidk (hrow_new w h hd C HC 28)
  have HB : Hid (Below w.heap.size w (w.alloc (.cells C 28))) := (Below.refl _ _).alloc (Nat.le_refl _) _
  have HDL : Hid (D.toList = cellsOf h.d) := by show _ = _; rw [HD.out]
  rw [← Hl.out]
  clear HC HX hL5 HD Hn1 Hn2 Hn3 Hn5 Hl hr
  go_enter Tryd.func68, Tryd.ntmps68
  go_wp2_with (first
    | (show aD 5 _ _ _ _ _ _ _ _ _ _ _; refine wpList_load_row rfl 28 (.tmp 1) rfl w.heap.size rfl 28 C (0, 0) _ HRW.out Tryd.underlying28 rfl HSC.out ?_; try simp only [Act.put, pS1, pS2, pS3])
    | fail)
  refine (K1.out _).mono ?_
  rintro e w0 ⟨rfl, hb0⟩
  have HB0 := hidk (HB.out.trans (hb0.mono HB.out.size))
  have HR0 := hidk (HR.out.keep hb0)
  clear hb0 HB HR HRW K1
  go_wp2
  refine wp_region_held_drew (S := (fun W => HRow W w.heap.size 0 h)) (by kernel_rfl) (show HRow w0.drew w.heap.size 0 h from HR0.out.keep (Below.refl _ _).drew) (fun hHeld => ?_)
  refine zX 0 (.pointer (some ⟨w.heap.size, 0, none⟩)) rfl hHeld ?_
  try simp only [Act.put, pS1, pS2, pS3]
  refine zW 1 (.int .i64 r) rfl (Or.inl ⟨by rfl, by intro W hSw; have h1 := hSw.r; rw [← Hr.out] at h1; go_simp⟩) hHeld ?_
  try simp only [Act.put, pS1, pS2, pS3]
  refine zX 3 (.pointer (some ⟨w.heap.size, 1, none⟩)) rfl hHeld ?_
  try simp only [Act.put, pS1, pS2, pS3]
  refine zW 4 (.int .i64 e) rfl (Or.inl ⟨by rfl, by intro W hSw; have h1 := hSw.e; rw [← He.out, Nat.zero_add] at h1; go_simp⟩) hHeld ?_
  try simp only [Act.put, pS1, pS2, pS3]
  refine zX 6 (.pointer (some ⟨w.heap.size, 2, none⟩)) rfl hHeld ?_
  try simp only [Act.put, pS1, pS2, pS3]
  refine zW 7 (.int .i64 s) rfl (Or.inl ⟨by rfl, by intro W hSw; have h1 := hSw.s; rw [← Hs.out, Nat.zero_add] at h1; go_simp⟩) hHeld ?_
  try simp only [Act.put, pS1, pS2, pS3]
  refine zX 9 (.pointer (some ⟨w.heap.size, 3, none⟩)) rfl hHeld ?_
  try simp only [Act.put, pS1, pS2, pS3]
  refine zW 10 (.agg D) rfl (yieldsIf_mid (by rfl) 26 (.tmp 19) rfl w.heap.size 3 rfl D _ (fun _ h => by rw [HDL.out]; have := h.d; rwa [Nat.zero_add] at this) Tryd.underlying26 rfl HSD.out) hHeld ?_
  try simp only [Act.put, pS1, pS2, pS3]
  refine zX 12 (.pointer (some ⟨w.heap.size, 35, none⟩)) rfl hHeld ?_
  try simp only [Act.put, pS1, pS2, pS3]
  refine zW 13 (.int .i64 t) rfl (Or.inl ⟨by rfl, by intro W hSw; have h1 := hSw.t; rw [← Ht.out, Nat.zero_add] at h1; go_simp⟩) hHeld ?_
  try simp only [Act.put, pS1, pS2, pS3]
  refine wpAnyH_ready (rs := [2]) (by kernel_rfl) (by simp) ?_
  refine (AllReadyH.cons (o := { dst := some 12, op := .call { callee := .value (.func 69), args := #[.const (.int .i64 1), .tmp 11], argTypes := #[3, 3] }, type := 110, pos := "head.go:47", after := #[zD 1], guard := none }) rfl (fun K hK => ?_) AllReadyH.nil)
  go_simp
  refine (N1.out _).mono ?_
  rintro e w2 ⟨rfl, hb1⟩
  have HB1 := hidk (HB0.out.drew.trans (hb1.mono HB0.out.size))
  go_wp2_with fail
  refine hK.out _ _ (hHeld.keep hb1) (fun hHeld => ?_)
  clear hK K
  try simp only [Act.put, pS1, pS2, pS3]
  refine wpAnyH_ready (rs := [5]) (by kernel_rfl) (by simp) ?_
  refine (AllReadyH.cons (o := { dst := some 15, op := .call { callee := .value (.func 69), args := #[.const (.int .i64 2), .tmp 14], argTypes := #[3, 3] }, type := 110, pos := "head.go:48", after := #[zD 4, zC 2], guard := none }) rfl (fun K hK => ?_) AllReadyH.nil)
  go_simp
  refine (N2.out _).mono ?_
  rintro e w5 ⟨rfl, hb2⟩
  have HB2 := hidk (HB1.out.trans (hb2.mono HB1.out.size))
  go_wp2_with fail
  refine hK.out _ _ (hHeld.keep hb2) (fun hHeld => ?_)
  clear hK K
  try simp only [Act.put, pS1, pS2, pS3]
  refine wpAnyH_ready (rs := [8]) (by kernel_rfl) (by simp) ?_
  refine (AllReadyH.cons (o := { dst := some 18, op := .call { callee := .value (.func 69), args := #[.const (.int .i64 3), .tmp 17], argTypes := #[3, 3] }, type := 110, pos := "head.go:49", after := #[zD 7, zC 5], guard := none }) rfl (fun K hK => ?_) AllReadyH.nil)
  go_simp
  refine (N3.out _).mono ?_
  rintro e w8 ⟨rfl, hb3⟩
  have HB3 := hidk (HB2.out.trans (hb3.mono HB2.out.size))
  go_wp2_with fail
  refine hK.out _ _ (hHeld.keep hb3) (fun hHeld => ?_)
  clear hK K
  try simp only [Act.put, pS1, pS2, pS3]
  refine wpAnyH_ready (rs := [11]) (by kernel_rfl) (by simp) ?_
  refine (AllReadyH.cons (o := { dst := some 21, op := .call { callee := .value (.func 70), args := #[.const (.int .i64 4), .tmp 20], argTypes := #[3, 26] }, type := 110, pos := "head.go:50", after := #[zD 10, zC 8], guard := none }) rfl (fun K hK => ?_) AllReadyH.nil)
  go_simp
  refine (X4.out _).mono ?_
  rintro e w11 ⟨rfl, hb4⟩
  have HB4 := hidk (HB3.out.trans (hb4.mono HB3.out.size))
  go_wp2_with fail
  refine hK.out _ _ (hHeld.keep hb4) (fun hHeld => ?_)
  clear hK K
  try simp only [Act.put, pS1, pS2, pS3]
  refine wpAnyH_ready (rs := [14]) (by kernel_rfl) (by simp) ?_
  refine (AllReadyH.cons (o := { dst := some 24, op := .call { callee := .value (.func 69), args := #[.const (.int .i64 5), .tmp 23], argTypes := #[3, 3] }, type := 110, pos := "head.go:51", after := #[zD 13, zC 11], guard := none }) rfl (fun K hK => ?_) AllReadyH.nil)
  go_simp
  refine (N5.out _).mono ?_
  rintro e w14 ⟨rfl, hb5⟩
  have HB5 := hidk (HB4.out.trans (hb5.mono HB4.out.size))
  go_wp2_with fail
  refine hK.out _ _ (hHeld.keep hb5) (fun hHeld => ?_)
  clear hK K
  try simp only [Act.put, pS1, pS2, pS3]
  refine wpAnyH_ready (rs := [15]) (by kernel_rfl) (by simp) ?_
  refine (AllReadyH.cons (o := { dst := some 25, op := .buildSlice 112 5 #[(0, .tmp 12), (1, .tmp 15), (2, .tmp 18), (3, .tmp 21), (4, .tmp 24)], type := 112, pos := "head.go:46", after := #[zD 2, zD 5, zD 8, zD 11, zD 14], guard := none }) rfl (fun K hK => ?_) AllReadyH.nil)
  have HR14 := hidk hHeld
  go_simp
  refine hK.out _ _ (hHeld.keep ((Below.refl _ _).alloc (Nat.le_refl _) _)) (fun hHeld => ?_)
  clear hK K
  try simp only [Act.put, pS1, pS2, pS3]
  refine wpAnyH_ready (rs := [16]) (by kernel_rfl) (by simp) ?_
  refine (AllReadyH.cons (o := { dst := some 26, op := .call { callee := .value (.func 53), args := #[.tmp 25], argTypes := #[112] }, type := 82, pos := "head.go:46", after := #[zD 15, zC 14], guard := none }) rfl (fun K hK => ?_) AllReadyH.nil)
  go_simp
  refine (LY.out _).mono ?_
  rintro e w16 ⟨a16, c16, rfl, hrd, hb6⟩
  have HRD := hidk hrd
  have HBF := hidk (HB5.out.trans (hb6.mono HB5.out.size))
  go_wp2_with fail
  refine hK.out _ _ (HR14.out.keep hb6) (fun hHeld => ?_)
  clear hK K
  try simp only [Act.put, pS1, pS2, pS3]
  refine zX 17 (.slice a16 l.length c16) rfl hHeld ?_
  try simp only [Act.put, pS1, pS2, pS3]
  refine zX 18 (.int .i64 0) rfl hHeld ?_
  try simp only [Act.put, pS1, pS2, pS3]
  refine zX 19 (.slice a16 l.length c16) rfl hHeld ?_
  try simp only [Act.put, pS1, pS2, pS3]
  refine zX 20 (.int .i64 0) rfl hHeld ?_
  try simp only [Act.put, pS1, pS2, pS3]
  refine wpAnyH_done (by kernel_rfl) ?_ _
  go_wp2
  go_ret2
  exact ⟨⟨_, _, rfl, HRD.out⟩, HBF.out⟩
theorem hPut_any (h : HdT) (hd : h.d.length = 32) (w : World) (C : Array Value) (HC : Hid (C = (hcells h).toArray)) :
    Calls Tryd.prog 68 #[.agg C] w fun e w' => BytesE (putB h) (putE h) e w' ∧ Below w.heap.size w w' := by
  unfold putB putE
  cases hr : rightH h
  · exact hPut_no h hd hr w C HC
  · exact hPut_yes h hd hr w C HC
set_option maxHeartbeats 2000000 in
theorem hLaid_any (h : HdT) (hd : h.d.length = 32) (w : World) (C : Array Value) (HC : Hid (C = (hcells h).toArray)) :
    Calls Tryd.prog 46 #[.agg C] w fun e w' => e = .returned (.string (bA (putB h))) ∧ Below w.heap.size w w' := by
  have HSC : Hid ((Tryd.prog.info? 28).map (·.size) = some C.size) := by show _ = _; rw [sizeH, HC.out]; simp [hcells_length h hd]
  have HR : Hid ((w.alloc (.cells C 28)).heap[w.heap.size]? = some (.cells C 28 (0, 0))) := heap_alloc_new w _
  have HB : Hid (Below w.heap.size w (w.alloc (.cells C 28))) := (Below.refl _ _).alloc (Nat.le_refl _) _
  have P1 : Hid (∀ W, Calls Tryd.prog 68 #[.agg C] W fun e w' => BytesE (putB h) (putE h) e w' ∧ Below W.heap.size W w') := fun W => hPut_any h hd W C HC
  obtain ⟨l, hl⟩ : ∃ l, l = putB h := ⟨_, rfl⟩
  obtain ⟨E, hE⟩ : ∃ l, l = putE h := ⟨_, rfl⟩
  obtain ⟨x, Hx⟩ : ∃ x : ByteArray, Hid (x = bA l) := ⟨bA l, hidk rfl⟩
  rw [← hl, ← hE] at P1
  rw [← hl, ← Hx.out]
  clear HC hl hE
  go_enter Tryd.func46, Tryd.ntmps46
  go_wp2_with (first
    | (show aD 6 _ _ _ _ _ _ _ _ _ _ _; refine wpList_load_row rfl 28 (.tmp 1) rfl w.heap.size rfl 28 C (0, 0) _ HR.out Tryd.underlying28 rfl HSC.out ?_; try simp only [Act.put, pS1, pS2, pS3])
    | fail)
  refine (P1.out _).mono ?_
  rintro e w1 ⟨⟨a1, c1, rfl, hr1⟩, hb1⟩
  have HB1 := hidk (HB.out.trans (hb1.mono HB.out.size))
  have hcv := conv_reads hr1
  rw [show (⟨l.toArray⟩ : ByteArray) = x from Hx.out.symm] at hcv
  clear hb1 hr1
  go_wp2
  go_ret
  exact ⟨rfl, HB1.out⟩
def signT (h : HdT) : ByteArray := ⟨#[104, 101, 97, 100, 32]⟩ ++ bA (putB h)
theorem putB_length (h : HdT) (hd : h.d.length = 32) : (putB h).length ≤ 84 := by
  unfold putB
  split
  · exact headB_length h hd
  · exact Nat.zero_le _
set_option maxHeartbeats 2000000 in
theorem hText_any (h : HdT) (hd : h.d.length = 32) (w : World) (C : Array Value) (HC : Hid (C = (hcells h).toArray)) :
    Calls Tryd.prog 26 #[.agg C] w fun e w' => e = .returned (.string (signT h)) ∧ Below w.heap.size w w' := by
  have HSC : Hid ((Tryd.prog.info? 28).map (·.size) = some C.size) := by show _ = _; rw [sizeH, HC.out]; simp [hcells_length h hd]
  have HR : Hid ((w.alloc (.cells C 28)).heap[w.heap.size]? = some (.cells C 28 (0, 0))) := heap_alloc_new w _
  have HB : Hid (Below w.heap.size w (w.alloc (.cells C 28))) := (Below.refl _ _).alloc (Nat.le_refl _) _
  have P1 : Hid (∀ W, Calls Tryd.prog 46 #[.agg C] W fun e w' => e = .returned (.string (bA (putB h))) ∧ Below W.heap.size W w') := fun W => hLaid_any h hd W C HC
  have hs := putB_length h hd
  rw [← bA_size] at hs
  unfold signT
  obtain ⟨x, hx⟩ : ∃ x : ByteArray, x = bA (putB h) := ⟨_, rfl⟩
  rw [← hx] at P1 hs ⊢
  clear HC hx
  go_enter Tryd.func26, Tryd.ntmps26
  go_wp2_with (first
    | (show aD 3 _ _ _ _ _ _ _ _ _ _ _; refine wpList_load_row rfl 28 (.tmp 1) rfl w.heap.size rfl 28 C (0, 0) _ HR.out Tryd.underlying28 rfl HSC.out ?_; try simp only [Act.put, pS1, pS2, pS3])
    | fail)
  refine (P1.out _).mono ?_
  rintro e w1 ⟨rfl, hb1⟩
  have HB1 := hidk (HB.out.trans (hb1.mono HB.out.size))
  clear hb1
  go_wp2
  go_ret
  exact ⟨rfl, HB1.out⟩
theorem signT_right (h : HdT) (hr : rightH h = true) : (signT h).data.toList = headT h := by
  unfold signT headT putB
  rw [if_pos hr]
  simp [bA]
theorem signT_size (h : HdT) (hd : h.d.length = 32) : (signT h).size ≤ 100000 := by
  have := putB_length h hd
  have e : (signT h).size = 5 + (putB h).length := by
    unfold signT
    rw [ByteArray.size_append, bA_size]
    rfl
  omega
set_option maxHeartbeats 2000000 in
theorem hPutS_no (s : SgT) (hs : InS s) (hm : mayS s = false) (w : World) (C : Array Value) (HC : Hid (C = (scells s).toArray)) :
    Calls Tryd.prog 47 #[.agg C] w fun e w' => BytesE [] 70 e w' ∧ Below w.heap.size w w' := by
  have hnot : ∀ (x : Bool) (w : World), (Op.unary .not (.bool x)).run Tryd.prog w = .ok (.bool (!x)) w := fun _ _ => rfl
  have HSC : Hid ((Tryd.prog.info? 33).map (·.size) = some C.size) := by show _ = _; rw [sizeS, HC.out]; simp [scells_length s hs.h.d hs.g]
  have HR : Hid ((w.alloc (.cells C 33)).heap[w.heap.size]? = some (.cells C 33 (0, 0))) := heap_alloc_new w _
  have HB : Hid (Below w.heap.size w (w.alloc (.cells C 33))) := (Below.refl _ _).alloc (Nat.le_refl _) _
  have K1 : Hid (∀ W, Calls Tryd.prog 23 #[.agg C] W fun e w' => e = .returned (.bool false) ∧ Below W.heap.size W w') := fun W => by
    have := hMay_any s hs.h.d W C HC
    rwa [hm] at this
  clear HC hm hs
  go_enter Tryd.func47, Tryd.ntmps47
  go_wp2_with (first
    | (show aD 4 _ _ _ _ _ _ _ _ _ _ _; refine wpList_load_row rfl 33 (.tmp 1) rfl w.heap.size rfl 33 C (0, 0) _ HR.out Tryd.underlying33 rfl HSC.out ?_; try simp only [Act.put, pS1, pS2, pS3])
    | fail)
  refine (K1.out _).mono ?_
  rintro e w1 ⟨rfl, hb1⟩
  have HB1 := hidk (HB.out.trans (hb1.mono HB.out.size))
  clear hb1
  go_wp2
  go_ret2
  exact ⟨bytes_no _ _, HB1.out⟩
set_option maxHeartbeats 8000000 in
theorem hPutS_yes (s : SgT) (hs : InS s) (hm : mayS s = true) (w : World) (C : Array Value) (HC : Hid (C = (scells s).toArray)) :
    Calls Tryd.prog 47 #[.agg C] w fun e w' => BytesE (signB s) 0 e w' ∧ Below w.heap.size w w' := by
  have hnot : ∀ (x : Bool) (w : World), (Op.unary .not (.bool x)).run Tryd.prog w = .ok (.bool (!x)) w := fun _ _ => rfl
  have hd := hs.h.d
  have hg := hs.g
  have hrt := ((mayS_iff s).1 hm).1
  have HSC : Hid ((Tryd.prog.info? 33).map (·.size) = some C.size) := by show _ = _; rw [sizeS, HC.out]; simp [scells_length s hd hg]
  have HRW : Hid ((w.alloc (.cells C 33)).heap[w.heap.size]? = some (.cells C 33 (0, 0))) := heap_alloc_new w _
  have K1 : Hid (∀ W, Calls Tryd.prog 23 #[.agg C] W fun e w' => e = .returned (.bool true) ∧ Below W.heap.size W w') := fun W => by
    have := hMay_any s hd W C HC
    rwa [hm] at this
  have HR := hidk (srow_new w s hd C HC 33)
  have HB : Hid (Below w.heap.size w (w.alloc (.cells C 33))) := (Below.refl _ _).alloc (Nat.le_refl _) _
  obtain ⟨HCs, HHC, HSH, H36⟩ := head_row s.h hd
  obtain ⟨D, HD, HSD, H1D, H32D⟩ := dig_row' s.g hg
  obtain ⟨n, Hn⟩ : ∃ n, Hid (n = s.n) := ⟨s.n, hidk rfl⟩
  obtain ⟨n2, Hn2⟩ : ∃ x : ByteArray, Hid (x = nOf n) := ⟨nOf n, hidk rfl⟩
  obtain ⟨x1, HX1⟩ : ∃ x : ByteArray, Hid (x = bA (headB s.h)) := ⟨bA (headB s.h), hidk rfl⟩
  obtain ⟨x3, HX3⟩ : ∃ x : ByteArray, Hid (x = bA s.g) := ⟨bA s.g, hidk rfl⟩
  obtain ⟨l, Hl⟩ : ∃ l, Hid (l = signB s) := ⟨signB s, hidk rfl⟩
  have B1 : Hid (∀ W, Calls Tryd.prog 46 #[.agg HCs] W fun e w' => e = .returned (.string x1) ∧ Below W.heap.size W w') := fun W => by
    have := hLaid_any s.h hd W HCs HHC
    rwa [show putB s.h = headB s.h by unfold putB; rw [if_pos hrt], ← HX1.out] at this
  have N2 : Hid (∀ W, Calls Tryd.prog 69 #[.int .i64 2, .int .i64 n] W fun e w' => e = .returned (.agg #[.int .i64 2, .string n2]) ∧ Below W.heap.size W w') := fun W => by rw [Hn2.out]; exact hNum_any 2 n W
  have X3 : Hid (∀ W, Calls Tryd.prog 70 #[.int .i64 3, .agg D] W fun e w' => e = .returned (.agg #[.int .i64 3, .string x3]) ∧ Below W.heap.size W w') := fun W => by rw [HX3.out]; exact hDig_any 3 s.g hg W D HD
  have hL3 : fieldsN (sL s) = [(1, x1), (2, n2), (3, x3)] := by rw [HX1.out, Hn2.out, HX3.out, Hn.out]; rfl
  have LY : Hid (∀ W, Calls Tryd.prog 53 #[.slice (some ⟨W.heap.size, 0, none⟩) 3 3] (W.alloc (.cells #[.int .i64 1, .string x1, .int .i64 2, .string n2, .int .i64 3, .string x3] 110)) fun e w' => ∃ a c, e = .returned (.tuple #[.slice a l.length c, .int .i64 0]) ∧ Reads w' a l.length c l ∧ Below W.heap.size W w') := fun W => by
    have hk := layE_sL s hd hg
    have hrw := rowOf_ok hk
    rw [hL3] at hk hrw
    have hmm : ∀ f ∈ [((1 : Int), x1), (2, n2), (3, x3)], f.2.size ≤ maxLen := fun y hy => by
      simp only [List.mem_cons, List.not_mem_nil, or_false] at hy
      unfold maxLen
      rcases hy with rfl | rfl | rfl
      · have := bA_size (headB s.h); rw [← HX1.out] at this; have := headB_length s.h hd; show x1.size ≤ _; omega
      · have := nOf_size n; rw [← Hn2.out] at this; show n2.size ≤ _; omega
      · have := bA_size s.g; rw [← HX3.out] at this; show x3.size ≤ _; omega
    have hF := freads_lit W #[.int .i64 1, .string x1, .int .i64 2, .string n2, .int .i64 3, .string x3] (0, 0) [((1 : Int), x1), (2, n2), (3, x3)] rfl (by show 3 ≤ 1048576; decide) hmm
    rw [← alloc_size W (.cells #[.int .i64 1, .string x1, .int .i64 2, .string n2, .int .i64 3, .string x3] 110)] at hF
    refine (lay_reads (some ⟨W.heap.size, 0, none⟩) 3 3 [((1 : Int), x1), (2, n2), (3, x3)] _ hF (by decide) (k := 0) (l := l) hk (by rw [hrw, Hl.out, ← hL3]; rfl)).mono ?_
    rintro e w' ⟨a, c, he, hrd, hb⟩
    exact ⟨a, c, he, hrd, ((Below.refl _ _).alloc (Nat.le_refl _) _).trans (hb.mono (by simp))⟩
  have HDL : Hid (D.toList = cellsOf s.g) := by show _ = _; rw [HD.out]
  have HHL : Hid (HCs.toList = hcells s.h) := by show _ = _; rw [HHC.out]
  rw [← Hl.out]
  clear HC hL3 HX1 HX3 HD Hn2 Hl hm hrt
  go_enter Tryd.func47, Tryd.ntmps47
  go_wp2_with (first
    | (show aD 4 _ _ _ _ _ _ _ _ _ _ _; refine wpList_load_row rfl 33 (.tmp 1) rfl w.heap.size rfl 33 C (0, 0) _ HRW.out Tryd.underlying33 rfl HSC.out ?_; try simp only [Act.put, pS1, pS2, pS3])
    | fail)
  refine (K1.out _).mono ?_
  rintro e w0 ⟨rfl, hb0⟩
  have HB0 := hidk (HB.out.trans (hb0.mono HB.out.size))
  have HR0 := hidk (HR.out.keep hb0)
  clear hb0 HB HR HRW K1
  go_wp2
  refine wp_region_held_drew (S := (fun W => SRow W w.heap.size 0 s)) (by kernel_rfl) (show SRow w0.drew w.heap.size 0 s from HR0.out.keep (Below.refl _ _).drew) (fun hHeld => ?_)
  refine zX 0 (.pointer (some ⟨w.heap.size, 0, none⟩)) rfl hHeld ?_
  try simp only [Act.put, pS1, pS2, pS3]
  refine zW 1 (.agg HCs) rfl (yieldsIf_mid (by rfl) 28 (.tmp 7) rfl w.heap.size 0 rfl HCs _ (fun _ h => by rw [HHL.out]; exact h.h) Tryd.underlying28 rfl HSH.out) hHeld ?_
  try simp only [Act.put, pS1, pS2, pS3]
  refine zX 4 (.pointer (some ⟨w.heap.size, 36, none⟩)) rfl hHeld ?_
  try simp only [Act.put, pS1, pS2, pS3]
  refine zW 5 (.int .i64 n) rfl (Or.inl ⟨by rfl, by intro W hSw; have h1 := hSw.n; rw [← Hn.out, Nat.zero_add] at h1; go_simp⟩) hHeld ?_
  try simp only [Act.put, pS1, pS2, pS3]
  refine zX 7 (.pointer (some ⟨w.heap.size, 37, none⟩)) rfl hHeld ?_
  try simp only [Act.put, pS1, pS2, pS3]
  refine zW 8 (.agg D) rfl (yieldsIf_mid (by rfl) 26 (.tmp 14) rfl w.heap.size 37 rfl D _ (fun _ h => by rw [HDL.out]; have := h.g; rwa [Nat.zero_add] at this) Tryd.underlying26 rfl HSD.out) hHeld ?_
  try simp only [Act.put, pS1, pS2, pS3]
  refine wpAnyH_ready (rs := [2]) (by kernel_rfl) (by simp) ?_
  refine (AllReadyH.cons (o := { dst := some 9, op := .call { callee := .value (.func 46), args := #[.tmp 8], argTypes := #[28] }, type := 9, pos := "head.go:97", after := #[zD 1], guard := none }) rfl (fun K hK => ?_) AllReadyH.nil)
  go_simp
  refine (B1.out _).mono ?_
  rintro e w2 ⟨rfl, hb1⟩
  have HBc := hidk (HB0.out.drew.trans (hb1.mono HB0.out.size))
  go_wp2_with fail
  refine hK.out _ _ (hHeld.keep hb1) (fun hHeld => ?_)
  clear hK K
  try simp only [Act.put, pS1, pS2, pS3]
  refine zX 3 (.agg #[.int .i64 1, .string x1]) rfl hHeld ?_
  try simp only [Act.put, pS1, pS2, pS3]
  refine wpAnyH_ready (rs := [6]) (by kernel_rfl) (by simp) ?_
  refine (AllReadyH.cons (o := { dst := some 13, op := .call { callee := .value (.func 69), args := #[.const (.int .i64 2), .tmp 12], argTypes := #[3, 3] }, type := 110, pos := "head.go:98", after := #[zD 5, zC 2], guard := none }) rfl (fun K hK => ?_) AllReadyH.nil)
  go_simp
  refine (N2.out _).mono ?_
  rintro e w6 ⟨rfl, hb2⟩
  replace HBc := hidk (HBc.out.trans (hb2.mono HBc.out.size))
  go_wp2_with fail
  refine hK.out _ _ (hHeld.keep hb2) (fun hHeld => ?_)
  clear hK K
  try simp only [Act.put, pS1, pS2, pS3]
  refine wpAnyH_ready (rs := [9]) (by kernel_rfl) (by simp) ?_
  refine (AllReadyH.cons (o := { dst := some 16, op := .call { callee := .value (.func 70), args := #[.const (.int .i64 3), .tmp 15], argTypes := #[3, 26] }, type := 110, pos := "head.go:99", after := #[zD 8, zC 6], guard := none }) rfl (fun K hK => ?_) AllReadyH.nil)
  go_simp
  refine (X3.out _).mono ?_
  rintro e w9 ⟨rfl, hb3⟩
  replace HBc := hidk (HBc.out.trans (hb3.mono HBc.out.size))
  go_wp2_with fail
  refine hK.out _ _ (hHeld.keep hb3) (fun hHeld => ?_)
  clear hK K
  try simp only [Act.put, pS1, pS2, pS3]
  refine wpAnyH_ready (rs := [10]) (by kernel_rfl) (by simp) ?_
  refine (AllReadyH.cons (o := { dst := some 17, op := .buildSlice 112 3 #[(0, .tmp 10), (1, .tmp 13), (2, .tmp 16)], type := 112, pos := "head.go:96", after := #[zD 3, zD 6, zD 9], guard := none }) rfl (fun K hK => ?_) AllReadyH.nil)
  have HRc := hidk hHeld
  go_simp
  refine hK.out _ _ (hHeld.keep ((Below.refl _ _).alloc (Nat.le_refl _) _)) (fun hHeld => ?_)
  clear hK K
  try simp only [Act.put, pS1, pS2, pS3]
  refine wpAnyH_ready (rs := [11]) (by kernel_rfl) (by simp) ?_
  refine (AllReadyH.cons (o := { dst := some 18, op := .call { callee := .value (.func 53), args := #[.tmp 17], argTypes := #[112] }, type := 82, pos := "head.go:96", after := #[zD 10, zC 9], guard := none }) rfl (fun K hK => ?_) AllReadyH.nil)
  go_simp
  refine (LY.out _).mono ?_
  rintro e w11 ⟨a11, c11, rfl, hrd, hb6⟩
  have HRD := hidk hrd
  have HBF := hidk (HBc.out.trans (hb6.mono HBc.out.size))
  go_wp2_with fail
  refine hK.out _ _ (HRc.out.keep hb6) (fun hHeld => ?_)
  clear hK K
  try simp only [Act.put, pS1, pS2, pS3]
  refine zX 12 (.slice a11 l.length c11) rfl hHeld ?_
  try simp only [Act.put, pS1, pS2, pS3]
  refine zX 13 (.int .i64 0) rfl hHeld ?_
  try simp only [Act.put, pS1, pS2, pS3]
  refine zX 14 (.slice a11 l.length c11) rfl hHeld ?_
  try simp only [Act.put, pS1, pS2, pS3]
  refine zX 15 (.int .i64 0) rfl hHeld ?_
  try simp only [Act.put, pS1, pS2, pS3]
  refine wpAnyH_done (by kernel_rfl) ?_ _
  go_wp2
  go_ret2
  exact ⟨⟨_, _, rfl, HRD.out⟩, HBF.out⟩
theorem hPutS_any (s : SgT) (hs : InS s) (w : World) (C : Array Value) (HC : Hid (C = (scells s).toArray)) :
    Calls Tryd.prog 47 #[.agg C] w fun e w' => BytesE (putSB s) (putSE s) e w' ∧ Below w.heap.size w w' := by
  unfold putSB putSE
  cases hr : mayS s
  · exact hPutS_no s hs hr w C HC
  · exact hPutS_yes s hs hr w C HC
theorem came2 (w : World) (M C : Array Value) (t u : TypeId) : Below w.heap.size w ((w.alloc (.cells M t)).alloc (.cells C u)) ∧ ((w.alloc (.cells M t)).alloc (.cells C u)).heap[w.heap.size]? = some (.cells M t (0, 0)) ∧ ((w.alloc (.cells M t)).alloc (.cells C u)).heap[w.heap.size + 1]? = some (.cells C u (0, 0)) :=
  ⟨((Below.refl _ _).alloc (Nat.le_refl _) _).alloc (by simp) _, heap_keep (heap_alloc_new w _), by have := heap_alloc_new (w.alloc (.cells M t)) (.cells C u); rwa [alloc_size] at this⟩
theorem srow_row {W : World} {g : Nat} {s : SgT} (hd : s.h.d.length = 32) {C : Array Value} (HC : Hid (C = (scells s).toArray)) {t : TypeId} (h : W.heap[g]? = some (.cells C t (0, 0))) : SRow W g 0 s := by
  refine srow_of hd fun j v hj => ?_
  rw [Nat.zero_add, cell_of_row _ _ j _ t (0, 0) h, HC.out]
  simpa using hj
theorem srow_r {W : World} {g : Nat} {s : SgT} (h : SRow W g 0 s) : W.cell? ⟨g, 0, none⟩ = some (.int .i64 s.h.r) := by
  have := h.h 0 (.int .i64 s.h.r) rfl
  simpa using this
set_option maxHeartbeats 8000000 in
theorem hVerify_any (master : List UInt8) (s : SgT) (w : World) (M C : Array Value) (HM : Hid (M = (cellsOf master).toArray)) (HC : Hid (C = (scells s).toArray)) (hm : master.length = 32) (hs : InS s) (hT : TabT w) :
    Calls Tryd.prog 49 #[.agg M, .agg C] w fun e w' => e = .returned (.int .i64 (verE master s)) ∧ Below w.heap.size w w' := by
  have hnot : ∀ (x : Bool) (w : World), (Op.unary .not (.bool x)).run Tryd.prog w = .ok (.bool (!x)) w := fun _ _ => rfl
  have hd := hs.h.d
  have hg := hs.g
  have HSM : Hid ((Tryd.prog.info? 23).map (·.size) = some M.size) := by show _ = _; rw [sizeY, HM.out]; simp [cellsOf_length, hm]
  have HSC : Hid ((Tryd.prog.info? 33).map (·.size) = some C.size) := by show _ = _; rw [sizeS, HC.out]; simp [scells_length s hd hg]
  obtain ⟨b, hb⟩ : ∃ b, b = mayS s := ⟨_, rfl⟩
  have K1 : Hid (∀ W, Calls Tryd.prog 23 #[.agg C] W fun e w' => e = .returned (.bool b) ∧ Below W.heap.size W w') := fun W => by rw [hb]; exact hMay_any s hd W C HC
  obtain ⟨r, Hr⟩ : ∃ r, Hid (r = s.h.r) := ⟨s.h.r, hidk rfl⟩
  obtain ⟨n, Hn⟩ : ∃ n, Hid (n = s.n) := ⟨s.n, hidk rfl⟩
  obtain ⟨HCs, HHC, HSH, H36⟩ := head_row s.h hd
  obtain ⟨D, HD, HSD, H1D, H32D⟩ := dig_row' s.g hg
  obtain ⟨u, HU⟩ : ∃ u, Hid (u = signT s.h) := ⟨_, hidk rfl⟩
  have T1 : Hid (∀ W, Calls Tryd.prog 26 #[.agg HCs] W fun e w' => e = .returned (.string u) ∧ Below W.heap.size W w') := fun W => by rw [HU.out]; exact hText_any s.h hd W HCs HHC
  obtain ⟨k, Hk⟩ : ∃ k, Hid (k = holdE master r n u.data.toList s.g) := ⟨_, hidk rfl⟩
  have Q1 : Hid (∀ W, Below w.heap.size w W → Calls Tryd.prog 72 #[.agg M, .int .i64 r, .int .i64 n, .string u, .agg D] W fun e w' => e = .returned (.int .i64 k) ∧ Below W.heap.size W w') := fun W hbw => by
    rw [Hk.out]
    exact holds_any master r n u s.g W M D HM HD hm hg (by rw [HU.out]; exact signT_size s.h hd) (hT.keep hbw)
  have HV : Hid (verE master s = if b = true then k else 70) := by
    show _ = _
    unfold verE
    rw [hb]
    cases hq : mayS s
    · rfl
    · have ho := mayS_owner s hq
      have hrt := ((mayS_iff s).1 hq).1
      rw [if_pos rfl, if_pos rfl, Hk.out, Hr.out, Hn.out, HU.out, holdE_in _ _ _ _ _ ho, signT_right s.h hrt]
      rfl
  rw [HV.out]
  have HW0 := hidk (came2 w M C 23 33)
  have HS0 := hidk (srow_row hd HC HW0.out.2.2)
  have HDL : Hid (D.toList = cellsOf s.g) := by show _ = _; rw [HD.out]
  have HHL : Hid (HCs.toList = hcells s.h) := by show _ = _; rw [HHC.out]
  clear HC HM hT HD HV Hk HU hb
  cases b
  · go_enter Tryd.func49, Tryd.ntmps49
    go_wp2_with (first
      | (show aD 5 _ _ _ _ _ _ _ _ _ _ _; refine wpList_load_row rfl 33 (.tmp 3) rfl (w.heap.size + 1) rfl 33 C (0, 0) _ HW0.out.2.2 Tryd.underlying33 rfl HSC.out ?_; try simp only [Act.put, pS1, pS2, pS3])
      | fail)
    refine (K1.out _).mono ?_
    rintro e w1 ⟨rfl, hb1⟩
    have HB1 := hidk (HW0.out.1.trans (hb1.mono HW0.out.1.size))
    clear hb1
    go_wp2
    go_ret
    exact ⟨rfl, HB1.out⟩
  · go_enter Tryd.func49, Tryd.ntmps49
    go_wp2_with (first
      | (show aD 5 _ _ _ _ _ _ _ _ _ _ _; refine wpList_load_row rfl 33 (.tmp 3) rfl (w.heap.size + 1) rfl 33 C (0, 0) _ HW0.out.2.2 Tryd.underlying33 rfl HSC.out ?_; try simp only [Act.put, pS1, pS2, pS3])
      | fail)
    refine (K1.out _).mono ?_
    rintro e w1 ⟨rfl, hb1⟩
    have HB1 := hidk (HW0.out.1.trans (hb1.mono HW0.out.1.size))
    have HM1 := hidk ((hb1.block _ (heap_lt HW0.out.2.1)).trans HW0.out.2.1)
    have HS1 := hidk (HS0.out.keep hb1)
    clear hb1 HW0 HS0 K1
    go_wp2
    refine wp_region_held_drew (S := (fun W => W.heap[w.heap.size]? = some (.cells M 23 (0, 0)) ∧ SRow W (w.heap.size + 1) 0 s)) (by kernel_rfl) ⟨HM1.out, HS1.out.keep (Below.refl _ _).drew⟩ (fun hHeld => ?_)
    refine zW 0 (.agg M) rfl (yieldsIf_row (by rfl) 23 (.tmp 2) rfl w.heap.size rfl 23 M (0, 0) _ (fun _ h => h.1) Tryd.underlying23 rfl HSM.out) hHeld ?_
    try simp only [Act.put, pS1, pS2, pS3]
    refine zX 1 (.pointer (some ⟨w.heap.size + 1, 0, none⟩)) rfl hHeld ?_
    try simp only [Act.put, pS1, pS2, pS3]
    refine zX 2 (.pointer (some ⟨w.heap.size + 1, 0, none⟩)) rfl hHeld ?_
    try simp only [Act.put, pS1, pS2, pS3]
    refine zW 3 (.int .i64 r) rfl (Or.inl ⟨by rfl, by intro W hSw; have h1 := srow_r hSw.2; rw [← Hr.out] at h1; go_simp⟩) hHeld ?_
    try simp only [Act.put, pS1, pS2, pS3]
    refine zX 4 (.pointer (some ⟨w.heap.size + 1, 36, none⟩)) rfl hHeld ?_
    try simp only [Act.put, pS1, pS2, pS3]
    refine zW 5 (.int .i64 n) rfl (Or.inl ⟨by rfl, by intro W hSw; have h1 := hSw.2.n; rw [← Hn.out, Nat.zero_add] at h1; go_simp⟩) hHeld ?_
    try simp only [Act.put, pS1, pS2, pS3]
    refine zX 6 (.pointer (some ⟨w.heap.size + 1, 0, none⟩)) rfl hHeld ?_
    try simp only [Act.put, pS1, pS2, pS3]
    refine zW 7 (.agg HCs) rfl (yieldsIf_mid (by rfl) 28 (.tmp 14) rfl (w.heap.size + 1) 0 rfl HCs _ (fun _ h => by rw [HHL.out]; exact h.2.h) Tryd.underlying28 rfl HSH.out) hHeld ?_
    try simp only [Act.put, pS1, pS2, pS3]
    refine zX 9 (.pointer (some ⟨w.heap.size + 1, 37, none⟩)) rfl hHeld ?_
    try simp only [Act.put, pS1, pS2, pS3]
    refine zW 10 (.agg D) rfl (yieldsIf_mid (by rfl) 26 (.tmp 17) rfl (w.heap.size + 1) 37 rfl D _ (fun _ h => by rw [HDL.out]; have := h.2.g; rwa [Nat.zero_add] at this) Tryd.underlying26 rfl HSD.out) hHeld ?_
    try simp only [Act.put, pS1, pS2, pS3]
    refine wpAnyH_ready (rs := [8]) (by kernel_rfl) (by simp) ?_
    refine (AllReadyH.cons (o := { dst := some 16, op := .call { callee := .value (.func 26), args := #[.tmp 15], argTypes := #[28] }, type := 9, pos := "head.go:88", after := #[zD 7], guard := none }) rfl (fun K hK => ?_) AllReadyH.nil)
    go_simp
    refine (T1.out _).mono ?_
    rintro e w8 ⟨rfl, hb8⟩
    have HBc := hidk (HB1.out.drew.trans (hb8.mono HB1.out.size))
    go_wp2_with fail
    refine hK.out _ _ ⟨(hb8.block _ (heap_lt hHeld.1)).trans hHeld.1, hHeld.2.keep hb8⟩ (fun hHeld => ?_)
    clear hK K
    try simp only [Act.put, pS1, pS2, pS3]
    refine wpAnyH_ready (rs := [11]) (by kernel_rfl) (by simp) ?_
    refine (AllReadyH.cons (o := { dst := some 19, op := .call { callee := .value (.func 72), args := #[.tmp 8, .tmp 11, .tmp 13, .tmp 16, .tmp 18], argTypes := #[23, 3, 3, 9, 26] }, type := 29, pos := "head.go:88", after := #[zD 0, zD 3, zD 5, zD 8, zD 10, zC 8], guard := none }) rfl (fun K hK => ?_) AllReadyH.nil)
    go_simp
    refine (Q1.out _ HBc.out).mono ?_
    rintro e w11 ⟨rfl, hb9⟩
    have HBF := hidk (HBc.out.trans (hb9.mono HBc.out.size))
    go_wp2_with fail
    refine hK.out _ _ ⟨(hb9.block _ (heap_lt hHeld.1)).trans hHeld.1, hHeld.2.keep hb9⟩ (fun hHeld => ?_)
    clear hK K
    try simp only [Act.put, pS1, pS2, pS3]
    refine zX 12 (.int .i64 k) rfl hHeld ?_
    try simp only [Act.put, pS1, pS2, pS3]
    refine wpAnyH_done (by kernel_rfl) ?_ _
    go_wp2
    go_ret
    exact ⟨rfl, HBF.out⟩
def restE (x : EnT) : List (Int × ByteArray) := if x.k = 1 then [(2, nOf x.c), (3, nOf x.s), (4, x.t)] else if x.k = 2 then [(5, bA (signB x.h))] else if x.k = 3 then [(6, bA (claimB x.m))] else []
theorem fieldsE_rest (x : EnT) : fieldsE x = (1, nOf x.k) :: restE x := rfl
def RowF (w : World) (cs : Array Value) (m : Nat) (e : Ending) (w' : World) : Prop := ∃ g, e = .returned (.slice (some ⟨g, 0, none⟩) m m) ∧ w'.heap[g]? = some (.cells cs 110 (0, 0)) ∧ w.heap.size ≤ g ∧ Below w.heap.size w w'
set_option maxHeartbeats 8000000 in
theorem eFields_user (x : EnT) (ok : OkE x) (hk : x.k = 1) (w : World) (X cs : Array Value) (HX : Hid (X = (ecells x).toArray)) (HC : Hid (cs.toList = fcells (restE x))) :
    Calls Tryd.prog 74 #[.agg X] w fun e w' => RowF w cs 3 e w' := by
  have HR := hidk (erow_new w x ok X HX 41)
  have HB : Hid (Below w.heap.size w (w.alloc (.cells X 41))) := (Below.refl _ _).alloc (Nat.le_refl _) _
  have c0 := HR.out.k
  rw [hk] at c0
  obtain ⟨c, Hc⟩ : ∃ c, Hid (c = x.c) := ⟨_, hidk rfl⟩
  obtain ⟨s, Hs⟩ : ∃ c, Hid (c = x.s) := ⟨_, hidk rfl⟩
  obtain ⟨t, Ht⟩ : ∃ c, Hid (c = x.t) := ⟨_, hidk rfl⟩
  obtain ⟨n2, Hn2⟩ : ∃ n, Hid (n = nOf c) := ⟨_, hidk rfl⟩
  obtain ⟨n3, Hn3⟩ : ∃ n, Hid (n = nOf s) := ⟨_, hidk rfl⟩
  have N2 : Hid (∀ W, Calls Tryd.prog 54 #[.int .i64 2, .int .i64 c] W fun e w' => e = .returned (.agg #[.int .i64 2, .string n2]) ∧ Below W.heap.size W w') := fun W => by rw [Hn2.out]; exact eNum_any 2 c W
  have N3 : Hid (∀ W, Calls Tryd.prog 54 #[.int .i64 3, .int .i64 s] W fun e w' => e = .returned (.agg #[.int .i64 3, .string n3]) ∧ Below W.heap.size W w') := fun W => by rw [Hn3.out]; exact eNum_any 3 s W
  have HCS : Hid (cs = #[.int .i64 2, .string n2, .int .i64 3, .string n3, .int .i64 4, .string t]) := by
    show _ = _
    apply Array.ext'
    rw [HC.out, Hn2.out, Hn3.out, Hc.out, Hs.out, Ht.out]
    unfold restE
    rw [if_pos hk]
    rfl
  clear HX HC Hn2 Hn3 ok hk
  go_enter Tryd.func74, Tryd.ntmps74
  go_wp2
  refine wp_region_held_drew (S := (fun W => ERow W w.heap.size 0 x)) (by kernel_rfl) (HR.out.keep (Below.refl _ _).drew) (fun hHeld => ?_)
  refine zX 0 (.pointer (some ⟨w.heap.size, 1, none⟩)) rfl hHeld ?_
  try simp only [Act.put, pS1, pS2, pS3]
  refine zW 1 (.int .i64 c) rfl (Or.inl ⟨by rfl, by intro W hSw; have h1 := hSw.c; rw [← Hc.out, Nat.zero_add] at h1; go_simp⟩) hHeld ?_
  try simp only [Act.put, pS1, pS2, pS3]
  refine zX 3 (.pointer (some ⟨w.heap.size, 2, none⟩)) rfl hHeld ?_
  try simp only [Act.put, pS1, pS2, pS3]
  refine zW 4 (.int .i64 s) rfl (Or.inl ⟨by rfl, by intro W hSw; have h1 := hSw.s; rw [← Hs.out, Nat.zero_add] at h1; go_simp⟩) hHeld ?_
  try simp only [Act.put, pS1, pS2, pS3]
  refine zX 6 (.pointer (some ⟨w.heap.size, 3, none⟩)) rfl hHeld ?_
  try simp only [Act.put, pS1, pS2, pS3]
  refine zW 7 (.string t) rfl (Or.inl ⟨by rfl, by intro W hSw; have h1 := hSw.t; rw [← Ht.out, Nat.zero_add] at h1; go_simp⟩) hHeld ?_
  try simp only [Act.put, pS1, pS2, pS3]
  refine zX 8 (.agg #[.int .i64 4, .string t]) rfl hHeld ?_
  try simp only [Act.put, pS1, pS2, pS3]
  refine wpAnyH_ready (rs := [2]) (by kernel_rfl) (by simp) ?_
  refine (AllReadyH.cons (o := { dst := some 13, op := .call { callee := .value (.func 54), args := #[.const (.int .i64 2), .tmp 12], argTypes := #[3, 3] }, type := 110, pos := "entry.go:134", after := #[zD 1], guard := none }) rfl (fun K hK => ?_) AllReadyH.nil)
  go_simp
  refine (N2.out _).mono ?_
  rintro e w2 ⟨rfl, hb2⟩
  have HB2 := hidk (HB.out.drew.trans (hb2.mono HB.out.size))
  go_wp2_with fail
  refine hK.out _ _ (hHeld.keep hb2) (fun hHeld => ?_)
  clear hK K
  try simp only [Act.put, pS1, pS2, pS3]
  refine wpAnyH_ready (rs := [5]) (by kernel_rfl) (by simp) ?_
  refine (AllReadyH.cons (o := { dst := some 16, op := .call { callee := .value (.func 54), args := #[.const (.int .i64 3), .tmp 15], argTypes := #[3, 3] }, type := 110, pos := "entry.go:135", after := #[zD 4, zC 2], guard := none }) rfl (fun K hK => ?_) AllReadyH.nil)
  go_simp
  refine (N3.out _).mono ?_
  rintro e w5 ⟨rfl, hb5⟩
  have HB5 := hidk (HB2.out.trans (hb5.mono HB2.out.size))
  go_wp2_with fail
  refine hK.out _ _ (hHeld.keep hb5) (fun hHeld => ?_)
  clear hK K
  try simp only [Act.put, pS1, pS2, pS3]
  refine wpAnyH_ready (rs := [9]) (by kernel_rfl) (by simp) ?_
  refine (AllReadyH.cons (o := { dst := some 20, op := .buildSlice 112 3 #[(0, .tmp 13), (1, .tmp 16), (2, .tmp 19)], type := 112, pos := "entry.go:133", after := #[zD 2, zD 5, zD 8], guard := none }) rfl (fun K hK => ?_) AllReadyH.nil)
  go_simp
  refine hK.out _ _ (hHeld.keep ((Below.refl _ _).alloc (Nat.le_refl _) _)) (fun hHeld => ?_)
  clear hK K
  try simp only [Act.put, pS1, pS2, pS3]
  refine zX 10 (.slice (some ⟨w5.heap.size, 0, none⟩) 3 3) rfl hHeld ?_
  try simp only [Act.put, pS1, pS2, pS3]
  refine wpAnyH_done (by kernel_rfl) ?_ _
  go_wp2
  go_ret
  refine ⟨w5.heap.size, rfl, ?_, HB5.out.size, HB5.out.trans (((Below.refl _ _).alloc (Nat.le_refl _) _).mono HB5.out.size)⟩
  rw [HCS.out]
  exact heap_alloc_new w5 _
set_option maxHeartbeats 4000000 in
theorem eFields_anchor (x : EnT) (ok : OkE x) (hk : x.k = 2) (hin : InS x.h) (hm : mayS x.h = true) (w : World) (X cs : Array Value) (HX : Hid (X = (ecells x).toArray)) (HC : Hid (cs.toList = fcells (restE x))) :
    Calls Tryd.prog 74 #[.agg X] w fun e w' => RowF w cs 1 e w' := by
  have HR := erow_new w x ok X HX 41
  have HB : Hid (Below w.heap.size w (w.alloc (.cells X 41))) := (Below.refl _ _).alloc (Nat.le_refl _) _
  have c0 := HR.k
  rw [hk] at c0
  obtain ⟨Q, HQ, HSQ, H1Q, HNQ⟩ := sign_row x.h ok.h ok.g
  have RQ : Hid ((w.alloc (.cells X 41)).rangeAt w.heap.size 4 Q.toList) := by have := HR.h; show World.rangeAt _ _ _ _; rw [HQ.out]; simpa using this
  obtain ⟨l, Hl⟩ : ∃ l, Hid (l = signB x.h) := ⟨_, hidk rfl⟩
  obtain ⟨y, Hy⟩ : ∃ y : ByteArray, Hid (y = bA l) := ⟨_, hidk rfl⟩
  have P1 : Hid (∀ W, Calls Tryd.prog 47 #[.agg Q] W fun e w' => (∃ a c, e = .returned (.tuple #[.slice a l.length c, .int .i64 0]) ∧ Reads w' a l.length c l) ∧ Below W.heap.size W w') := fun W => by
    rw [Hl.out]
    have := hPutS_any x.h hin W Q HQ
    unfold putSB putSE at this; rw [if_pos hm, if_pos hm] at this
    exact this
  have HCS : Hid (cs = #[.int .i64 5, .string y]) := by
    show _ = _
    apply Array.ext'
    rw [HC.out, Hy.out, Hl.out]
    unfold restE
    rw [if_neg (by omega), if_pos hk]
    rfl
  clear HX HC HR HQ Hl
  go_enter Tryd.func74, Tryd.ntmps74
  go_wp2_with (first
    | (show aD 25 _ _ _ _ _ _ _ _ _ _ _; refine wpList_mid rfl 33 (.tmp 24) rfl w.heap.size 4 rfl Q _ RQ.out Tryd.underlying33 rfl HSQ.out ?_; try simp only [Act.put, pS1, pS2, pS3])
    | fail)
  refine (P1.out _).mono ?_
  rintro e w1 ⟨⟨a1, c1, rfl, hr1⟩, hb1⟩
  have HB1 := hidk (HB.out.trans (hb1.mono HB.out.size))
  have hcv := conv_reads hr1
  rw [show (⟨l.toArray⟩ : ByteArray) = y from Hy.out.symm] at hcv
  clear hb1 hr1
  go_wp2
  go_ret
  refine ⟨w1.heap.size, rfl, ?_, HB1.out.size, HB1.out.trans (((Below.refl _ _).alloc (Nat.le_refl _) _).mono HB1.out.size)⟩
  rw [HCS.out]
  exact heap_alloc_new w1 _
set_option maxHeartbeats 4000000 in
theorem eFields_claim (x : EnT) (ok : OkE x) (hk : x.k = 3) (hm : rightC x.m = true) (w : World) (X cs : Array Value) (HX : Hid (X = (ecells x).toArray)) (HC : Hid (cs.toList = fcells (restE x))) :
    Calls Tryd.prog 74 #[.agg X] w fun e w' => RowF w cs 1 e w' := by
  have HR := erow_new w x ok X HX 41
  have HB : Hid (Below w.heap.size w (w.alloc (.cells X 41))) := (Below.refl _ _).alloc (Nat.le_refl _) _
  have c0 := HR.k
  rw [hk] at c0
  obtain ⟨Q, HQ, HSQ, H1Q, HNQ⟩ := claim_row5 x.m ok.m
  have RQ : Hid ((w.alloc (.cells X 41)).rangeAt w.heap.size 73 Q.toList) := by have := HR.m; show World.rangeAt _ _ _ _; rw [HQ.out]; simpa using this
  obtain ⟨l, Hl⟩ : ∃ l, Hid (l = claimB x.m) := ⟨_, hidk rfl⟩
  obtain ⟨y, Hy⟩ : ∃ y : ByteArray, Hid (y = bA l) := ⟨_, hidk rfl⟩
  have P1 : Hid (∀ W, Calls Tryd.prog 87 #[.agg Q] W fun e w' => (∃ a c, e = .returned (.tuple #[.slice a l.length c, .int .i64 0]) ∧ Reads w' a l.length c l) ∧ Below W.heap.size W w') := fun W => by
    rw [Hl.out]
    have := ePutC_any x.m ok.m W Q HQ
    unfold cB cE at this; rw [if_pos hm, if_pos hm] at this
    exact this
  have HCS : Hid (cs = #[.int .i64 6, .string y]) := by
    show _ = _
    apply Array.ext'
    rw [HC.out, Hy.out, Hl.out]
    unfold restE
    rw [if_neg (by omega), if_neg (by omega), if_pos hk]
    rfl
  clear HX HC HR HQ Hl
  go_enter Tryd.func74, Tryd.ntmps74
  go_wp2_with (first
    | (show aD 37 _ _ _ _ _ _ _ _ _ _ _; refine wpList_mid rfl 39 (.tmp 36) rfl w.heap.size 73 rfl Q _ RQ.out Tryd.underlying39 rfl HSQ.out ?_; try simp only [Act.put, pS1, pS2, pS3])
    | fail)
  refine (P1.out _).mono ?_
  rintro e w1 ⟨⟨a1, c1, rfl, hr1⟩, hb1⟩
  have HB1 := hidk (HB.out.trans (hb1.mono HB.out.size))
  have hcv := conv_reads hr1
  rw [show (⟨l.toArray⟩ : ByteArray) = y from Hy.out.symm] at hcv
  clear hb1 hr1
  go_wp2
  go_ret
  refine ⟨w1.heap.size, rfl, ?_, HB1.out.size, HB1.out.trans (((Below.refl _ _).alloc (Nat.le_refl _) _).mono HB1.out.size)⟩
  rw [HCS.out]
  exact heap_alloc_new w1 _
theorem restE_len {x : EnT} (h : rightE x = true) : (restE x).length = if x.k = 1 then 3 else 1 := by
  rcases right_kinds h with ⟨hk, _⟩ | ⟨hk, _⟩ | ⟨hk, _⟩
  · unfold restE; rw [if_pos hk, if_pos hk]; rfl
  · unfold restE; rw [if_neg (by omega), if_pos hk, if_neg (by omega)]; rfl
  · unfold restE; rw [if_neg (by omega), if_neg (by omega), if_pos hk, if_neg (by omega)]; rfl
theorem eFields_any (x : EnT) (hin : InE x) (h : rightE x = true) (w : World) (X cs : Array Value) (HX : Hid (X = (ecells x).toArray)) (HC : Hid (cs.toList = fcells (restE x))) :
    Calls Tryd.prog 74 #[.agg X] w fun e w' => RowF w cs (restE x).length e w' := by
  have hl := restE_len h
  rcases right_kinds h with ⟨hk, _⟩ | ⟨hk, _, _, _, hm, _⟩ | ⟨hk, _, _, _, _, hm⟩
  · rw [hl, if_pos hk]; exact eFields_user x hin.ok hk w X cs HX HC
  · rw [hl, if_neg (by omega)]; exact eFields_anchor x hin.ok hk hin.h hm w X cs HX HC
  · rw [hl, if_neg (by omega)]; exact eFields_claim x hin.ok hk hm w X cs HX HC
theorem eField_small {x : EnT} (ok : OkE x) (h : rightE x = true) : (∀ f ∈ fieldsE x, f.2.size ≤ maxLen) ∧ (fieldsE x).length ≤ 400 := fieldsE_small ok h
theorem fcells_one : ∀ (fs : List (Int × ByteArray)), ∀ v ∈ fcells fs, v.oneCell' = true
  | [], v, hv => by simp [fcells] at hv
  | f :: r, v, hv => by
    have e : fcells (f :: r) = [.int .i64 f.1, .string f.2] ++ fcells r := rfl
    rw [e] at hv
    simp only [List.mem_append, List.mem_cons, List.not_mem_nil, or_false] at hv
    rcases hv with (rfl | rfl) | hv
    · rfl
    · rfl
    · exact fcells_one r v hv
theorem fcells_len : ∀ (fs : List (Int × ByteArray)), (fcells fs).length = fs.length * 2
  | [] => rfl
  | f :: r => by
    have e : fcells (f :: r) = [.int .i64 f.1, .string f.2] ++ fcells r := rfl
    rw [e, List.length_append, fcells_len r]
    simp
    omega
theorem eAppend (w W : World) (gk g : Nat) (n1 : ByteArray) (fs : List (Int × ByteArray)) (cs : Array Value) (HC : Hid (cs.toList = fcells fs)) (h1 : W.heap[gk]? = some (.cells #[.int .i64 1, .string n1] 110 (0, 0))) (h2 : W.heap[g]? = some (.cells cs 110 (0, 0))) (hk : w.heap.size ≤ gk) (hb : Below w.heap.size w W) (hl : fs.length ≤ 100) (hm : ∀ f ∈ ((1 : Int), n1) :: fs, f.2.size ≤ maxLen) :
    ∃ a c w', (Builtin.append_ #[112, 112] 112 #[.slice (some ⟨gk, 0, none⟩) 1 1, .slice (some ⟨g, 0, none⟩) fs.length fs.length]).run Tryd.prog W = .ok (.slice a (((1 : Int), n1) :: fs).length c) w' ∧ FReads w'.heap.size w' a (((1 : Int), n1) :: fs).length c (((1 : Int), n1) :: fs) ∧ Below w.heap.size w w' := by
  obtain ⟨i0, hi, hz0, hz1, hz2⟩ := info_parts info37
  have hgk := heap_lt h1
  have hown : W.ownsRow w.heap.size 110 2 (.slice (some ⟨gk, 0, none⟩) 1 1) 1 (fcells [((1 : Int), n1)]) := ⟨rfl, .inr ⟨gk, 1, #[.int .i64 1, .string n1], rfl, hk, h1, Nat.le_refl _, by unfold maxLen; decide, rfl, rfl⟩⟩
  have hn : ∀ (j : Nat) (u : Value), (fcells fs)[j]? = some u → W.cell? ((⟨g, 0, none⟩ : Addr).add j) = some u := by
    intro j u hj
    rw [add_plain, Nat.zero_add, cell_of_row W g j cs 110 (0, 0) h2]
    rw [← HC.out] at hj
    simpa using hj
  obtain ⟨v', w', hr, ho, hg, _⟩ := run_append_own (P := Tryd.prog) W w.heap.size 112 112 110 i0 (.agg #[.int .i64 0, .string ⟨#[]⟩]) 2 24 Tryd.underlying112 hi hz0 hz1 hz2 rfl (by decide) _ 1 _ hown ⟨g, 0, none⟩ fs.length fs.length (fcells fs) (fcells_len fs) hn (fcells_one fs) (by unfold maxLen; omega) (by omega) (by omega)
  have e1 : fcells [((1 : Int), n1)] ++ fcells fs = fcells (((1 : Int), n1) :: fs) := rfl
  have e2 : 1 + fs.length = (((1 : Int), n1) :: fs).length := by simp; omega
  rw [e1, e2] at ho
  obtain ⟨a, c, rfl, hrd⟩ := freads_own ho hm
  exact ⟨a, c, w', hr, hrd, hb.grown hg hb.size (by intro k hk'; cases hk'; exact hk)⟩
set_option maxHeartbeats 2000000 in
theorem ePutE_no (x : EnT) (ok : OkE x) (hr : rightE x = false) (w : World) (X : Array Value) (HX : Hid (X = (ecells x).toArray)) :
    Calls Tryd.prog 51 #[.agg X] w fun e w' => BytesE [] 60 e w' ∧ Below w.heap.size w w' := by
  have HSX : Hid ((Tryd.prog.info? 41).map (·.size) = some X.size) := by show _ = _; rw [sizeE, HX.out]; simp [ecells_length _ ok]
  have HX0 : Hid ((w.alloc (.cells X 41)).heap[w.heap.size]? = some (.cells X 41 (0, 0))) := heap_alloc_new w _
  have HB : Hid (Below w.heap.size w (w.alloc (.cells X 41))) := (Below.refl _ _).alloc (Nat.le_refl _) _
  have K1 : Hid (∀ W, Calls Tryd.prog 50 #[.agg X] W fun e w' => e = .returned (.int .i64 60) ∧ Below W.heap.size W w') := fun W => by
    have := eCheck_any x ok W X HX
    rwa [show eE x = 60 by unfold eE; rw [hr]; rfl] at this
  clear HX hr
  go_enter Tryd.func51, Tryd.ntmps51
  go_wp2_with (first
    | (show aD 6 _ _ _ _ _ _ _ _ _ _ _; refine wpList_load_row rfl 41 (.tmp 1) rfl w.heap.size rfl 41 X (0, 0) _ HX0.out Tryd.underlying41 rfl HSX.out ?_; try simp only [Act.put, pS1, pS2, pS3])
    | fail)
  refine (K1.out _).mono ?_
  rintro e w1 ⟨rfl, hb1⟩
  have HB1 := hidk (HB.out.trans (hb1.mono HB.out.size))
  clear hb1
  go_wp2
  go_ret2
  exact ⟨eBytes_no _ _, HB1.out⟩
set_option maxHeartbeats 4000000 in
theorem ePutE_yes (x : EnT) (hin : InE x) (hr : rightE x = true) (w : World) (X : Array Value) (HX : Hid (X = (ecells x).toArray)) :
    Calls Tryd.prog 51 #[.agg X] w fun e w' => BytesE (entryB x) 0 e w' ∧ Below w.heap.size w w' := by
  have ok := hin.ok
  have HSX : Hid ((Tryd.prog.info? 41).map (·.size) = some X.size) := by show _ = _; rw [sizeE, HX.out]; simp [ecells_length _ ok]
  have HX0 : Hid ((w.alloc (.cells X 41)).heap[w.heap.size]? = some (.cells X 41 (0, 0))) := heap_alloc_new w _
  have HB : Hid (Below w.heap.size w (w.alloc (.cells X 41))) := (Below.refl _ _).alloc (Nat.le_refl _) _
  have K1 : Hid (∀ W, Calls Tryd.prog 50 #[.agg X] W fun e w' => e = .returned (.int .i64 0) ∧ Below W.heap.size W w') := fun W => by
    have := eCheck_any x ok W X HX
    rwa [show eE x = 0 by unfold eE; rw [hr]; rfl] at this
  obtain ⟨k, Hk⟩ : ∃ k, Hid (k = x.k) := ⟨_, hidk rfl⟩
  obtain ⟨n1, Hn1⟩ : ∃ n, Hid (n = nOf k) := ⟨_, hidk rfl⟩
  have N1 : Hid (∀ W, Calls Tryd.prog 54 #[.int .i64 1, .int .i64 k] W fun e w' => e = .returned (.agg #[.int .i64 1, .string n1]) ∧ Below W.heap.size W w') := fun W => by rw [Hn1.out]; exact eNum_any 1 k W
  have KK : Hid (∀ W : World, W.heap[w.heap.size]? = some (.cells X 41 (0, 0)) → W.cell? ⟨w.heap.size, 0, none⟩ = some (.int .i64 k)) := fun W h => by have := (erow_row ok HX h).k; rwa [← Hk.out] at this
  obtain ⟨fs, hfs⟩ : ∃ fs, fs = restE x := ⟨_, rfl⟩
  obtain ⟨cs, HC⟩ : ∃ cs : Array Value, Hid (cs.toList = fcells fs) := ⟨(fcells fs).toArray, hidk rfl⟩
  have hfl : fs.length ≤ 100 := by rw [hfs, restE_len hr]; split <;> omega
  have F1 : Hid (∀ W, Calls Tryd.prog 74 #[.agg X] W fun e w' => RowF W cs fs.length e w') := fun W => by rw [hfs]; exact eFields_any x hin hr W X cs HX (by rw [← hfs]; exact HC)
  have hall : fieldsE x = (1, n1) :: fs := by rw [fieldsE_rest, Hn1.out, Hk.out, hfs]
  have hsm := (eField_small ok hr).1
  rw [hall] at hsm
  have AP : Hid (∀ W gk g, W.heap[gk]? = some (.cells #[.int .i64 1, .string n1] 110 (0, 0)) → W.heap[g]? = some (.cells cs 110 (0, 0)) → w.heap.size ≤ gk → Below w.heap.size w W →
      ∃ a c w', (Builtin.append_ #[112, 112] 112 #[.slice (some ⟨gk, 0, none⟩) 1 1, .slice (some ⟨g, 0, none⟩) fs.length fs.length]).run Tryd.prog W = .ok (.slice a (((1 : Int), n1) :: fs).length c) w' ∧ FReads w'.heap.size w' a (((1 : Int), n1) :: fs).length c (((1 : Int), n1) :: fs) ∧ Below w.heap.size w w') := fun W gk g h1 h2 h3 h4 => eAppend w W gk g n1 fs cs HC h1 h2 h3 h4 hfl hsm
  obtain ⟨l, Hl⟩ : ∃ l, Hid (l = entryB x) := ⟨_, hidk rfl⟩
  have hk0 := layE_entry hr ok
  rw [hall] at hk0
  have LY : Hid (∀ W a n c, n = (((1 : Int), n1) :: fs).length → FReads W.heap.size W a n c (((1 : Int), n1) :: fs) → Calls Tryd.prog 53 #[.slice a n c] W fun e w' => (∃ a' c', e = .returned (.tuple #[.slice a' l.length c', .int .i64 0]) ∧ Reads w' a' l.length c' l) ∧ Below W.heap.size W w') := fun W a n c hn h => by
    subst hn
    refine (lay_reads a _ c _ W h (by simp; omega) (k := 0) (l := l) hk0 (by rw [eRow_ok hk0, Hl.out, ← hall]; rfl)).mono ?_
    rintro e w' ⟨a', c', he, hrd, hb⟩
    exact ⟨⟨a', c', he, hrd⟩, hb⟩
  obtain ⟨nn, Hnn⟩ : ∃ n, Hid (n = (((1 : Int), n1) :: fs).length) := ⟨_, hidk rfl⟩
  obtain ⟨m, Hm⟩ : ∃ m, Hid (m = fs.length) := ⟨_, hidk rfl⟩
  rw [← Hl.out]
  rw [← Hnn.out] at AP
  rw [← Hm.out] at AP F1
  clear HX hr hall hsm hk0 Hn1 hfs HC ok hin
  go_enter Tryd.func51, Tryd.ntmps51
  go_wp2_with (first
    | (show aD 6 _ _ _ _ _ _ _ _ _ _ _; refine wpList_load_row rfl 41 (.tmp 1) rfl w.heap.size rfl 41 X (0, 0) _ HX0.out Tryd.underlying41 rfl HSX.out ?_; try simp only [Act.put, pS1, pS2, pS3])
    | fail)
  refine (K1.out _).mono ?_
  rintro e w1 ⟨rfl, hb1⟩
  have HB1 := hidk (HB.out.trans (hb1.mono HB.out.size))
  have HX1 := hidk ((hb1.block _ (heap_lt HX0.out)).trans HX0.out)
  have c0 := KK.out w1 HX1.out
  clear hb1 HB HX0 K1 KK
  go_wp2_with fail
  refine (N1.out _).mono ?_
  rintro e w2 ⟨rfl, hb2⟩
  have HB2 := hidk (HB1.out.trans (hb2.mono HB1.out.size))
  have HX2 := hidk ((hb2.block _ (heap_lt HX1.out)).trans HX1.out)
  have HX3 := hidk (heap_keep (o' := .cells #[.int .i64 1, .string n1] 110) HX2.out)
  have HK3 := hidk (heap_alloc_new w2 (.cells #[.int .i64 1, .string n1] 110))
  have HB3 := hidk (HB2.out.trans (((Below.refl _ _).alloc (Nat.le_refl _) (.cells #[.int .i64 1, .string n1] 110)).mono HB2.out.size))
  clear hb2 HB1 HX1 HX2 N1 c0
  go_wp2_with (first
    | (show aD 16 _ _ _ _ _ _ _ _ _ _ _; refine wpList_load_row rfl 41 (.tmp 1) rfl w.heap.size rfl 41 X (0, 0) _ HX3.out Tryd.underlying41 rfl HSX.out ?_; try simp only [Act.put, pS1, pS2, pS3])
    | fail)
  refine (F1.out _).mono ?_
  rintro e w4 ⟨g4, rfl, hg4, _, hb4⟩
  obtain ⟨a5, c5, w5, hrun, hfr, hb5⟩ := AP.out w4 w2.heap.size g4 ((hb4.block _ (heap_lt HK3.out)).trans HK3.out) hg4 HB2.out.size (HB3.out.trans (hb4.mono HB3.out.size))
  have HRUN := hidk hrun
  have HFR := hidk hfr
  have HB5 := hidk hb5
  clear hrun hfr hb5 hb4 hg4 HK3 HX3 HB3 HB2 F1 AP
  go_wp2_with (first
    | (show aD 18 _ _ _ _ _ _ _ _ _ _ _; refine wpList_append_run rfl (.tmp 15) (.tmp 17) 112 112 rfl _ _ _ w5 rfl rfl HRUN.out ?_; try simp only [Act.put, pS1, pS2, pS3])
    | fail)
  refine (LY.out w5 a5 nn c5 Hnn.out (by rw [Hnn.out]; rw [Hnn.out] at HFR; exact HFR.out)).mono ?_
  rintro e w6 ⟨⟨a6, c6, rfl, hr6⟩, hb6⟩
  have HR6 := hidk hr6
  have HB6 := hidk (HB5.out.trans (hb6.mono HB5.out.size))
  clear hr6 hb6
  go_wp2
  go_ret2
  exact ⟨⟨_, _, rfl, HR6.out⟩, HB6.out⟩
theorem ePutE_any (x : EnT) (hin : InE x) (w : World) (X : Array Value) (HX : Hid (X = (ecells x).toArray)) :
    Calls Tryd.prog 51 #[.agg X] w fun e w' => BytesE (eB x) (eE x) e w' ∧ Below w.heap.size w w' := by
  unfold eB eE
  cases hr : rightE x
  · exact ePutE_no x hin.ok hr w X HX
  · exact ePutE_yes x hin hr w X HX
def tkD (tag : Int) (fs : List (Int × ByteArray)) : ByteArray := match fs with
  | f :: _ => if f.1 = tag then f.2 else ⟨#[]⟩
  | [] => ⟨#[]⟩
def tkB (tag : Int) (fs : List (Int × ByteArray)) : Bool := match fs with
  | f :: _ => decide (f.1 = tag)
  | [] => false
end Go.Proofs.YtkmedlfbkddmoaaDoor
