/- Texts of our own that the row of PathMakes leans on, part 24. -/
import Derived.Test.YtkmedlfbkddmoaaGreatDoorPathMakesJ0
import Derived.Test.YtkmedlfbkddmoaaGreatDoorPathMakesJ10
import Derived.Test.YtkmedlfbkddmoaaGreatDoorPathMakesJ11
import Derived.Test.YtkmedlfbkddmoaaGreatDoorPathMakesJ19
import Derived.Test.YtkmedlfbkddmoaaGreatDoorPathMakesJ21
import Derived.Test.YtkmedlfbkddmoaaGreatDoorPathMakesJ22
import Derived.Test.YtkmedlfbkddmoaaGreatDoorPathMakesJ23
import Derived.Deep.RegionHeld3
import Derived.RangeFuncNested
import Derived.RangeFuncBound
import Derived.RangeFuncCalls
import Derived.RangeFuncLeaves
import Derived.RangeFuncBox
import Derived.Shelf.Abstract
import Derived.Shelf.RegionOpen
import Derived.WalkKit
import Derived.OwnWalkIn
import Derived.TacticsInMore
import Derived.LoopNIn
import Derived.LoopIn
import Derived.Lib.BufferWrite
/- What the calls of package head answer, as the document says (their proofs are of one commit of the code). -/
namespace Go.Proofs.YtkmedlfbkddmoaaGreatDoor
open Go.RowKit Sums Nums
set_option linter.unusedVariables false
set_option linter.unusedSimpArgs false
set_option maxRecDepth 100000
def TabH (w : World) : Prop := Table 1 w
theorem TabH.keep {w w' : World} (h : TabH w) (hb : Below w.heap.size w w') : TabH w' := Table.keep h hb
structure InH (h : HdT) : Prop where
  d : h.d.length = 32
  r : In64 h.r
  e : In64 h.e
  s : In64 h.s
  t : In64 h.t
structure InS (s : SgT) : Prop where
  h : InH s.h
  n : In64 s.n
  g : s.g.length = 32
def signV (z : SgT) : Value := .agg (scells z).toArray
def BytesE (bs : List UInt8) (E : Int) (e : Ending) (w' : World) : Prop := ∃ a cap, e = .returned (.tuple #[.slice a bs.length cap, .int .i64 E]) ∧ Reads w' a bs.length cap bs
def putB (h : HdT) : List UInt8 := if rightH h = true then headB h else []
def putE (h : HdT) : Int := if rightH h = true then 0 else 70
def putSB (s : SgT) : List UInt8 := if mayS s = true then signB s else []
def putSE (s : SgT) : Int := if mayS s = true then 0 else 70
structure HeadC : Prop where
  check : ∀ (h : HdT) (hh : InH h) (w : World) (C : Array Value) (HC : Hid (C = (hcells h).toArray)),
    Calls Tryz.prog 64 #[.agg C] w fun e w' => e = .returned (.int .i64 (putE h)) ∧ Below w.heap.size w w'
  put : ∀ (h : HdT) (hh : InH h) (w : World) (C : Array Value) (HC : Hid (C = (hcells h).toArray)),
    Calls Tryz.prog 85 #[.agg C] w fun e w' => BytesE (putB h) (putE h) e w' ∧ Below w.heap.size w w'
  sign : ∀ (master : List UInt8) (h : HdT) (n : Int) (w : World) (M C R : Array Value) (HM : Hid (M = (cellsOf master).toArray)) (HC : Hid (C = (hcells h).toArray)) (hm : master.length = 32) (hh : InH h) (hn : In64 n) (hT : TabH w) (HR : Hid (R = (scells (signO master h n)).toArray)),
    Calls Tryz.prog 41 #[.agg M, .agg C, .int .i64 n] w fun e w' => e = .returned (.tuple #[.agg R, .int .i64 (signE h n)]) ∧ Below w.heap.size w w'
  verify : ∀ (master : List UInt8) (s : SgT) (w : World) (M C : Array Value) (HM : Hid (M = (cellsOf master).toArray)) (HC : Hid (C = (scells s).toArray)) (hm : master.length = 32) (hs : InS s) (hT : TabH w),
    Calls Tryz.prog 42 #[.agg M, .agg C] w fun e w' => e = .returned (.int .i64 (verE master s)) ∧ Below w.heap.size w w'
  putS : ∀ (s : SgT) (hs : InS s) (w : World) (C : Array Value) (HC : Hid (C = (scells s).toArray)),
    Calls Tryz.prog 31 #[.agg C] w fun e w' => BytesE (putSB s) (putSE s) e w' ∧ Below w.heap.size w w'
theorem right_in {h : HdT} (hr : rightH h = true) (hd : h.d.length = 32) : InH h := by
  have := (rightH_iff h).1 hr
  refine ⟨hd, ?_, ?_, ?_, ?_⟩ <;> unfold In64 <;> omega
theorem zero_in : InH zeroH := ⟨rfl, by unfold In64; decide, by unfold In64; decide, by unfold In64; decide, by unfold In64; decide⟩
theorem may_in {s : SgT} (hm : mayS s = true) (hd : s.h.d.length = 32) (hg : s.g.length = 32) : InS s := by
  have := (mayS_iff s).1 hm
  exact ⟨right_in this.1 hd, by unfold In64; omega, hg⟩
theorem zeroS_in : InS zeroS := ⟨zero_in, by unfold In64; decide, rfl⟩
theorem wpList_build_two {P : Program} {ops : Array Oper} {rest : List Oper} {o : Oper} {a : Act} {w : World} {Q : Exit → Act → World → Prop} (hg : o.guard = none) (t : TypeId) (i j : Nat) (x y : Operand) (ho : o.op = .build t #[(i, x), (j, y)])
    (cs : Array Value) (v u : Value) (hv : a.eval x = v) (hu : a.eval y = u) (hb : P.built t [(i, v), (j, u)] = some cs) (h : wpList P ops Q rest (a.put o.dst (.agg cs)) w) : wpList P ops Q (o :: rest) a w :=
  wpList_build_row hg t #[(i, x), (j, y)] ho cs (by simpa [hv, hu] using hb) h
def ccells (c : ClT) : List Value := [.int .i64 c.r, .int .i64 c.e, .int .i64 c.n, .int .i64 c.s] ++ cellsOf c.d
theorem ccells_length (c : ClT) (hd : c.d.length = 32) : (ccells c).length = 36 := by simp [ccells, cellsOf_length, hd]
def ecells (x : EnT) : List Value := [.int .i64 x.k, .int .i64 x.c, .int .i64 x.s, .string x.t] ++ scells x.h ++ ccells x.m
theorem ecells_length (x : EnT) (ok : OkE x) : (ecells x).length = 109 := by simp [ecells, scells_length _ ok.h ok.g, ccells_length _ ok.m]
def icells (x : ItT) : List Value := [.int .i64 x.p] ++ ecells x.e
theorem icells_length (x : ItT) (ok : OkE x.e) : (icells x).length = 110 := by simp [icells, ecells_length _ ok]
theorem heldC : Tryz.prog.stoodInHeld 33 = false := by kernel_rfl
theorem heldE : Tryz.prog.stoodInHeld 35 = false := by kernel_rfl
theorem heldI : Tryz.prog.stoodInHeld 37 = false := by kernel_rfl
theorem sizeC : (Tryz.prog.info? 33).map (·.size) = some 36 := by kernel_rfl
theorem sizeE : (Tryz.prog.info? 35).map (·.size) = some 109 := by kernel_rfl
theorem sizeI : (Tryz.prog.info? 37).map (·.size) = some 110 := by kernel_rfl
theorem sizeOf_of {t : TypeId} {n : Nat} (h : (Tryz.prog.info? t).map (·.size) = some n) (w : World) : (sizeOf t).run Tryz.prog w = .ok n w := by
  cases hq : Tryz.prog.info? t with
  | none => simp [hq] at h
  | some i => simp [hq] at h; simp [sizeOf, typeInfo, hq, h]
theorem part_struct {t : TypeId} {fs : Array Field} {n : Nat} (hu : Tryz.prog.underlying t = some (.struct fs)) (hs : (Tryz.prog.info? t).map (·.size) = some n) (l : List Value) (off : Nat) (m : List Value) (h : (l.drop off).take n = m) (w : World) : (Go.part t l.toArray off).run Tryz.prog w = .ok (.agg m.toArray) w := by
  have e := cut_list l off n m h
  simp only [Go.part, isAgg, run_underlying hu, sizeOf_of hs, Sem.run_bind, Sem.run_pure, Result.andThen_ok, if_true, e]
theorem part_kind (l : List Value) (off : Nat) (v : Value) (h : l[off]? = some v) (w : World) : (Go.part 31 l.toArray off).run Tryz.prog w = .ok v w := by
  simp [Go.part, isAgg, run_underlying Tryz.underlying31, h]
theorem part_str (l : List Value) (off : Nat) (v : Value) (h : l[off]? = some v) (w : World) : (Go.part 9 l.toArray off).run Tryz.prog w = .ok v w := by
  simp [Go.part, isAgg, run_underlying Tryz.underlying9, h]
theorem ccells_d (c : ClT) (hd : c.d.length = 32) : ((ccells c).drop 4).take 32 = cellsOf c.d := by
  show (cellsOf c.d).take 32 = _
  rw [List.take_of_length_le (by rw [cellsOf_length, hd]; omega)]
theorem ecells_h (x : EnT) (ok : OkE x) : ((ecells x).drop 4).take 69 = scells x.h := by
  show (scells x.h ++ ccells x.m).take 69 = _
  rw [List.take_left' (scells_length _ ok.h ok.g)]
theorem ecells_m (x : EnT) (ok : OkE x) : ((ecells x).drop 73).take 36 = ccells x.m := by
  unfold ecells
  rw [List.drop_left' (by simp [scells_length _ ok.h ok.g]), List.take_of_length_le (by rw [ccells_length _ ok.m]; omega)]
theorem icells_e (x : ItT) (ok : OkE x.e) : ((icells x).drop 1).take 109 = ecells x.e := by
  show (ecells x.e).take 109 = _
  rw [List.take_of_length_le (by rw [ecells_length _ ok]; omega)]
theorem equalClaim (d : Nat) (a b : ClT) (ha : a.d.length = 32) (hb : b.d.length = 32) (x : Bool) (hx : x = true ↔ a = b) (w : World) : (Op.equalIn (d + 4) 33 (.agg (ccells a).toArray) (.agg (ccells b).toArray)).run Tryz.prog w = .ok x w := by
  have hf : Tryz.prog.fieldsOf 33 = #[{ name := "Region", type := 3, offset := 0, embedded := false, tag := "", pkgPath := "", byteOffset := 0 }, { name := "Epoch", type := 3, offset := 1, embedded := false, tag := "", pkgPath := "", byteOffset := 8 }, { name := "Node", type := 3, offset := 2, embedded := false, tag := "", pkgPath := "", byteOffset := 16 }, { name := "Size", type := 3, offset := 3, embedded := false, tag := "", pkgPath := "", byteOffset := 24 }, { name := "Root", type := 24, offset := 4, embedded := false, tag := "", pkgPath := "", byteOffset := 32 }] := by
    unfold Program.fieldsOf; rw [Tryz.underlying33]
  have p0a := fun W => part_int (ccells a) 0 (.int .i64 a.r) rfl W
  have p0b := fun W => part_int (ccells b) 0 (.int .i64 b.r) rfl W
  have x0 := fun W => run_equalIn_int (P := Tryz.prog) W (d + 2) 3 .i64 .i64 a.r b.r Tryz.underlying3
  obtain ⟨b0, h0⟩ : ∃ x, (a.r == b.r) = x := ⟨_, rfl⟩
  rw [h0] at x0
  have p1a := fun W => part_int (ccells a) 1 (.int .i64 a.e) rfl W
  have p1b := fun W => part_int (ccells b) 1 (.int .i64 b.e) rfl W
  have x1 := fun W => run_equalIn_int (P := Tryz.prog) W (d + 2) 3 .i64 .i64 a.e b.e Tryz.underlying3
  obtain ⟨b1, h1⟩ : ∃ x, (a.e == b.e) = x := ⟨_, rfl⟩
  rw [h1] at x1
  have p2a := fun W => part_int (ccells a) 2 (.int .i64 a.n) rfl W
  have p2b := fun W => part_int (ccells b) 2 (.int .i64 b.n) rfl W
  have x2 := fun W => run_equalIn_int (P := Tryz.prog) W (d + 2) 3 .i64 .i64 a.n b.n Tryz.underlying3
  obtain ⟨b2, h2⟩ : ∃ x, (a.n == b.n) = x := ⟨_, rfl⟩
  rw [h2] at x2
  have p3a := fun W => part_int (ccells a) 3 (.int .i64 a.s) rfl W
  have p3b := fun W => part_int (ccells b) 3 (.int .i64 b.s) rfl W
  have x3 := fun W => run_equalIn_int (P := Tryz.prog) W (d + 2) 3 .i64 .i64 a.s b.s Tryz.underlying3
  obtain ⟨b3, h3⟩ : ∃ x, (a.s == b.s) = x := ⟨_, rfl⟩
  rw [h3] at x3
  have p4a := fun W => part_dig (ccells a) 4 _ (ccells_d a ha) W
  have p4b := fun W => part_dig (ccells b) 4 _ (ccells_d b hb) W
  have x4 : ∀ W, (Op.equalIn (d + 3) 24 (.agg (cellsOf a.d).toArray) (.agg (cellsOf b.d).toArray)).run Tryz.prog W = .ok (a.d == b.d) W := fun W => run_equalIn_bytes (P := Tryz.prog) W (d + 1) 24 5 32 Tryz.underlying24 Tryz.underlying5 sizeOf5 a.d b.d ha hb
  obtain ⟨b4, h4⟩ : ∃ x, (a.d == b.d) = x := ⟨_, rfl⟩
  rw [h4] at x4
  rw [run_equalIn_struct w (d + 3) 33 _ _ (by rw [hf]; exact Tryz.underlying33) heldC, hf]
  have hq : x = (b0 && b1 && b2 && b3 && b4) := by
    rw [Bool.eq_iff_iff, hx]
    simp only [Bool.and_eq_true]
    rw [← h0, ← h1, ← h2, ← h3, ← h4]
    simp only [beq_iff_eq]
    constructor
    · rintro rfl; simp
    · rintro ⟨⟨⟨⟨e0, e1⟩, e2⟩, e3⟩, e4⟩
      cases a; cases b
      simp only at e0 e1 e2 e3 e4
      rw [e0, e1, e2, e3, e4]
  rw [hq]
  obtain ⟨A, hA⟩ : ∃ A, (ccells a).toArray = A := ⟨_, rfl⟩
  obtain ⟨B, hB⟩ : ∃ B, (ccells b).toArray = B := ⟨_, rfl⟩
  rw [hA] at p0a p1a p2a p3a p4a
  rw [hB] at p0b p1b p2b p3b p4b
  rw [hA, hB]
  obtain ⟨D4, hD4⟩ : ∃ D, (cellsOf a.d).toArray = D := ⟨_, rfl⟩
  obtain ⟨E4, hE4⟩ : ∃ D, (cellsOf b.d).toArray = D := ⟨_, rfl⟩
  rw [hD4] at p4a x4
  rw [hE4] at p4b x4
  simp [Op.eqFields, p0a, p0b, x0, p1a, p1b, x1, p2a, p2b, x2, p3a, p3b, x3, p4a, p4b, x4]
  cases b0 <;> cases b1 <;> cases b2 <;> cases b3 <;> cases b4 <;> simp
theorem eqClaim (a b : ClT) (ha : a.d.length = 32) (hb : b.d.length = 32) (A B : Array Value) (HA : Hid (A = (ccells a).toArray)) (HB : Hid (B = (ccells b).toArray)) (x : Bool) (hx : x = true ↔ a = b) (w : World) : (binOp .eql 33 (.agg A) (.agg B)).run Tryz.prog w = .ok (.bool x) w := by
  rw [run_eql_struct, HA.out, HB.out, show (10000 : Nat) = 9996 + 4 from rfl, equalClaim 9996 a b ha hb x hx]; rfl
theorem equalEntry (d : Nat) (a b : EnT) (ha : OkE a) (hb : OkE b) (x : Bool) (hx : x = true ↔ a = b) (w : World) : (Op.equalIn (d + 6) 35 (.agg (ecells a).toArray) (.agg (ecells b).toArray)).run Tryz.prog w = .ok x w := by
  have hf : Tryz.prog.fieldsOf 35 = #[{ name := "Kind", type := 31, offset := 0, embedded := false, tag := "", pkgPath := "", byteOffset := 0 }, { name := "Client", type := 3, offset := 1, embedded := false, tag := "", pkgPath := "", byteOffset := 8 }, { name := "Seq", type := 3, offset := 2, embedded := false, tag := "", pkgPath := "", byteOffset := 16 }, { name := "Text", type := 9, offset := 3, embedded := false, tag := "", pkgPath := "", byteOffset := 24 }, { name := "Head", type := 28, offset := 4, embedded := false, tag := "", pkgPath := "", byteOffset := 40 }, { name := "Claim", type := 33, offset := 73, embedded := false, tag := "", pkgPath := "", byteOffset := 144 }] := by
    unfold Program.fieldsOf; rw [Tryz.underlying35]
  have p0a := fun W => part_kind (ecells a) 0 (.int .i64 a.k) rfl W
  have p0b := fun W => part_kind (ecells b) 0 (.int .i64 b.k) rfl W
  have x0 := fun W => run_equalIn_int (P := Tryz.prog) W (d + 4) 31 .i64 .i64 a.k b.k Tryz.underlying31
  obtain ⟨b0, h0⟩ : ∃ x, (a.k == b.k) = x := ⟨_, rfl⟩
  rw [h0] at x0
  have p1a := fun W => part_int (ecells a) 1 (.int .i64 a.c) rfl W
  have p1b := fun W => part_int (ecells b) 1 (.int .i64 b.c) rfl W
  have x1 := fun W => run_equalIn_int (P := Tryz.prog) W (d + 4) 3 .i64 .i64 a.c b.c Tryz.underlying3
  obtain ⟨b1, h1⟩ : ∃ x, (a.c == b.c) = x := ⟨_, rfl⟩
  rw [h1] at x1
  have p2a := fun W => part_int (ecells a) 2 (.int .i64 a.s) rfl W
  have p2b := fun W => part_int (ecells b) 2 (.int .i64 b.s) rfl W
  have x2 := fun W => run_equalIn_int (P := Tryz.prog) W (d + 4) 3 .i64 .i64 a.s b.s Tryz.underlying3
  obtain ⟨b2, h2⟩ : ∃ x, (a.s == b.s) = x := ⟨_, rfl⟩
  rw [h2] at x2
  have p3a := fun W => part_str (ecells a) 3 (.string a.t) rfl W
  have p3b := fun W => part_str (ecells b) 3 (.string b.t) rfl W
  have x3 := fun W => run_equalIn_string (P := Tryz.prog) W (d + 4) 9 a.t b.t Tryz.underlying9
  obtain ⟨b3, h3⟩ : ∃ x, (a.t.toList == b.t.toList) = x := ⟨_, rfl⟩
  rw [h3] at x3
  have p4a := fun W => part_struct Tryz.underlying28 sizeS (ecells a) 4 _ (ecells_h a ha) W
  have p4b := fun W => part_struct Tryz.underlying28 sizeS (ecells b) 4 _ (ecells_h b hb) W
  obtain ⟨b4, h4⟩ : ∃ x : Bool, x = true ↔ a.h = b.h := by
    by_cases h : a.h = b.h
    · exact ⟨true, by simp [h]⟩
    · exact ⟨false, by simp [h]⟩
  have x4 : ∀ W, (Op.equalIn (d + 5) 28 (.agg (scells a.h).toArray) (.agg (scells b.h).toArray)).run Tryz.prog W = .ok b4 W := fun W => equalSigned (d + 0) a.h b.h ha.h hb.h ha.g hb.g b4 h4 W
  have p5a := fun W => part_struct Tryz.underlying33 sizeC (ecells a) 73 _ (ecells_m a ha) W
  have p5b := fun W => part_struct Tryz.underlying33 sizeC (ecells b) 73 _ (ecells_m b hb) W
  obtain ⟨b5, h5⟩ : ∃ x : Bool, x = true ↔ a.m = b.m := by
    by_cases h : a.m = b.m
    · exact ⟨true, by simp [h]⟩
    · exact ⟨false, by simp [h]⟩
  have x5 : ∀ W, (Op.equalIn (d + 5) 33 (.agg (ccells a.m).toArray) (.agg (ccells b.m).toArray)).run Tryz.prog W = .ok b5 W := fun W => equalClaim (d + 1) a.m b.m ha.m hb.m b5 h5 W
  rw [run_equalIn_struct w (d + 5) 35 _ _ (by rw [hf]; exact Tryz.underlying35) heldE, hf]
  have hq : x = (b0 && b1 && b2 && b3 && b4 && b5) := by
    rw [Bool.eq_iff_iff, hx]
    simp only [Bool.and_eq_true]
    rw [← h0, ← h1, ← h2, ← h3, h4, h5]
    simp only [beq_iff_eq]
    constructor
    · rintro rfl; simp
    · rintro ⟨⟨⟨⟨⟨e0, e1⟩, e2⟩, e3⟩, e4⟩, e5⟩
      have e3' : a.t.data.toList = b.t.data.toList := by rw [ByteArray.toList_eq, ByteArray.toList_eq] at e3; exact e3
      exact enT_ext ⟨e0, e1, e2, e3', e4, e5⟩
  rw [hq]
  obtain ⟨A, hA⟩ : ∃ A, (ecells a).toArray = A := ⟨_, rfl⟩
  obtain ⟨B, hB⟩ : ∃ B, (ecells b).toArray = B := ⟨_, rfl⟩
  rw [hA] at p0a p1a p2a p3a p4a p5a
  rw [hB] at p0b p1b p2b p3b p4b p5b
  rw [hA, hB]
  obtain ⟨D4, hD4⟩ : ∃ D, (scells a.h).toArray = D := ⟨_, rfl⟩
  obtain ⟨E4, hE4⟩ : ∃ D, (scells b.h).toArray = D := ⟨_, rfl⟩
  rw [hD4] at p4a x4
  rw [hE4] at p4b x4
  obtain ⟨D5, hD5⟩ : ∃ D, (ccells a.m).toArray = D := ⟨_, rfl⟩
  obtain ⟨E5, hE5⟩ : ∃ D, (ccells b.m).toArray = D := ⟨_, rfl⟩
  rw [hD5] at p5a x5
  rw [hE5] at p5b x5
  simp [Op.eqFields, p0a, p0b, x0, p1a, p1b, x1, p2a, p2b, x2, p3a, p3b, x3, p4a, p4b, x4, p5a, p5b, x5]
  cases b0 <;> cases b1 <;> cases b2 <;> cases b3 <;> cases b4 <;> cases b5 <;> simp
theorem neqEntry (a b : EnT) (ha : OkE a) (hb : OkE b) (A B : Array Value) (HA : Hid (A = (ecells a).toArray)) (HB : Hid (B = (ecells b).toArray)) (x : Bool) (hx : x = false ↔ a = b) (w : World) : (binOp .neq 35 (.agg A) (.agg B)).run Tryz.prog w = .ok (.bool x) w := by
  rw [run_neq_struct, HA.out, HB.out, show (10000 : Nat) = 9994 + 6 from rfl, equalEntry 9994 a b ha hb (!x) (by rw [← hx]; simp)]; simp
theorem equalItem (d : Nat) (a b : ItT) (ha : OkE a.e) (hb : OkE b.e) (x : Bool) (hx : x = true ↔ a = b) (w : World) : (Op.equalIn (d + 7) 37 (.agg (icells a).toArray) (.agg (icells b).toArray)).run Tryz.prog w = .ok x w := by
  have hf : Tryz.prog.fieldsOf 37 = #[{ name := "Epoch", type := 3, offset := 0, embedded := false, tag := "", pkgPath := "", byteOffset := 0 }, { name := "Entry", type := 35, offset := 1, embedded := false, tag := "", pkgPath := "", byteOffset := 8 }] := by
    unfold Program.fieldsOf; rw [Tryz.underlying37]
  have p0a := fun W => part_int (icells a) 0 (.int .i64 a.p) rfl W
  have p0b := fun W => part_int (icells b) 0 (.int .i64 b.p) rfl W
  have x0 := fun W => run_equalIn_int (P := Tryz.prog) W (d + 5) 3 .i64 .i64 a.p b.p Tryz.underlying3
  obtain ⟨b0, h0⟩ : ∃ x, (a.p == b.p) = x := ⟨_, rfl⟩
  rw [h0] at x0
  have p1a := fun W => part_struct Tryz.underlying35 sizeE (icells a) 1 _ (icells_e a ha) W
  have p1b := fun W => part_struct Tryz.underlying35 sizeE (icells b) 1 _ (icells_e b hb) W
  obtain ⟨b1, h1⟩ : ∃ x : Bool, x = true ↔ a.e = b.e := by
    by_cases h : a.e = b.e
    · exact ⟨true, by simp [h]⟩
    · exact ⟨false, by simp [h]⟩
  have x1 : ∀ W, (Op.equalIn (d + 6) 35 (.agg (ecells a.e).toArray) (.agg (ecells b.e).toArray)).run Tryz.prog W = .ok b1 W := fun W => equalEntry (d + 0) a.e b.e ha hb b1 h1 W
  rw [run_equalIn_struct w (d + 6) 37 _ _ (by rw [hf]; exact Tryz.underlying37) heldI, hf]
  have hq : x = (b0 && b1) := by
    rw [Bool.eq_iff_iff, hx]
    simp only [Bool.and_eq_true]
    rw [← h0, h1]
    simp only [beq_iff_eq]
    constructor
    · rintro rfl; simp
    · rintro ⟨e0, e1⟩
      cases a; cases b
      simp only at e0 e1
      rw [e0, e1]
  rw [hq]
  obtain ⟨A, hA⟩ : ∃ A, (icells a).toArray = A := ⟨_, rfl⟩
  obtain ⟨B, hB⟩ : ∃ B, (icells b).toArray = B := ⟨_, rfl⟩
  rw [hA] at p0a p1a
  rw [hB] at p0b p1b
  rw [hA, hB]
  obtain ⟨D1, hD1⟩ : ∃ D, (ecells a.e).toArray = D := ⟨_, rfl⟩
  obtain ⟨E1, hE1⟩ : ∃ D, (ecells b.e).toArray = D := ⟨_, rfl⟩
  rw [hD1] at p1a x1
  rw [hE1] at p1b x1
  simp [Op.eqFields, p0a, p0b, x0, p1a, p1b, x1]
  cases b0 <;> cases b1 <;> simp
theorem eqItem (a b : ItT) (ha : OkE a.e) (hb : OkE b.e) (A B : Array Value) (HA : Hid (A = (icells a).toArray)) (HB : Hid (B = (icells b).toArray)) (x : Bool) (hx : x = true ↔ a = b) (w : World) : (binOp .eql 37 (.agg A) (.agg B)).run Tryz.prog w = .ok (.bool x) w := by
  rw [run_eql_struct, HA.out, HB.out, show (10000 : Nat) = 9993 + 7 from rfl, equalItem 9993 a b ha hb x hx]; rfl
theorem neqItem (a b : ItT) (ha : OkE a.e) (hb : OkE b.e) (A B : Array Value) (HA : Hid (A = (icells a).toArray)) (HB : Hid (B = (icells b).toArray)) (x : Bool) (hx : x = false ↔ a = b) (w : World) : (binOp .neq 37 (.agg A) (.agg B)).run Tryz.prog w = .ok (.bool x) w := by
  rw [run_neq_struct, HA.out, HB.out, show (10000 : Nat) = 9993 + 7 from rfl, equalItem 9993 a b ha hb (!x) (by rw [← hx]; simp)]; simp
theorem within8_any (n a b : Int) (w : World) : Calls Tryz.prog 75 #[.int .i64 n, .int .i64 a, .int .i64 b] w fun e w' => e = .returned (.bool (decide (a ≤ n) && decide (n ≤ b))) ∧ w' = w := by
  by_cases h1 : a ≤ n
  · have d1 : decide (a ≤ n) = true := by rw [decide_eq_true_eq]; exact h1
    obtain ⟨x, hx⟩ : ∃ x, decide (n ≤ b) = x := ⟨_, rfl⟩
    rw [d1, hx]
    clear h1
    go_enter Tryz.func75, Tryz.ntmps75
    go_wp2
    go_ret
    exact ⟨rfl, rfl⟩
  · have d1 : decide (a ≤ n) = false := by rw [decide_eq_false_iff_not]; exact h1
    rw [d1]
    clear h1
    go_enter Tryz.func75, Tryz.ntmps75
    go_wp2
    go_ret
    exact ⟨rfl, rfl⟩
structure CRow (W : World) (g o : Nat) (c : ClT) : Prop where
  r : W.cell? ⟨g, o, none⟩ = some (.int .i64 c.r)
  e : W.cell? ⟨g, o + 1, none⟩ = some (.int .i64 c.e)
  n : W.cell? ⟨g, o + 2, none⟩ = some (.int .i64 c.n)
  s : W.cell? ⟨g, o + 3, none⟩ = some (.int .i64 c.s)
  d : W.rangeAt g (o + 4) (cellsOf c.d)
theorem CRow.keep {W W' : World} {g o : Nat} {c : ClT} (h : CRow W g o c) (hb : Below W.heap.size W W') : CRow W' g o c := by
  have hg : g < W.heap.size := World.block_lt_of_cell? _ _ h.r
  exact ⟨(hb.cell hg).trans h.r, (hb.cell hg).trans h.e, (hb.cell hg).trans h.n, (hb.cell hg).trans h.s, range_keep hb h.d⟩
theorem crow_of {W : World} {g o : Nat} {c : ClT} (hr : W.rangeAt g o (ccells c)) : CRow W g o c := by
  refine ⟨?_, ?_, ?_, ?_, ?_⟩
  · have := hr 0 (.int .i64 c.r) rfl; simpa using this
  · exact hr 1 (.int .i64 c.e) rfl
  · exact hr 2 (.int .i64 c.n) rfl
  · exact hr 3 (.int .i64 c.s) rfl
  · intro j v hj
    have := hr (4 + j) v (by
      unfold ccells
      rw [List.getElem?_append_right (by simp)]
      simpa using hj)
    rw [Nat.add_assoc]; exact this
theorem crow_new (w : World) (c : ClT) (C : Array Value) (HC : Hid (C = (ccells c).toArray)) (t : TypeId) : CRow (w.alloc (.cells C t)) w.heap.size 0 c := by
  refine crow_of ?_
  intro j v hj
  rw [Nat.zero_add, cell_of_row _ _ j _ t (0, 0) (heap_alloc_new w _), HC.out]
  simpa using hj
set_option maxHeartbeats 2000000 in
theorem refRightC_any (c : ClT) (w : World) (C : Array Value) (HC : Hid (C = (ccells c).toArray)) :
    Calls Tryz.prog 107 #[.agg C] w fun e w' => e = .returned (.bool (rightC c)) ∧ Below w.heap.size w w' := by
  have HR := crow_new w c C HC 33
  have HB : Hid (Below w.heap.size w (w.alloc (.cells C 33))) := (Below.refl _ _).alloc (Nat.le_refl _) _
  have c0 := HR.r
  have c1 := HR.e
  have c2 := HR.n
  have c3 := HR.s
  simp only [Nat.zero_add] at c1 c2 c3
  have WI : Hid (∀ (n a b : Int) (W : World), Calls Tryz.prog 75 #[.int .i64 n, .int .i64 a, .int .i64 b] W fun e w' => e = .returned (.bool (decide (a ≤ n) && decide (n ≤ b))) ∧ w' = W) := within8_any
  obtain ⟨b1, hb1⟩ : ∃ b, (decide (1 ≤ c.r) && decide (c.r ≤ 5)) = b := ⟨_, rfl⟩
  obtain ⟨b2, hb2⟩ : ∃ b, (decide (1 ≤ c.e) && decide (c.e ≤ 900000000)) = b := ⟨_, rfl⟩
  obtain ⟨b3, hb3⟩ : ∃ b, (decide (1 ≤ c.n) && decide (c.n ≤ 3)) = b := ⟨_, rfl⟩
  obtain ⟨b4, hb4⟩ : ∃ b, (decide (0 ≤ c.s) && decide (c.s ≤ 100000)) = b := ⟨_, rfl⟩
  have W1 := hidk (WI.out c.r 1 5)
  have W2 := hidk (WI.out c.e 1 900000000)
  have W3 := hidk (WI.out c.n 1 3)
  have W4 := hidk (WI.out c.s 0 100000)
  rw [hb1] at W1
  rw [hb2] at W2
  rw [hb3] at W3
  rw [hb4] at W4
  have hE : rightC c = (b1 && (b2 && (b3 && b4))) := by
    rw [← hb1, ← hb2, ← hb3, ← hb4]
    unfold rightC
    simp only [Bool.and_assoc]
  rw [hE]
  obtain ⟨r, hr⟩ : ∃ r, r = c.r := ⟨_, rfl⟩
  obtain ⟨e, he⟩ : ∃ r, r = c.e := ⟨_, rfl⟩
  obtain ⟨n, hn⟩ : ∃ r, r = c.n := ⟨_, rfl⟩
  obtain ⟨s, hs⟩ : ∃ r, r = c.s := ⟨_, rfl⟩
  rw [← hr] at c0 W1
  rw [← he] at c1 W2
  rw [← hn] at c2 W3
  rw [← hs] at c3 W4
  clear hE hb1 hb2 hb3 hb4 WI HR hr he hn hs HC
  cases b1
  · go_enter Tryz.func107, Tryz.ntmps107
    go_wp2_with fail
    refine (W1.out _).mono ?_
    rintro e w1 ⟨rfl, rfl⟩
    go_wp2
    go_ret
    exact ⟨rfl, HB.out⟩
  cases b2
  · go_enter Tryz.func107, Tryz.ntmps107
    go_wp2_with fail
    refine (W1.out _).mono ?_
    rintro e w1 ⟨rfl, rfl⟩
    go_wp2_with fail
    refine (W2.out _).mono ?_
    rintro e w1 ⟨rfl, rfl⟩
    go_wp2
    go_ret
    exact ⟨rfl, HB.out⟩
  cases b3
  · go_enter Tryz.func107, Tryz.ntmps107
    go_wp2_with fail
    refine (W1.out _).mono ?_
    rintro e w1 ⟨rfl, rfl⟩
    go_wp2_with fail
    refine (W2.out _).mono ?_
    rintro e w1 ⟨rfl, rfl⟩
    go_wp2_with fail
    refine (W3.out _).mono ?_
    rintro e w1 ⟨rfl, rfl⟩
    go_wp2
    go_ret
    exact ⟨rfl, HB.out⟩
  · go_enter Tryz.func107, Tryz.ntmps107
    go_wp2_with fail
    refine (W1.out _).mono ?_
    rintro e w1 ⟨rfl, rfl⟩
    go_wp2_with fail
    refine (W2.out _).mono ?_
    rintro e w1 ⟨rfl, rfl⟩
    go_wp2_with fail
    refine (W3.out _).mono ?_
    rintro e w1 ⟨rfl, rfl⟩
    go_wp2_with fail
    refine (W4.out _).mono ?_
    rintro e w1 ⟨rfl, rfl⟩
    go_wp2
    go_ret
    exact ⟨rfl, HB.out⟩
set_option maxHeartbeats 8000000 in
theorem refCB_any (c : ClT) (hd : c.d.length = 32) (w : World) (C : Array Value) (HC : Hid (C = (ccells c).toArray)) :
    Calls Tryz.prog 134 #[.agg C] w fun e w' => ∃ v, e = .returned v ∧ w'.ownsRow w.heap.size 5 1 v (claimB c).length (cellsOf (claimB c)) ∧ Below w.heap.size w w' := by
  obtain ⟨r, Hr⟩ : ∃ r, Hid (r = c.r) := ⟨c.r, hidk rfl⟩
  obtain ⟨e, He⟩ : ∃ r, Hid (r = c.e) := ⟨c.e, hidk rfl⟩
  obtain ⟨n, Hn⟩ : ∃ r, Hid (r = c.n) := ⟨c.n, hidk rfl⟩
  obtain ⟨s, Hs⟩ : ∃ r, Hid (r = c.s) := ⟨c.s, hidk rfl⟩
  obtain ⟨n1, Hn1⟩ : ∃ s : ByteArray, Hid (s = nOf r) := ⟨nOf r, hidk rfl⟩
  obtain ⟨n2, Hn2⟩ : ∃ s : ByteArray, Hid (s = nOf e) := ⟨nOf e, hidk rfl⟩
  obtain ⟨n3, Hn3⟩ : ∃ x : ByteArray, Hid (x = nOf n) := ⟨nOf n, hidk rfl⟩
  obtain ⟨n4, Hn4⟩ : ∃ x : ByteArray, Hid (x = nOf s) := ⟨nOf s, hidk rfl⟩
  obtain ⟨x5, HX⟩ : ∃ x : ByteArray, Hid (x = ⟨c.d.toArray⟩) := ⟨⟨c.d.toArray⟩, hidk rfl⟩
  obtain ⟨D, HD, HSD, H1D, H32D⟩ := dig_row' c.d hd
  have N1 : Hid (∀ W, Calls Tryz.prog 109 #[.int .i64 r] W fun e w' => e = .returned (.string n1) ∧ Below W.heap.size W w') := fun W => by rw [Hn1.out]; exact refNum_any r W
  have N2 : Hid (∀ W, Calls Tryz.prog 109 #[.int .i64 e] W fun e w' => e = .returned (.string n2) ∧ Below W.heap.size W w') := fun W => by rw [Hn2.out]; exact refNum_any e W
  have N3 : Hid (∀ W, Calls Tryz.prog 109 #[.int .i64 n] W fun e w' => e = .returned (.string n3) ∧ Below W.heap.size W w') := fun W => by rw [Hn3.out]; exact refNum_any n W
  have N4 : Hid (∀ W, Calls Tryz.prog 109 #[.int .i64 s] W fun e w' => e = .returned (.string n4) ∧ Below W.heap.size W w') := fun W => by rw [Hn4.out]; exact refNum_any s W
  have X5 : Hid (∀ W, Calls Tryz.prog 92 #[.agg D] W fun e w' => e = .returned (.string x5) ∧ Below W.heap.size W w') := fun W => by
    have := refText_any c.d hd W x5 HX D.toList (by show _ = _; rw [HD.out])
    simpa using this
  have hL5 : cL c = [n1, n2, n3, n4, x5] := by rw [Hn1.out, Hn2.out, Hn3.out, Hn4.out, HX.out, Hr.out, He.out, Hn.out, Hs.out]; rfl
  have RW : Hid (∀ W, Calls Tryz.prog 108 #[.slice (some ⟨W.heap.size, 0, none⟩) 5 5] (W.alloc (.cells #[.string n1, .string n2, .string n3, .string n4, .string x5] 9)) fun e w' => ∃ v, e = .returned v ∧ w'.ownsRow W.heap.size 5 1 v (claimB c).length (cellsOf (claimB c)) ∧ Below W.heap.size W w') := fun W => by
    have h1 : ∀ y ∈ [n1, n2, n3, n4, x5], y.size ≤ 65536 := fun y hy => by
      rw [← hL5] at hy
      unfold cL at hy
      simp only [List.mem_cons, List.not_mem_nil, or_false] at hy
      rcases hy with rfl | rfl | rfl | rfl | rfl
      · exact Nat.le_trans (nOf_size _) (by omega)
      · exact Nat.le_trans (nOf_size _) (by omega)
      · exact Nat.le_trans (nOf_size _) (by omega)
      · exact Nat.le_trans (nOf_size _) (by omega)
      · rw [bA_size]; omega
    refine (refRow_any (some ⟨W.heap.size, 0, none⟩) 5 5 [n1, n2, n3, n4, x5] (W.alloc (.cells #[.string n1, .string n2, .string n3, .string n4, .string x5] 9)) (texts_new W [n1, n2, n3, n4, x5] 9) (by omega) h1).mono ?_
    rintro e w' ⟨v, he, ho, hb⟩
    rw [← hL5] at ho
    exact ⟨v, he, own_lower ho (by simp), ((Below.refl _ _).alloc (Nat.le_refl _) _).trans (hb.mono (by simp))⟩
  have HR := hidk (crow_new w c C HC 33)
  have HB : Hid (Below w.heap.size w (w.alloc (.cells C 33))) := (Below.refl _ _).alloc (Nat.le_refl _) _
  have HDL : Hid (D.toList = cellsOf c.d) := by show _ = _; rw [HD.out]
  clear HC HX hL5 HD Hn1 Hn2 Hn3 Hn4
  go_enter Tryz.func134, Tryz.ntmps134
  go_wp2
  have HBc : Hid (Below w.heap.size w (w.alloc (.cells C 33)).drew) := HB.out.drew
  clear HB
  refine wp_region_held_drew (S := (fun W => CRow W w.heap.size 0 c)) (by kernel_rfl) (show CRow (w.alloc (.cells C 33)).drew w.heap.size 0 c from HR.out.keep (Below.refl _ _).drew) (fun hHeld => ?_)
  refine zX 0 (.pointer (some ⟨w.heap.size, 0, none⟩)) rfl hHeld ?_
  try simp only [Act.put, pS1, pS2, pS3]
  refine zW 1 (.int .i64 r) rfl (Or.inl ⟨by rfl, by intro W hSw; have h1 := hSw.r; rw [← Hr.out] at h1; go_simp⟩) hHeld ?_
  try simp only [Act.put, pS1, pS2, pS3]
  refine zX 3 (.pointer (some ⟨w.heap.size, 1, none⟩)) rfl hHeld ?_
  try simp only [Act.put, pS1, pS2, pS3]
  refine zW 4 (.int .i64 e) rfl (Or.inl ⟨by rfl, by intro W hSw; have h1 := hSw.e; rw [← He.out, Nat.zero_add] at h1; go_simp⟩) hHeld ?_
  try simp only [Act.put, pS1, pS2, pS3]
  refine zX 6 (.pointer (some ⟨w.heap.size, 2, none⟩)) rfl hHeld ?_
  try simp only [Act.put, pS1, pS2, pS3]
  refine zW 7 (.int .i64 n) rfl (Or.inl ⟨by rfl, by intro W hSw; have h1 := hSw.n; rw [← Hn.out, Nat.zero_add] at h1; go_simp⟩) hHeld ?_
  try simp only [Act.put, pS1, pS2, pS3]
  refine zX 9 (.pointer (some ⟨w.heap.size, 3, none⟩)) rfl hHeld ?_
  try simp only [Act.put, pS1, pS2, pS3]
  refine zW 10 (.int .i64 s) rfl (Or.inl ⟨by rfl, by intro W hSw; have h1 := hSw.s; rw [← Hs.out, Nat.zero_add] at h1; go_simp⟩) hHeld ?_
  try simp only [Act.put, pS1, pS2, pS3]
  refine zX 12 (.pointer (some ⟨w.heap.size, 4, none⟩)) rfl hHeld ?_
  try simp only [Act.put, pS1, pS2, pS3]
  refine zW 13 (.agg D) rfl (yieldsIf_mid (by rfl) 24 (.tmp 15) rfl w.heap.size 4 rfl D _ (fun W h => by rw [HDL.out]; have := h.d; rwa [Nat.zero_add] at this) Tryz.underlying24 rfl HSD.out) hHeld ?_
  try simp only [Act.put, pS1, pS2, pS3]
  refine wpAnyH_ready (rs := [2]) (by kernel_rfl) (by simp) ?_
  refine (AllReadyH.cons (o := { dst := some 5, op := .call { callee := .value (.func 109), args := #[.tmp 4], argTypes := #[3] }, type := 9, pos := "ref.go:21", after := #[zD 1], guard := none }) rfl (fun K hK => ?_) AllReadyH.nil)
  go_simp
  refine (N1.out _).mono ?_
  rintro e w2 ⟨rfl, hb1⟩
  replace HBc := hidk (HBc.out.trans (hb1.mono HBc.out.size))
  go_wp2_with fail
  refine hK.out _ _ (hHeld.keep hb1) (fun hHeld => ?_)
  clear hK K
  try simp only [Act.put, pS1, pS2, pS3]
  refine wpAnyH_ready (rs := [5]) (by kernel_rfl) (by simp) ?_
  refine (AllReadyH.cons (o := { dst := some 8, op := .call { callee := .value (.func 109), args := #[.tmp 7], argTypes := #[3] }, type := 9, pos := "ref.go:21", after := #[zD 4, zC 2], guard := none }) rfl (fun K hK => ?_) AllReadyH.nil)
  go_simp
  refine (N2.out _).mono ?_
  rintro e w5 ⟨rfl, hb2⟩
  replace HBc := hidk (HBc.out.trans (hb2.mono HBc.out.size))
  go_wp2_with fail
  refine hK.out _ _ (hHeld.keep hb2) (fun hHeld => ?_)
  clear hK K
  try simp only [Act.put, pS1, pS2, pS3]
  refine wpAnyH_ready (rs := [8]) (by kernel_rfl) (by simp) ?_
  refine (AllReadyH.cons (o := { dst := some 11, op := .call { callee := .value (.func 109), args := #[.tmp 10], argTypes := #[3] }, type := 9, pos := "ref.go:21", after := #[zD 7, zC 5], guard := none }) rfl (fun K hK => ?_) AllReadyH.nil)
  go_simp
  refine (N3.out _).mono ?_
  rintro e w8 ⟨rfl, hb3⟩
  replace HBc := hidk (HBc.out.trans (hb3.mono HBc.out.size))
  go_wp2_with fail
  refine hK.out _ _ (hHeld.keep hb3) (fun hHeld => ?_)
  clear hK K
  try simp only [Act.put, pS1, pS2, pS3]
  refine wpAnyH_ready (rs := [11]) (by kernel_rfl) (by simp) ?_
  refine (AllReadyH.cons (o := { dst := some 14, op := .call { callee := .value (.func 109), args := #[.tmp 13], argTypes := #[3] }, type := 9, pos := "ref.go:21", after := #[zD 10, zC 8], guard := none }) rfl (fun K hK => ?_) AllReadyH.nil)
  go_simp
  refine (N4.out _).mono ?_
  rintro e w11 ⟨rfl, hb4⟩
  replace HBc := hidk (HBc.out.trans (hb4.mono HBc.out.size))
  go_wp2_with fail
  refine hK.out _ _ (hHeld.keep hb4) (fun hHeld => ?_)
  clear hK K
  try simp only [Act.put, pS1, pS2, pS3]
  refine wpAnyH_ready (rs := [14]) (by kernel_rfl) (by simp) ?_
  refine (AllReadyH.cons (o := { dst := some 17, op := .call { callee := .value (.func 92), args := #[.tmp 16], argTypes := #[24] }, type := 9, pos := "ref.go:21", after := #[zD 13, zC 11], guard := none }) rfl (fun K hK => ?_) AllReadyH.nil)
  go_simp
  refine (X5.out _).mono ?_
  rintro e w14 ⟨rfl, hb5⟩
  replace HBc := hidk (HBc.out.trans (hb5.mono HBc.out.size))
  go_wp2_with fail
  refine hK.out _ _ (hHeld.keep hb5) (fun hHeld => ?_)
  clear hK K
  try simp only [Act.put, pS1, pS2, pS3]
  refine wpAnyH_ready (rs := [15]) (by kernel_rfl) (by simp) ?_
  refine (AllReadyH.cons (o := { dst := some 18, op := .buildSlice 153 5 #[(0, .tmp 5), (1, .tmp 8), (2, .tmp 11), (3, .tmp 14), (4, .tmp 17)], type := 153, pos := "ref.go:21", after := #[zD 2, zD 5, zD 8, zD 11, zD 14], guard := none }) rfl (fun K hK => ?_) AllReadyH.nil)
  have HR14 := hidk hHeld
  go_simp
  refine hK.out _ _ (hHeld.keep ((Below.refl _ _).alloc (Nat.le_refl _) _)) (fun hHeld => ?_)
  clear hK K
  try simp only [Act.put, pS1, pS2, pS3]
  refine wpAnyH_ready (rs := [16]) (by kernel_rfl) (by simp) ?_
  refine (AllReadyH.cons (o := { dst := some 19, op := .call { callee := .value (.func 108), args := #[.tmp 18], argTypes := #[153] }, type := 69, pos := "ref.go:21", after := #[zD 15, zC 14], guard := none }) rfl (fun K hK => ?_) AllReadyH.nil)
  go_simp
  refine (RW.out _).mono ?_
  rintro e w16 ⟨v, rfl, hown, hb6⟩
  have HOWN := hidk (own_lower hown HBc.out.size)
  replace HBc := hidk (HBc.out.trans (hb6.mono HBc.out.size))
  go_wp2_with fail
  refine hK.out _ _ (HR14.out.keep hb6) (fun hHeld => ?_)
  clear hK K
  try simp only [Act.put, pS1, pS2, pS3]
  refine zX 17 (v) rfl hHeld ?_
  try simp only [Act.put, pS1, pS2, pS3]
  refine wpAnyH_done (by kernel_rfl) ?_ _
  go_wp2
  go_ret
  exact ⟨_, rfl, HOWN.out, HBc.out⟩
theorem infoC : (Tryz.prog.info? 33).map (fun i => (i.zero, i.size)) = some (some (.agg (ccells zeroC).toArray), 36) := by kernel_rfl
theorem builtC0 : Tryz.prog.built 33 [] = some (ccells zeroC).toArray := by kernel_rfl
theorem one_cellsC (c : ClT) : (ccells c).toArray.all (·.oneCell') = true := by
  rw [List.all_toArray, List.all_eq_true]
  intro v hv
  unfold ccells at hv
  simp only [List.mem_append, List.mem_cons, List.not_mem_nil, or_false] at hv
  rcases hv with (rfl | rfl | rfl | rfl) | hv
  · rfl
  · rfl
  · rfl
  · rfl
  · exact cellsOf_one _ v hv
theorem claim_row5 (c : ClT) (hd : c.d.length = 32) : ∃ C : Array Value, Hid (C = (ccells c).toArray) ∧ Hid ((Tryz.prog.info? 33).map (·.size) = some C.size) ∧ Hid (C.all (·.oneCell') = true) ∧ Hid (C.size = 36) := by
  refine ⟨(ccells c).toArray, hidk rfl, ?_, one_cellsC c, ?_⟩
  · show _ = _
    rw [sizeC]; simp [ccells_length c hd]
  · show _ = _
    simp [ccells_length c hd]
theorem noughtsC : ∃ Z : Array Value, Hid (Z = (ccells zeroC).toArray) ∧ Hid ((Tryz.prog.info? 33).map (fun i => (i.zero, i.size)) = some (some (.agg Z), Z.size)) ∧ Hid (Tryz.prog.built 33 [] = some Z) ∧ Hid (Z.size = 36) :=
  ⟨(ccells zeroC).toArray, hidk rfl, infoC, builtC0, hidk rfl⟩
theorem wpList_build_none_w {P : Program} {ops : Array Oper} {rest : List Oper} {o : Oper} {a : Act} {w : World} {Q : Exit → Act → World → Prop} (hw : Region.wanted o (yielded ops a.tmps) = true) (t : TypeId) (ho : o.op = .build t #[])
    (cs : Array Value) (hb : P.built t [] = some cs) (h : wpList P ops Q rest (a.put o.dst (.agg cs)) w) : wpList P ops Q (o :: rest) a w :=
  BigFrame.wpList_want hw fun _ hK => by
    have hr := run_build w t #[] cs (by simpa using hb)
    unfold Oper.wp execOp
    simp [ho, hr]
    exact hK _ _ h
theorem wpList_mid_w {P : Program} {ops : Array Oper} {rest : List Oper} {op : Oper} {a : Act} {w : World} {Q : Exit → Act → World → Prop} (hw : Region.wanted op (yielded ops a.tmps) = true) (ty : TypeId) (x : Operand) (ho : op.op = .load ty x)
    (b o : Nat) (hx : a.eval x = .pointer (some ⟨b, o, none⟩)) (D : Array Value) (d : TypeDesc) (hc : w.rangeAt b o D.toList)
    (hu : P.underlying ty = some d) (hd : d.isRow = true) (hi : (P.info? ty).map (·.size) = some D.size)
    (h : wpList P ops Q rest (a.put op.dst (.agg D)) w) : wpList P ops Q (op :: rest) a w := by
  have hy : YieldsIf P ops (fun W => W = w) op (.agg D) a := yieldsIf_mid hw ty x ho b o hx D d (fun W e => by rw [e]; exact hc) hu hd hi
  rcases hy with ⟨_, hv⟩ | ⟨hf, _⟩
  · exact BigFrame.wpList_want hw fun K hK => by
      simp only [Oper.wp, hv w rfl, Oper.upon]
      first | exact .inl (hK _ _ h) | exact hK _ _ h
  · rw [hw] at hf; cases hf
def CameT (w W : World) (M C X : Array Value) : Prop := Below w.heap.size w W ∧ W.heap[w.heap.size]? = some (.cells M 48 (0, 0)) ∧ W.heap[w.heap.size + 1]? = some (.cells C 26 (0, 0)) ∧ W.heap[w.heap.size + 2]? = some (.cells X 26 (0, 0))
theorem CameT.keep {w W W' : World} {M C X : Array Value} (h : CameT w W M C X) (hb : Below W.heap.size W W') : CameT w W' M C X :=
  ⟨h.1.trans (hb.mono h.1.size), (hb.block _ (heap_lt h.2.1)).trans h.2.1, (hb.block _ (heap_lt h.2.2.1)).trans h.2.2.1, (hb.block _ (heap_lt h.2.2.2)).trans h.2.2.2⟩
structure ERow (W : World) (g o : Nat) (x : EnT) : Prop where
  k : W.cell? ⟨g, o, none⟩ = some (.int .i64 x.k)
  c : W.cell? ⟨g, o + 1, none⟩ = some (.int .i64 x.c)
  s : W.cell? ⟨g, o + 2, none⟩ = some (.int .i64 x.s)
  t : W.cell? ⟨g, o + 3, none⟩ = some (.string x.t)
  h : W.rangeAt g (o + 4) (scells x.h)
  m : W.rangeAt g (o + 73) (ccells x.m)
theorem ERow.keep {W W' : World} {g o : Nat} {x : EnT} (r : ERow W g o x) (hb : Below W.heap.size W W') : ERow W' g o x := by
  have hg : g < W.heap.size := World.block_lt_of_cell? _ _ r.k
  exact ⟨(hb.cell hg).trans r.k, (hb.cell hg).trans r.c, (hb.cell hg).trans r.s, (hb.cell hg).trans r.t, range_keep hb r.h, range_keep hb r.m⟩
theorem erow_of {W : World} {g o : Nat} {x : EnT} (ok : OkE x) (hr : W.rangeAt g o (ecells x)) : ERow W g o x := by
  have hs := scells_length x.h ok.h ok.g
  refine ⟨?_, ?_, ?_, ?_, ?_, ?_⟩
  · have := hr 0 (.int .i64 x.k) rfl; simpa using this
  · exact hr 1 (.int .i64 x.c) rfl
  · exact hr 2 (.int .i64 x.s) rfl
  · exact hr 3 (.string x.t) rfl
  · intro j v hj
    have hlt := (List.getElem?_eq_some_iff.1 hj).1
    have := hr (4 + j) v (by
      unfold ecells
      rw [List.append_assoc, List.getElem?_append_right (by simp), List.getElem?_append_left (by simpa using hlt)]
      simpa using hj)
    rw [Nat.add_assoc]; exact this
  · intro j v hj
    have := hr (73 + j) v (by
      unfold ecells
      rw [List.getElem?_append_right (by simp [hs])]
      simp only [List.length_append, hs, List.length_cons, List.length_nil]
      rw [show 73 + j - (0 + 1 + 1 + 1 + 1 + 69) = j by omega]
      exact hj)
    rw [Nat.add_assoc]; exact this
theorem erow_new (w : World) (x : EnT) (ok : OkE x) (X : Array Value) (HX : Hid (X = (ecells x).toArray)) (t : TypeId) : ERow (w.alloc (.cells X t)) w.heap.size 0 x := by
  refine erow_of ok ?_
  intro j v hj
  rw [Nat.zero_add, cell_of_row _ _ j _ t (0, 0) (heap_alloc_new w _), HX.out]
  simpa using hj
theorem right_user {x : EnT} (h : x.k = 1) : rightE x = ((decide (1 ≤ x.c) && decide (x.c ≤ 3)) && ((decide (1 ≤ x.s) && decide (x.s ≤ 1000000)) && (decide (x.t.size ≤ 200) && (eqSB x.h zeroS && eqCB x.m zeroC)))) := by
  unfold rightE
  rw [if_pos h, Bool.eq_iff_iff]
  simp only [Bool.and_eq_true, decide_eq_true_eq, and_assoc]
theorem right_anchor {x : EnT} (h : x.k = 2) : rightE x = (decide (x.c = 0) && (decide (x.s = 0) && (decide (x.t.size = 0) && (mayS x.h && eqCB x.m zeroC)))) := by
  unfold rightE
  rw [if_neg (by omega), if_pos h, Bool.eq_iff_iff]
  simp only [Bool.and_eq_true, decide_eq_true_eq, and_assoc]
theorem right_claim {x : EnT} (h : x.k = 3) : rightE x = (decide (x.c = 0) && (decide (x.s = 0) && (decide (x.t.size = 0) && (eqSB x.h zeroS && rightC x.m)))) := by
  unfold rightE
  rw [if_neg (by omega), if_neg (by omega), if_pos h, Bool.eq_iff_iff]
  simp only [Bool.and_eq_true, decide_eq_true_eq, and_assoc]
theorem right_none {x : EnT} (h1 : ¬ x.k = 1) (h2 : ¬ x.k = 2) (h3 : ¬ x.k = 3) : rightE x = false := by
  unfold rightE
  rw [if_neg h1, if_neg h2, if_neg h3]
theorem text_zero (t : ByteArray) : t.toList.isEmpty = decide (t.size = 0) := by
  rw [Bool.eq_iff_iff, List.isEmpty_iff, decide_eq_true_eq, ByteArray.toList_eq]
  constructor
  · intro h
    have := congrArg List.length h
    exact this
  · intro h
    exact List.eq_nil_of_length_eq_zero h
set_option maxHeartbeats 8000000 in
theorem refRight_user (x : EnT) (ok : OkE x) (hk : x.k = 1) (w : World) (X : Array Value) (HX : Hid (X = (ecells x).toArray)) :
    Calls Tryz.prog 76 #[.agg X] w fun e w' => e = .returned (.bool (rightE x)) ∧ Below w.heap.size w w' := by
  have HR := erow_new w x ok X HX 35
  have HB : Hid (Below w.heap.size w (w.alloc (.cells X 35))) := (Below.refl _ _).alloc (Nat.le_refl _) _
  have c0 := HR.k
  have c1 := HR.c
  have c2 := HR.s
  have c3 := HR.t
  have hrh := HR.h
  have hrm := HR.m
  simp only [Nat.zero_add] at c1 c2 c3 hrh hrm
  obtain ⟨Q, HQ, HSQ, H1Q, H69Q⟩ := sign_row x.h ok.h ok.g
  obtain ⟨C, HC, HSC, H1C, H36C⟩ := claim_row5 x.m ok.m
  obtain ⟨ZS, HZS, HAS, HBS, H69S⟩ := noughtsS
  obtain ⟨ZC, HZC, HAC, HBC, H36Z⟩ := noughtsC
  have RQ : Hid (∀ W, Below (w.alloc (.cells X 35)).heap.size (w.alloc (.cells X 35)) W → W.rangeAt w.heap.size 4 Q.toList) := fun W hb => by rw [HQ.out]; exact range_keep hb (by simpa using hrh)
  have RC : Hid (∀ W, Below (w.alloc (.cells X 35)).heap.size (w.alloc (.cells X 35)) W → W.rangeAt w.heap.size 73 C.toList) := fun W hb => by rw [HC.out]; exact range_keep hb (by simpa using hrm)
  have H0 : Hid (Below (w.alloc (.cells X 35)).heap.size (w.alloc (.cells X 35)) (w.alloc (.cells X 35))) := Below.refl _ _
  have WI : Hid (∀ (n a b : Int) (W : World), Calls Tryz.prog 75 #[.int .i64 n, .int .i64 a, .int .i64 b] W fun e w' => e = .returned (.bool (decide (a ≤ n) && decide (n ≤ b))) ∧ w' = W) := within8_any
  obtain ⟨b1, hb1⟩ : ∃ b, (decide (1 ≤ x.c) && decide (x.c ≤ 3)) = b := ⟨_, rfl⟩
  obtain ⟨b2, hb2⟩ : ∃ b, (decide (1 ≤ x.s) && decide (x.s ≤ 1000000)) = b := ⟨_, rfl⟩
  obtain ⟨b3, hb3⟩ : ∃ b, decide (x.t.size ≤ 200) = b := ⟨_, rfl⟩
  have hb3' : decide ((x.t.size : Int) ≤ 200) = b3 := by rw [← hb3, Bool.eq_iff_iff, decide_eq_true_eq, decide_eq_true_eq]; omega
  obtain ⟨b4, hb4⟩ : ∃ b, eqSB x.h zeroS = b := ⟨_, rfl⟩
  obtain ⟨b5, hb5⟩ : ∃ b, eqCB x.m zeroC = b := ⟨_, rfl⟩
  have EQS : ∀ W, (binOp .eql 28 (.agg Q) (.agg ZS)).run Tryz.prog W = .ok (.bool b4) W := fun W => eqSigned x.h zeroS ok.h rfl ok.g rfl Q ZS HQ HZS b4 (by rw [← hb4]; exact eqSB_iff _ _) W
  have EQC : ∀ W, (binOp .eql 33 (.agg C) (.agg ZC)).run Tryz.prog W = .ok (.bool b5) W := fun W => eqClaim x.m zeroC ok.m rfl C ZC HC HZC b5 (by rw [← hb5]; exact eqCB_iff _ _) W
  have W1 := hidk (WI.out x.c 1 3)
  have W2 := hidk (WI.out x.s 1 1000000)
  rw [hb1] at W1
  rw [hb2] at W2
  rw [right_user hk]
  rw [hb1, hb2, hb3, hb4, hb5]
  rw [hk] at c0
  obtain ⟨c, hc⟩ : ∃ c, c = x.c := ⟨_, rfl⟩
  obtain ⟨s, hs⟩ : ∃ c, c = x.s := ⟨_, rfl⟩
  obtain ⟨t, ht⟩ : ∃ c, c = x.t := ⟨_, rfl⟩
  rw [← hc] at c1 W1
  rw [← hs] at c2 W2
  rw [← ht] at c3 hb3 hb3'
  have hml : t.size ≤ 9223372036854775807 ∨ 9223372036854775807 < t.size := by omega
  clear hb1 hb2 hb4 hb5 WI HR hrh hrm HX HQ HC HZS HZC ok hc hs ht hml
  cases b1
  · go_enter Tryz.func76, Tryz.ntmps76
    go_wp2_with fail
    refine (W1.out _).mono ?_
    rintro e w1 ⟨rfl, rfl⟩
    go_wp2
    go_ret
    exact ⟨rfl, HB.out⟩
  cases b2
  · go_enter Tryz.func76, Tryz.ntmps76
    go_wp2_with fail
    refine (W1.out _).mono ?_
    rintro e w1 ⟨rfl, rfl⟩
    go_wp2_with fail
    refine (W2.out _).mono ?_
    rintro e w1 ⟨rfl, rfl⟩
    go_wp2
    go_ret
    exact ⟨rfl, HB.out⟩
  cases b3
  · go_enter Tryz.func76, Tryz.ntmps76
    go_wp2_with fail
    refine (W1.out _).mono ?_
    rintro e w1 ⟨rfl, rfl⟩
    go_wp2_with fail
    refine (W2.out _).mono ?_
    rintro e w1 ⟨rfl, rfl⟩
    go_wp2
    go_ret
    exact ⟨rfl, HB.out⟩
  cases b4
  · go_enter Tryz.func76, Tryz.ntmps76
    go_wp2_with fail
    refine (W1.out _).mono ?_
    rintro e w1 ⟨rfl, rfl⟩
    go_wp2_with fail
    refine (W2.out _).mono ?_
    rintro e w1 ⟨rfl, rfl⟩
    go_wp2_with (first
      | (show aD 23 _ _ _ _ _ _ _ _ _ _ _; refine wpList_mid_w (by rfl) 28 (.tmp 22) rfl w.heap.size 4 rfl Q _ (RQ.out _ H0.out) Tryz.underlying28 rfl HSQ.out ?_; try simp only [Act.put, pS1, pS2, pS3])
      | (show aD 24 _ _ _ _ _ _ _ _ _ _ _; refine wpList_build_none_w (by rfl) 28 rfl ZS HBS.out ?_; try simp only [Act.put, pS1, pS2, pS3])
      | (show aD 29 _ _ _ _ _ _ _ _ _ _ _; refine wpList_mid_w (by rfl) 33 (.tmp 28) rfl w.heap.size 73 rfl C _ (RC.out _ H0.out) Tryz.underlying33 rfl HSC.out ?_; try simp only [Act.put, pS1, pS2, pS3])
      | (show aD 30 _ _ _ _ _ _ _ _ _ _ _; refine wpList_build_none_w (by rfl) 33 rfl ZC HBC.out ?_; try simp only [Act.put, pS1, pS2, pS3])
      | fail)
    go_ret
    exact ⟨rfl, HB.out⟩
  · go_enter Tryz.func76, Tryz.ntmps76
    go_wp2_with fail
    refine (W1.out _).mono ?_
    rintro e w1 ⟨rfl, rfl⟩
    go_wp2_with fail
    refine (W2.out _).mono ?_
    rintro e w1 ⟨rfl, rfl⟩
    go_wp2_with (first
      | (show aD 23 _ _ _ _ _ _ _ _ _ _ _; refine wpList_mid_w (by rfl) 28 (.tmp 22) rfl w.heap.size 4 rfl Q _ (RQ.out _ H0.out) Tryz.underlying28 rfl HSQ.out ?_; try simp only [Act.put, pS1, pS2, pS3])
      | (show aD 24 _ _ _ _ _ _ _ _ _ _ _; refine wpList_build_none_w (by rfl) 28 rfl ZS HBS.out ?_; try simp only [Act.put, pS1, pS2, pS3])
      | (show aD 29 _ _ _ _ _ _ _ _ _ _ _; refine wpList_mid_w (by rfl) 33 (.tmp 28) rfl w.heap.size 73 rfl C _ (RC.out _ H0.out) Tryz.underlying33 rfl HSC.out ?_; try simp only [Act.put, pS1, pS2, pS3])
      | (show aD 30 _ _ _ _ _ _ _ _ _ _ _; refine wpList_build_none_w (by rfl) 33 rfl ZC HBC.out ?_; try simp only [Act.put, pS1, pS2, pS3])
      | fail)
    go_ret
    exact ⟨rfl, HB.out⟩
set_option maxHeartbeats 8000000 in
theorem refRight_anchor (x : EnT) (ok : OkE x) (hk : x.k = 2) (w : World) (X : Array Value) (HX : Hid (X = (ecells x).toArray)) :
    Calls Tryz.prog 76 #[.agg X] w fun e w' => e = .returned (.bool (rightE x)) ∧ Below w.heap.size w w' := by
  have HR := erow_new w x ok X HX 35
  have HB : Hid (Below w.heap.size w (w.alloc (.cells X 35))) := (Below.refl _ _).alloc (Nat.le_refl _) _
  have c0 := HR.k
  have c1 := HR.c
  have c2 := HR.s
  have c3 := HR.t
  have hrh := HR.h
  have hrm := HR.m
  simp only [Nat.zero_add] at c1 c2 c3 hrh hrm
  obtain ⟨Q, HQ, HSQ, H1Q, H69Q⟩ := sign_row x.h ok.h ok.g
  obtain ⟨C, HC, HSC, H1C, H36C⟩ := claim_row5 x.m ok.m
  obtain ⟨ZS, HZS, HAS, HBS, H69S⟩ := noughtsS
  obtain ⟨ZC, HZC, HAC, HBC, H36Z⟩ := noughtsC
  have RQ : Hid (∀ W, Below (w.alloc (.cells X 35)).heap.size (w.alloc (.cells X 35)) W → W.rangeAt w.heap.size 4 Q.toList) := fun W hb => by rw [HQ.out]; exact range_keep hb (by simpa using hrh)
  have RC : Hid (∀ W, Below (w.alloc (.cells X 35)).heap.size (w.alloc (.cells X 35)) W → W.rangeAt w.heap.size 73 C.toList) := fun W hb => by rw [HC.out]; exact range_keep hb (by simpa using hrm)
  have H0 : Hid (Below (w.alloc (.cells X 35)).heap.size (w.alloc (.cells X 35)) (w.alloc (.cells X 35))) := Below.refl _ _
  obtain ⟨b1, hb1⟩ : ∃ b, decide (x.c = 0) = b := ⟨_, rfl⟩
  obtain ⟨b2, hb2⟩ : ∃ b, decide (x.s = 0) = b := ⟨_, rfl⟩
  obtain ⟨b3, hb3⟩ : ∃ b, decide (x.t.size = 0) = b := ⟨_, rfl⟩
  have q1 : (x.c == 0) = b1 := by rw [← hb1, Bool.eq_iff_iff, beq_iff_eq, decide_eq_true_eq]
  have q2 : (x.s == 0) = b2 := by rw [← hb2, Bool.eq_iff_iff, beq_iff_eq, decide_eq_true_eq]
  have q3 : x.t.toList.isEmpty = b3 := by rw [← hb3]; exact text_zero x.t
  have EQ1 : ∀ W, (binOp .eql 3 (.int .i64 x.c) (.int .i64 0)).run Tryz.prog W = .ok (.bool b1) W := fun W => by rw [← q1]; simp [go_sem]
  have EQ2 : ∀ W, (binOp .eql 3 (.int .i64 x.s) (.int .i64 0)).run Tryz.prog W = .ok (.bool b2) W := fun W => by rw [← q2]; simp [go_sem]
  obtain ⟨b4, hb4⟩ : ∃ b, mayS x.h = b := ⟨_, rfl⟩
  obtain ⟨b5, hb5⟩ : ∃ b, eqCB x.m zeroC = b := ⟨_, rfl⟩
  have MY : Hid (∀ W, Calls Tryz.prog 21 #[.agg Q] W fun e w' => e = .returned (.bool b4) ∧ Below W.heap.size W w') := fun W => by rw [← hb4]; exact refMay_any x.h ok.h W Q HQ
  have EQC : ∀ W, (binOp .eql 33 (.agg C) (.agg ZC)).run Tryz.prog W = .ok (.bool b5) W := fun W => eqClaim x.m zeroC ok.m rfl C ZC HC HZC b5 (by rw [← hb5]; exact eqCB_iff _ _) W
  rw [right_anchor hk]
  rw [hb1, hb2, hb3, hb4, hb5]
  rw [hk] at c0
  obtain ⟨c, hc⟩ : ∃ c, c = x.c := ⟨_, rfl⟩
  obtain ⟨s, hs⟩ : ∃ c, c = x.s := ⟨_, rfl⟩
  obtain ⟨t, ht⟩ : ∃ c, c = x.t := ⟨_, rfl⟩
  rw [← hc] at c1 q1 EQ1
  rw [← hs] at c2 q2 EQ2
  rw [← ht] at c3 q3
  clear hb1 hb2 hb3 hb4 hb5 HR hrh hrm HX HQ HC HZS HZC ok hc hs ht
  cases b1
  · go_enter Tryz.func76, Tryz.ntmps76
    go_wp2
    go_ret
    exact ⟨rfl, HB.out⟩
  cases b2
  · go_enter Tryz.func76, Tryz.ntmps76
    go_wp2
    go_ret
    exact ⟨rfl, HB.out⟩
  cases b3
  · go_enter Tryz.func76, Tryz.ntmps76
    go_wp2
    go_ret
    exact ⟨rfl, HB.out⟩
  cases b4
  · go_enter Tryz.func76, Tryz.ntmps76
    go_wp2_with (first
      | (show aD 50 _ _ _ _ _ _ _ _ _ _ _; refine wpList_mid_w (by rfl) 28 (.tmp 49) rfl w.heap.size 4 rfl Q _ (RQ.out _ H0.out) Tryz.underlying28 rfl HSQ.out ?_; try simp only [Act.put, pS1, pS2, pS3])
      | fail)
    refine (MY.out _).mono ?_
    rintro e w1 ⟨rfl, hb1⟩
    have HB1 := hidk (HB.out.trans (hb1.mono HB.out.size))
    have HRC1 := hidk (RC.out _ hb1)
    clear hb1
    go_wp2_with (first
      | fail)
    go_ret
    exact ⟨rfl, HB1.out⟩
  · go_enter Tryz.func76, Tryz.ntmps76
    go_wp2_with (first
      | (show aD 50 _ _ _ _ _ _ _ _ _ _ _; refine wpList_mid_w (by rfl) 28 (.tmp 49) rfl w.heap.size 4 rfl Q _ (RQ.out _ H0.out) Tryz.underlying28 rfl HSQ.out ?_; try simp only [Act.put, pS1, pS2, pS3])
      | fail)
    refine (MY.out _).mono ?_
    rintro e w1 ⟨rfl, hb1⟩
    have HB1 := hidk (HB.out.trans (hb1.mono HB.out.size))
    have HRC1 := hidk (RC.out _ hb1)
    clear hb1
    go_wp2_with (first
      | (show aD 55 _ _ _ _ _ _ _ _ _ _ _; refine wpList_mid_w (by rfl) 33 (.tmp 54) rfl w.heap.size 73 rfl C _ HRC1.out Tryz.underlying33 rfl HSC.out ?_; try simp only [Act.put, pS1, pS2, pS3])
      | (show aD 56 _ _ _ _ _ _ _ _ _ _ _; refine wpList_build_none_w (by rfl) 33 rfl ZC HBC.out ?_; try simp only [Act.put, pS1, pS2, pS3])
      | fail)
    go_ret
    exact ⟨rfl, HB1.out⟩
set_option maxHeartbeats 8000000 in
theorem refRight_claim (x : EnT) (ok : OkE x) (hk : x.k = 3) (w : World) (X : Array Value) (HX : Hid (X = (ecells x).toArray)) :
    Calls Tryz.prog 76 #[.agg X] w fun e w' => e = .returned (.bool (rightE x)) ∧ Below w.heap.size w w' := by
  have HR := erow_new w x ok X HX 35
  have HB : Hid (Below w.heap.size w (w.alloc (.cells X 35))) := (Below.refl _ _).alloc (Nat.le_refl _) _
  have c0 := HR.k
  have c1 := HR.c
  have c2 := HR.s
  have c3 := HR.t
  have hrh := HR.h
  have hrm := HR.m
  simp only [Nat.zero_add] at c1 c2 c3 hrh hrm
  obtain ⟨Q, HQ, HSQ, H1Q, H69Q⟩ := sign_row x.h ok.h ok.g
  obtain ⟨C, HC, HSC, H1C, H36C⟩ := claim_row5 x.m ok.m
  obtain ⟨ZS, HZS, HAS, HBS, H69S⟩ := noughtsS
  obtain ⟨ZC, HZC, HAC, HBC, H36Z⟩ := noughtsC
  have RQ : Hid (∀ W, Below (w.alloc (.cells X 35)).heap.size (w.alloc (.cells X 35)) W → W.rangeAt w.heap.size 4 Q.toList) := fun W hb => by rw [HQ.out]; exact range_keep hb (by simpa using hrh)
  have RC : Hid (∀ W, Below (w.alloc (.cells X 35)).heap.size (w.alloc (.cells X 35)) W → W.rangeAt w.heap.size 73 C.toList) := fun W hb => by rw [HC.out]; exact range_keep hb (by simpa using hrm)
  have H0 : Hid (Below (w.alloc (.cells X 35)).heap.size (w.alloc (.cells X 35)) (w.alloc (.cells X 35))) := Below.refl _ _
  obtain ⟨b1, hb1⟩ : ∃ b, decide (x.c = 0) = b := ⟨_, rfl⟩
  obtain ⟨b2, hb2⟩ : ∃ b, decide (x.s = 0) = b := ⟨_, rfl⟩
  obtain ⟨b3, hb3⟩ : ∃ b, decide (x.t.size = 0) = b := ⟨_, rfl⟩
  have q1 : (x.c == 0) = b1 := by rw [← hb1, Bool.eq_iff_iff, beq_iff_eq, decide_eq_true_eq]
  have q2 : (x.s == 0) = b2 := by rw [← hb2, Bool.eq_iff_iff, beq_iff_eq, decide_eq_true_eq]
  have q3 : x.t.toList.isEmpty = b3 := by rw [← hb3]; exact text_zero x.t
  have EQ1 : ∀ W, (binOp .eql 3 (.int .i64 x.c) (.int .i64 0)).run Tryz.prog W = .ok (.bool b1) W := fun W => by rw [← q1]; simp [go_sem]
  have EQ2 : ∀ W, (binOp .eql 3 (.int .i64 x.s) (.int .i64 0)).run Tryz.prog W = .ok (.bool b2) W := fun W => by rw [← q2]; simp [go_sem]
  obtain ⟨b4, hb4⟩ : ∃ b, eqSB x.h zeroS = b := ⟨_, rfl⟩
  obtain ⟨b5, hb5⟩ : ∃ b, rightC x.m = b := ⟨_, rfl⟩
  have EQS : ∀ W, (binOp .eql 28 (.agg Q) (.agg ZS)).run Tryz.prog W = .ok (.bool b4) W := fun W => eqSigned x.h zeroS ok.h rfl ok.g rfl Q ZS HQ HZS b4 (by rw [← hb4]; exact eqSB_iff _ _) W
  have RR : Hid (∀ W, Calls Tryz.prog 107 #[.agg C] W fun e w' => e = .returned (.bool b5) ∧ Below W.heap.size W w') := fun W => by rw [← hb5]; exact refRightC_any x.m W C HC
  rw [right_claim hk]
  rw [hb1, hb2, hb3, hb4, hb5]
  rw [hk] at c0
  obtain ⟨c, hc⟩ : ∃ c, c = x.c := ⟨_, rfl⟩
  obtain ⟨s, hs⟩ : ∃ c, c = x.s := ⟨_, rfl⟩
  obtain ⟨t, ht⟩ : ∃ c, c = x.t := ⟨_, rfl⟩
  rw [← hc] at c1 q1 EQ1
  rw [← hs] at c2 q2 EQ2
  rw [← ht] at c3 q3
  clear hb1 hb2 hb3 hb4 hb5 HR hrh hrm HX HQ HC HZS HZC ok hc hs ht
  cases b1
  · go_enter Tryz.func76, Tryz.ntmps76
    go_wp2
    go_ret
    exact ⟨rfl, HB.out⟩
  cases b2
  · go_enter Tryz.func76, Tryz.ntmps76
    go_wp2
    go_ret
    exact ⟨rfl, HB.out⟩
  cases b3
  · go_enter Tryz.func76, Tryz.ntmps76
    go_wp2
    go_ret
    exact ⟨rfl, HB.out⟩
  cases b4
  · go_enter Tryz.func76, Tryz.ntmps76
    go_wp2_with (first
      | (show aD 76 _ _ _ _ _ _ _ _ _ _ _; refine wpList_mid_w (by rfl) 28 (.tmp 75) rfl w.heap.size 4 rfl Q _ (RQ.out _ H0.out) Tryz.underlying28 rfl HSQ.out ?_; try simp only [Act.put, pS1, pS2, pS3])
      | (show aD 77 _ _ _ _ _ _ _ _ _ _ _; refine wpList_build_none_w (by rfl) 28 rfl ZS HBS.out ?_; try simp only [Act.put, pS1, pS2, pS3])
      | (show aD 82 _ _ _ _ _ _ _ _ _ _ _; refine wpList_mid_w (by rfl) 33 (.tmp 81) rfl w.heap.size 73 rfl C _ (RC.out _ H0.out) Tryz.underlying33 rfl HSC.out ?_; try simp only [Act.put, pS1, pS2, pS3])
      | fail)
    go_ret
    exact ⟨rfl, HB.out⟩
  · go_enter Tryz.func76, Tryz.ntmps76
    go_wp2_with (first
      | (show aD 76 _ _ _ _ _ _ _ _ _ _ _; refine wpList_mid_w (by rfl) 28 (.tmp 75) rfl w.heap.size 4 rfl Q _ (RQ.out _ H0.out) Tryz.underlying28 rfl HSQ.out ?_; try simp only [Act.put, pS1, pS2, pS3])
      | (show aD 77 _ _ _ _ _ _ _ _ _ _ _; refine wpList_build_none_w (by rfl) 28 rfl ZS HBS.out ?_; try simp only [Act.put, pS1, pS2, pS3])
      | (show aD 82 _ _ _ _ _ _ _ _ _ _ _; refine wpList_mid_w (by rfl) 33 (.tmp 81) rfl w.heap.size 73 rfl C _ (RC.out _ H0.out) Tryz.underlying33 rfl HSC.out ?_; try simp only [Act.put, pS1, pS2, pS3])
      | fail)
    refine (RR.out _).mono ?_
    rintro e w1 ⟨rfl, hb1⟩
    have HB1 := hidk (HB.out.trans (hb1.mono HB.out.size))
    clear hb1
    go_wp2_with fail
    go_ret
    exact ⟨rfl, HB1.out⟩
set_option maxHeartbeats 4000000 in
theorem refRight_none (x : EnT) (ok : OkE x) (h1 : ¬ x.k = 1) (h2 : ¬ x.k = 2) (h3 : ¬ x.k = 3) (w : World) (X : Array Value) (HX : Hid (X = (ecells x).toArray)) :
    Calls Tryz.prog 76 #[.agg X] w fun e w' => e = .returned (.bool (rightE x)) ∧ Below w.heap.size w w' := by
  rw [right_none h1 h2 h3]
  have HB : Hid (Below w.heap.size w (w.alloc (.cells X 35))) := (Below.refl _ _).alloc (Nat.le_refl _) _
  have c0 := (erow_new w x ok X HX 35).k
  have q1 : (x.k == 1) = false := by rw [beq_eq_false_iff_ne]; exact h1
  have q2 : (x.k == 2) = false := by rw [beq_eq_false_iff_ne]; exact h2
  have q3 : (x.k == 3) = false := by rw [beq_eq_false_iff_ne]; exact h3
  have d1 : decide (x.k = 1) = false := by rw [decide_eq_false_iff_not]; exact h1
  have d2 : decide (x.k = 2) = false := by rw [decide_eq_false_iff_not]; exact h2
  have d3 : decide (x.k = 3) = false := by rw [decide_eq_false_iff_not]; exact h3
  obtain ⟨k, hk⟩ : ∃ k, k = x.k := ⟨_, rfl⟩
  rw [← hk] at c0 q1 q2 q3 d1 d2 d3 h1 h2 h3
  clear HX ok hk
  go_enter Tryz.func76, Tryz.ntmps76
  go_wp2
  go_ret
  exact ⟨rfl, HB.out⟩
theorem refRightE_any (x : EnT) (ok : OkE x) (w : World) (X : Array Value) (HX : Hid (X = (ecells x).toArray)) :
    Calls Tryz.prog 76 #[.agg X] w fun e w' => e = .returned (.bool (rightE x)) ∧ Below w.heap.size w w' := by
  by_cases h1 : x.k = 1
  · exact refRight_user x ok h1 w X HX
  by_cases h2 : x.k = 2
  · exact refRight_anchor x ok h2 w X HX
  by_cases h3 : x.k = 3
  · exact refRight_claim x ok h3 w X HX
  exact refRight_none x ok h1 h2 h3 w X HX
theorem ERow.low {W W' : World} {g o B : Nat} {x : EnT} (r : ERow W g o x) (hb : Below B W W') (hg : g < B) : ERow W' g o x :=
  ⟨(hb.cell hg).trans r.k, (hb.cell hg).trans r.c, (hb.cell hg).trans r.s, (hb.cell hg).trans r.t, fun j v hj => (hb.cell hg).trans (r.h j v hj), fun j v hj => (hb.cell hg).trans (r.m j v hj)⟩
structure FO (w : World) (x : EnT) (v : Value) (fs : List (Int × ByteArray)) (W : World) : Prop where
  row : ERow W w.heap.size 0 x
  own : W.ownsRow (w.heap.size + 1) 92 2 v fs.length (fcells fs)
  nil : v = .slice none 0 0 ↔ fs = []
  below : Below w.heap.size w W
  size : w.heap.size + 1 ≤ W.heap.size
theorem FO.keep {w W W' : World} {x : EnT} {v : Value} {fs : List (Int × ByteArray)} (h : FO w x v fs W) (hb : Below W.heap.size W W') : FO w x v fs W' :=
  ⟨h.row.keep hb, h.own.kept (row := none) ⟨hb.os, hb.tape, hb.output, hb.size, fun j hj _ => hb.block j hj⟩ (by cases hv : v.ownBlock <;> simp), h.nil, h.below.trans (hb.mono h.below.size), Nat.le_trans h.size hb.size⟩
theorem FO.first {w W : World} {x : EnT} (hr : ERow W w.heap.size 0 x) (hb : Below w.heap.size w W) (hs : w.heap.size + 1 ≤ W.heap.size) (n : ByteArray) : FO w x (.slice (some ⟨W.heap.size, 0, none⟩) 1 1) [(1, n)] (W.alloc (.cells #[.int .i64 1, .string n] 92)) := by
  have h0 : Below W.heap.size W (W.alloc (.cells #[.int .i64 1, .string n] 92)) := (Below.refl _ _).alloc (Nat.le_refl _) _
  refine ⟨hr.keep h0, ⟨rfl, .inr ⟨W.heap.size, 1, #[.int .i64 1, .string n], rfl, hs, heap_alloc_new W _, Nat.le_refl _, by unfold maxLen; decide, rfl, rfl⟩⟩, ?_, hb.trans (h0.mono hb.size), by simp; omega⟩
  constructor
  · intro e; cases e
  · intro e; cases e
theorem FO.app {w W : World} {x : EnT} {v : Value} {fs : List (Int × ByteArray)} (h : FO w x v fs W) (hl : fs.length ≤ 1000) (t : Int) (n : ByteArray) :
    ∃ v' w1, (Builtin.append_ #[95, 95] 95 #[v, .slice (some ⟨W.heap.size, 0, none⟩) 1 1]).run Tryz.prog (W.alloc (.cells #[.int .i64 t, .string n] 92)) = .ok v' w1 ∧ FO w x v' (fs ++ [(t, n)]) w1 := by
  obtain ⟨v', w1, hr, ho, hb, _, _⟩ := run_append_field W (w.heap.size + 1) v fs (t, n) h.own h.nil h.size (by omega)
  refine ⟨v', w1, hr, h.row.low hb (by omega), by rw [List.length_append]; exact ho, ?_, h.below.trans (hb.mono (by omega)), Nat.le_trans h.size hb.size⟩
  constructor
  · intro e
    subst e
    rcases ho.2 with ⟨_, h0⟩ | ⟨g, cap, cur, e, _⟩
    · omega
    · cases e
  · intro e; simp at e
set_option maxHeartbeats 2000000 in
theorem refFields_user (x : EnT) (ok : OkE x) (hk : x.k = 1) (hright : rightE x = true) (w : World) (X : Array Value) (HX : Hid (X = (ecells x).toArray)) :
    Calls Tryz.prog 125 #[.agg X] w fun e w' => ∃ v, e = .returned v ∧ w'.ownsRow w.heap.size 92 2 v (fieldsE x).length (fcells (fieldsE x)) ∧ Below w.heap.size w w' := by
  have HR := hidk (erow_new w x ok X HX 35)
  have HB : Hid (Below w.heap.size w (w.alloc (.cells X 35))) := (Below.refl _ _).alloc (Nat.le_refl _) _
  have c0 := HR.out.k
  rw [hk] at c0
  obtain ⟨n1, Hn1⟩ : ∃ n, Hid (n = nOf 1) := ⟨_, hidk rfl⟩
  have N1 : Hid (∀ W, Calls Tryz.prog 109 #[.int .i64 1] W fun e w' => e = .returned (.string n1) ∧ Below W.heap.size W w') := fun W => by rw [Hn1.out]; exact refNum_any 1 W
  obtain ⟨c, hc⟩ : ∃ c, Hid (c = x.c) := ⟨_, hidk rfl⟩
  obtain ⟨s, hs⟩ : ∃ c, Hid (c = x.s) := ⟨_, hidk rfl⟩
  obtain ⟨t, ht⟩ : ∃ c, Hid (c = x.t) := ⟨_, hidk rfl⟩
  obtain ⟨n2, Hn2⟩ : ∃ n, Hid (n = nOf c) := ⟨_, hidk rfl⟩
  obtain ⟨n3, Hn3⟩ : ∃ n, Hid (n = nOf s) := ⟨_, hidk rfl⟩
  have N2 : Hid (∀ W, Calls Tryz.prog 109 #[.int .i64 c] W fun e w' => e = .returned (.string n2) ∧ Below W.heap.size W w') := fun W => by rw [Hn2.out]; exact refNum_any c W
  have N3 : Hid (∀ W, Calls Tryz.prog 109 #[.int .i64 s] W fun e w' => e = .returned (.string n3) ∧ Below W.heap.size W w') := fun W => by rw [Hn3.out]; exact refNum_any s W
  have HFE : Hid (fieldsE x = [(1, n1), (2, n2), (3, n3), (4, t)]) := by show _ = _; rw [fields_user hk, Hn1.out, Hn2.out, Hn3.out, hc.out, hs.out, ht.out]
  clear Hn1 Hn2 Hn3 HX
  go_enter Tryz.func125, Tryz.ntmps125
  go_wp2_with fail
  refine (N1.out _).mono ?_
  rintro e w1 ⟨rfl, hb1⟩
  have HF1 := hidk (FO.first (x := x) (HR.out.keep hb1) (HB.out.trans (hb1.mono HB.out.size)) (by have := hb1.size; simp at this; omega) n1)
  have k1 := HF1.out.row.k
  rw [hk] at k1
  clear hb1 HR HB N1 c0
  have c1 := HF1.out.row.c
  rw [← hc.out, Nat.zero_add] at c1
  go_wp2_with fail
  refine (N2.out _).mono ?_
  rintro e w2 ⟨rfl, hb2⟩
  have HF2 := hidk (HF1.out.keep hb2)
  obtain ⟨v3, w3, hr3, hF3⟩ := HF2.out.app (by simp) 2 n2
  have HRUN3 := hidk hr3
  have HF3 := hidk hF3
  have c2 := HF3.out.row.s
  rw [← hs.out, Nat.zero_add] at c2
  clear hb2 HF1 HF2 hr3 hF3 N2 c1 k1
  go_wp2_with (first
    | (show aD 19 _ _ _ _ _ _ _ _ _ _ _; refine wpList_append_run rfl (.tmp 13) (.tmp 18) 95 95 rfl _ _ v3 w3 rfl rfl HRUN3.out ?_; try simp only [Act.put, pS1, pS2, pS3])
    | fail)
  refine (N3.out _).mono ?_
  rintro e w4 ⟨rfl, hb4⟩
  have HF4 := hidk (HF3.out.keep hb4)
  obtain ⟨v5, w5, hr5, hF5⟩ := HF4.out.app (by simp) 3 n3
  have HRUN5 := hidk hr5
  have HF5 := hidk hF5
  have c3 := HF5.out.row.t
  rw [← ht.out, Nat.zero_add] at c3
  obtain ⟨v6, w6, hr6, hF6⟩ := HF5.out.app (by simp) 4 t
  have HRUN6 := hidk hr6
  have HF6 := hidk hF6
  clear hb4 HF3 HF4 HF5 hr5 hF5 hr6 hF6 N3 c2 HRUN3
  go_wp2_with (first
    | (show aD 26 _ _ _ _ _ _ _ _ _ _ _; refine wpList_append_run rfl (.tmp 20) (.tmp 25) 95 95 rfl _ _ v5 w5 rfl rfl HRUN5.out ?_; try simp only [Act.put, pS1, pS2, pS3])
    | (show aD 32 _ _ _ _ _ _ _ _ _ _ _; refine wpList_append_run rfl (.tmp 27) (.tmp 31) 95 95 rfl _ _ v6 w6 rfl rfl HRUN6.out ?_; try simp only [Act.put, pS1, pS2, pS3])
    | fail)
  go_ret
  refine ⟨_, rfl, ?_, HF6.out.below⟩
  rw [HFE.out]
  exact own_lower HF6.out.own (by omega)
set_option maxHeartbeats 2000000 in
theorem refFields_anchor (x : EnT) (ok : OkE x) (hk : x.k = 2) (hright : rightE x = true) (w : World) (X : Array Value) (HX : Hid (X = (ecells x).toArray)) :
    Calls Tryz.prog 125 #[.agg X] w fun e w' => ∃ v, e = .returned v ∧ w'.ownsRow w.heap.size 92 2 v (fieldsE x).length (fcells (fieldsE x)) ∧ Below w.heap.size w w' := by
  have HR := hidk (erow_new w x ok X HX 35)
  have HB : Hid (Below w.heap.size w (w.alloc (.cells X 35))) := (Below.refl _ _).alloc (Nat.le_refl _) _
  have c0 := HR.out.k
  rw [hk] at c0
  obtain ⟨n1, Hn1⟩ : ∃ n, Hid (n = nOf 2) := ⟨_, hidk rfl⟩
  have N1 : Hid (∀ W, Calls Tryz.prog 109 #[.int .i64 2] W fun e w' => e = .returned (.string n1) ∧ Below W.heap.size W w') := fun W => by rw [Hn1.out]; exact refNum_any 2 W
  obtain ⟨Q, HQ, HSQ, H1Q, HZQ⟩ := sign_row x.h ok.h ok.g
  obtain ⟨L, hL⟩ : ∃ l, l = signB x.h := ⟨_, rfl⟩
  obtain ⟨n2, Hn2⟩ : ∃ n : ByteArray, Hid (n = ⟨L.toArray⟩) := ⟨_, hidk rfl⟩
  have SB : Hid (∀ W, Calls Tryz.prog 133 #[.agg Q] W fun e w' => ∃ v, e = .returned v ∧ w'.ownsRow W.heap.size 5 1 v L.length (cellsOf L) ∧ Below W.heap.size W w') := fun W => by rw [hL]; exact refSB_any x.h ok.h ok.g W Q HQ
  have HFE : Hid (fieldsE x = [(1, n1), (5, n2)]) := by show _ = _; rw [fields_anchor hk, Hn1.out, Hn2.out, hL]; rfl
  have HRQ : Hid (∀ W, ERow W w.heap.size 0 x → W.rangeAt w.heap.size 4 Q.toList) := fun W h => by
    have := h.h
    rw [Nat.zero_add] at this
    rw [HQ.out]; simpa using this
  have CV : Hid (∀ W a cap, Reads W a L.length cap L → (convert 69 9 (.slice a L.length cap)).run Tryz.prog W = .ok (.string n2) W) := fun W a cap h => by rw [Hn2.out]; exact conv_reads h
  obtain ⟨len, hlen⟩ : ∃ n, Hid (n = L.length) := ⟨_, hidk rfl⟩
  rw [← hlen.out] at SB CV
  clear Hn1 Hn2 HX HQ hL
  go_enter Tryz.func125, Tryz.ntmps125
  go_wp2_with fail
  refine (N1.out _).mono ?_
  rintro e w1 ⟨rfl, hb1⟩
  have HF1 := hidk (FO.first (x := x) (HR.out.keep hb1) (HB.out.trans (hb1.mono HB.out.size)) (by have := hb1.size; simp at this; omega) n1)
  have k1 := HF1.out.row.k
  rw [hk] at k1
  clear hb1 HR HB N1 c0
  go_wp2_with (first
    | (show aD 37 _ _ _ _ _ _ _ _ _ _ _; refine wpList_mid rfl 28 (.tmp 36) rfl w.heap.size 4 rfl Q _ (HRQ.out _ HF1.out.row) Tryz.underlying28 rfl HSQ.out ?_; try simp only [Act.put, pS1, pS2, pS3])
    | fail)
  refine (SB.out _).mono ?_
  rintro e w2 ⟨v, rfl, hown, hb2⟩
  rw [hlen.out] at hown
  obtain ⟨a2, cap2, rfl, hR2⟩ := reads_own hown
  rw [← hlen.out] at hR2 ⊢
  have c2 := CV.out w2 a2 cap2 hR2
  have HF2 := hidk (HF1.out.keep hb2)
  obtain ⟨v3, w3, hr3, hF3⟩ := HF2.out.app (by simp) 5 n2
  have HRUN3 := hidk hr3
  have HF3 := hidk hF3
  clear hown hR2 hb2 HF1 HF2 hr3 hF3 SB CV k1 HRQ
  go_wp2_with (first
    | (show aD 42 _ _ _ _ _ _ _ _ _ _ _; refine wpList_append_run rfl (.tmp 35) (.tmp 41) 95 95 rfl _ _ v3 w3 rfl rfl HRUN3.out ?_; try simp only [Act.put, pS1, pS2, pS3])
    | fail)
  go_ret
  refine ⟨_, rfl, ?_, HF3.out.below⟩
  rw [HFE.out]
  exact own_lower HF3.out.own (by omega)
set_option maxHeartbeats 2000000 in
theorem refFields_claim (x : EnT) (ok : OkE x) (hk : x.k = 3) (hright : rightE x = true) (w : World) (X : Array Value) (HX : Hid (X = (ecells x).toArray)) :
    Calls Tryz.prog 125 #[.agg X] w fun e w' => ∃ v, e = .returned v ∧ w'.ownsRow w.heap.size 92 2 v (fieldsE x).length (fcells (fieldsE x)) ∧ Below w.heap.size w w' := by
  have HR := hidk (erow_new w x ok X HX 35)
  have HB : Hid (Below w.heap.size w (w.alloc (.cells X 35))) := (Below.refl _ _).alloc (Nat.le_refl _) _
  have c0 := HR.out.k
  rw [hk] at c0
  obtain ⟨n1, Hn1⟩ : ∃ n, Hid (n = nOf 3) := ⟨_, hidk rfl⟩
  have N1 : Hid (∀ W, Calls Tryz.prog 109 #[.int .i64 3] W fun e w' => e = .returned (.string n1) ∧ Below W.heap.size W w') := fun W => by rw [Hn1.out]; exact refNum_any 3 W
  obtain ⟨Q, HQ, HSQ, H1Q, HZQ⟩ := claim_row5 x.m ok.m
  obtain ⟨L, hL⟩ : ∃ l, l = claimB x.m := ⟨_, rfl⟩
  obtain ⟨n2, Hn2⟩ : ∃ n : ByteArray, Hid (n = ⟨L.toArray⟩) := ⟨_, hidk rfl⟩
  have SB : Hid (∀ W, Calls Tryz.prog 134 #[.agg Q] W fun e w' => ∃ v, e = .returned v ∧ w'.ownsRow W.heap.size 5 1 v L.length (cellsOf L) ∧ Below W.heap.size W w') := fun W => by rw [hL]; exact refCB_any x.m ok.m W Q HQ
  have HFE : Hid (fieldsE x = [(1, n1), (6, n2)]) := by show _ = _; rw [fields_claim hk, Hn1.out, Hn2.out, hL]; rfl
  have HRQ : Hid (∀ W, ERow W w.heap.size 0 x → W.rangeAt w.heap.size 73 Q.toList) := fun W h => by
    have := h.m
    rw [Nat.zero_add] at this
    rw [HQ.out]; simpa using this
  have CV : Hid (∀ W a cap, Reads W a L.length cap L → (convert 69 9 (.slice a L.length cap)).run Tryz.prog W = .ok (.string n2) W) := fun W a cap h => by rw [Hn2.out]; exact conv_reads h
  obtain ⟨len, hlen⟩ : ∃ n, Hid (n = L.length) := ⟨_, hidk rfl⟩
  rw [← hlen.out] at SB CV
  clear Hn1 Hn2 HX HQ hL
  go_enter Tryz.func125, Tryz.ntmps125
  go_wp2_with fail
  refine (N1.out _).mono ?_
  rintro e w1 ⟨rfl, hb1⟩
  have HF1 := hidk (FO.first (x := x) (HR.out.keep hb1) (HB.out.trans (hb1.mono HB.out.size)) (by have := hb1.size; simp at this; omega) n1)
  have k1 := HF1.out.row.k
  rw [hk] at k1
  clear hb1 HR HB N1 c0
  go_wp2_with (first
    | (show aD 47 _ _ _ _ _ _ _ _ _ _ _; refine wpList_mid rfl 33 (.tmp 46) rfl w.heap.size 73 rfl Q _ (HRQ.out _ HF1.out.row) Tryz.underlying33 rfl HSQ.out ?_; try simp only [Act.put, pS1, pS2, pS3])
    | fail)
  refine (SB.out _).mono ?_
  rintro e w2 ⟨v, rfl, hown, hb2⟩
  rw [hlen.out] at hown
  obtain ⟨a2, cap2, rfl, hR2⟩ := reads_own hown
  rw [← hlen.out] at hR2 ⊢
  have c2 := CV.out w2 a2 cap2 hR2
  have HF2 := hidk (HF1.out.keep hb2)
  obtain ⟨v3, w3, hr3, hF3⟩ := HF2.out.app (by simp) 6 n2
  have HRUN3 := hidk hr3
  have HF3 := hidk hF3
  clear hown hR2 hb2 HF1 HF2 hr3 hF3 SB CV k1 HRQ
  go_wp2_with (first
    | (show aD 52 _ _ _ _ _ _ _ _ _ _ _; refine wpList_append_run rfl (.tmp 45) (.tmp 51) 95 95 rfl _ _ v3 w3 rfl rfl HRUN3.out ?_; try simp only [Act.put, pS1, pS2, pS3])
    | fail)
  go_ret
  refine ⟨_, rfl, ?_, HF3.out.below⟩
  rw [HFE.out]
  exact own_lower HF3.out.own (by omega)
theorem refFields_any (x : EnT) (ok : OkE x) (hright : rightE x = true) (w : World) (X : Array Value) (HX : Hid (X = (ecells x).toArray)) :
    Calls Tryz.prog 125 #[.agg X] w fun e w' => ∃ v, e = .returned v ∧ w'.ownsRow w.heap.size 92 2 v (fieldsE x).length (fcells (fieldsE x)) ∧ Below w.heap.size w w' := by
  rcases right_kinds hright with ⟨hk, _⟩ | ⟨hk, _⟩ | ⟨hk, _⟩
  · exact refFields_user x ok hk hright w X HX
  · exact refFields_anchor x ok hk hright w X HX
  · exact refFields_claim x ok hk hright w X HX
theorem fieldsE_small {x : EnT} (ok : OkE x) (h : rightE x = true) : (∀ f ∈ fieldsE x, f.2.size ≤ maxLen) ∧ (fieldsE x).length ≤ 400 := by
  have hb : ∀ n : Nat, n ≤ 1000 → n ≤ maxLen := fun n hn => by unfold maxLen; omega
  rcases right_kinds h with ⟨hk, h1⟩ | ⟨hk, h1⟩ | ⟨hk, h1⟩
  · rw [fields_user hk]
    refine ⟨fun f hf => ?_, by simp⟩
    simp only [List.mem_cons, List.not_mem_nil, or_false] at hf
    rcases hf with rfl | rfl | rfl | rfl
    · exact hb (nOf 1).size (Nat.le_trans (nOf_size _) (by omega))
    · exact hb (nOf (x.c)).size (Nat.le_trans (nOf_size _) (by omega))
    · exact hb (nOf (x.s)).size (Nat.le_trans (nOf_size _) (by omega))
    · exact hb _ (by show x.t.size ≤ 1000; omega)
  · rw [fields_anchor hk]
    refine ⟨fun f hf => ?_, by simp⟩
    simp only [List.mem_cons, List.not_mem_nil, or_false] at hf
    rcases hf with rfl | rfl
    · exact hb (nOf 2).size (Nat.le_trans (nOf_size _) (by omega))
    · exact hb _ (by show (bA (signB x.h)).size ≤ 1000; rw [bA_size]; have := signB_length x.h ok.h ok.g; omega)
  · rw [fields_claim hk]
    refine ⟨fun f hf => ?_, by simp⟩
    simp only [List.mem_cons, List.not_mem_nil, or_false] at hf
    rcases hf with rfl | rfl
    · exact hb (nOf 3).size (Nat.le_trans (nOf_size _) (by omega))
    · exact hb _ (by show (bA (claimB x.m)).size ≤ 1000; rw [bA_size]; have := claimB_length x.m ok.m; omega)
set_option maxHeartbeats 2000000 in
theorem refEB_any (x : EnT) (ok : OkE x) (hright : rightE x = true) (w : World) (X : Array Value) (HX : Hid (X = (ecells x).toArray)) :
    Calls Tryz.prog 110 #[.agg X] w fun e w' => ∃ v, e = .returned v ∧ w'.ownsRow w.heap.size 5 1 v (entryB x).length (cellsOf (entryB x)) ∧ Below w.heap.size w w' := by
  have HSX : Hid ((Tryz.prog.info? 35).map (·.size) = some X.size) := by show _ = _; rw [sizeE, HX.out]; simp [ecells_length x ok]
  have HR : Hid ((w.alloc (.cells X 35)).heap[w.heap.size]? = some (.cells X 35 (0, 0))) := heap_alloc_new w _
  have HB : Hid (Below w.heap.size w (w.alloc (.cells X 35))) := (Below.refl _ _).alloc (Nat.le_refl _) _
  have FF : Hid (∀ W, Calls Tryz.prog 125 #[.agg X] W fun e w' => ∃ v, e = .returned v ∧ w'.ownsRow W.heap.size 92 2 v (fieldsE x).length (fcells (fieldsE x)) ∧ Below W.heap.size W w') := fun W => refFields_any x ok hright W X HX
  have hsm := fieldsE_small ok hright
  have h0 := layE_entry hright ok
  obtain ⟨fs, hfs⟩ : ∃ f, f = fieldsE x := ⟨_, rfl⟩
  have hEB : entryB x = rowOf fs := by unfold entryB rowOf; rw [hfs, if_pos h0]
  rw [hEB]
  rw [← hfs] at FF hsm h0
  obtain ⟨len, hlen⟩ : ∃ n, Hid (n = fs.length) := ⟨_, hidk rfl⟩
  have LL : Hid (∀ W a cap, FReads W.heap.size W a len cap fs → Calls Tryz.prog 124 #[.slice a len cap] W fun e W' => ∃ v, e = .returned (.tuple #[v, .int .i64 0]) ∧ W'.ownsRow W.heap.size 5 1 v (rowOf fs).length (cellsOf (rowOf fs)) ∧ Below W.heap.size W W') := fun W a cap h => by
    have := refLay_any a len cap fs W h (by rw [hlen.out]; exact hsm.2)
    rwa [h0] at this
  have HSM := hidk hsm.1
  clear HX hEB hsm h0 hfs hright
  go_enter Tryz.func110, Tryz.ntmps110
  go_wp2_with (first
    | (show aD 6 _ _ _ _ _ _ _ _ _ _ _; refine wpList_load_row rfl 35 (.tmp 1) rfl w.heap.size rfl 35 X (0, 0) _ HR.out Tryz.underlying35 rfl HSX.out ?_; try simp only [Act.put, pS1, pS2, pS3])
    | fail)
  refine (FF.out _).mono ?_
  rintro e w1 ⟨v, rfl, hown, hb1⟩
  obtain ⟨a1, c1, rfl, hF1⟩ := freads_own hown HSM.out
  rw [← hlen.out] at hF1 ⊢
  have HF1 := hidk hF1
  have HB1 := hidk (HB.out.trans (hb1.mono HB.out.size))
  clear hown hb1 hF1 HB HR FF
  go_wp2_with fail
  refine (LL.out _ _ _ HF1.out).mono ?_
  rintro e w2 ⟨v2, rfl, hown2, hb2⟩
  have HO := hidk (own_lower hown2 HB1.out.size)
  have HB2 := hidk (HB1.out.trans (hb2.mono HB1.out.size))
  clear hown2 hb2 HF1 HB1 LL
  go_wp2_with fail
  go_ret
  exact ⟨_, rfl, HO.out, HB2.out⟩
theorem irow_new (w : World) (x : ItT) (X : Array Value) (HX : Hid (X = (icells x).toArray)) (t : TypeId) : (w.alloc (.cells X t)).cell? ⟨w.heap.size, 0, none⟩ = some (.int .i64 x.p) ∧ (w.alloc (.cells X t)).rangeAt w.heap.size 1 (ecells x.e) := by
  have each : ∀ j u, (icells x)[j]? = some u → (w.alloc (.cells X t)).cell? ⟨w.heap.size, j, none⟩ = some u := fun j u hj => by
    rw [cell_of_row _ _ j _ t (0, 0) (heap_alloc_new w _), HX.out]
    simpa using hj
  refine ⟨each 0 _ rfl, fun j v hj => each (1 + j) v ?_⟩
  unfold icells
  rw [List.getElem?_append_right (by simp)]
  simpa using hj
set_option maxHeartbeats 2000000 in
theorem refRightI_any (x : ItT) (ok : OkE x.e) (w : World) (X : Array Value) (HX : Hid (X = (icells x).toArray)) :
    Calls Tryz.prog 46 #[.agg X] w fun e w' => e = .returned (.bool (rightI x)) ∧ Below w.heap.size w w' := by
  have HB : Hid (Below w.heap.size w (w.alloc (.cells X 37))) := (Below.refl _ _).alloc (Nat.le_refl _) _
  obtain ⟨c0, hr⟩ := irow_new w x X HX 37
  obtain ⟨Q, HQ⟩ : ∃ Q : Array Value, Hid (Q = (ecells x.e).toArray) := ⟨_, hidk rfl⟩
  have HSQ : Hid ((Tryz.prog.info? 35).map (·.size) = some Q.size) := by show _ = _; rw [sizeE, HQ.out]; simp [ecells_length x.e ok]
  have HRQ : Hid ((w.alloc (.cells X 37)).rangeAt w.heap.size 1 Q.toList) := by show World.rangeAt _ _ _ _; rw [HQ.out]; simpa using hr
  obtain ⟨b1, hb1⟩ : ∃ b, (decide (1 ≤ x.p) && decide (x.p ≤ 900000000)) = b := ⟨_, rfl⟩
  obtain ⟨b2, hb2⟩ : ∃ b, rightE x.e = b := ⟨_, rfl⟩
  have W1 : Hid (∀ (W : World), Calls Tryz.prog 75 #[.int .i64 x.p, .int .i64 1, .int .i64 900000000] W fun e w' => e = .returned (.bool b1) ∧ w' = W) := fun W => by rw [← hb1]; exact within8_any x.p 1 900000000 W
  have R2 : Hid (∀ W, Calls Tryz.prog 76 #[.agg Q] W fun e w' => e = .returned (.bool b2) ∧ Below W.heap.size W w') := fun W => by rw [← hb2]; exact refRightE_any x.e ok W Q HQ
  have hE : rightI x = (b1 && b2) := by rw [← hb1, ← hb2]; rfl
  rw [hE]
  obtain ⟨p, hp⟩ : ∃ p, p = x.p := ⟨_, rfl⟩
  rw [← hp] at c0 W1
  clear hE hb1 hb2 hp HX HQ hr ok
  cases b1
  · go_enter Tryz.func46, Tryz.ntmps46
    go_wp2_with fail
    refine (W1.out _).mono ?_
    rintro e w1 ⟨rfl, rfl⟩
    go_wp2
    go_ret
    exact ⟨rfl, HB.out⟩
  · go_enter Tryz.func46, Tryz.ntmps46
    go_wp2_with fail
    refine (W1.out _).mono ?_
    rintro e w1 ⟨rfl, rfl⟩
    go_wp2_with (first
      | (show aD 8 _ _ _ _ _ _ _ _ _ _ _; refine wpList_mid_w (by rfl) 35 (.tmp 7) rfl w.heap.size 1 rfl Q _ HRQ.out Tryz.underlying35 rfl HSQ.out ?_; try simp only [Act.put, pS1, pS2, pS3])
      | fail)
    refine (R2.out _).mono ?_
    rintro e w1 ⟨rfl, hb1⟩
    have HB1 := hidk (HB.out.trans (hb1.mono HB.out.size))
    clear hb1
    go_wp2
    go_ret
    exact ⟨rfl, HB1.out⟩
structure InC (c : ClT) : Prop where
  d : c.d.length = 32
  r : In64 c.r
  e : In64 c.e
  n : In64 c.n
  s : In64 c.s
structure InE (x : EnT) : Prop where
  k : In64 x.k
  c : In64 x.c
  s : In64 x.s
  t : x.t.size ≤ 100000
  h : InS x.h
  m : InC x.m
theorem InE.ok {x : EnT} (h : InE x) : OkE x := ⟨h.h.h.d, h.h.g, h.m.d⟩
structure InI (x : ItT) : Prop where
  p : In64 x.p
  e : InE x.e
def cB (c : ClT) : List UInt8 := if rightC c = true then claimB c else []
def cE (c : ClT) : Int := if rightC c = true then 0 else 60
def eB (x : EnT) : List UInt8 := if rightE x = true then entryB x else []
def eE (x : EnT) : Int := if rightE x = true then 0 else 60
def iB (x : ItT) : List UInt8 := if rightI x = true then itemB x else []
def iE (x : ItT) : Int := if rightI x = true then 0 else 60
def leafO (x : ItT) : List UInt8 := if rightI x = true then leafI x else List.replicate 32 0
structure EntryC : Prop where
  checkC : ∀ (c : ClT) (hc : InC c) (w : World) (C : Array Value) (HC : Hid (C = (ccells c).toArray)),
    Calls Tryz.prog 137 #[.agg C] w fun e w' => e = .returned (.int .i64 (cE c)) ∧ Below w.heap.size w w'
  putC : ∀ (c : ClT) (hc : InC c) (w : World) (C : Array Value) (HC : Hid (C = (ccells c).toArray)),
    Calls Tryz.prog 131 #[.agg C] w fun e w' => BytesE (cB c) (cE c) e w' ∧ Below w.heap.size w w'
  check : ∀ (x : EnT) (hx : InE x) (w : World) (X : Array Value) (HX : Hid (X = (ecells x).toArray)),
    Calls Tryz.prog 114 #[.agg X] w fun e w' => e = .returned (.int .i64 (eE x)) ∧ Below w.heap.size w w'
  put : ∀ (x : EnT) (hx : InE x) (w : World) (X : Array Value) (HX : Hid (X = (ecells x).toArray)),
    Calls Tryz.prog 96 #[.agg X] w fun e w' => BytesE (eB x) (eE x) e w' ∧ Below w.heap.size w w'
  putI : ∀ (x : ItT) (hx : InI x) (w : World) (X : Array Value) (HX : Hid (X = (icells x).toArray)),
    Calls Tryz.prog 69 #[.agg X] w fun e w' => BytesE (iB x) (iE x) e w' ∧ Below w.heap.size w w'
  leaf : ∀ (x : ItT) (hx : InI x) (w : World) (X D : Array Value) (HX : Hid (X = (icells x).toArray)) (hT : TabH w) (HD : Hid (D = (cellsOf (leafO x)).toArray)),
    Calls Tryz.prog 43 #[.agg X] w fun e w' => e = .returned (.tuple #[.agg D, .int .i64 (iE x)]) ∧ Below w.heap.size w w'
theorem zeroC_in : InC zeroC := ⟨rfl, by unfold In64; decide, by unfold In64; decide, by unfold In64; decide, by unfold In64; decide⟩
theorem zeroE_in : InE zeroE := ⟨by unfold In64; decide, by unfold In64; decide, by unfold In64; decide, by show 0 ≤ 100000; omega, zeroS_in, zeroC_in⟩
theorem eB_length (x : EnT) (ok : OkE x) : (eB x).length ≤ 240 := by
  unfold eB
  split
  · rename_i h; exact entryB_length h ok
  · exact Nat.zero_le _
theorem eE_two (x : EnT) : eE x = 0 ∧ rightE x = true ∨ eE x = 60 ∧ rightE x = false := by
  unfold eE
  cases rightE x
  · exact .inr ⟨rfl, rfl⟩
  · exact .inl ⟨rfl, rfl⟩
theorem iE_two (x : ItT) : iE x = 0 ∧ rightI x = true ∨ iE x = 60 ∧ rightI x = false := by
  unfold iE
  cases rightI x
  · exact .inr ⟨rfl, rfl⟩
  · exact .inl ⟨rfl, rfl⟩
structure IRow (W : World) (g : Nat) (p : Int) (Q : Array Value) : Prop where
  p : W.cell? ⟨g, 0, none⟩ = some (.int .i64 p)
  e : W.rangeAt g 1 Q.toList
theorem IRow.keep {W W' : World} {g : Nat} {p : Int} {Q : Array Value} (r : IRow W g p Q) (hb : Below W.heap.size W W') : IRow W' g p Q :=
  ⟨(hb.cell (World.block_lt_of_cell? _ _ r.p)).trans r.p, range_keep hb r.e⟩
set_option maxHeartbeats 4000000 in
theorem refIB_any (x : ItT) (ok : OkE x.e) (hright : rightI x = true) (w : World) (X : Array Value) (HX : Hid (X = (icells x).toArray)) :
    Calls Tryz.prog 79 #[.agg X] w fun e w' => ∃ v, e = .returned v ∧ w'.ownsRow w.heap.size 5 1 v (itemB x).length (cellsOf (itemB x)) ∧ Below w.heap.size w w' := by
  have hre := ((rightI_iff x).1 hright).2.2
  obtain ⟨Q, HQ⟩ : ∃ Q : Array Value, Hid (Q = (ecells x.e).toArray) := ⟨_, hidk rfl⟩
  have HSQ : Hid ((Tryz.prog.info? 35).map (·.size) = some Q.size) := by show _ = _; rw [sizeE, HQ.out]; simp [ecells_length x.e ok]
  obtain ⟨p, Hp⟩ : ∃ p, Hid (p = x.p) := ⟨_, hidk rfl⟩
  have HR : Hid (IRow (w.alloc (.cells X 37)) w.heap.size p Q) := by
    obtain ⟨c0, hr⟩ := irow_new w x X HX 37
    exact ⟨by rw [Hp.out]; exact c0, by rw [HQ.out]; simpa using hr⟩
  obtain ⟨n1, Hn1⟩ : ∃ n : ByteArray, Hid (n = nOf p) := ⟨_, hidk rfl⟩
  obtain ⟨L, HL⟩ : ∃ l, Hid (l = entryB x.e) := ⟨_, hidk rfl⟩
  obtain ⟨n2, Hn2⟩ : ∃ n : ByteArray, Hid (n = ⟨L.toArray⟩) := ⟨_, hidk rfl⟩
  have N1 : Hid (∀ W, Calls Tryz.prog 109 #[.int .i64 p] W fun e w' => e = .returned (.string n1) ∧ Below W.heap.size W w') := fun W => by rw [Hn1.out]; exact refNum_any p W
  have B1 : Hid (∀ W, Calls Tryz.prog 110 #[.agg Q] W fun e w' => ∃ v, e = .returned v ∧ w'.ownsRow W.heap.size 5 1 v L.length (cellsOf L) ∧ Below W.heap.size W w') := fun W => by rw [HL.out]; exact refEB_any x.e ok hre W Q HQ
  have hL2 : iL x = [n1, n2] := by rw [Hn1.out, Hn2.out, HL.out, Hp.out]; rfl
  have RW : Hid (∀ W, Calls Tryz.prog 108 #[.slice (some ⟨W.heap.size, 0, none⟩) 2 2] (W.alloc (.cells #[.string n1, .string n2] 9)) fun e w' => ∃ v, e = .returned v ∧ w'.ownsRow W.heap.size 5 1 v (itemB x).length (cellsOf (itemB x)) ∧ Below W.heap.size W w') := fun W => by
    have h1 : ∀ y ∈ [n1, n2], y.size ≤ 65536 := fun y hy => by
      rw [← hL2] at hy
      unfold iL at hy
      simp only [List.mem_cons, List.not_mem_nil, or_false] at hy
      rcases hy with rfl | rfl
      · exact Nat.le_trans (nOf_size _) (by omega)
      · rw [bA_size]; have := entryB_length hre ok; omega
    refine (refRow_any (some ⟨W.heap.size, 0, none⟩) 2 2 [n1, n2] (W.alloc (.cells #[.string n1, .string n2] 9)) (texts_new W [n1, n2] 9) (by omega) h1).mono ?_
    rintro e w' ⟨v, he, ho, hb⟩
    rw [← hL2] at ho
    exact ⟨v, he, own_lower ho (by simp), ((Below.refl _ _).alloc (Nat.le_refl _) _).trans (hb.mono (by simp))⟩
  have HB : Hid (Below w.heap.size w (w.alloc (.cells X 37))) := (Below.refl _ _).alloc (Nat.le_refl _) _
  obtain ⟨res, HRES⟩ : ∃ r, Hid (r = itemB x) := ⟨_, hidk rfl⟩
  rw [← HRES.out] at RW ⊢
  clear HX HQ Hp Hn1 HL hL2 HRES hright hre ok
  go_enter Tryz.func79, Tryz.ntmps79
  go_wp2
  have HBc : Hid (Below w.heap.size w (w.alloc (.cells X 37)).drew) := HB.out.drew
  clear HB
  refine wp_region_held_drew (S := (fun W => IRow W w.heap.size p Q)) (by kernel_rfl) (HR.out.keep (Below.refl _ _).drew) (fun hHeld => ?_)
  refine zX 0 (.pointer (some ⟨w.heap.size, 0, none⟩)) rfl hHeld ?_
  try simp only [Act.put, pS1, pS2, pS3]
  refine zW 1 (.int .i64 p) rfl (Or.inl ⟨by rfl, by intro W hSw; have h1 := hSw.p; go_simp⟩) hHeld ?_
  try simp only [Act.put, pS1, pS2, pS3]
  refine zX 3 (.pointer (some ⟨w.heap.size, 1, none⟩)) rfl hHeld ?_
  try simp only [Act.put, pS1, pS2, pS3]
  refine zW 4 (.agg Q) rfl (yieldsIf_mid (by rfl) 35 (.tmp 6) rfl w.heap.size 1 rfl Q _ (fun _ h => h.e) Tryz.underlying35 rfl HSQ.out) hHeld ?_
  try simp only [Act.put, pS1, pS2, pS3]
  refine wpAnyH_ready (rs := [2]) (by kernel_rfl) (by simp) ?_
  refine (AllReadyH.cons (o := { dst := some 5, op := .call { callee := .value (.func 109), args := #[.tmp 4], argTypes := #[3] }, type := 9, pos := "ref.go:129", after := #[zD 1], guard := none }) rfl (fun K hK => ?_) AllReadyH.nil)
  go_simp
  refine (N1.out _).mono ?_
  rintro e w2 ⟨rfl, hb1⟩
  replace HBc := hidk (HBc.out.trans (hb1.mono HBc.out.size))
  go_wp2_with fail
  refine hK.out _ _ (hHeld.keep hb1) (fun hHeld => ?_)
  clear hK K
  try simp only [Act.put, pS1, pS2, pS3]
  refine wpAnyH_ready (rs := [5]) (by kernel_rfl) (by simp) ?_
  refine (AllReadyH.cons (o := { dst := some 8, op := .call { callee := .value (.func 110), args := #[.tmp 7], argTypes := #[35] }, type := 69, pos := "ref.go:129", after := #[zD 4, zC 2], guard := none }) rfl (fun K hK => ?_) AllReadyH.nil)
  go_simp
  refine (B1.out _).mono ?_
  rintro e w5 ⟨v5, rfl, ho5, hb2⟩
  obtain ⟨a5, c5, rfl, hr5⟩ := reads_own ho5
  have HV := hidk hr5
  replace HBc := hidk (HBc.out.trans (hb2.mono HBc.out.size))
  go_wp2_with fail
  refine hK.out _ _ (hHeld.keep hb2) (fun hHeld => ?_)
  clear hK K
  try simp only [Act.put, pS1, pS2, pS3]
  refine wpAnyH_ready (rs := [6]) (by kernel_rfl) (by simp) ?_
  refine (AllReadyH.cons (o := { dst := some 9, op := .convert 69 9 (.tmp 8), type := 9, pos := "ref.go:129", after := #[zD 5], guard := none }) rfl (fun K hK => ?_) AllReadyH.nil)
  have hcv := conv_reads HV.out
  rw [← Hn2.out] at hcv
  go_simp
  clear hcv
  refine hK.out _ _ hHeld (fun hHeld => ?_)
  clear hK K
  try simp only [Act.put, pS1, pS2, pS3]
  refine wpAnyH_ready (rs := [7]) (by kernel_rfl) (by simp) ?_
  refine (AllReadyH.cons (o := { dst := some 10, op := .buildSlice 153 2 #[(0, .tmp 5), (1, .tmp 9)], type := 153, pos := "ref.go:129", after := #[zD 2, zD 6], guard := none }) rfl (fun K hK => ?_) AllReadyH.nil)
  have HR14 := hidk hHeld
  go_simp
  refine hK.out _ _ (hHeld.keep ((Below.refl _ _).alloc (Nat.le_refl _) _)) (fun hHeld => ?_)
  clear hK K
  try simp only [Act.put, pS1, pS2, pS3]
  refine wpAnyH_ready (rs := [8]) (by kernel_rfl) (by simp) ?_
  refine (AllReadyH.cons (o := { dst := some 11, op := .call { callee := .value (.func 108), args := #[.tmp 10], argTypes := #[153] }, type := 69, pos := "ref.go:129", after := #[zD 7, zC 5], guard := none }) rfl (fun K hK => ?_) AllReadyH.nil)
  go_simp
  refine (RW.out _).mono ?_
  rintro e w8 ⟨v, rfl, hown, hb6⟩
  have HOWN := hidk (own_lower hown HBc.out.size)
  replace HBc := hidk (HBc.out.trans (hb6.mono HBc.out.size))
  go_wp2_with fail
  refine hK.out _ _ (HR14.out.keep hb6) (fun hHeld => ?_)
  clear hK K
  try simp only [Act.put, pS1, pS2, pS3]
  refine zX 9 (v) rfl hHeld ?_
  try simp only [Act.put, pS1, pS2, pS3]
  refine wpAnyH_done (by kernel_rfl) ?_ _
  go_wp2
  go_ret
  exact ⟨_, rfl, HOWN.out, HBc.out⟩
set_option maxHeartbeats 4000000 in
theorem refLeafI_any (x : ItT) (ok : OkE x.e) (hright : rightI x = true) (w : World) (X D : Array Value) (HX : Hid (X = (icells x).toArray)) (hK : Table 0 w) (HD : Hid (D = (cellsOf (leafI x)).toArray)) :
    Calls Tryz.prog 48 #[.agg X] w fun e w' => e = .returned (.agg D) ∧ Below w.heap.size w w' := by
  have h32 : (leafI x).length = 32 := sumD_length _
  have HSD : Hid ((Tryz.prog.info? 24).map (·.size) = some D.size) := by show _ = _; rw [size23, HD.out]; simp [cellsOf_length, h32]
  have H1D : Hid (D.all (·.oneCell') = true) := by show _ = _; rw [HD.out]; exact cellsOf_all _
  obtain ⟨Z, HZ, HA, HS, H1, H32⟩ := noughts27
  have HZD : Hid (Z.size = D.size) := by show _ = _; rw [H32.out, HD.out]; simp [cellsOf_length, h32]
  have HSX : Hid ((Tryz.prog.info? 37).map (·.size) = some X.size) := by show _ = _; rw [sizeI, HX.out]; simp [icells_length x ok]
  obtain ⟨L, HL⟩ : ∃ l, Hid (l = itemB x) := ⟨_, hidk rfl⟩
  obtain ⟨n, Hn⟩ : ∃ n : ByteArray, Hid (n = ⟨L.toArray⟩) := ⟨_, hidk rfl⟩
  have hln : L.length ≤ 256 := by rw [HL.out]; exact itemB_length hright ok
  have B1 : Hid (∀ W, Calls Tryz.prog 79 #[.agg X] W fun e w' => ∃ v, e = .returned v ∧ w'.ownsRow W.heap.size 5 1 v L.length (cellsOf L) ∧ Below W.heap.size W w') := fun W => by rw [HL.out]; exact refIB_any x ok hright W X HX
  have L1 : Hid (∀ W, Below w.heap.size w W → Calls Tryz.prog 78 #[.string n] W fun e w' => e = .returned (.agg D) ∧ Below W.heap.size W w') := fun W hb => refLeaf_any n W (by rw [Hn.out]; show L.toArray.size ≤ 999000; simp; omega) (hK.keep hb) D (by show _ = _; rw [HD.out, Hn.out]; unfold leafI; rw [← HL.out])
  have CV : Hid (∀ W a cap, Reads W a L.length cap L → (convert 69 9 (.slice a L.length cap)).run Tryz.prog W = .ok (.string n) W) := fun W a cap h => by rw [Hn.out]; exact conv_reads h
  clear HX HD HZ HL Hn hK h32 hright ok
  go_enter Tryz.func48, Tryz.ntmps48
  go_wp2_with (first
    | (show aD 2 _ _ _ _ _ _ _ _ _ _ _; refine wpList_new_var rfl 24 rfl Z HA.out ?_; intro g2 w1 HM2; have HB1 : Hid (Below w.heap.size w w1) := ((Below.refl _ _).alloc (Nat.le_refl _) _).trans (HM2.out.below.mono (by simp)); have HR1 := hidk ((HM2.out.below.block _ (by simp)).trans (heap_alloc_new w (.cells X 37))); try simp only [Act.put, pS1, pS2, pS3])
    | (show aD 3 _ _ _ _ _ _ _ _ _ _ _; refine wpList_load_row rfl 37 (.tmp 1) rfl w.heap.size rfl 37 X (0, 0) _ HR1.out Tryz.underlying37 rfl HSX.out ?_; try simp only [Act.put, pS1, pS2, pS3])
    | fail)
  have h2 : w.heap.size ≤ g2 := by have e := HM2.out.new; simp at e; omega
  have HG1 := hidk HM2.out.row
  clear HM2
  refine (B1.out _).mono ?_
  rintro e w2 ⟨v, rfl, hown, hb2⟩
  obtain ⟨a2, c2, rfl, hr2⟩ := reads_own hown
  have hcv := CV.out w2 a2 c2 hr2
  have HB2 := hidk (HB1.out.trans (hb2.mono HB1.out.size))
  have HG2 := hidk ((hb2.block _ (heap_lt HG1.out)).trans HG1.out)
  clear hown hr2 hb2 HB1 HR1 HG1 B1 CV
  go_wp2_with fail
  refine (L1.out _ HB2.out).mono ?_
  rintro e w3 ⟨rfl, hb3⟩
  have HB3 := hidk (HB2.out.trans (hb3.mono HB2.out.size))
  have HG3 := hidk ((hb3.block _ (heap_lt HG2.out)).trans HG2.out)
  clear hb3 HB2 HG2 L1 hcv
  go_wp2_with (first
    | (refine wpList_set_var rfl 24 (.tmp 2) (.tmp 6) rfl g2 D rfl rfl 24 Z HG3.out HSD.out HZD.out H1D.out ?_; intro w4 HW2; try simp only [Act.put, pS1, pS2, pS3])
    | fail)
  refine bodyPost_ret (v := .agg D) ?_ rfl ⟨rfl, HW2.out.below w.heap.size w HB3.out h2⟩
  exact results_cell_row (p := 2) (ty := 24) rfl _ _ g2 24 D (0, 0) _ rfl HW2.out.row Tryz.underlying24 rfl HSD.out
theorem infoE : (Tryz.prog.info? 35).map (fun i => (i.zero, i.size)) = some (some (.agg (ecells zeroE).toArray), 109) := by kernel_rfl
theorem builtE0 : Tryz.prog.built 35 [] = some (ecells zeroE).toArray := by kernel_rfl
theorem one_cellsE (x : EnT) : (ecells x).toArray.all (·.oneCell') = true := by
  rw [List.all_toArray, List.all_eq_true]
  intro v hv
  unfold ecells at hv
  simp only [List.mem_append, List.mem_cons, List.not_mem_nil, or_false] at hv
  rcases hv with ((rfl | rfl | rfl | rfl) | hv) | hv
  · rfl
  · rfl
  · rfl
  · rfl
  · have := one_cellsS x.h
    rw [List.all_toArray, List.all_eq_true] at this
    exact this v hv
  · have := one_cellsC x.m
    rw [List.all_toArray, List.all_eq_true] at this
    exact this v hv
theorem wpList_build_some {P : Program} {ops : Array Oper} {rest : List Oper} {o : Oper} {a : Act} {w : World} {Q : Exit → Act → World → Prop} (hg : o.guard = none) (t : TypeId) (parts : Array (Nat × Operand)) (ho : o.op = .build t parts) (vals : List (Nat × Value)) (hv : (parts.toList.map fun p => (p.1, a.eval p.2)) = vals)
    (cs : Array Value) (hb : P.built t vals = some cs) (h : wpList P ops Q rest (a.put o.dst (.agg cs)) w) : wpList P ops Q (o :: rest) a w := by
  refine wpList_build_row hg t parts ho cs ?_ h
  rw [← hb, ← hv, Array.toList_map]
theorem infoI : (Tryz.prog.info? 37).map (fun i => (i.zero, i.size)) = some (some (.agg (icells zeroI).toArray), 110) := by kernel_rfl
theorem builtI0 : Tryz.prog.built 37 [] = some (icells zeroI).toArray := by kernel_rfl
theorem one_cellsI (x : ItT) : (icells x).toArray.all (·.oneCell') = true := by
  have := one_cellsE x.e
  rw [List.all_toArray, List.all_eq_true] at this ⊢
  intro v hv
  unfold icells at hv
  simp only [List.mem_append, List.mem_cons, List.not_mem_nil, or_false] at hv
  rcases hv with rfl | hv
  · rfl
  · exact this v hv
theorem entry_row (x : EnT) (ok : OkE x) : ∃ C : Array Value, Hid (C = (ecells x).toArray) ∧ Hid ((Tryz.prog.info? 35).map (·.size) = some C.size) ∧ Hid (C.all (·.oneCell') = true) ∧ Hid (C.size = 109) := by
  refine ⟨(ecells x).toArray, hidk rfl, ?_, one_cellsE x, ?_⟩
  · show _ = _
    rw [sizeE]; simp [ecells_length x ok]
  · show _ = _
    simp [ecells_length x ok]
theorem item_row (x : ItT) (ok : OkE x.e) : ∃ C : Array Value, Hid (C = (icells x).toArray) ∧ Hid ((Tryz.prog.info? 37).map (·.size) = some C.size) ∧ Hid (C.all (·.oneCell') = true) ∧ Hid (C.size = 110) := by
  refine ⟨(icells x).toArray, hidk rfl, ?_, one_cellsI x, ?_⟩
  · show _ = _
    rw [sizeI]; simp [icells_length x ok]
  · show _ = _
    simp [icells_length x ok]
theorem noughtsE : ∃ Z : Array Value, Hid (Z = (ecells zeroE).toArray) ∧ Hid ((Tryz.prog.info? 35).map (fun i => (i.zero, i.size)) = some (some (.agg Z), Z.size)) ∧ Hid (Tryz.prog.built 35 [] = some Z) ∧ Hid (Z.size = 109) :=
  ⟨(ecells zeroE).toArray, hidk rfl, infoE, builtE0, hidk rfl⟩
theorem noughtsI : ∃ Z : Array Value, Hid (Z = (icells zeroI).toArray) ∧ Hid ((Tryz.prog.info? 37).map (fun i => (i.zero, i.size)) = some (some (.agg Z), Z.size)) ∧ Hid (Tryz.prog.built 37 [] = some Z) ∧ Hid (Z.size = 110) :=
  ⟨(icells zeroI).toArray, hidk rfl, infoI, builtI0, hidk rfl⟩
structure IReads (w : World) (a : Option Addr) (len cap : Nat) (l : List ItT) : Prop where
  ln : l.length = len
  cp : len ≤ cap
  mx : len ≤ maxLen
  ok : ∀ x ∈ l, OkE x.e
  lies : len = 0 ∨ ∃ g o, a = some ⟨g, o, none⟩ ∧ ∀ (i : Nat) (h : i < l.length), w.rangeAt g (o + 110 * i) (icells l[i])
theorem range_lt {w : World} {g o : Nat} {l : List Value} (h : w.rangeAt g o l) (hl : 0 < l.length) : g < w.heap.size := by
  have := h 0 l[0] (List.getElem?_eq_getElem hl)
  exact World.block_lt_of_cell? _ _ this
theorem range_below {B : Nat} {w w' : World} {g o : Nat} {l : List Value} (h : w.rangeAt g o l) (hb : Below B w w') (hg : g < B) : w'.rangeAt g o l := fun j v hj => by
  rw [hb.cell hg]; exact h j v hj
theorem IReads.at {w : World} {a : Option Addr} {len cap : Nat} {l : List ItT} (h : IReads w a len cap l) (h0 : 0 < len) : ∃ g o, a = some ⟨g, o, none⟩ ∧ g < w.heap.size := by
  rcases h.lies with h5 | ⟨g, o, ha, hl⟩
  · omega
  · have h1 := h.ln
    refine ⟨g, o, ha, range_lt (hl 0 (by omega)) ?_⟩
    rw [icells_length _ (h.ok _ (List.getElem_mem (by omega)))]
    omega
theorem IReads.below {w w' : World} {a : Option Addr} {len cap B : Nat} {l : List ItT} (h : IReads w a len cap l) (hb : Below B w w') (hB : ∀ g o, a = some ⟨g, o, none⟩ → 0 < len → g < B) : IReads w' a len cap l := by
  refine ⟨h.ln, h.cp, h.mx, h.ok, ?_⟩
  by_cases h0 : len = 0
  · exact .inl h0
  · rcases h.lies with h5 | ⟨g, o, ha, hl⟩
    · exact .inl h5
    · exact .inr ⟨g, o, ha, fun i hi => range_below (hl i hi) hb (hB g o ha (by omega))⟩
theorem IReads.keep {w w' : World} {a : Option Addr} {len cap : Nat} {l : List ItT} (h : IReads w a len cap l) (hb : Below w.heap.size w w') : IReads w' a len cap l := by
  refine h.below hb fun g o ha h0 => ?_
  obtain ⟨g', o', ha', hl⟩ := h.at h0
  rw [ha] at ha'
  cases ha'
  exact hl
theorem IReads.range {w : World} {g o len cap : Nat} {l : List ItT} (h : IReads w (some ⟨g, o, none⟩) len cap l) (i : Nat) (hi : i < l.length) : w.rangeAt g (o + 110 * i) (icells l[i]) := by
  have h1 := h.ln
  rcases h.lies with h5 | ⟨g', o', ha, hl⟩
  · omega
  · cases ha
    exact hl i hi
theorem IReads.cell {w : World} {g o len cap : Nat} {l : List ItT} (h : IReads w (some ⟨g, o, none⟩) len cap l) (i : Nat) (hi : i < l.length) (j : Nat) (v : Value) (hj : (icells l[i])[j]? = some v) : w.cell? ⟨g, o + 110 * i + j, none⟩ = some v := h.range i hi j v hj
theorem IReads.take {w : World} {a : Option Addr} {len cap : Nat} {l : List ItT} (h : IReads w a len cap l) (k : Nat) (hk : k ≤ len) : IReads w a k cap (l.take k) := by
  have h1 := h.ln
  have h2 := h.cp
  have h3 := h.mx
  refine ⟨by rw [List.length_take]; omega, by omega, by omega, fun x hx => h.ok x (List.mem_of_mem_take hx), ?_⟩
  rcases h.lies with h5 | ⟨g, o, ha, hl⟩
  · exact .inl (by omega)
  · refine .inr ⟨g, o, ha, fun i hi => ?_⟩
    rw [List.length_take] at hi
    rw [List.getElem_take]
    exact hl i (by omega)
theorem ireads_none (w : World) : IReads w none 0 0 [] := ⟨rfl, Nat.le_refl _, Nat.zero_le _, (fun x hx => by cases hx), .inl rfl⟩
theorem icells_p (x : ItT) : (icells x)[0]? = some (.int .i64 x.p) := rfl
theorem range_entry {w : World} {g o : Nat} {x : ItT} (h : w.rangeAt g o (icells x)) : w.rangeAt g (o + 1) (ecells x.e) := fun j v hj => by
  have := h (j + 1) v (by show ([Value.int .i64 x.p] ++ ecells x.e)[j + 1]? = _; simpa using hj)
  rw [← this]
  congr 2
  omega
theorem sizeOfI (w : World) : (sizeOf 37).run Tryz.prog w = .ok 110 w := by
  have hz : (Tryz.prog.info? 37).map (·.size) = some 110 := by kernel_rfl
  cases hq : Tryz.prog.info? 37 with
  | none => simp [hq] at hz
  | some i => simp [hq] at hz; simp [sizeOf, typeInfo, hq, hz]
theorem index_item (W : World) (g o len cap i : Nat) (k : IntKind) (hi : i < len) : (Instr.indexAt 22 (.slice (some ⟨g, o, none⟩) len cap) (.int k i)).run Tryz.prog W = .ok (.pointer (some ⟨g, o + 110 * i, none⟩)) W := by
  simp [Instr.indexAt, asIntOf, run_underlying Tryz.underlying22, sizeOfI, hi]
  rw [add_plain, Nat.mul_comm]
def icL (l : List ItT) : List Value := l.flatMap icells
theorem icL_nil : icL [] = [] := rfl
theorem icL_cons (x : ItT) (l : List ItT) : icL (x :: l) = icells x ++ icL l := by unfold icL; rw [List.flatMap_cons]
theorem icL_append (l r : List ItT) : icL (l ++ r) = icL l ++ icL r := by unfold icL; rw [List.flatMap_append]
theorem icL_length : ∀ (l : List ItT), (∀ x ∈ l, OkE x.e) → (icL l).length = l.length * 110
  | [], _ => rfl
  | x :: l, h => by
    rw [icL_cons, List.length_append, icells_length _ (h x (by simp)), icL_length l fun y hy => h y (by simp [hy]), List.length_cons]
    omega
theorem icL_at : ∀ (l : List ItT), (∀ x ∈ l, OkE x.e) → ∀ (i : Nat) (hi : i < l.length) (j : Nat) (v : Value), (icells l[i])[j]? = some v → (icL l)[110 * i + j]? = some v
  | [], _, i, hi, _, _, _ => by cases hi
  | x :: l, h, i, hi, j, v, hj => by
    have hx := icells_length _ (h x (by simp))
    rw [icL_cons]
    cases i with
    | zero =>
      have hj' : (icells x)[j]? = some v := hj
      have : j < (icells x).length := (List.getElem?_eq_some_iff.1 hj').1
      rw [List.getElem?_append_left (by omega)]
      simpa using hj'
    | succ i =>
      rw [List.getElem?_append_right (by omega), hx]
      have := icL_at l (fun y hy => h y (by simp [hy])) i (by simpa using hi) j v (by simpa using hj)
      rw [← this]
      congr 1
      omega
theorem icL_back : ∀ (l : List ItT), (∀ x ∈ l, OkE x.e) → ∀ (j : Nat) (v : Value), (icL l)[j]? = some v → ∃ i, ∃ hi : i < l.length, ∃ k, j = 110 * i + k ∧ (icells l[i])[k]? = some v
  | [], _, j, v, hj => by simp [icL_nil] at hj
  | x :: l, h, j, v, hj => by
    have hx := icells_length _ (h x (by simp))
    rw [icL_cons] at hj
    by_cases hlt : j < 110
    · rw [List.getElem?_append_left (by omega)] at hj
      exact ⟨0, by simp, j, by omega, hj⟩
    · rw [List.getElem?_append_right (by omega), hx] at hj
      obtain ⟨i, hi, k, e, hk⟩ := icL_back l (fun y hy => h y (by simp [hy])) _ v hj
      exact ⟨i + 1, by simpa using hi, k, by omega, by simpa using hk⟩
theorem icells_one (x : ItT) : ∀ v ∈ icells x, v.oneCell' = true := by
  intro v hv
  have h := one_cellsI x
  rw [List.all_toArray, List.all_eq_true] at h
  exact h v hv
theorem icL_one (l : List ItT) : ∀ v ∈ icL l, v.oneCell' = true := by
  intro v hv
  obtain ⟨x, _, hv⟩ := List.mem_flatMap.1 hv
  exact icells_one x v hv
theorem IReads.puts {w : World} {ad : Addr} {len cap : Nat} {l : List ItT} (h : IReads w (some ad) len cap l) : ∀ j u, (icL l)[j]? = some u → w.cell? (ad.add j) = some u := fun j u hj => by
  obtain ⟨i, hi, k, rfl, hk⟩ := icL_back l h.ok j u hj
  have h1 := h.ln
  rcases h.lies with h5 | ⟨g, o, ha, hl⟩
  · omega
  · cases ha
    rw [add_plain, ← Nat.add_assoc]
    exact hl i hi k u hk
theorem infoIt : (Tryz.prog.info? 37).map (fun i => (i.zero, i.size, i.bytes)) = some (some (.agg (icells ⟨0, zeroE⟩).toArray), 110, 216) := by kernel_rfl
theorem run_append_items {w : World} {a : Option Addr} {len cap : Nat} {l : List ItT} (h : IReads w a len cap l) (hc0 : a = none → cap = 0) (B n : Nat) (v : Value) (xs : List ItT)
    (hown : w.ownsRow B 37 110 v n (icL xs)) (hB : B ≤ w.heap.size) (hb : n + len ≤ 1000000) :
    ∃ v' w', (Builtin.append_ #[22, 22] 22 #[v, .slice a len cap]).run Tryz.prog w = .ok v' w' ∧
      w'.ownsRow B 37 110 v' (n + len) (icL (xs ++ l)) ∧ w.grownBy w' v.ownBlock := by
  obtain ⟨i0, hi, hz0, hz1, hz2⟩ := info_parts infoIt
  have h1 := h.ln
  cases a with
  | none =>
    obtain rfl : cap = 0 := hc0 rfl
    have hl0 : len = 0 := by have := h.cp; omega
    subst hl0
    obtain rfl : l = [] := List.eq_nil_of_length_eq_zero h1
    refine ⟨v, w, run_append_owned_none (P := Tryz.prog) w B 22 22 37 i0 110 Tryz.underlying22 hi _ n _ hown, ?_, World.grownBy.refl _ _⟩
    simpa using hown
  | some ad =>
    obtain ⟨v', w', hr, ho, hg, _⟩ := run_append_own (P := Tryz.prog) w B 22 22 37 i0 _ 110 216 Tryz.underlying22 hi hz0 hz1 hz2 (by rfl) (by decide) v n _ hown ad len cap (icL l) (by rw [icL_length l h.ok, h1]) h.puts (icL_one l) (by unfold maxLen; omega) (by omega) hB
    refine ⟨v', w', hr, ?_, hg⟩
    rw [icL_append]
    exact ho
theorem IReads.own {w : World} {B n : Nat} {v : Value} {l : List ItT} (h : w.ownsRow B 37 110 v n (icL l)) (hok : ∀ x ∈ l, OkE x.e) : ∃ a cap, v = .slice a n cap ∧ IReads w a n cap l ∧ (a = none → cap = 0) ∧ (∀ g o, a = some ⟨g, o, none⟩ → B ≤ g ∧ v.ownBlock = some g) := by
  have hl : l.length = n := by have := h.1; rw [icL_length l hok] at this; omega
  rcases h.2 with ⟨rfl, h0⟩ | ⟨g, cap, cur, rfl, hb, hg, hc, hm, hs, ht⟩
  · subst h0
    exact ⟨none, 0, rfl, ⟨hl, Nat.le_refl _, Nat.zero_le _, hok, .inl rfl⟩, fun _ => rfl, fun g o e => by cases e⟩
  · refine ⟨some ⟨g, 0, none⟩, cap, rfl, ⟨hl, hc, by omega, hok, .inr ⟨g, 0, rfl, fun i hi j v hj => ?_⟩⟩, (fun e => by cases e), fun g' o' e => by cases e; exact ⟨hb, rfl⟩⟩
    have := h.cells (g := g) rfl _ _ (icL_at l hok i hi j v hj)
    rw [add_plain] at this
    rw [Nat.zero_add]
    simpa using this
def bigL (l : List ItT) : Bool := decide (60 < l.length) || l.any fun x => decide (1000 < x.e.t.size)
theorem bigL_yes {l : List ItT} (i : Nat) (hi : i < l.length) (h : 1000 < l[i].e.t.size) : bigL l = true := by
  unfold bigL
  rw [Bool.or_eq_true, List.any_eq_true]
  exact .inr ⟨l[i], List.getElem_mem hi, by simpa using h⟩
theorem bigL_no {l : List ItT} (hl : l.length ≤ 60) (h : ∀ x ∈ l, x.e.t.size ≤ 1000) : bigL l = false := by
  unfold bigL
  rw [Bool.or_eq_false_iff, List.any_eq_false]
  exact ⟨decide_eq_false (by omega), fun x hx => by have := h x hx; simp; omega⟩
theorem bigL_false {l : List ItT} (h : bigL l = false) : l.length ≤ 60 ∧ ∀ x ∈ l, x.e.t.size ≤ 1000 := by
  unfold bigL at h
  rw [Bool.or_eq_false_iff, List.any_eq_false] at h
  refine ⟨by have := h.1; simp at this; omega, fun x hx => by have := h.2 x hx; simp at this; omega⟩
theorem take_mem_succ {α : Type} {l : List α} {k : Nat} (hk : k < l.length) {P : α → Prop} (h : ∀ x ∈ l.take k, P x) (h1 : P l[k]) : ∀ x ∈ l.take (k + 1), P x := by
  intro x hx
  rw [List.take_succ_eq_append_getElem hk] at hx
  rcases List.mem_append.1 hx with hx | hx
  · exact h x hx
  · obtain rfl : x = l[k] := by simpa using hx
    exact h1
set_option maxHeartbeats 2000000 in
theorem refBig_any (a : Option Addr) (len cap : Nat) (l : List ItT) (w : World) (h : IReads w a len cap l) (ht : ∀ x ∈ l, x.e.t.size ≤ maxLen) :
    Calls Tryz.prog 5 #[.slice a len cap] w fun e w' => e = .returned (.bool (bigL l)) ∧ w = w' := by
  have H := hidk h
  have HL := hidk h.ln
  have HT := hidk ht
  have hmx : len ≤ 9223372036854775807 := by have := h.mx; unfold maxLen at this; omega
  by_cases h5 : len ≤ 60
  · have h5' : decide ((60 : Int) < (len : Int)) = false := by rw [decide_eq_false_iff_not]; omega
    clear h ht
    go_enter Tryz.func5, Tryz.ntmps5
    go_wp2
    go_loop [3] (fun i => ∃ k : Nat, k ≤ len ∧ i = .int .i64 k ∧ Hid (∀ s ∈ l.take k, s.e.t.size ≤ 1000)) (fun i => len - (intOf i).toNat)
    case atStart => exact ⟨0, by omega, rfl, fun s hs => by simp at hs⟩
    case round =>
      obtain ⟨k, hk, rfl, HA⟩ := hrel
      by_cases hlt : k < len
      · obtain ⟨g, o, rfl, hg⟩ := H.out.at (by omega)
        have hkl : k < l.length := by have := HL.out; omega
        obtain ⟨t, Ht⟩ : ∃ t, Hid (t = l[k].e.t) := ⟨_, hidk rfl⟩
        have hc := H.out.cell k hkl 4 (.string t) (by rw [Ht.out]; rfl)
        have hts : t.size ≤ maxLen := by rw [Ht.out]; exact HT.out _ (List.getElem_mem hkl)
        unfold maxLen at hts
        have ix := fun W => index_item W g o len cap k .i64 hlt
        have hd : decide ((k : Int) < (len : Int)) = true := by rw [decide_eq_true_eq]; omega
        have hw1 := wrap_int ((k : Int) + 1) (by omega) (by omega)
        have htm : t.size ≤ 9223372036854775807 := by omega
        by_cases h4 : t.size ≤ 1000
        · have h4' : decide ((1000 : Int) < (t.size : Int)) = false := by rw [decide_eq_false_iff_not]; omega
          have HN : Hid (∀ s ∈ l.take (k + 1), s.e.t.size ≤ 1000) := take_mem_succ hkl HA.out (by rw [← Ht.out]; exact h4)
          clear Ht hkl
          go_wp2
          go_round
          case rel => exact ⟨k + 1, by omega, by go_num, HN⟩
          case measure => simp [intOf]; omega
        · have h4' : decide ((1000 : Int) < (t.size : Int)) = true := by rw [decide_eq_true_eq]; omega
          have HN : Hid (bigL l = true) := bigL_yes k hkl (by rw [← Ht.out]; omega)
          clear Ht hkl
          go_wp2
          go_ret
          exact ⟨by rw [HN.out]; rfl, rfl⟩
      · obtain rfl : len = k := by omega
        have hd : decide ((len : Int) < (len : Int)) = false := by rw [decide_eq_false_iff_not]; omega
        have HN : Hid (bigL l = false) := bigL_no (by have := HL.out; omega) (by have := HA.out; rwa [List.take_of_length_le (by have := HL.out; omega)] at this)
        go_wp2
        go_ret
        exact ⟨by rw [HN.out]; rfl, rfl⟩
  · have h5' : decide ((60 : Int) < (len : Int)) = true := by rw [decide_eq_true_eq]; omega
    have HN : Hid (bigL l = true) := by show _ = _; unfold bigL; rw [HL.out]; simp; left; omega
    clear h ht
    go_enter Tryz.func5, Tryz.ntmps5
    go_wp2
    go_ret
    exact ⟨by rw [HN.out]; rfl, rfl⟩
set_option maxHeartbeats 2000000 in
theorem refOwn_any (a : Option Addr) (len cap : Nat) (l : List ItT) (w : World) (h : IReads w a len cap l) (hc0 : a = none → cap = 0) (hlen : len ≤ 1000000) :
    Calls Tryz.prog 6 #[.slice a len cap] w fun e w' => ∃ v, e = .returned v ∧ w'.ownsRow w.heap.size 37 110 v len (icL l) ∧ Below w.heap.size w w' := by
  obtain ⟨v, w', hr, ho, hg⟩ := run_append_items h hc0 w.heap.size 0 (.slice none 0 0) [] ⟨rfl, .inl ⟨rfl, rfl⟩⟩ (Nat.le_refl _) (by omega)
  have HB : Hid (Below w.heap.size w w') := (Below.refl _ _).grown hg (Nat.le_refl _) (fun k e => by cases e)
  rw [List.nil_append, Nat.zero_add] at ho
  have HO := hidk ho
  clear ho hg h
  go_enter Tryz.func6, Tryz.ntmps6
  go_wp2_with (first
    | (show aD 6 _ _ _ _ _ _ _ _ _ _ _; refine wpList_append_run rfl (.tmp 4) (.tmp 5) 22 22 rfl (.slice none 0 0) (.slice a len cap) v w' rfl rfl hr ?_; try simp only [Act.put, pS1, pS2, pS3])
    | fail)
  go_ret
  exact ⟨v, rfl, HO.out, HB.out⟩
set_option maxHeartbeats 2000000 in
theorem refSame_any (a1 a2 : Option Addr) (len c1 c2 : Nat) (l : List ItT) (w : World) (h1 : IReads w a1 len c1 l) (h2 : IReads w a2 len c2 l) :
    Calls Tryz.prog 11 #[.slice a1 len c1, .slice a2 len c2] w fun e w' => e = .returned (.bool true) ∧ Below w.heap.size w w' := by
  have hlen := h1.ln
  have hmx : len ≤ 9223372036854775807 := by have := h1.mx; unfold maxLen at this; omega
  have H1 := hidk h1
  have H2 := hidk h2
  clear h1 h2
  have hdn : (!((len : Int) == (len : Int))) = false := by simp
  go_enter Tryz.func11, Tryz.ntmps11
  go_wp2
  go_loopw [5] (fun v wr => ∃ i : Nat, i ≤ len ∧ v = .int .i64 i ∧ Below w.heap.size w wr) (fun v _ => len - (intOf v).toNat)
  case atStart => exact ⟨0, by omega, rfl, Below.refl _ _⟩
  case round =>
    obtain ⟨i, hi, rfl, hB⟩ := hrel
    by_cases hlt : i < len
    · have hdi : decide ((i : Int) < (len : Int)) = true := by rw [decide_eq_true_eq]; omega
      have hw := wrap_int ((i : Int) + 1) (by omega) (by omega)
      obtain ⟨g1, o1, rfl, hg1⟩ := H1.out.at (by omega)
      obtain ⟨g2, o2, rfl, hg2⟩ := H2.out.at (by omega)
      have hil : i < l.length := by omega
      obtain ⟨A, HA⟩ : ∃ A, Hid (A = icells l[i]) := ⟨_, hidk rfl⟩
      have hok := H1.out.ok _ (List.getElem_mem hil)
      have z0 : (Tryz.prog.info? 37).map (·.size) = some A.length := by rw [sizeI, HA.out, icells_length _ hok]
      have hne := fun W => neqItem l[i] l[i] hok hok A.toArray A.toArray (by show _ = _; rw [HA.out]) (by show _ = _; rw [HA.out]) false (by simp) W
      have hS : wr.rangeAt g1 (o1 + 110 * i) A ∧ wr.rangeAt g2 (o2 + 110 * i) A := by
        rw [HA.out]
        exact ⟨(H1.out.keep hB).range i hil, (H2.out.keep hB).range i hil⟩
      have ix1 := fun W => index_item W g1 o1 len c1 i .i64 hlt
      have ix2 := fun W => index_item W g2 o2 len c2 i .i64 hlt
      clear HA hok hil
      go_wp2
      refine wp_region_held_drew (S := (fun W => W.rangeAt g1 (o1 + 110 * i) A ∧ W.rangeAt g2 (o2 + 110 * i) A)) (by kernel_rfl) hS (fun hHeld => ?_)
      refine zW 0 (.slice (some ⟨g1, o1, none⟩) len c1) rfl (Or.inl ⟨by rfl, by intro w hSw; go_simp⟩) hHeld ?_
      try simp only [Act.put, pS1, pS2, pS3]
      refine zW 1 (.int .i64 i) rfl (Or.inl ⟨by rfl, by intro w hSw; go_simp⟩) hHeld ?_
      try simp only [Act.put, pS1, pS2, pS3]
      refine zW 2 (.pointer (some ⟨g1, o1 + 110 * i, none⟩)) rfl (Or.inl ⟨by rfl, by intro W hSw; have := ix1 W; go_simp⟩) hHeld ?_
      try simp only [Act.put, pS1, pS2, pS3]
      refine zW 3 (.agg A.toArray) rfl (yieldsIf_load_mid (by rfl) 37 (.tmp 19) rfl _ _ rfl A _ (fun _ h => h.1) Tryz.underlying37 rfl z0) hHeld ?_
      try simp only [Act.put, pS1, pS2, pS3]
      refine zW 4 (.slice (some ⟨g2, o2, none⟩) len c2) rfl (Or.inl ⟨by rfl, by intro w hSw; go_simp⟩) hHeld ?_
      try simp only [Act.put, pS1, pS2, pS3]
      refine zW 5 (.int .i64 i) rfl (Or.inl ⟨by rfl, by intro w hSw; go_simp⟩) hHeld ?_
      try simp only [Act.put, pS1, pS2, pS3]
      refine zW 6 (.pointer (some ⟨g2, o2 + 110 * i, none⟩)) rfl (Or.inl ⟨by rfl, by intro W hSw; have := ix2 W; go_simp⟩) hHeld ?_
      try simp only [Act.put, pS1, pS2, pS3]
      refine zW 7 (.agg A.toArray) rfl (yieldsIf_load_mid (by rfl) 37 (.tmp 23) rfl _ _ rfl A _ (fun _ h => h.2) Tryz.underlying37 rfl z0) hHeld ?_
      try simp only [Act.put, pS1, pS2, pS3]
      refine zW 8 (.bool false) rfl (Or.inl ⟨by rfl, by intro W hSw; have := hne W; go_simp⟩) hHeld ?_
      try simp only [Act.put, pS1, pS2, pS3]
      refine wpAnyH_done (by kernel_rfl) ?_ _
      go_wp2
      go_roundw
      case rel => exact ⟨i + 1, by omega, by go_num, hB.drew⟩
      case measure => simp [intOf]; omega
    · obtain rfl : len = i := by omega
      go_wp2
      go_ret
      exact ⟨rfl, hB⟩
theorem right_yes {l : List ItT} (hl : l.length ≤ 2000) (h : rightK l l.length = true) : rightL l = true := by
  unfold rightL; rw [h, decide_eq_true hl]; rfl
theorem right_no {l : List ItT} {k : Nat} (hk : k < l.length) (h : okAt l k = false) : rightL l = false := by
  rw [Bool.eq_false_iff]
  intro hr
  have := ((rightL_iff l).1 hr).2 k hk
  rw [h] at this
  cases this
theorem right_long {l : List ItT} (h : 2000 < l.length) : rightL l = false := by
  unfold rightL; rw [decide_eq_false (by omega)]; rfl
theorem okAt_zero {l : List ItT} (h : 0 < l.length) : okAt l 0 = rightI l[0] := by
  unfold okAt; rw [List.getElem?_eq_getElem h]; simp
theorem okAt_succ {l : List ItT} {j : Nat} (h : j + 1 < l.length) : okAt l (j + 1) = (rightI l[j + 1] && decide (l[j].p ≤ l[j + 1].p)) := by
  unfold okAt
  rw [List.getElem?_eq_getElem h, Nat.add_sub_cancel, List.getElem?_eq_getElem (show j < l.length by omega)]
  simp
theorem keepR {W W' : World} {g o q r : Nat} {X : List Value} {v u : Value} (hb : Below W.heap.size W W') (h : W.rangeAt g o X ∧ W.cell? ⟨g, q, none⟩ = some v ∧ W.cell? ⟨g, r, none⟩ = some u) :
    W'.rangeAt g o X ∧ W'.cell? ⟨g, q, none⟩ = some v ∧ W'.cell? ⟨g, r, none⟩ = some u := by
  have hg : g < W.heap.size := World.block_lt_of_cell? _ _ h.2.1
  exact ⟨range_below h.1 hb hg, by rw [hb.cell hg]; exact h.2.1, by rw [hb.cell hg]; exact h.2.2⟩
set_option maxHeartbeats 8000000 in
theorem refRightL_any (a : Option Addr) (len cap : Nat) (l : List ItT) (w : World) (h : IReads w a len cap l) :
    Calls Tryz.prog 59 #[.slice a len cap] w fun e w' => e = .returned (.bool (rightL l)) ∧ Below w.heap.size w w' := by
  have H := hidk h
  have HL := hidk h.ln
  have hmx : len ≤ 9223372036854775807 := by have := h.mx; unfold maxLen at this; omega
  clear h
  by_cases h5 : len ≤ 2000
  · have h5' : decide ((2000 : Int) < (len : Int)) = false := by rw [decide_eq_false_iff_not]; omega
    go_enter Tryz.func59, Tryz.ntmps59
    go_wp2
    go_loopw [3] (fun v wr => ∃ k : Nat, k ≤ len ∧ v = .int .i64 k ∧ Hid (Below w.heap.size w wr) ∧ Hid (rightK l k = true)) (fun v _ => len - (intOf v).toNat)
    case atStart => exact ⟨0, by omega, rfl, Below.refl _ _, hidk rfl⟩
    case round =>
      obtain ⟨k, hk, rfl, HB, HN⟩ := hrel
      by_cases hlt : k < len
      · have hd : decide ((k : Int) < (len : Int)) = true := by rw [decide_eq_true_eq]; omega
        have hw1 := wrap_int ((k : Int) + 1) (by omega) (by omega)
        obtain ⟨g, o, rfl, hg⟩ := H.out.at (by omega)
        have hkl : k < l.length := by have := HL.out; omega
        obtain ⟨j, HJ, hj2⟩ : ∃ j, Hid (j = k - 1) ∧ j < len := ⟨_, hidk rfl, by omega⟩
        have hjl : j < l.length := by have := HL.out; omega
        obtain ⟨X, HX⟩ : ∃ X, Hid (X = icells l[k]) := ⟨_, hidk rfl⟩
        obtain ⟨px, hpx⟩ : ∃ p, l[k].p = p := ⟨_, rfl⟩
        obtain ⟨py, hpy⟩ : ∃ p, l[j].p = p := ⟨_, rfl⟩
        obtain ⟨ri, hri⟩ : ∃ b, rightI l[k] = b := ⟨_, rfl⟩
        have hok := H.out.ok _ (List.getElem_mem hkl)
        have z0 : (Tryz.prog.info? 37).map (·.size) = some X.length := by rw [sizeI, HX.out, icells_length _ hok]
        have hS : wr.rangeAt g (o + 110 * k) X ∧ wr.cell? ⟨g, o + 110 * k, none⟩ = some (.int .i64 px) ∧ wr.cell? ⟨g, o + 110 * j, none⟩ = some (.int .i64 py) := by
          rw [HX.out, ← hpx, ← hpy]
          have hr := H.out.keep HB.out
          exact ⟨hr.range k hkl, hr.cell k hkl 0 _ rfl, hr.cell j hjl 0 _ rfl⟩
        have RI : Hid (∀ W, Calls Tryz.prog 46 #[.agg X.toArray] W fun e w' => e = .returned (.bool ri) ∧ Below W.heap.size W w') := fun W => by rw [← hri]; exact refRightI_any l[k] hok W X.toArray (by show _ = _; rw [HX.out])
        have ix1 := fun W => index_item W g o len cap k .i64 hlt
        have ix2 := fun W => index_item W g o len cap j .i64 hj2
        have HF : Hid ((k = 0 → okAt l k = ri) ∧ (0 < k → okAt l k = (ri && decide (py ≤ px)))) := by
          refine ⟨fun h0 => ?_, fun h0 => ?_⟩
          · subst h0; rw [okAt_zero hkl, hri]
          · obtain ⟨i, rfl⟩ : ∃ i, k = i + 1 := ⟨k - 1, by omega⟩
            obtain rfl : j = i := by have := HJ.out; omega
            rw [okAt_succ hkl, hri, hpx, hpy]
        have HNO : Hid (okAt l k = false → rightL l = false) := right_no hkl
        have HYE : Hid (okAt l k = true → rightK l (k + 1) = true) := fun hh => by rw [rightK_succ, HN.out, hh]; rfl
        clear hri hpx hpy HX HN hok hkl hjl
        cases ri
        · have hko : okAt l k = false := by
            by_cases h0 : k = 0
            · exact HF.out.1 h0
            · exact HF.out.2 (by omega)
          clear HF
          go_wp2
          refine wp_region_held_drew (S := (fun W => W.rangeAt g (o + 110 * k) X ∧ W.cell? ⟨g, o + 110 * k, none⟩ = some (.int .i64 px) ∧ W.cell? ⟨g, o + 110 * j, none⟩ = some (.int .i64 py))) (by kernel_rfl) hS (fun hHeld => ?_)
          refine zW 0 (.slice (some ⟨g, o, none⟩) len cap) rfl (Or.inl ⟨by rfl, by intro w hSw; go_simp⟩) hHeld ?_
          try simp only [Act.put, pS1, pS2, pS3]
          refine zW 1 (.int .i64 k) rfl (Or.inl ⟨by rfl, by intro w hSw; go_simp⟩) hHeld ?_
          try simp only [Act.put, pS1, pS2, pS3]
          refine zW 2 (.pointer (some ⟨g, o + 110 * k, none⟩)) rfl (Or.inl ⟨by rfl, by intro W hSw; have := ix1 W; go_simp⟩) hHeld ?_
          try simp only [Act.put, pS1, pS2, pS3]
          refine zW 3 (.agg X.toArray) rfl (yieldsIf_load_mid (by rfl) 37 (.tmp 15) rfl _ _ rfl X _ (fun _ h => h.1) Tryz.underlying37 rfl z0) hHeld ?_
          try simp only [Act.put, pS1, pS2, pS3]
          refine wpAnyH_ready (rs := [4]) (by kernel_rfl) (by simp) ?_
          refine AllReadyH.cons (o := { dst := some 17, op := .call { callee := .value (.func 46), args := #[.tmp 16], argTypes := #[37] }, type := 4, pos := "ref.go:17", after := #[zD 3], guard := none }) rfl (fun K hK => ?_) AllReadyH.nil
          go_simp
          refine (RI.out _).mono ?_
          rintro e w1 ⟨rfl, hb1⟩
          go_wp2_with fail
          refine hK.out _ _ (keepR (Below.trans (Below.refl _ _).drew hb1) hS) (fun hHeld => ?_)
          clear hK K
          try simp only [Act.put, pS1, pS2, pS3]
          refine zW 5 (.bool true) rfl (Or.inl ⟨by rfl, by intro w hSw; go_simp⟩) hHeld ?_
          try simp only [Act.put, pS1, pS2, pS3]
          refine zW 6 (.bool true) rfl (Or.inl ⟨by rfl, by intro w hSw; go_simp⟩) hHeld ?_
          try simp only [Act.put, pS1, pS2, pS3]
          refine zW 7 (undef) rfl (Or.inr ⟨by rfl, rfl⟩) hHeld ?_
          try simp only [Act.put, pS1, pS2, pS3]
          refine zW 8 (undef) rfl (Or.inr ⟨by rfl, rfl⟩) hHeld ?_
          try simp only [Act.put, pS1, pS2, pS3]
          refine zW 9 (undef) rfl (Or.inr ⟨by rfl, rfl⟩) hHeld ?_
          try simp only [Act.put, pS1, pS2, pS3]
          refine zW 10 (undef) rfl (Or.inr ⟨by rfl, rfl⟩) hHeld ?_
          try simp only [Act.put, pS1, pS2, pS3]
          refine zW 11 (undef) rfl (Or.inr ⟨by rfl, rfl⟩) hHeld ?_
          try simp only [Act.put, pS1, pS2, pS3]
          refine zW 12 (undef) rfl (Or.inr ⟨by rfl, rfl⟩) hHeld ?_
          try simp only [Act.put, pS1, pS2, pS3]
          refine zW 13 (undef) rfl (Or.inr ⟨by rfl, rfl⟩) hHeld ?_
          try simp only [Act.put, pS1, pS2, pS3]
          refine zW 14 (undef) rfl (Or.inr ⟨by rfl, rfl⟩) hHeld ?_
          try simp only [Act.put, pS1, pS2, pS3]
          refine zW 15 (undef) rfl (Or.inr ⟨by rfl, rfl⟩) hHeld ?_
          try simp only [Act.put, pS1, pS2, pS3]
          refine zW 16 (undef) rfl (Or.inr ⟨by rfl, rfl⟩) hHeld ?_
          try simp only [Act.put, pS1, pS2, pS3]
          refine zW 17 (undef) rfl (Or.inr ⟨by rfl, rfl⟩) hHeld ?_
          try simp only [Act.put, pS1, pS2, pS3]
          refine zW 18 (undef) rfl (Or.inr ⟨by rfl, rfl⟩) hHeld ?_
          try simp only [Act.put, pS1, pS2, pS3]
          refine zW 19 (undef) rfl (Or.inr ⟨by rfl, rfl⟩) hHeld ?_
          try simp only [Act.put, pS1, pS2, pS3]
          refine zW 20 (undef) rfl (Or.inr ⟨by rfl, rfl⟩) hHeld ?_
          try simp only [Act.put, pS1, pS2, pS3]
          refine zW 21 (undef) rfl (Or.inr ⟨by rfl, rfl⟩) hHeld ?_
          try simp only [Act.put, pS1, pS2, pS3]
          refine zW 22 (undef) rfl (Or.inr ⟨by rfl, rfl⟩) hHeld ?_
          try simp only [Act.put, pS1, pS2, pS3]
          refine zW 23 (.bool true) rfl (Or.inl ⟨by rfl, by intro w hSw; go_simp⟩) hHeld ?_
          try simp only [Act.put, pS1, pS2, pS3]
          refine wpAnyH_done (by kernel_rfl) ?_ _
          go_wp2
          go_ret
          exact ⟨by rw [HNO.out hko]; rfl, HB.out.trans ((Below.trans (Below.refl _ _).drew hb1).mono HB.out.size)⟩
        · by_cases h0 : k = 0
          · have h0' : decide ((0 : Int) < (k : Int)) = false := by rw [decide_eq_false_iff_not]; omega
            have hko : okAt l k = true := HF.out.1 h0
            clear HF
            go_wp2
            refine wp_region_held_drew (S := (fun W => W.rangeAt g (o + 110 * k) X ∧ W.cell? ⟨g, o + 110 * k, none⟩ = some (.int .i64 px) ∧ W.cell? ⟨g, o + 110 * j, none⟩ = some (.int .i64 py))) (by kernel_rfl) hS (fun hHeld => ?_)
            refine zW 0 (.slice (some ⟨g, o, none⟩) len cap) rfl (Or.inl ⟨by rfl, by intro w hSw; go_simp⟩) hHeld ?_
            try simp only [Act.put, pS1, pS2, pS3]
            refine zW 1 (.int .i64 k) rfl (Or.inl ⟨by rfl, by intro w hSw; go_simp⟩) hHeld ?_
            try simp only [Act.put, pS1, pS2, pS3]
            refine zW 2 (.pointer (some ⟨g, o + 110 * k, none⟩)) rfl (Or.inl ⟨by rfl, by intro W hSw; have := ix1 W; go_simp⟩) hHeld ?_
            try simp only [Act.put, pS1, pS2, pS3]
            refine zW 3 (.agg X.toArray) rfl (yieldsIf_load_mid (by rfl) 37 (.tmp 15) rfl _ _ rfl X _ (fun _ h => h.1) Tryz.underlying37 rfl z0) hHeld ?_
            try simp only [Act.put, pS1, pS2, pS3]
            refine wpAnyH_ready (rs := [4]) (by kernel_rfl) (by simp) ?_
            refine AllReadyH.cons (o := { dst := some 17, op := .call { callee := .value (.func 46), args := #[.tmp 16], argTypes := #[37] }, type := 4, pos := "ref.go:17", after := #[zD 3], guard := none }) rfl (fun K hK => ?_) AllReadyH.nil
            go_simp
            refine (RI.out _).mono ?_
            rintro e w1 ⟨rfl, hb1⟩
            go_wp2_with fail
            refine hK.out _ _ (keepR (Below.trans (Below.refl _ _).drew hb1) hS) (fun hHeld => ?_)
            clear hK K
            try simp only [Act.put, pS1, pS2, pS3]
            refine zW 5 (.bool false) rfl (Or.inl ⟨by rfl, by intro w hSw; go_simp⟩) hHeld ?_
            try simp only [Act.put, pS1, pS2, pS3]
            refine zW 6 (.bool false) rfl (Or.inl ⟨by rfl, by intro w hSw; go_simp⟩) hHeld ?_
            try simp only [Act.put, pS1, pS2, pS3]
            refine zW 7 (.int .i64 k) rfl (Or.inl ⟨by rfl, by intro w hSw; go_simp⟩) hHeld ?_
            try simp only [Act.put, pS1, pS2, pS3]
            refine zW 8 (.bool false) rfl (Or.inl ⟨by rfl, by intro w hSw; go_simp⟩) hHeld ?_
            try simp only [Act.put, pS1, pS2, pS3]
            refine zW 9 (.bool false) rfl (Or.inl ⟨by rfl, by intro w hSw; go_simp⟩) hHeld ?_
            try simp only [Act.put, pS1, pS2, pS3]
            refine zW 10 (undef) rfl (Or.inr ⟨by rfl, rfl⟩) hHeld ?_
            try simp only [Act.put, pS1, pS2, pS3]
            refine zW 11 (undef) rfl (Or.inr ⟨by rfl, rfl⟩) hHeld ?_
            try simp only [Act.put, pS1, pS2, pS3]
            refine zW 12 (undef) rfl (Or.inr ⟨by rfl, rfl⟩) hHeld ?_
            try simp only [Act.put, pS1, pS2, pS3]
            refine zW 13 (undef) rfl (Or.inr ⟨by rfl, rfl⟩) hHeld ?_
            try simp only [Act.put, pS1, pS2, pS3]
            refine zW 14 (undef) rfl (Or.inr ⟨by rfl, rfl⟩) hHeld ?_
            try simp only [Act.put, pS1, pS2, pS3]
            refine zW 15 (undef) rfl (Or.inr ⟨by rfl, rfl⟩) hHeld ?_
            try simp only [Act.put, pS1, pS2, pS3]
            refine zW 16 (undef) rfl (Or.inr ⟨by rfl, rfl⟩) hHeld ?_
            try simp only [Act.put, pS1, pS2, pS3]
            refine zW 17 (undef) rfl (Or.inr ⟨by rfl, rfl⟩) hHeld ?_
            try simp only [Act.put, pS1, pS2, pS3]
            refine zW 18 (undef) rfl (Or.inr ⟨by rfl, rfl⟩) hHeld ?_
            try simp only [Act.put, pS1, pS2, pS3]
            refine zW 19 (undef) rfl (Or.inr ⟨by rfl, rfl⟩) hHeld ?_
            try simp only [Act.put, pS1, pS2, pS3]
            refine zW 20 (undef) rfl (Or.inr ⟨by rfl, rfl⟩) hHeld ?_
            try simp only [Act.put, pS1, pS2, pS3]
            refine zW 21 (undef) rfl (Or.inr ⟨by rfl, rfl⟩) hHeld ?_
            try simp only [Act.put, pS1, pS2, pS3]
            refine zW 22 (.bool false) rfl (Or.inl ⟨by rfl, by intro w hSw; go_simp⟩) hHeld ?_
            try simp only [Act.put, pS1, pS2, pS3]
            refine zW 23 (.bool false) rfl (Or.inl ⟨by rfl, by intro w hSw; go_simp⟩) hHeld ?_
            try simp only [Act.put, pS1, pS2, pS3]
            refine wpAnyH_done (by kernel_rfl) ?_ _
            go_wp2
            go_roundw
            case rel => exact ⟨k + 1, by omega, by go_num, HB.out.trans ((Below.trans (Below.refl _ _).drew hb1).mono HB.out.size), HYE.out hko⟩
            case measure => simp [intOf]; omega
          · have h0' : decide ((0 : Int) < (k : Int)) = true := by rw [decide_eq_true_eq]; omega
            have hsub : IntKind.i64.wrap ((k : Int) - 1) = (j : Int) := by rw [wrap_int _ (by omega) (by omega)]; have := HJ.out; omega
            have h0n : 0 < k := by omega
            by_cases hlow : py ≤ px
            · have hl' : decide (px < py) = false := by rw [decide_eq_false_iff_not]; omega
              have hko : okAt l k = true := by rw [HF.out.2 (by omega), decide_eq_true hlow]; rfl
              clear HF
              go_wp2
              refine wp_region_held_drew (S := (fun W => W.rangeAt g (o + 110 * k) X ∧ W.cell? ⟨g, o + 110 * k, none⟩ = some (.int .i64 px) ∧ W.cell? ⟨g, o + 110 * j, none⟩ = some (.int .i64 py))) (by kernel_rfl) hS (fun hHeld => ?_)
              refine zW 0 (.slice (some ⟨g, o, none⟩) len cap) rfl (Or.inl ⟨by rfl, by intro w hSw; go_simp⟩) hHeld ?_
              try simp only [Act.put, pS1, pS2, pS3]
              refine zW 1 (.int .i64 k) rfl (Or.inl ⟨by rfl, by intro w hSw; go_simp⟩) hHeld ?_
              try simp only [Act.put, pS1, pS2, pS3]
              refine zW 2 (.pointer (some ⟨g, o + 110 * k, none⟩)) rfl (Or.inl ⟨by rfl, by intro W hSw; have := ix1 W; go_simp⟩) hHeld ?_
              try simp only [Act.put, pS1, pS2, pS3]
              refine zW 3 (.agg X.toArray) rfl (yieldsIf_load_mid (by rfl) 37 (.tmp 15) rfl _ _ rfl X _ (fun _ h => h.1) Tryz.underlying37 rfl z0) hHeld ?_
              try simp only [Act.put, pS1, pS2, pS3]
              refine wpAnyH_ready (rs := [4]) (by kernel_rfl) (by simp) ?_
              refine AllReadyH.cons (o := { dst := some 17, op := .call { callee := .value (.func 46), args := #[.tmp 16], argTypes := #[37] }, type := 4, pos := "ref.go:17", after := #[zD 3], guard := none }) rfl (fun K hK => ?_) AllReadyH.nil
              go_simp
              refine (RI.out _).mono ?_
              rintro e w1 ⟨rfl, hb1⟩
              go_wp2_with fail
              refine hK.out _ _ (keepR (Below.trans (Below.refl _ _).drew hb1) hS) (fun hHeld => ?_)
              clear hK K
              try simp only [Act.put, pS1, pS2, pS3]
              refine zW 5 (.bool false) rfl (Or.inl ⟨by rfl, by intro w hSw; go_simp⟩) hHeld ?_
              try simp only [Act.put, pS1, pS2, pS3]
              refine zW 6 (.bool false) rfl (Or.inl ⟨by rfl, by intro w hSw; go_simp⟩) hHeld ?_
              try simp only [Act.put, pS1, pS2, pS3]
              refine zW 7 (.int .i64 k) rfl (Or.inl ⟨by rfl, by intro w hSw; go_simp⟩) hHeld ?_
              try simp only [Act.put, pS1, pS2, pS3]
              refine zW 8 (.bool true) rfl (Or.inl ⟨by rfl, by intro w hSw; go_simp⟩) hHeld ?_
              try simp only [Act.put, pS1, pS2, pS3]
              refine zW 9 (.bool true) rfl (Or.inl ⟨by rfl, by intro w hSw; go_simp⟩) hHeld ?_
              try simp only [Act.put, pS1, pS2, pS3]
              refine zW 10 (.slice (some ⟨g, o, none⟩) len cap) rfl (Or.inl ⟨by rfl, by intro w hSw; go_simp⟩) hHeld ?_
              try simp only [Act.put, pS1, pS2, pS3]
              refine zW 11 (.int .i64 k) rfl (Or.inl ⟨by rfl, by intro w hSw; go_simp⟩) hHeld ?_
              try simp only [Act.put, pS1, pS2, pS3]
              refine zW 12 (.int .i64 j) rfl (Or.inl ⟨by rfl, by intro W hSw; have := hsub; go_simp⟩) hHeld ?_
              try simp only [Act.put, pS1, pS2, pS3]
              refine zW 13 (.pointer (some ⟨g, o + 110 * j, none⟩)) rfl (Or.inl ⟨by rfl, by intro W hSw; have := ix2 W; go_simp⟩) hHeld ?_
              try simp only [Act.put, pS1, pS2, pS3]
              refine zW 14 (.pointer (some ⟨g, o + 110 * j, none⟩)) rfl (Or.inl ⟨by rfl, by intro w hSw; go_simp⟩) hHeld ?_
              try simp only [Act.put, pS1, pS2, pS3]
              refine zW 15 (.int .i64 py) rfl (Or.inl ⟨by rfl, by intro W hSw; have h1 := hSw.2.2; go_simp⟩) hHeld ?_
              try simp only [Act.put, pS1, pS2, pS3]
              refine zW 16 (.slice (some ⟨g, o, none⟩) len cap) rfl (Or.inl ⟨by rfl, by intro w hSw; go_simp⟩) hHeld ?_
              try simp only [Act.put, pS1, pS2, pS3]
              refine zW 17 (.int .i64 k) rfl (Or.inl ⟨by rfl, by intro w hSw; go_simp⟩) hHeld ?_
              try simp only [Act.put, pS1, pS2, pS3]
              refine zW 18 (.pointer (some ⟨g, o + 110 * k, none⟩)) rfl (Or.inl ⟨by rfl, by intro W hSw; have := ix1 W; go_simp⟩) hHeld ?_
              try simp only [Act.put, pS1, pS2, pS3]
              refine zW 19 (.pointer (some ⟨g, o + 110 * k, none⟩)) rfl (Or.inl ⟨by rfl, by intro w hSw; go_simp⟩) hHeld ?_
              try simp only [Act.put, pS1, pS2, pS3]
              refine zW 20 (.int .i64 px) rfl (Or.inl ⟨by rfl, by intro W hSw; have h1 := hSw.2.1; go_simp⟩) hHeld ?_
              try simp only [Act.put, pS1, pS2, pS3]
              refine zW 21 (.bool false) rfl (Or.inl ⟨by rfl, by intro w hSw; go_simp⟩) hHeld ?_
              try simp only [Act.put, pS1, pS2, pS3]
              refine zW 22 (.bool false) rfl (Or.inl ⟨by rfl, by intro w hSw; go_simp⟩) hHeld ?_
              try simp only [Act.put, pS1, pS2, pS3]
              refine zW 23 (.bool false) rfl (Or.inl ⟨by rfl, by intro w hSw; go_simp⟩) hHeld ?_
              try simp only [Act.put, pS1, pS2, pS3]
              refine wpAnyH_done (by kernel_rfl) ?_ _
              go_wp2
              go_roundw
              case rel => exact ⟨k + 1, by omega, by go_num, HB.out.trans ((Below.trans (Below.refl _ _).drew hb1).mono HB.out.size), HYE.out hko⟩
              case measure => simp [intOf]; omega
            · have hl' : decide (px < py) = true := by rw [decide_eq_true_eq]; omega
              have hko : okAt l k = false := by rw [HF.out.2 (by omega), decide_eq_false hlow]; rfl
              clear HF
              go_wp2
              refine wp_region_held_drew (S := (fun W => W.rangeAt g (o + 110 * k) X ∧ W.cell? ⟨g, o + 110 * k, none⟩ = some (.int .i64 px) ∧ W.cell? ⟨g, o + 110 * j, none⟩ = some (.int .i64 py))) (by kernel_rfl) hS (fun hHeld => ?_)
              refine zW 0 (.slice (some ⟨g, o, none⟩) len cap) rfl (Or.inl ⟨by rfl, by intro w hSw; go_simp⟩) hHeld ?_
              try simp only [Act.put, pS1, pS2, pS3]
              refine zW 1 (.int .i64 k) rfl (Or.inl ⟨by rfl, by intro w hSw; go_simp⟩) hHeld ?_
              try simp only [Act.put, pS1, pS2, pS3]
              refine zW 2 (.pointer (some ⟨g, o + 110 * k, none⟩)) rfl (Or.inl ⟨by rfl, by intro W hSw; have := ix1 W; go_simp⟩) hHeld ?_
              try simp only [Act.put, pS1, pS2, pS3]
              refine zW 3 (.agg X.toArray) rfl (yieldsIf_load_mid (by rfl) 37 (.tmp 15) rfl _ _ rfl X _ (fun _ h => h.1) Tryz.underlying37 rfl z0) hHeld ?_
              try simp only [Act.put, pS1, pS2, pS3]
              refine wpAnyH_ready (rs := [4]) (by kernel_rfl) (by simp) ?_
              refine AllReadyH.cons (o := { dst := some 17, op := .call { callee := .value (.func 46), args := #[.tmp 16], argTypes := #[37] }, type := 4, pos := "ref.go:17", after := #[zD 3], guard := none }) rfl (fun K hK => ?_) AllReadyH.nil
              go_simp
              refine (RI.out _).mono ?_
              rintro e w1 ⟨rfl, hb1⟩
              go_wp2_with fail
              refine hK.out _ _ (keepR (Below.trans (Below.refl _ _).drew hb1) hS) (fun hHeld => ?_)
              clear hK K
              try simp only [Act.put, pS1, pS2, pS3]
              refine zW 5 (.bool false) rfl (Or.inl ⟨by rfl, by intro w hSw; go_simp⟩) hHeld ?_
              try simp only [Act.put, pS1, pS2, pS3]
              refine zW 6 (.bool false) rfl (Or.inl ⟨by rfl, by intro w hSw; go_simp⟩) hHeld ?_
              try simp only [Act.put, pS1, pS2, pS3]
              refine zW 7 (.int .i64 k) rfl (Or.inl ⟨by rfl, by intro w hSw; go_simp⟩) hHeld ?_
              try simp only [Act.put, pS1, pS2, pS3]
              refine zW 8 (.bool true) rfl (Or.inl ⟨by rfl, by intro w hSw; go_simp⟩) hHeld ?_
              try simp only [Act.put, pS1, pS2, pS3]
              refine zW 9 (.bool true) rfl (Or.inl ⟨by rfl, by intro w hSw; go_simp⟩) hHeld ?_
              try simp only [Act.put, pS1, pS2, pS3]
              refine zW 10 (.slice (some ⟨g, o, none⟩) len cap) rfl (Or.inl ⟨by rfl, by intro w hSw; go_simp⟩) hHeld ?_
              try simp only [Act.put, pS1, pS2, pS3]
              refine zW 11 (.int .i64 k) rfl (Or.inl ⟨by rfl, by intro w hSw; go_simp⟩) hHeld ?_
              try simp only [Act.put, pS1, pS2, pS3]
              refine zW 12 (.int .i64 j) rfl (Or.inl ⟨by rfl, by intro W hSw; have := hsub; go_simp⟩) hHeld ?_
              try simp only [Act.put, pS1, pS2, pS3]
              refine zW 13 (.pointer (some ⟨g, o + 110 * j, none⟩)) rfl (Or.inl ⟨by rfl, by intro W hSw; have := ix2 W; go_simp⟩) hHeld ?_
              try simp only [Act.put, pS1, pS2, pS3]
              refine zW 14 (.pointer (some ⟨g, o + 110 * j, none⟩)) rfl (Or.inl ⟨by rfl, by intro w hSw; go_simp⟩) hHeld ?_
              try simp only [Act.put, pS1, pS2, pS3]
              refine zW 15 (.int .i64 py) rfl (Or.inl ⟨by rfl, by intro W hSw; have h1 := hSw.2.2; go_simp⟩) hHeld ?_
              try simp only [Act.put, pS1, pS2, pS3]
              refine zW 16 (.slice (some ⟨g, o, none⟩) len cap) rfl (Or.inl ⟨by rfl, by intro w hSw; go_simp⟩) hHeld ?_
              try simp only [Act.put, pS1, pS2, pS3]
              refine zW 17 (.int .i64 k) rfl (Or.inl ⟨by rfl, by intro w hSw; go_simp⟩) hHeld ?_
              try simp only [Act.put, pS1, pS2, pS3]
              refine zW 18 (.pointer (some ⟨g, o + 110 * k, none⟩)) rfl (Or.inl ⟨by rfl, by intro W hSw; have := ix1 W; go_simp⟩) hHeld ?_
              try simp only [Act.put, pS1, pS2, pS3]
              refine zW 19 (.pointer (some ⟨g, o + 110 * k, none⟩)) rfl (Or.inl ⟨by rfl, by intro w hSw; go_simp⟩) hHeld ?_
              try simp only [Act.put, pS1, pS2, pS3]
              refine zW 20 (.int .i64 px) rfl (Or.inl ⟨by rfl, by intro W hSw; have h1 := hSw.2.1; go_simp⟩) hHeld ?_
              try simp only [Act.put, pS1, pS2, pS3]
              refine zW 21 (.bool true) rfl (Or.inl ⟨by rfl, by intro w hSw; go_simp⟩) hHeld ?_
              try simp only [Act.put, pS1, pS2, pS3]
              refine zW 22 (.bool true) rfl (Or.inl ⟨by rfl, by intro w hSw; go_simp⟩) hHeld ?_
              try simp only [Act.put, pS1, pS2, pS3]
              refine zW 23 (.bool true) rfl (Or.inl ⟨by rfl, by intro w hSw; go_simp⟩) hHeld ?_
              try simp only [Act.put, pS1, pS2, pS3]
              refine wpAnyH_done (by kernel_rfl) ?_ _
              go_wp2
              go_ret
              exact ⟨by rw [HNO.out hko]; rfl, HB.out.trans ((Below.trans (Below.refl _ _).drew hb1).mono HB.out.size)⟩
      · obtain rfl : len = k := by omega
        have hd : decide ((len : Int) < (len : Int)) = false := by rw [decide_eq_false_iff_not]; omega
        have HE : Hid (rightL l = true) := right_yes (by have := HL.out; omega) (by rw [HL.out]; exact HN.out)
        go_wp2
        go_ret
        exact ⟨by rw [HE.out]; rfl, HB.out⟩
  · have h5' : decide ((2000 : Int) < (len : Int)) = true := by rw [decide_eq_true_eq]; omega
    have HE : Hid (rightL l = false) := right_long (by have := HL.out; omega)
    go_enter Tryz.func59, Tryz.ntmps59
    go_wp2
    go_ret
    exact ⟨by rw [HE.out]; rfl, Below.refl _ _⟩
theorem builtI (x : ItT) (ok : OkE x.e) (C R : Array Value) (HC : Hid (C = (ecells x.e).toArray)) (HR : Hid (R = (icells x).toArray)) : Tryz.prog.built 37 [(0, .int .i64 x.p), (1, .agg C)] = some R := by
  have hi := infoI
  have hzl := ecells_length zeroE zeroE_ok
  cases hq : Tryz.prog.info? 37 with
  | none => rw [hq] at hi; cases hi
  | some i =>
    rw [hq] at hi
    simp only [Option.map_some, Option.some.injEq, Prod.mk.injEq] at hi
    have hE := sizeE
    have h3 : (Tryz.prog.info? 3).map (·.size) = some 1 := by kernel_rfl
    cases hqE : Tryz.prog.info? 35 with
    | none => rw [hqE] at hE; cases hE
    | some iE =>
      cases hq3 : Tryz.prog.info? 3 with
      | none => rw [hq3] at h3; cases h3
      | some i3 =>
        rw [hqE] at hE
        rw [hq3] at h3
        simp only [Option.map_some, Option.some.injEq] at hE h3
        unfold Program.built
        simp only [hq, Tryz.underlying37, hi.1, List.mapM_cons, List.mapM_nil, hqE, hq3, hE, h3, Option.map_some, Option.bind_eq_bind, Option.bind_some, Option.pure_def]
        show Instr.fill _ (icells zeroI).toArray _ = some R
        have hc : C.size = 109 := by rw [HC.out]; simp [ecells_length x.e ok]
        refine (fill_val _ 0 0 1 (.int .i64 x.p) #[.int .i64 x.p] _ [] [.int .i64 0] (ecells zeroE) _ rfl rfl rfl (by simp [icells, zeroI]) rfl rfl).trans ?_
        refine (fill_val _ 1 1 109 (.agg C) C _ [.int .i64 x.p] (ecells zeroE) [] _ rfl rfl hc (by simp) rfl hzl).trans ?_
        simp only [Instr.fill, List.append_nil, Option.some.injEq]
        rw [HR.out, HC.out]
        rfl
structure CmE (x : EnT) : Prop where
  k : In64 x.k
  c : In64 x.c
  s : In64 x.s
  t : x.t.size ≤ maxLen
  h : InS x.h
  m : InC x.m
theorem CmE.ok {x : EnT} (h : CmE x) : OkE x := ⟨h.h.h.d, h.h.g, h.m.d⟩
theorem CmE.in {x : EnT} (h : CmE x) (ht : ¬ 16384 < x.t.size) : InE x := ⟨h.k, h.c, h.s, by omega, h.h, h.m⟩
structure CmI (x : ItT) : Prop where
  p : In64 x.p
  e : CmE x.e
theorem CmI.in {x : ItT} (h : CmI x) (ht : ¬ 16384 < x.e.t.size) : InI x := ⟨h.p, h.e.in ht⟩
end Go.Proofs.YtkmedlfbkddmoaaGreatDoor
/- Variables of many cells within a fence. -/
namespace Go.Proofs.YtkmedlfbkddmoaaGreatDoor
open Go.RowKit Go.Shelf Nums Sums
set_option linter.unusedVariables false
set_option linter.unusedSimpArgs false
set_option maxRecDepth 100000
theorem wpListIn_new_var {F : Fence} {n : Nat} {P : Program} {ops : Array Oper} {rest : List Oper} {o : Oper} {a : Act} {w : World} {Q : Exit → Act → World → Prop} (hg : o.guard = none) (t : TypeId) (ho : o.op = .alloc t)
    (cs : Array Value) (hz : (P.info? t).map (fun i => (i.zero, i.size)) = some (some (.agg cs), cs.size)) (h : ∀ g w', Hid (Made g cs t w w') → wpListIn F n P ops Q rest (a.put o.dst (.pointer (some ⟨g, 0, none⟩))) w') : wpListIn F n P ops Q (o :: rest) a w := by
  refine wpListIn_plain hg fun K hK => ?_
  have hk := hK _ _ (h w.heap.size _ ⟨rfl, heap_alloc_new w _, (Below.refl _ _).alloc (Nat.le_refl _) _⟩)
  refine ⟨fun f hf => (by simp [Oper.about, ho] at hf), ?_⟩
  rw [Oper.semAt_plain F _ _ (by rw [ho]; intro c hc; cases hc)]
  unfold execOp
  cases hq : P.info? t with
  | none => simp [hq] at hz
  | some i =>
    simp [hq] at hz
    simp [ho, Instr.alloc, newVar, zeroValue, typeInfo, hq, hz.1, go_sem]
    exact hk
theorem wpListIn_set_var {F : Fence} {n : Nat} {P : Program} {ops : Array Oper} {rest : List Oper} {o : Oper} {a : Act} {w : World} {Q : Exit → Act → World → Prop} (hgd : o.guard = none) (t : TypeId) (x y : Operand) (ho : o.op = .store t x y)
    (g : Nat) (D : Array Value) (hx : a.eval x = .pointer (some ⟨g, 0, none⟩)) (hy : a.eval y = .agg D) (t' : TypeId) (Z : Array Value) (hg : w.heap[g]? = some (.cells Z t' (0, 0))) (hi : (P.info? t).map (·.size) = some D.size) (hold : Z.size = D.size) (h1 : D.all (·.oneCell') = true)
    (h : ∀ w', Hid (Wrote g D t' w w') → wpListIn F n P ops Q rest (a.put o.dst undef) w') : wpListIn F n P ops Q (o :: rest) a w := by
  refine wpListIn_plain hgd fun K hK => ?_
  have hk := hK _ _ (h _ (wrote_row hg))
  refine ⟨fun f hf => (by simp [Oper.about, ho] at hf), ?_⟩
  rw [Oper.semAt_plain F _ _ (by rw [ho]; intro c hc; cases hc)]
  unfold execOp
  simp [ho, hx, hy, Instr.storeAt, Instr.sureAddr, Sem.run_bind, Result.andThen, run_storeVar_row w g t' t Z D hg hi hold h1]
  exact hk
theorem wpListIn_mid {F : Fence} {n : Nat} {P : Program} {ops : Array Oper} {rest : List Oper} {op : Oper} {a : Act} {w : World} {Q : Exit → Act → World → Prop} (hw : Region.wanted op (yielded ops a.tmps) = true) (ty : TypeId) (x : Operand) (ho : op.op = .load ty x)
    (b o : Nat) (hx : a.eval x = .pointer (some ⟨b, o, none⟩)) (D : Array Value) (d : TypeDesc) (hc : w.rangeAt b o D.toList)
    (hu : P.underlying ty = some d) (hd : d.isRow = true) (hi : (P.info? ty).map (·.size) = some D.size)
    (h : wpListIn F n P ops Q rest (a.put op.dst (.agg D)) w) : wpListIn F n P ops Q (op :: rest) a w := by
  refine BigFrame.wpListIn_want hw fun K hK => ?_
  have hk := hK _ _ h
  refine ⟨fun f hf => (by simp [Oper.about, ho] at hf), ?_⟩
  rw [Oper.semAt_plain F _ _ (by rw [ho]; intro c hc; cases hc)]
  unfold execOp
  simp only [ho, hx, Instr.loadAt, Instr.sureAddr, Sem.run_bind, Sem.run_pure, Result.andThen_ok, run_loadVar_mid w b o ty D.toList d hc hu hd (by simpa using hi)]
  exact hk
end Go.Proofs.YtkmedlfbkddmoaaGreatDoor
/- The document's anchor, Place and Latest. -/
namespace Go.Proofs.YtkmedlfbkddmoaaGreatDoor
open Go.RowKit Nums Sums
set_option linter.unusedVariables false
set_option linter.unusedSimpArgs false
set_option maxRecDepth 100000
end Go.Proofs.YtkmedlfbkddmoaaGreatDoor
/- What the program takes of a row, and that it is the thing whose bytes these are if it is laid as them. -/
namespace Go.Proofs.YtkmedlfbkddmoaaGreatDoor
open Nums Sums
set_option linter.unusedVariables false
set_option maxRecDepth 100000
end Go.Proofs.YtkmedlfbkddmoaaGreatDoor
/- What the small calls of package entry answer: within, CheckClaim, numberField; bytes.Equal; what a row's data, number and digest answer. -/
namespace Go.Proofs.YtkmedlfbkddmoaaGreatDoor
open Go.RowKit Sums Nums
set_option linter.unusedVariables false
set_option linter.unusedSimpArgs false
set_option maxRecDepth 100000
theorem eWithin_any (n a b : Int) (w : World) : Calls Tryz.prog 97 #[.int .i64 n, .int .i64 a, .int .i64 b] w fun e w' => e = .returned (.bool (decide (a ≤ n) && decide (n ≤ b))) ∧ w' = w := by
  by_cases h1 : a ≤ n
  · have d1 : decide (a ≤ n) = true := by rw [decide_eq_true_eq]; exact h1
    obtain ⟨x, hx⟩ : ∃ x, decide (n ≤ b) = x := ⟨_, rfl⟩
    rw [d1, hx]
    clear h1
    go_enter Tryz.func97, Tryz.ntmps97
    go_wp2
    go_ret
    exact ⟨rfl, rfl⟩
  · have d1 : decide (a ≤ n) = false := by rw [decide_eq_false_iff_not]; exact h1
    rw [d1]
    clear h1
    go_enter Tryz.func97, Tryz.ntmps97
    go_wp2
    go_ret
    exact ⟨rfl, rfl⟩
set_option maxHeartbeats 2000000 in
theorem eCheckC_any (c : ClT) (w : World) (C : Array Value) (HC : Hid (C = (ccells c).toArray)) :
    Calls Tryz.prog 137 #[.agg C] w fun e w' => e = .returned (.int .i64 (cE c)) ∧ Below w.heap.size w w' := by
  have HR := crow_new w c C HC 33
  have HB : Hid (Below w.heap.size w (w.alloc (.cells C 33))) := (Below.refl _ _).alloc (Nat.le_refl _) _
  have hnot : ∀ (x : Bool) (w : World), (Op.unary .not (.bool x)).run Tryz.prog w = .ok (.bool (!x)) w := fun _ _ => rfl
  have c0 := HR.r
  have c1 := HR.e
  have c2 := HR.n
  have c3 := HR.s
  simp only [Nat.zero_add] at c1 c2 c3
  have WI : Hid (∀ (n a b : Int) (W : World), Calls Tryz.prog 97 #[.int .i64 n, .int .i64 a, .int .i64 b] W fun e w' => e = .returned (.bool (decide (a ≤ n) && decide (n ≤ b))) ∧ w' = W) := eWithin_any
  obtain ⟨b1, hb1⟩ : ∃ b, (decide (1 ≤ c.r) && decide (c.r ≤ 5)) = b := ⟨_, rfl⟩
  obtain ⟨b2, hb2⟩ : ∃ b, (decide (1 ≤ c.e) && decide (c.e ≤ 900000000)) = b := ⟨_, rfl⟩
  obtain ⟨b3, hb3⟩ : ∃ b, (decide (1 ≤ c.n) && decide (c.n ≤ 3)) = b := ⟨_, rfl⟩
  obtain ⟨b4, hb4⟩ : ∃ b, (decide (0 ≤ c.s) && decide (c.s ≤ 100000)) = b := ⟨_, rfl⟩
  have W1 := hidk (WI.out c.r 1 5)
  have W2 := hidk (WI.out c.e 1 900000000)
  have W3 := hidk (WI.out c.n 1 3)
  have W4 := hidk (WI.out c.s 0 100000)
  rw [hb1] at W1
  rw [hb2] at W2
  rw [hb3] at W3
  rw [hb4] at W4
  have hE : cE c = if (b1 && (b2 && (b3 && b4))) = true then 0 else 60 := by
    rw [← hb1, ← hb2, ← hb3, ← hb4]
    unfold cE rightC
    simp only [Bool.and_assoc]
  rw [hE]
  obtain ⟨r, hr⟩ : ∃ r, r = c.r := ⟨_, rfl⟩
  obtain ⟨e, he⟩ : ∃ r, r = c.e := ⟨_, rfl⟩
  obtain ⟨n, hn⟩ : ∃ r, r = c.n := ⟨_, rfl⟩
  obtain ⟨s, hs⟩ : ∃ r, r = c.s := ⟨_, rfl⟩
  rw [← hr] at c0 W1
  rw [← he] at c1 W2
  rw [← hn] at c2 W3
  rw [← hs] at c3 W4
  clear hE hb1 hb2 hb3 hb4 WI HR hr he hn hs HC
  cases b1
  · go_enter Tryz.func137, Tryz.ntmps137
    go_wp2_with fail
    refine (W1.out _).mono ?_
    rintro e w1 ⟨rfl, rfl⟩
    go_wp2
    go_ret
    exact ⟨rfl, HB.out⟩
  cases b2
  · go_enter Tryz.func137, Tryz.ntmps137
    go_wp2_with fail
    refine (W1.out _).mono ?_
    rintro e w1 ⟨rfl, rfl⟩
    go_wp2_with fail
    refine (W2.out _).mono ?_
    rintro e w1 ⟨rfl, rfl⟩
    go_wp2
    go_ret
    exact ⟨rfl, HB.out⟩
  cases b3
  · go_enter Tryz.func137, Tryz.ntmps137
    go_wp2_with fail
    refine (W1.out _).mono ?_
    rintro e w1 ⟨rfl, rfl⟩
    go_wp2_with fail
    refine (W2.out _).mono ?_
    rintro e w1 ⟨rfl, rfl⟩
    go_wp2_with fail
    refine (W3.out _).mono ?_
    rintro e w1 ⟨rfl, rfl⟩
    go_wp2
    go_ret
    exact ⟨rfl, HB.out⟩
  cases b4
  · go_enter Tryz.func137, Tryz.ntmps137
    go_wp2_with fail
    refine (W1.out _).mono ?_
    rintro e w1 ⟨rfl, rfl⟩
    go_wp2_with fail
    refine (W2.out _).mono ?_
    rintro e w1 ⟨rfl, rfl⟩
    go_wp2_with fail
    refine (W3.out _).mono ?_
    rintro e w1 ⟨rfl, rfl⟩
    go_wp2_with fail
    refine (W4.out _).mono ?_
    rintro e w1 ⟨rfl, rfl⟩
    go_wp2
    go_ret
    exact ⟨rfl, HB.out⟩
  · go_enter Tryz.func137, Tryz.ntmps137
    go_wp2_with fail
    refine (W1.out _).mono ?_
    rintro e w1 ⟨rfl, rfl⟩
    go_wp2_with fail
    refine (W2.out _).mono ?_
    rintro e w1 ⟨rfl, rfl⟩
    go_wp2_with fail
    refine (W3.out _).mono ?_
    rintro e w1 ⟨rfl, rfl⟩
    go_wp2_with fail
    refine (W4.out _).mono ?_
    rintro e w1 ⟨rfl, rfl⟩
    go_wp2
    go_ret
    exact ⟨rfl, HB.out⟩
set_option maxHeartbeats 2000000 in
theorem eNum_any (t n : Int) (w : World) : Calls Tryz.prog 98 #[.int .i64 t, .int .i64 n] w fun e w' => e = .returned (.agg #[.int .i64 t, .string (nOf n)]) ∧ Below w.heap.size w w' := by
  obtain ⟨x, Hx⟩ : ∃ x : ByteArray, Hid (x = nOf n) := ⟨nOf n, hidk rfl⟩
  obtain ⟨E, HE⟩ : ∃ E, Hid (E = neOf n) := ⟨_, hidk rfl⟩
  have N1 : Hid (∀ W, Calls Tryz.prog 86 #[.int .i64 n] W fun e w' => e = .returned (.tuple #[.string x, .int .i64 E]) ∧ Below W.heap.size W w') := fun W => by rw [Hx.out, HE.out]; exact number_any n W
  rw [← Hx.out]
  clear Hx HE
  go_enter Tryz.func98, Tryz.ntmps98
  go_wp2_with fail
  refine (N1.out _).mono ?_
  rintro e w1 ⟨rfl, hb1⟩
  have hlt : w.heap.size < w1.heap.size := by have := hb1.size; simp at this; omega
  have hg : w1.heap[w.heap.size]? = some (.cells #[.int .i64 0, .string ⟨#[]⟩] 92 (0, 0)) := (hb1.block _ (by simp)).trans (heap_alloc_new w _)
  have c0 : w1.cell? ⟨w.heap.size, 0, none⟩ = some (.int .i64 0) := by rw [cell_of_row w1 _ 0 _ 92 (0, 0) hg]; rfl
  have c1 : w1.cell? ⟨w.heap.size, 1, none⟩ = some (.string ⟨#[]⟩) := by rw [cell_of_row w1 _ 1 _ 92 (0, 0) hg]; rfl
  have HB : Hid (Below w.heap.size w w1) := ((Below.refl _ _).alloc (Nat.le_refl _) _).trans (hb1.mono (by simp))
  have f0 : w1.frozen? ⟨w.heap.size, 0, none⟩ = false := frozen_of_row w1 _ 0 _ _ hg
  have f1 : w1.frozen? ⟨w.heap.size, 1, none⟩ = false := frozen_of_row w1 _ 1 _ _ hg
  clear hb1
  have HG2 := hidk (Go.heap_setCell_same _ _ 1 _ _ (.string x) (Go.heap_setCell_same w1 _ 0 _ _ (.int .i64 t) hg))
  clear hg
  go_wp2
  refine bodyPost_ret (v := .agg #[.int .i64 t, .string x]) ?_ rfl ⟨rfl, (HB.out.setCell (Nat.le_refl _) _).setCell (Nat.le_refl _) _⟩
  exact results_cell_row (p := 4) (ty := 92) rfl _ _ w.heap.size 92 #[.int .i64 t, .string x] (0, 0) _ rfl HG2.out Tryz.underlying92 rfl (by kernel_rfl)
theorem eReads_no (w : World) : Reads w none 0 0 [] := ⟨rfl, Nat.le_refl _, by decide, .inl ⟨rfl, rfl⟩⟩
theorem eBytes_no (w : World) (E : Int) : BytesE [] E (.returned (.tuple #[.slice none 0 0, .int .i64 E])) w := ⟨none, 0, rfl, eReads_no w⟩
theorem eRow_ok {fs : List (Int × ByteArray)} (h : layE 0 fs = 0) : rowOf fs = rowB fs := by unfold rowOf; rw [if_pos h]
theorem eLay_lit (W : World) (cs : Array Value) (fs : List (Int × ByteArray)) (n : Nat) (l : List UInt8) (hcs : cs.toList = fcells fs) (hn : fs.length = n) (h4 : n ≤ 400) (hm : ∀ f ∈ fs, f.2.size ≤ maxLen) (hk : layE 0 fs = 0) (hl : rowB fs = l) :
    Calls Tryz.prog 51 #[.slice (some ⟨W.heap.size, 0, none⟩) n n] (W.alloc (.cells cs 92)) fun e w' => ∃ a c, e = .returned (.tuple #[.slice a l.length c, .int .i64 0]) ∧ Reads w' a l.length c l ∧ Below W.heap.size W w' := by
  subst hn
  have hF := freads_lit W cs (0, 0) fs hcs (by omega) hm
  rw [← alloc_size W (.cells cs 92)] at hF
  refine (lay_reads (some ⟨W.heap.size, 0, none⟩) fs.length fs.length fs _ hF h4 (k := 0) (l := l) hk (by rw [eRow_ok hk, hl])).mono ?_
  rintro e w' ⟨a, c, he, hrd, hb⟩
  exact ⟨a, c, he, hrd, ((Below.refl _ _).alloc (Nat.le_refl _) _).trans (hb.mono (by simp))⟩
set_option maxHeartbeats 2000000 in
theorem ePutC_no (c : ClT) (hd : c.d.length = 32) (hr : rightC c = false) (w : World) (C : Array Value) (HC : Hid (C = (ccells c).toArray)) :
    Calls Tryz.prog 131 #[.agg C] w fun e w' => BytesE [] 60 e w' ∧ Below w.heap.size w w' := by
  have HSC : Hid ((Tryz.prog.info? 33).map (·.size) = some C.size) := by show _ = _; rw [sizeC, HC.out]; simp [ccells_length c hd]
  have HR : Hid ((w.alloc (.cells C 33)).heap[w.heap.size]? = some (.cells C 33 (0, 0))) := heap_alloc_new w _
  have HB : Hid (Below w.heap.size w (w.alloc (.cells C 33))) := (Below.refl _ _).alloc (Nat.le_refl _) _
  have K1 : Hid (∀ W, Calls Tryz.prog 137 #[.agg C] W fun e w' => e = .returned (.int .i64 60) ∧ Below W.heap.size W w') := fun W => by
    have := eCheckC_any c W C HC
    rwa [show cE c = 60 by unfold cE; rw [hr]; rfl] at this
  clear HC hr
  go_enter Tryz.func131, Tryz.ntmps131
  go_wp2_with (first
    | (show aD 5 _ _ _ _ _ _ _ _ _ _ _; refine wpList_load_row rfl 33 (.tmp 1) rfl w.heap.size rfl 33 C (0, 0) _ HR.out Tryz.underlying33 rfl HSC.out ?_; try simp only [Act.put, pS1, pS2, pS3])
    | fail)
  refine (K1.out _).mono ?_
  rintro e w1 ⟨rfl, hb1⟩
  have HB1 := hidk (HB.out.trans (hb1.mono HB.out.size))
  clear hb1
  go_wp2
  go_ret2
  exact ⟨eBytes_no _ _, HB1.out⟩
set_option maxHeartbeats 8000000 in
theorem ePutC_yes (c : ClT) (hd : c.d.length = 32) (hr : rightC c = true) (w : World) (C : Array Value) (HC : Hid (C = (ccells c).toArray)) :
    Calls Tryz.prog 131 #[.agg C] w fun e w' => BytesE (claimB c) 0 e w' ∧ Below w.heap.size w w' := by
  have HSC : Hid ((Tryz.prog.info? 33).map (·.size) = some C.size) := by show _ = _; rw [sizeC, HC.out]; simp [ccells_length c hd]
  have HRW : Hid ((w.alloc (.cells C 33)).heap[w.heap.size]? = some (.cells C 33 (0, 0))) := heap_alloc_new w _
  have K1 : Hid (∀ W, Calls Tryz.prog 137 #[.agg C] W fun e w' => e = .returned (.int .i64 0) ∧ Below W.heap.size W w') := fun W => by
    have := eCheckC_any c W C HC
    rwa [show cE c = 0 by unfold cE; rw [hr]; rfl] at this
  obtain ⟨r, Hr⟩ : ∃ r, Hid (r = c.r) := ⟨c.r, hidk rfl⟩
  obtain ⟨e, He⟩ : ∃ r, Hid (r = c.e) := ⟨c.e, hidk rfl⟩
  obtain ⟨n, Hn⟩ : ∃ r, Hid (r = c.n) := ⟨c.n, hidk rfl⟩
  obtain ⟨s, Hs⟩ : ∃ r, Hid (r = c.s) := ⟨c.s, hidk rfl⟩
  obtain ⟨n1, Hn1⟩ : ∃ s : ByteArray, Hid (s = nOf r) := ⟨nOf r, hidk rfl⟩
  obtain ⟨n2, Hn2⟩ : ∃ s : ByteArray, Hid (s = nOf e) := ⟨nOf e, hidk rfl⟩
  obtain ⟨n3, Hn3⟩ : ∃ x : ByteArray, Hid (x = nOf n) := ⟨nOf n, hidk rfl⟩
  obtain ⟨n4, Hn4⟩ : ∃ x : ByteArray, Hid (x = nOf s) := ⟨nOf s, hidk rfl⟩
  obtain ⟨x5, HX⟩ : ∃ x : ByteArray, Hid (x = bA c.d) := ⟨bA c.d, hidk rfl⟩
  obtain ⟨l, Hl⟩ : ∃ l, Hid (l = claimB c) := ⟨claimB c, hidk rfl⟩
  have N1 : Hid (∀ W, Calls Tryz.prog 98 #[.int .i64 1, .int .i64 r] W fun e w' => e = .returned (.agg #[.int .i64 1, .string n1]) ∧ Below W.heap.size W w') := fun W => by rw [Hn1.out]; exact eNum_any 1 r W
  have N2 : Hid (∀ W, Calls Tryz.prog 98 #[.int .i64 2, .int .i64 e] W fun e w' => e = .returned (.agg #[.int .i64 2, .string n2]) ∧ Below W.heap.size W w') := fun W => by rw [Hn2.out]; exact eNum_any 2 e W
  have N3 : Hid (∀ W, Calls Tryz.prog 98 #[.int .i64 3, .int .i64 n] W fun e w' => e = .returned (.agg #[.int .i64 3, .string n3]) ∧ Below W.heap.size W w') := fun W => by rw [Hn3.out]; exact eNum_any 3 n W
  have N4 : Hid (∀ W, Calls Tryz.prog 98 #[.int .i64 4, .int .i64 s] W fun e w' => e = .returned (.agg #[.int .i64 4, .string n4]) ∧ Below W.heap.size W w') := fun W => by rw [Hn4.out]; exact eNum_any 4 s W
  have hL5 : fieldsN (cL c) = [(1, n1), (2, n2), (3, n3), (4, n4), (5, x5)] := by rw [Hn1.out, Hn2.out, Hn3.out, Hn4.out, HX.out, Hr.out, He.out, Hn.out, Hs.out]; rfl
  have LY : Hid (∀ W, Calls Tryz.prog 51 #[.slice (some ⟨W.heap.size, 0, none⟩) 5 5] (W.alloc (.cells #[.int .i64 1, .string n1, .int .i64 2, .string n2, .int .i64 3, .string n3, .int .i64 4, .string n4, .int .i64 5, .string x5] 92)) fun e w' => ∃ a c, e = .returned (.tuple #[.slice a l.length c, .int .i64 0]) ∧ Reads w' a l.length c l ∧ Below W.heap.size W w') := fun W => by
    have hk := layE_cL c hd
    rw [hL5] at hk
    refine eLay_lit W _ [((1 : Int), n1), (2, n2), (3, n3), (4, n4), (5, x5)] 5 l rfl rfl (by omega) (fun y hy => ?_) hk (by rw [Hl.out, ← hL5]; rfl)
    simp only [List.mem_cons, List.not_mem_nil, or_false] at hy
    unfold maxLen
    rcases hy with rfl | rfl | rfl | rfl | rfl
    · have := nOf_size r; rw [← Hn1.out] at this; show n1.size ≤ _; omega
    · have := nOf_size e; rw [← Hn2.out] at this; show n2.size ≤ _; omega
    · have := nOf_size n; rw [← Hn3.out] at this; show n3.size ≤ _; omega
    · have := nOf_size s; rw [← Hn4.out] at this; show n4.size ≤ _; omega
    · have := bA_size c.d; rw [← HX.out] at this; show x5.size ≤ _; omega
  have CV : Hid (∀ W, CRow W w.heap.size 0 c → Sem.run Tryz.prog (convert 69 9 (.slice (some ⟨w.heap.size, 4, none⟩) 32 32)) W = .ok (.string x5) W) := fun W h => by
    rw [HX.out]
    exact conv_at W w.heap.size 4 c.d hd (by have := h.d; rwa [Nat.zero_add] at this)
  have HR := hidk (crow_new w c C HC 33)
  have HB : Hid (Below w.heap.size w (w.alloc (.cells C 33))) := (Below.refl _ _).alloc (Nat.le_refl _) _
  have hsl := slice_at
  rw [← Hl.out]
  clear HC HX hL5 Hn1 Hn2 Hn3 Hn4 Hl hr
  go_enter Tryz.func131, Tryz.ntmps131
  go_wp2_with (first
    | (show aD 5 _ _ _ _ _ _ _ _ _ _ _; refine wpList_load_row rfl 33 (.tmp 1) rfl w.heap.size rfl 33 C (0, 0) _ HRW.out Tryz.underlying33 rfl HSC.out ?_; try simp only [Act.put, pS1, pS2, pS3])
    | fail)
  refine (K1.out _).mono ?_
  rintro e w0 ⟨rfl, hb0⟩
  have HB0 := hidk (HB.out.trans (hb0.mono HB.out.size))
  have HR0 := hidk (HR.out.keep hb0)
  clear hb0 HB HR HRW K1
  go_wp2
  refine wp_region_held_drew (S := (fun W => CRow W w.heap.size 0 c)) (by kernel_rfl) (show CRow w0.drew w.heap.size 0 c from HR0.out.keep (Below.refl _ _).drew) (fun hHeld => ?_)
  refine zX 0 (.pointer (some ⟨w.heap.size, 0, none⟩)) rfl hHeld ?_
  try simp only [Act.put, pS1, pS2, pS3]
  refine zW 1 (.int .i64 r) rfl (Or.inl ⟨by rfl, by intro W hSw; have h1 := hSw.r; rw [← Hr.out] at h1; go_simp⟩) hHeld ?_
  try simp only [Act.put, pS1, pS2, pS3]
  refine zX 3 (.pointer (some ⟨w.heap.size, 1, none⟩)) rfl hHeld ?_
  try simp only [Act.put, pS1, pS2, pS3]
  refine zW 4 (.int .i64 e) rfl (Or.inl ⟨by rfl, by intro W hSw; have h1 := hSw.e; rw [← He.out, Nat.zero_add] at h1; go_simp⟩) hHeld ?_
  try simp only [Act.put, pS1, pS2, pS3]
  refine zX 6 (.pointer (some ⟨w.heap.size, 2, none⟩)) rfl hHeld ?_
  try simp only [Act.put, pS1, pS2, pS3]
  refine zW 7 (.int .i64 n) rfl (Or.inl ⟨by rfl, by intro W hSw; have h1 := hSw.n; rw [← Hn.out, Nat.zero_add] at h1; go_simp⟩) hHeld ?_
  try simp only [Act.put, pS1, pS2, pS3]
  refine zX 9 (.pointer (some ⟨w.heap.size, 3, none⟩)) rfl hHeld ?_
  try simp only [Act.put, pS1, pS2, pS3]
  refine zW 10 (.int .i64 s) rfl (Or.inl ⟨by rfl, by intro W hSw; have h1 := hSw.s; rw [← Hs.out, Nat.zero_add] at h1; go_simp⟩) hHeld ?_
  try simp only [Act.put, pS1, pS2, pS3]
  refine zX 12 (.pointer (some ⟨w.heap.size, 4, none⟩)) rfl hHeld ?_
  try simp only [Act.put, pS1, pS2, pS3]
  refine zW 13 (.slice (some ⟨w.heap.size, 4, none⟩) 32 32) rfl (Or.inl ⟨by rfl, by intro W hSw; have := hsl W w.heap.size 4; go_simp⟩) hHeld ?_
  try simp only [Act.put, pS1, pS2, pS3]
  refine zW 14 (.string x5) rfl (Or.inl ⟨by rfl, by intro W hSw; have := CV.out W hSw; go_simp⟩) hHeld ?_
  try simp only [Act.put, pS1, pS2, pS3]
  refine zX 15 (.agg #[.int .i64 5, .string x5]) rfl hHeld ?_
  try simp only [Act.put, pS1, pS2, pS3]
  refine wpAnyH_ready (rs := [2]) (by kernel_rfl) (by simp) ?_
  refine (AllReadyH.cons (o := { dst := some 12, op := .call { callee := .value (.func 98), args := #[.const (.int .i64 1), .tmp 11], argTypes := #[3, 3] }, type := 92, pos := "entry.go:54", after := #[zD 1], guard := none }) rfl (fun K hK => ?_) AllReadyH.nil)
  go_simp
  refine (N1.out _).mono ?_
  rintro e w2 ⟨rfl, hb1⟩
  have HB1 := hidk (HB0.out.drew.trans (hb1.mono HB0.out.size))
  go_wp2_with fail
  refine hK.out _ _ (hHeld.keep hb1) (fun hHeld => ?_)
  clear hK K
  try simp only [Act.put, pS1, pS2, pS3]
  refine wpAnyH_ready (rs := [5]) (by kernel_rfl) (by simp) ?_
  refine (AllReadyH.cons (o := { dst := some 15, op := .call { callee := .value (.func 98), args := #[.const (.int .i64 2), .tmp 14], argTypes := #[3, 3] }, type := 92, pos := "entry.go:55", after := #[zD 4, zC 2], guard := none }) rfl (fun K hK => ?_) AllReadyH.nil)
  go_simp
  refine (N2.out _).mono ?_
  rintro e w5 ⟨rfl, hb2⟩
  have HB2 := hidk (HB1.out.trans (hb2.mono HB1.out.size))
  go_wp2_with fail
  refine hK.out _ _ (hHeld.keep hb2) (fun hHeld => ?_)
  clear hK K
  try simp only [Act.put, pS1, pS2, pS3]
  refine wpAnyH_ready (rs := [8]) (by kernel_rfl) (by simp) ?_
  refine (AllReadyH.cons (o := { dst := some 18, op := .call { callee := .value (.func 98), args := #[.const (.int .i64 3), .tmp 17], argTypes := #[3, 3] }, type := 92, pos := "entry.go:56", after := #[zD 7, zC 5], guard := none }) rfl (fun K hK => ?_) AllReadyH.nil)
  go_simp
  refine (N3.out _).mono ?_
  rintro e w8 ⟨rfl, hb3⟩
  have HB3 := hidk (HB2.out.trans (hb3.mono HB2.out.size))
  go_wp2_with fail
  refine hK.out _ _ (hHeld.keep hb3) (fun hHeld => ?_)
  clear hK K
  try simp only [Act.put, pS1, pS2, pS3]
  refine wpAnyH_ready (rs := [11]) (by kernel_rfl) (by simp) ?_
  refine (AllReadyH.cons (o := { dst := some 21, op := .call { callee := .value (.func 98), args := #[.const (.int .i64 4), .tmp 20], argTypes := #[3, 3] }, type := 92, pos := "entry.go:57", after := #[zD 10, zC 8], guard := none }) rfl (fun K hK => ?_) AllReadyH.nil)
  go_simp
  refine (N4.out _).mono ?_
  rintro e w11 ⟨rfl, hb4⟩
  have HB4 := hidk (HB3.out.trans (hb4.mono HB3.out.size))
  go_wp2_with fail
  refine hK.out _ _ (hHeld.keep hb4) (fun hHeld => ?_)
  clear hK K
  try simp only [Act.put, pS1, pS2, pS3]
  refine wpAnyH_ready (rs := [16]) (by kernel_rfl) (by simp) ?_
  refine (AllReadyH.cons (o := { dst := some 26, op := .buildSlice 95 5 #[(0, .tmp 12), (1, .tmp 15), (2, .tmp 18), (3, .tmp 21), (4, .tmp 25)], type := 95, pos := "entry.go:53", after := #[zD 2, zD 5, zD 8, zD 11, zD 15], guard := none }) rfl (fun K hK => ?_) AllReadyH.nil)
  have HR14 := hidk hHeld
  go_simp
  refine hK.out _ _ (hHeld.keep ((Below.refl _ _).alloc (Nat.le_refl _) _)) (fun hHeld => ?_)
  clear hK K
  try simp only [Act.put, pS1, pS2, pS3]
  refine wpAnyH_ready (rs := [17]) (by kernel_rfl) (by simp) ?_
  refine (AllReadyH.cons (o := { dst := some 27, op := .call { callee := .value (.func 51), args := #[.tmp 26], argTypes := #[95] }, type := 70, pos := "entry.go:53", after := #[zD 16, zC 11], guard := none }) rfl (fun K hK => ?_) AllReadyH.nil)
  go_simp
  refine (LY.out _).mono ?_
  rintro e w17 ⟨a17, c17, rfl, hrd, hb6⟩
  have HRD := hidk hrd
  have HBF := hidk (HB4.out.trans (hb6.mono HB4.out.size))
  go_wp2_with fail
  refine hK.out _ _ (HR14.out.keep hb6) (fun hHeld => ?_)
  clear hK K
  try simp only [Act.put, pS1, pS2, pS3]
  refine zX 18 (.slice a17 l.length c17) rfl hHeld ?_
  try simp only [Act.put, pS1, pS2, pS3]
  refine zX 19 (.int .i64 0) rfl hHeld ?_
  try simp only [Act.put, pS1, pS2, pS3]
  refine zX 20 (.slice a17 l.length c17) rfl hHeld ?_
  try simp only [Act.put, pS1, pS2, pS3]
  refine zX 21 (.int .i64 0) rfl hHeld ?_
  try simp only [Act.put, pS1, pS2, pS3]
  refine wpAnyH_done (by kernel_rfl) ?_ _
  go_wp2
  go_ret2
  exact ⟨⟨_, _, rfl, HRD.out⟩, HBF.out⟩
theorem ePutC_any (c : ClT) (hd : c.d.length = 32) (w : World) (C : Array Value) (HC : Hid (C = (ccells c).toArray)) :
    Calls Tryz.prog 131 #[.agg C] w fun e w' => BytesE (cB c) (cE c) e w' ∧ Below w.heap.size w w' := by
  unfold cB cE
  cases hr : rightC c
  · exact ePutC_no c hd hr w C HC
  · exact ePutC_yes c hd hr w C HC
theorem hWithin_any (n a b : Int) (w : World) : Calls Tryz.prog 82 #[.int .i64 n, .int .i64 a, .int .i64 b] w fun e w' => e = .returned (.bool (decide (a ≤ n) && decide (n ≤ b))) ∧ w' = w := by
  by_cases h1 : a ≤ n
  · have d1 : decide (a ≤ n) = true := by rw [decide_eq_true_eq]; exact h1
    obtain ⟨x, hx⟩ : ∃ x, decide (n ≤ b) = x := ⟨_, rfl⟩
    rw [d1, hx]
    clear h1
    go_enter Tryz.func82, Tryz.ntmps82
    go_wp2
    go_ret
    exact ⟨rfl, rfl⟩
  · have d1 : decide (a ≤ n) = false := by rw [decide_eq_false_iff_not]; exact h1
    rw [d1]
    clear h1
    go_enter Tryz.func82, Tryz.ntmps82
    go_wp2
    go_ret
    exact ⟨rfl, rfl⟩
set_option maxHeartbeats 2000000 in
theorem hCheck_any (h : HdT) (hd : h.d.length = 32) (w : World) (C : Array Value) (HC : Hid (C = (hcells h).toArray)) :
    Calls Tryz.prog 64 #[.agg C] w fun e w' => e = .returned (.int .i64 (putE h)) ∧ Below w.heap.size w w' := by
  have HR := hrow_new w h hd C HC 26
  have HB : Hid (Below w.heap.size w (w.alloc (.cells C 26))) := (Below.refl _ _).alloc (Nat.le_refl _) _
  have c0 := HR.r
  have c1 := HR.e
  have c2 := HR.s
  have c4 := HR.t
  simp only [Nat.zero_add] at c1 c2 c4
  have hnot : ∀ (x : Bool) (w : World), (Op.unary .not (.bool x)).run Tryz.prog w = .ok (.bool (!x)) w := fun _ _ => rfl
  have WI : Hid (∀ (n a b : Int) (W : World), Calls Tryz.prog 82 #[.int .i64 n, .int .i64 a, .int .i64 b] W fun e w' => e = .returned (.bool (decide (a ≤ n) && decide (n ≤ b))) ∧ w' = W) := hWithin_any
  obtain ⟨b1, hb1⟩ : ∃ b, (decide (1 ≤ h.r) && decide (h.r ≤ 5)) = b := ⟨_, rfl⟩
  obtain ⟨b2, hb2⟩ : ∃ b, (decide (1 ≤ h.e) && decide (h.e ≤ 900000000)) = b := ⟨_, rfl⟩
  obtain ⟨b3, hb3⟩ : ∃ b, (decide (0 ≤ h.s) && decide (h.s ≤ 100000)) = b := ⟨_, rfl⟩
  obtain ⟨b4, hb4⟩ : ∃ b, (decide (0 ≤ h.t) && decide (h.t ≤ 900000000)) = b := ⟨_, rfl⟩
  have W1 := hidk (WI.out h.r 1 5)
  have W2 := hidk (WI.out h.e 1 900000000)
  have W3 := hidk (WI.out h.s 0 100000)
  have W4 := hidk (WI.out h.t 0 900000000)
  rw [hb1] at W1
  rw [hb2] at W2
  rw [hb3] at W3
  rw [hb4] at W4
  have hE : putE h = if (b1 && (b2 && (b3 && b4))) = true then 0 else 70 := by
    rw [← hb1, ← hb2, ← hb3, ← hb4]
    unfold putE rightH
    simp only [Bool.and_assoc]
  rw [hE]
  obtain ⟨r, hr⟩ : ∃ r, r = h.r := ⟨_, rfl⟩
  obtain ⟨e, he⟩ : ∃ r, r = h.e := ⟨_, rfl⟩
  obtain ⟨s, hs⟩ : ∃ r, r = h.s := ⟨_, rfl⟩
  obtain ⟨t, ht⟩ : ∃ r, r = h.t := ⟨_, rfl⟩
  rw [← hr] at c0 W1
  rw [← he] at c1 W2
  rw [← hs] at c2 W3
  rw [← ht] at c4 W4
  clear hE hb1 hb2 hb3 hb4 WI HR hr he hs ht HC
  cases b1
  · go_enter Tryz.func64, Tryz.ntmps64
    go_wp2_with fail
    refine (W1.out _).mono ?_
    rintro e w1 ⟨rfl, rfl⟩
    go_wp2
    go_ret
    exact ⟨rfl, HB.out⟩
  cases b2
  · go_enter Tryz.func64, Tryz.ntmps64
    go_wp2_with fail
    refine (W1.out _).mono ?_
    rintro e w1 ⟨rfl, rfl⟩
    go_wp2_with fail
    refine (W2.out _).mono ?_
    rintro e w1 ⟨rfl, rfl⟩
    go_wp2
    go_ret
    exact ⟨rfl, HB.out⟩
  cases b3
  · go_enter Tryz.func64, Tryz.ntmps64
    go_wp2_with fail
    refine (W1.out _).mono ?_
    rintro e w1 ⟨rfl, rfl⟩
    go_wp2_with fail
    refine (W2.out _).mono ?_
    rintro e w1 ⟨rfl, rfl⟩
    go_wp2_with fail
    refine (W3.out _).mono ?_
    rintro e w1 ⟨rfl, rfl⟩
    go_wp2
    go_ret
    exact ⟨rfl, HB.out⟩
  cases b4
  · go_enter Tryz.func64, Tryz.ntmps64
    go_wp2_with fail
    refine (W1.out _).mono ?_
    rintro e w1 ⟨rfl, rfl⟩
    go_wp2_with fail
    refine (W2.out _).mono ?_
    rintro e w1 ⟨rfl, rfl⟩
    go_wp2_with fail
    refine (W3.out _).mono ?_
    rintro e w1 ⟨rfl, rfl⟩
    go_wp2_with fail
    refine (W4.out _).mono ?_
    rintro e w1 ⟨rfl, rfl⟩
    go_wp2
    go_ret
    exact ⟨rfl, HB.out⟩
  · go_enter Tryz.func64, Tryz.ntmps64
    go_wp2_with fail
    refine (W1.out _).mono ?_
    rintro e w1 ⟨rfl, rfl⟩
    go_wp2_with fail
    refine (W2.out _).mono ?_
    rintro e w1 ⟨rfl, rfl⟩
    go_wp2_with fail
    refine (W3.out _).mono ?_
    rintro e w1 ⟨rfl, rfl⟩
    go_wp2_with fail
    refine (W4.out _).mono ?_
    rintro e w1 ⟨rfl, rfl⟩
    go_wp2
    go_ret
    exact ⟨rfl, HB.out⟩
theorem putE_ok (h : HdT) : putE h = 0 ∧ rightH h = true ∨ putE h = 70 ∧ rightH h = false := by
  unfold putE
  cases rightH h
  · exact .inr ⟨rfl, rfl⟩
  · exact .inl ⟨rfl, rfl⟩
set_option maxHeartbeats 2000000 in
theorem hMay_any (s : SgT) (hd : s.h.d.length = 32) (w : World) (C : Array Value) (HC : Hid (C = (scells s).toArray)) :
    Calls Tryz.prog 50 #[.agg C] w fun e w' => e = .returned (.bool (mayS s)) ∧ Below w.heap.size w w' := by
  have HR := hidk (srow_new w s hd C HC 28)
  have HB : Hid (Below w.heap.size w (w.alloc (.cells C 28))) := (Below.refl _ _).alloc (Nat.le_refl _) _
  obtain ⟨HCs, HHC, HSH, H36⟩ := head_row s.h hd
  have HRH : Hid ((w.alloc (.cells C 28)).rangeAt w.heap.size 0 HCs.toList) := by rw [HHC.out]; exact HR.out.h
  obtain ⟨n, Hn⟩ : ∃ n, Hid (n = s.n) := ⟨s.n, hidk rfl⟩
  obtain ⟨b2, hb2⟩ : ∃ b, (decide (1 ≤ n) && decide (n ≤ 3)) = b := ⟨_, rfl⟩
  obtain ⟨E, hE0⟩ : ∃ E, E = putE s.h := ⟨_, rfl⟩
  have R1 : Hid (∀ W, Calls Tryz.prog 64 #[.agg HCs] W fun e w' => e = .returned (.int .i64 E) ∧ Below W.heap.size W w') := fun W => by rw [hE0]; exact hCheck_any s.h hd W HCs HHC
  have W2 : Hid (∀ W, Calls Tryz.prog 82 #[.int .i64 n, .int .i64 1, .int .i64 3] W fun e w' => e = .returned (.bool b2) ∧ w' = W) := fun W => by rw [← hb2]; exact hWithin_any n 1 3 W
  have hM : mayS s = (rightH s.h && b2) := by
    rw [← hb2, Hn.out]
    unfold mayS
    rw [Bool.and_assoc]
  rw [hM]
  have hp := putE_ok s.h
  rw [← hE0] at hp
  clear hM hb2 HC hE0
  rcases hp with ⟨rfl, hr⟩ | ⟨rfl, hr⟩
  · rw [hr]
    clear hr
    go_enter Tryz.func50, Tryz.ntmps50
    go_wp2_with (first
      | (show aD 4 _ _ _ _ _ _ _ _ _ _ _; refine wpList_mid rfl 26 (.tmp 3) rfl w.heap.size 0 rfl HCs _ HRH.out Tryz.underlying26 rfl HSH.out ?_; try simp only [Act.put, pS1, pS2, pS3])
      | fail)
    refine (R1.out _).mono ?_
    rintro e w1 ⟨rfl, hb⟩
    have HB1 := hidk (HB.out.trans (hb.mono HB.out.size))
    have hc := (HR.out.keep hb).n
    rw [← Hn.out, Nat.zero_add] at hc
    clear hb
    go_wp2_with fail
    refine (W2.out _).mono ?_
    rintro e w2 ⟨rfl, rfl⟩
    go_wp2
    go_ret
    exact ⟨rfl, HB1.out⟩
  · rw [hr]
    clear hr
    go_enter Tryz.func50, Tryz.ntmps50
    go_wp2_with (first
      | (show aD 4 _ _ _ _ _ _ _ _ _ _ _; refine wpList_mid rfl 26 (.tmp 3) rfl w.heap.size 0 rfl HCs _ HRH.out Tryz.underlying26 rfl HSH.out ?_; try simp only [Act.put, pS1, pS2, pS3])
      | fail)
    refine (R1.out _).mono ?_
    rintro e w1 ⟨rfl, hb⟩
    have HB1 := hidk (HB.out.trans (hb.mono HB.out.size))
    clear hb
    go_wp2
    go_ret
    exact ⟨rfl, HB1.out⟩
set_option maxHeartbeats 2000000 in
theorem hNum_any (t n : Int) (w : World) : Calls Tryz.prog 53 #[.int .i64 t, .int .i64 n] w fun e w' => e = .returned (.agg #[.int .i64 t, .string (nOf n)]) ∧ Below w.heap.size w w' := by
  obtain ⟨x, Hx⟩ : ∃ x : ByteArray, Hid (x = nOf n) := ⟨nOf n, hidk rfl⟩
  obtain ⟨E, HE⟩ : ∃ E, Hid (E = neOf n) := ⟨_, hidk rfl⟩
  have N1 : Hid (∀ W, Calls Tryz.prog 86 #[.int .i64 n] W fun e w' => e = .returned (.tuple #[.string x, .int .i64 E]) ∧ Below W.heap.size W w') := fun W => by rw [Hx.out, HE.out]; exact number_any n W
  rw [← Hx.out]
  clear Hx HE
  go_enter Tryz.func53, Tryz.ntmps53
  go_wp2_with fail
  refine (N1.out _).mono ?_
  rintro e w1 ⟨rfl, hb1⟩
  have hlt : w.heap.size < w1.heap.size := by have := hb1.size; simp at this; omega
  have hg : w1.heap[w.heap.size]? = some (.cells #[.int .i64 0, .string ⟨#[]⟩] 92 (0, 0)) := (hb1.block _ (by simp)).trans (heap_alloc_new w _)
  have c0 : w1.cell? ⟨w.heap.size, 0, none⟩ = some (.int .i64 0) := by rw [cell_of_row w1 _ 0 _ 92 (0, 0) hg]; rfl
  have c1 : w1.cell? ⟨w.heap.size, 1, none⟩ = some (.string ⟨#[]⟩) := by rw [cell_of_row w1 _ 1 _ 92 (0, 0) hg]; rfl
  have HB : Hid (Below w.heap.size w w1) := ((Below.refl _ _).alloc (Nat.le_refl _) _).trans (hb1.mono (by simp))
  have f0 : w1.frozen? ⟨w.heap.size, 0, none⟩ = false := frozen_of_row w1 _ 0 _ _ hg
  have f1 : w1.frozen? ⟨w.heap.size, 1, none⟩ = false := frozen_of_row w1 _ 1 _ _ hg
  clear hb1
  have HG2 := hidk (Go.heap_setCell_same _ _ 1 _ _ (.string x) (Go.heap_setCell_same w1 _ 0 _ _ (.int .i64 t) hg))
  clear hg
  go_wp2
  refine bodyPost_ret (v := .agg #[.int .i64 t, .string x]) ?_ rfl ⟨rfl, (HB.out.setCell (Nat.le_refl _) _).setCell (Nat.le_refl _) _⟩
  exact results_cell_row (p := 4) (ty := 92) rfl _ _ w.heap.size 92 #[.int .i64 t, .string x] (0, 0) _ rfl HG2.out Tryz.underlying92 rfl (by kernel_rfl)
set_option maxHeartbeats 2000000 in
theorem hDig_any (t : Int) (d : List UInt8) (hd : d.length = 32) (w : World) (D : Array Value) (HD : Hid (D = (cellsOf d).toArray)) : Calls Tryz.prog 54 #[.int .i64 t, .agg D] w fun e w' => e = .returned (.agg #[.int .i64 t, .string (bA d)]) ∧ Below w.heap.size w w' := by
  obtain ⟨x, Hx⟩ : ∃ x : ByteArray, Hid (x = bA d) := ⟨bA d, hidk rfl⟩
  have HCV : Hid (∀ (W : World) (g : Nat), W.heap[g]? = some (.cells D 24 (0, 0)) → Sem.run Tryz.prog (convert 69 9 (.slice (some ⟨g, 0, none⟩) 32 32)) W = .ok (.string x) W) := fun W g h => by
    rw [Hx.out]
    refine conv_at W g 0 d hd fun j v hj => ?_
    rw [Nat.zero_add, cell_of_row W g j _ _ (0, 0) h, HD.out]
    simpa using hj
  have HSL := hidk slice_at
  rw [← Hx.out]
  clear Hx HD
  have hn0 : (w.alloc (.cells D 24)).heap[w.heap.size]? = some (.cells D 24 (0, 0)) := heap_alloc_new w _
  have hcv := HCV.out ((w.alloc (.cells D 24)).alloc (.cells #[.int .i64 0, .string ⟨#[]⟩] 92)) w.heap.size (heap_keep hn0)
  have hsl := HSL.out ((w.alloc (.cells D 24)).alloc (.cells #[.int .i64 0, .string ⟨#[]⟩] 92)) w.heap.size 0
  have hg := heap_alloc_new (w.alloc (.cells D 24)) (.cells #[.int .i64 0, .string ⟨#[]⟩] 92)
  rw [alloc_size] at hg
  have hg2 := heap_alloc_new (w.alloc (.cells D 24)) (.cells #[.int .i64 t, .string x] 92)
  rw [alloc_size] at hg2
  have HG2 := hidk hg2
  have HB : Hid (Below w.heap.size w ((w.alloc (.cells D 24)).alloc (.cells #[.int .i64 t, .string x] 92))) := ((Below.refl _ _).alloc (Nat.le_refl _) _).alloc (by simp) _
  clear HCV HSL hn0 hg hg2
  go_enter Tryz.func54, Tryz.ntmps54
  go_wp2
  refine bodyPost_ret (v := .agg #[.int .i64 t, .string x]) ?_ rfl ⟨rfl, HB.out⟩
  exact results_cell_row (p := 4) (ty := 92) rfl _ _ (w.heap.size + 1) 92 #[.int .i64 t, .string x] (0, 0) _ rfl HG2.out Tryz.underlying92 rfl (by kernel_rfl)
def tkD (tag : Int) (fs : List (Int × ByteArray)) : ByteArray := match fs with
  | f :: _ => if f.1 = tag then f.2 else ⟨#[]⟩
  | [] => ⟨#[]⟩
def tkB (tag : Int) (fs : List (Int × ByteArray)) : Bool := match fs with
  | f :: _ => decide (f.1 = tag)
  | [] => false
end Go.Proofs.YtkmedlfbkddmoaaGreatDoor
