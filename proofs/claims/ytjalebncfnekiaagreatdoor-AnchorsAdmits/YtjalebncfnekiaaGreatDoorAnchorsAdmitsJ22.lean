/- Texts of our own that the row of AnchorsAdmits leans on, part 22. -/
import Derived.Test.YtjalebncfnekiaaGreatDoorAnchorsAdmitsJ0
import Derived.Test.YtjalebncfnekiaaGreatDoorAnchorsAdmitsJ15
import Derived.Test.YtjalebncfnekiaaGreatDoorAnchorsAdmitsJ17
import Derived.Test.YtjalebncfnekiaaGreatDoorAnchorsAdmitsJ19
import Derived.Test.YtjalebncfnekiaaGreatDoorAnchorsAdmitsJ20
import Derived.Test.YtjalebncfnekiaaGreatDoorAnchorsAdmitsJ21
import Derived.RangeFuncNested
import Derived.RangeFuncBound
import Derived.RangeFuncCalls
import Derived.RangeFuncLeaves
import Derived.RangeFuncBox
import Derived.Shelf.Abstract
import Derived.Shelf.RegionOpen
import Derived.WalkKit
import Derived.OwnWalkIn
import Derived.TacticsInMore
import Derived.LoopNIn
import Derived.LoopIn
import Derived.Lib.BufferWrite
/- What the calls of package head answer, as the document says (their proofs are of one commit of the code). -/
namespace Go.Proofs.YtjalebncfnekiaaGreatDoor
open Go.RowKit Sums Nums
set_option linter.unusedVariables false
set_option linter.unusedSimpArgs false
set_option maxRecDepth 100000
def TabH (w : World) : Prop := Table 1 w
theorem TabH.keep {w w' : World} (h : TabH w) (hb : Below w.heap.size w w') : TabH w' := Table.keep h hb
structure InH (h : HdT) : Prop where
  d : h.d.length = 32
  r : In64 h.r
  e : In64 h.e
  s : In64 h.s
  t : In64 h.t
structure InS (s : SgT) : Prop where
  h : InH s.h
  n : In64 s.n
  g : s.g.length = 32
def signV (z : SgT) : Value := .agg (scells z).toArray
def BytesE (bs : List UInt8) (E : Int) (e : Ending) (w' : World) : Prop := ∃ a cap, e = .returned (.tuple #[.slice a bs.length cap, .int .i64 E]) ∧ Reads w' a bs.length cap bs
def putB (h : HdT) : List UInt8 := if rightH h = true then headB h else []
def putE (h : HdT) : Int := if rightH h = true then 0 else 70
structure HeadC : Prop where
  check : ∀ (h : HdT) (hh : InH h) (w : World) (C : Array Value) (HC : Hid (C = (hcells h).toArray)),
    Calls Tryz.prog 47 #[.agg C] w fun e w' => e = .returned (.int .i64 (putE h)) ∧ Below w.heap.size w w'
  put : ∀ (h : HdT) (hh : InH h) (w : World) (C : Array Value) (HC : Hid (C = (hcells h).toArray)),
    Calls Tryz.prog 74 #[.agg C] w fun e w' => BytesE (putB h) (putE h) e w' ∧ Below w.heap.size w w'
  sign : ∀ (master : List UInt8) (h : HdT) (n : Int) (w : World) (M C R : Array Value) (HM : Hid (M = (cellsOf master).toArray)) (HC : Hid (C = (hcells h).toArray)) (hm : master.length = 32) (hh : InH h) (hn : In64 n) (hT : TabH w) (HR : Hid (R = (scells (signO master h n)).toArray)),
    Calls Tryz.prog 36 #[.agg M, .agg C, .int .i64 n] w fun e w' => e = .returned (.tuple #[.agg R, .int .i64 (signE h n)]) ∧ Below w.heap.size w w'
  verify : ∀ (master : List UInt8) (s : SgT) (w : World) (M C : Array Value) (HM : Hid (M = (cellsOf master).toArray)) (HC : Hid (C = (scells s).toArray)) (hm : master.length = 32) (hs : InS s) (hT : TabH w),
    Calls Tryz.prog 15 #[.agg M, .agg C] w fun e w' => e = .returned (.int .i64 (verE master s)) ∧ Below w.heap.size w w'
theorem right_in {h : HdT} (hr : rightH h = true) (hd : h.d.length = 32) : InH h := by
  have := (rightH_iff h).1 hr
  refine ⟨hd, ?_, ?_, ?_, ?_⟩ <;> unfold In64 <;> omega
theorem may_in {s : SgT} (hm : mayS s = true) (hd : s.h.d.length = 32) (hg : s.g.length = 32) : InS s := by
  have := (mayS_iff s).1 hm
  exact ⟨right_in this.1 hd, by unfold In64; omega, hg⟩
theorem wpList_build_two {P : Program} {ops : Array Oper} {rest : List Oper} {o : Oper} {a : Act} {w : World} {Q : Exit → Act → World → Prop} (hg : o.guard = none) (t : TypeId) (i j : Nat) (x y : Operand) (ho : o.op = .build t #[(i, x), (j, y)])
    (cs : Array Value) (v u : Value) (hv : a.eval x = v) (hu : a.eval y = u) (hb : P.built t [(i, v), (j, u)] = some cs) (h : wpList P ops Q rest (a.put o.dst (.agg cs)) w) : wpList P ops Q (o :: rest) a w :=
  wpList_build_row hg t #[(i, x), (j, y)] ho cs (by simpa [hv, hu] using hb) h
def ccells (c : ClT) : List Value := [.int .i64 c.r, .int .i64 c.e, .int .i64 c.n, .int .i64 c.s] ++ cellsOf c.d
theorem ccells_length (c : ClT) (hd : c.d.length = 32) : (ccells c).length = 36 := by simp [ccells, cellsOf_length, hd]
def ecells (x : EnT) : List Value := [.int .i64 x.k, .int .i64 x.c, .int .i64 x.s, .string x.t] ++ scells x.h ++ ccells x.m
theorem ecells_length (x : EnT) (ok : OkE x) : (ecells x).length = 109 := by simp [ecells, scells_length _ ok.h ok.g, ccells_length _ ok.m]
def icells (x : ItT) : List Value := [.int .i64 x.p] ++ ecells x.e
theorem icells_length (x : ItT) (ok : OkE x.e) : (icells x).length = 110 := by simp [icells, ecells_length _ ok]
theorem heldC : Tryz.prog.stoodInHeld 43 = false := by kernel_rfl
theorem heldE : Tryz.prog.stoodInHeld 45 = false := by kernel_rfl
theorem heldI : Tryz.prog.stoodInHeld 47 = false := by kernel_rfl
theorem sizeC : (Tryz.prog.info? 43).map (·.size) = some 36 := by kernel_rfl
theorem sizeE : (Tryz.prog.info? 45).map (·.size) = some 109 := by kernel_rfl
theorem sizeI : (Tryz.prog.info? 47).map (·.size) = some 110 := by kernel_rfl
theorem sizeOf_of {t : TypeId} {n : Nat} (h : (Tryz.prog.info? t).map (·.size) = some n) (w : World) : (sizeOf t).run Tryz.prog w = .ok n w := by
  cases hq : Tryz.prog.info? t with
  | none => simp [hq] at h
  | some i => simp [hq] at h; simp [sizeOf, typeInfo, hq, h]
theorem part_struct {t : TypeId} {fs : Array Field} {n : Nat} (hu : Tryz.prog.underlying t = some (.struct fs)) (hs : (Tryz.prog.info? t).map (·.size) = some n) (l : List Value) (off : Nat) (m : List Value) (h : (l.drop off).take n = m) (w : World) : (Go.part t l.toArray off).run Tryz.prog w = .ok (.agg m.toArray) w := by
  have e := cut_list l off n m h
  simp only [Go.part, isAgg, run_underlying hu, sizeOf_of hs, Sem.run_bind, Sem.run_pure, Result.andThen_ok, if_true, e]
theorem part_kind (l : List Value) (off : Nat) (v : Value) (h : l[off]? = some v) (w : World) : (Go.part 41 l.toArray off).run Tryz.prog w = .ok v w := by
  simp [Go.part, isAgg, run_underlying Tryz.underlying41, h]
theorem part_str (l : List Value) (off : Nat) (v : Value) (h : l[off]? = some v) (w : World) : (Go.part 9 l.toArray off).run Tryz.prog w = .ok v w := by
  simp [Go.part, isAgg, run_underlying Tryz.underlying9, h]
theorem ccells_d (c : ClT) (hd : c.d.length = 32) : ((ccells c).drop 4).take 32 = cellsOf c.d := by
  show (cellsOf c.d).take 32 = _
  rw [List.take_of_length_le (by rw [cellsOf_length, hd]; omega)]
theorem ecells_h (x : EnT) (ok : OkE x) : ((ecells x).drop 4).take 69 = scells x.h := by
  show (scells x.h ++ ccells x.m).take 69 = _
  rw [List.take_left' (scells_length _ ok.h ok.g)]
theorem ecells_m (x : EnT) (ok : OkE x) : ((ecells x).drop 73).take 36 = ccells x.m := by
  unfold ecells
  rw [List.drop_left' (by simp [scells_length _ ok.h ok.g]), List.take_of_length_le (by rw [ccells_length _ ok.m]; omega)]
theorem icells_e (x : ItT) (ok : OkE x.e) : ((icells x).drop 1).take 109 = ecells x.e := by
  show (ecells x.e).take 109 = _
  rw [List.take_of_length_le (by rw [ecells_length _ ok]; omega)]
theorem equalClaim (d : Nat) (a b : ClT) (ha : a.d.length = 32) (hb : b.d.length = 32) (x : Bool) (hx : x = true ↔ a = b) (w : World) : (Op.equalIn (d + 4) 43 (.agg (ccells a).toArray) (.agg (ccells b).toArray)).run Tryz.prog w = .ok x w := by
  have hf : Tryz.prog.fieldsOf 43 = #[{ name := "Region", type := 3, offset := 0, embedded := false, tag := "", pkgPath := "", byteOffset := 0 }, { name := "Epoch", type := 3, offset := 1, embedded := false, tag := "", pkgPath := "", byteOffset := 8 }, { name := "Node", type := 3, offset := 2, embedded := false, tag := "", pkgPath := "", byteOffset := 16 }, { name := "Size", type := 3, offset := 3, embedded := false, tag := "", pkgPath := "", byteOffset := 24 }, { name := "Root", type := 25, offset := 4, embedded := false, tag := "", pkgPath := "", byteOffset := 32 }] := by
    unfold Program.fieldsOf; rw [Tryz.underlying43]
  have p0a := fun W => part_int (ccells a) 0 (.int .i64 a.r) rfl W
  have p0b := fun W => part_int (ccells b) 0 (.int .i64 b.r) rfl W
  have x0 := fun W => run_equalIn_int (P := Tryz.prog) W (d + 2) 3 .i64 .i64 a.r b.r Tryz.underlying3
  obtain ⟨b0, h0⟩ : ∃ x, (a.r == b.r) = x := ⟨_, rfl⟩
  rw [h0] at x0
  have p1a := fun W => part_int (ccells a) 1 (.int .i64 a.e) rfl W
  have p1b := fun W => part_int (ccells b) 1 (.int .i64 b.e) rfl W
  have x1 := fun W => run_equalIn_int (P := Tryz.prog) W (d + 2) 3 .i64 .i64 a.e b.e Tryz.underlying3
  obtain ⟨b1, h1⟩ : ∃ x, (a.e == b.e) = x := ⟨_, rfl⟩
  rw [h1] at x1
  have p2a := fun W => part_int (ccells a) 2 (.int .i64 a.n) rfl W
  have p2b := fun W => part_int (ccells b) 2 (.int .i64 b.n) rfl W
  have x2 := fun W => run_equalIn_int (P := Tryz.prog) W (d + 2) 3 .i64 .i64 a.n b.n Tryz.underlying3
  obtain ⟨b2, h2⟩ : ∃ x, (a.n == b.n) = x := ⟨_, rfl⟩
  rw [h2] at x2
  have p3a := fun W => part_int (ccells a) 3 (.int .i64 a.s) rfl W
  have p3b := fun W => part_int (ccells b) 3 (.int .i64 b.s) rfl W
  have x3 := fun W => run_equalIn_int (P := Tryz.prog) W (d + 2) 3 .i64 .i64 a.s b.s Tryz.underlying3
  obtain ⟨b3, h3⟩ : ∃ x, (a.s == b.s) = x := ⟨_, rfl⟩
  rw [h3] at x3
  have p4a := fun W => part_dig (ccells a) 4 _ (ccells_d a ha) W
  have p4b := fun W => part_dig (ccells b) 4 _ (ccells_d b hb) W
  have x4 : ∀ W, (Op.equalIn (d + 3) 25 (.agg (cellsOf a.d).toArray) (.agg (cellsOf b.d).toArray)).run Tryz.prog W = .ok (a.d == b.d) W := fun W => run_equalIn_bytes (P := Tryz.prog) W (d + 1) 25 5 32 Tryz.underlying25 Tryz.underlying5 sizeOf5 a.d b.d ha hb
  obtain ⟨b4, h4⟩ : ∃ x, (a.d == b.d) = x := ⟨_, rfl⟩
  rw [h4] at x4
  rw [run_equalIn_struct w (d + 3) 43 _ _ (by rw [hf]; exact Tryz.underlying43) heldC, hf]
  have hq : x = (b0 && b1 && b2 && b3 && b4) := by
    rw [Bool.eq_iff_iff, hx]
    simp only [Bool.and_eq_true]
    rw [← h0, ← h1, ← h2, ← h3, ← h4]
    simp only [beq_iff_eq]
    constructor
    · rintro rfl; simp
    · rintro ⟨⟨⟨⟨e0, e1⟩, e2⟩, e3⟩, e4⟩
      cases a; cases b
      simp only at e0 e1 e2 e3 e4
      rw [e0, e1, e2, e3, e4]
  rw [hq]
  obtain ⟨A, hA⟩ : ∃ A, (ccells a).toArray = A := ⟨_, rfl⟩
  obtain ⟨B, hB⟩ : ∃ B, (ccells b).toArray = B := ⟨_, rfl⟩
  rw [hA] at p0a p1a p2a p3a p4a
  rw [hB] at p0b p1b p2b p3b p4b
  rw [hA, hB]
  obtain ⟨D4, hD4⟩ : ∃ D, (cellsOf a.d).toArray = D := ⟨_, rfl⟩
  obtain ⟨E4, hE4⟩ : ∃ D, (cellsOf b.d).toArray = D := ⟨_, rfl⟩
  rw [hD4] at p4a x4
  rw [hE4] at p4b x4
  simp [Op.eqFields, p0a, p0b, x0, p1a, p1b, x1, p2a, p2b, x2, p3a, p3b, x3, p4a, p4b, x4]
  cases b0 <;> cases b1 <;> cases b2 <;> cases b3 <;> cases b4 <;> simp
theorem eqClaim (a b : ClT) (ha : a.d.length = 32) (hb : b.d.length = 32) (A B : Array Value) (HA : Hid (A = (ccells a).toArray)) (HB : Hid (B = (ccells b).toArray)) (x : Bool) (hx : x = true ↔ a = b) (w : World) : (binOp .eql 43 (.agg A) (.agg B)).run Tryz.prog w = .ok (.bool x) w := by
  rw [run_eql_struct, HA.out, HB.out, show (10000 : Nat) = 9996 + 4 from rfl, equalClaim 9996 a b ha hb x hx]; rfl
theorem equalEntry (d : Nat) (a b : EnT) (ha : OkE a) (hb : OkE b) (x : Bool) (hx : x = true ↔ a = b) (w : World) : (Op.equalIn (d + 6) 45 (.agg (ecells a).toArray) (.agg (ecells b).toArray)).run Tryz.prog w = .ok x w := by
  have hf : Tryz.prog.fieldsOf 45 = #[{ name := "Kind", type := 41, offset := 0, embedded := false, tag := "", pkgPath := "", byteOffset := 0 }, { name := "Client", type := 3, offset := 1, embedded := false, tag := "", pkgPath := "", byteOffset := 8 }, { name := "Seq", type := 3, offset := 2, embedded := false, tag := "", pkgPath := "", byteOffset := 16 }, { name := "Text", type := 9, offset := 3, embedded := false, tag := "", pkgPath := "", byteOffset := 24 }, { name := "Head", type := 29, offset := 4, embedded := false, tag := "", pkgPath := "", byteOffset := 40 }, { name := "Claim", type := 43, offset := 73, embedded := false, tag := "", pkgPath := "", byteOffset := 144 }] := by
    unfold Program.fieldsOf; rw [Tryz.underlying45]
  have p0a := fun W => part_kind (ecells a) 0 (.int .i64 a.k) rfl W
  have p0b := fun W => part_kind (ecells b) 0 (.int .i64 b.k) rfl W
  have x0 := fun W => run_equalIn_int (P := Tryz.prog) W (d + 4) 41 .i64 .i64 a.k b.k Tryz.underlying41
  obtain ⟨b0, h0⟩ : ∃ x, (a.k == b.k) = x := ⟨_, rfl⟩
  rw [h0] at x0
  have p1a := fun W => part_int (ecells a) 1 (.int .i64 a.c) rfl W
  have p1b := fun W => part_int (ecells b) 1 (.int .i64 b.c) rfl W
  have x1 := fun W => run_equalIn_int (P := Tryz.prog) W (d + 4) 3 .i64 .i64 a.c b.c Tryz.underlying3
  obtain ⟨b1, h1⟩ : ∃ x, (a.c == b.c) = x := ⟨_, rfl⟩
  rw [h1] at x1
  have p2a := fun W => part_int (ecells a) 2 (.int .i64 a.s) rfl W
  have p2b := fun W => part_int (ecells b) 2 (.int .i64 b.s) rfl W
  have x2 := fun W => run_equalIn_int (P := Tryz.prog) W (d + 4) 3 .i64 .i64 a.s b.s Tryz.underlying3
  obtain ⟨b2, h2⟩ : ∃ x, (a.s == b.s) = x := ⟨_, rfl⟩
  rw [h2] at x2
  have p3a := fun W => part_str (ecells a) 3 (.string a.t) rfl W
  have p3b := fun W => part_str (ecells b) 3 (.string b.t) rfl W
  have x3 := fun W => run_equalIn_string (P := Tryz.prog) W (d + 4) 9 a.t b.t Tryz.underlying9
  obtain ⟨b3, h3⟩ : ∃ x, (a.t.toList == b.t.toList) = x := ⟨_, rfl⟩
  rw [h3] at x3
  have p4a := fun W => part_struct Tryz.underlying29 sizeS (ecells a) 4 _ (ecells_h a ha) W
  have p4b := fun W => part_struct Tryz.underlying29 sizeS (ecells b) 4 _ (ecells_h b hb) W
  obtain ⟨b4, h4⟩ : ∃ x : Bool, x = true ↔ a.h = b.h := by
    by_cases h : a.h = b.h
    · exact ⟨true, by simp [h]⟩
    · exact ⟨false, by simp [h]⟩
  have x4 : ∀ W, (Op.equalIn (d + 5) 29 (.agg (scells a.h).toArray) (.agg (scells b.h).toArray)).run Tryz.prog W = .ok b4 W := fun W => equalSigned (d + 0) a.h b.h ha.h hb.h ha.g hb.g b4 h4 W
  have p5a := fun W => part_struct Tryz.underlying43 sizeC (ecells a) 73 _ (ecells_m a ha) W
  have p5b := fun W => part_struct Tryz.underlying43 sizeC (ecells b) 73 _ (ecells_m b hb) W
  obtain ⟨b5, h5⟩ : ∃ x : Bool, x = true ↔ a.m = b.m := by
    by_cases h : a.m = b.m
    · exact ⟨true, by simp [h]⟩
    · exact ⟨false, by simp [h]⟩
  have x5 : ∀ W, (Op.equalIn (d + 5) 43 (.agg (ccells a.m).toArray) (.agg (ccells b.m).toArray)).run Tryz.prog W = .ok b5 W := fun W => equalClaim (d + 1) a.m b.m ha.m hb.m b5 h5 W
  rw [run_equalIn_struct w (d + 5) 45 _ _ (by rw [hf]; exact Tryz.underlying45) heldE, hf]
  have hq : x = (b0 && b1 && b2 && b3 && b4 && b5) := by
    rw [Bool.eq_iff_iff, hx]
    simp only [Bool.and_eq_true]
    rw [← h0, ← h1, ← h2, ← h3, h4, h5]
    simp only [beq_iff_eq]
    constructor
    · rintro rfl; simp
    · rintro ⟨⟨⟨⟨⟨e0, e1⟩, e2⟩, e3⟩, e4⟩, e5⟩
      have e3' : a.t.data.toList = b.t.data.toList := by rw [ByteArray.toList_eq, ByteArray.toList_eq] at e3; exact e3
      exact enT_ext ⟨e0, e1, e2, e3', e4, e5⟩
  rw [hq]
  obtain ⟨A, hA⟩ : ∃ A, (ecells a).toArray = A := ⟨_, rfl⟩
  obtain ⟨B, hB⟩ : ∃ B, (ecells b).toArray = B := ⟨_, rfl⟩
  rw [hA] at p0a p1a p2a p3a p4a p5a
  rw [hB] at p0b p1b p2b p3b p4b p5b
  rw [hA, hB]
  obtain ⟨D4, hD4⟩ : ∃ D, (scells a.h).toArray = D := ⟨_, rfl⟩
  obtain ⟨E4, hE4⟩ : ∃ D, (scells b.h).toArray = D := ⟨_, rfl⟩
  rw [hD4] at p4a x4
  rw [hE4] at p4b x4
  obtain ⟨D5, hD5⟩ : ∃ D, (ccells a.m).toArray = D := ⟨_, rfl⟩
  obtain ⟨E5, hE5⟩ : ∃ D, (ccells b.m).toArray = D := ⟨_, rfl⟩
  rw [hD5] at p5a x5
  rw [hE5] at p5b x5
  simp [Op.eqFields, p0a, p0b, x0, p1a, p1b, x1, p2a, p2b, x2, p3a, p3b, x3, p4a, p4b, x4, p5a, p5b, x5]
  cases b0 <;> cases b1 <;> cases b2 <;> cases b3 <;> cases b4 <;> cases b5 <;> simp
theorem neqEntry (a b : EnT) (ha : OkE a) (hb : OkE b) (A B : Array Value) (HA : Hid (A = (ecells a).toArray)) (HB : Hid (B = (ecells b).toArray)) (x : Bool) (hx : x = false ↔ a = b) (w : World) : (binOp .neq 45 (.agg A) (.agg B)).run Tryz.prog w = .ok (.bool x) w := by
  rw [run_neq_struct, HA.out, HB.out, show (10000 : Nat) = 9994 + 6 from rfl, equalEntry 9994 a b ha hb (!x) (by rw [← hx]; simp)]; simp
theorem equalItem (d : Nat) (a b : ItT) (ha : OkE a.e) (hb : OkE b.e) (x : Bool) (hx : x = true ↔ a = b) (w : World) : (Op.equalIn (d + 7) 47 (.agg (icells a).toArray) (.agg (icells b).toArray)).run Tryz.prog w = .ok x w := by
  have hf : Tryz.prog.fieldsOf 47 = #[{ name := "Epoch", type := 3, offset := 0, embedded := false, tag := "", pkgPath := "", byteOffset := 0 }, { name := "Entry", type := 45, offset := 1, embedded := false, tag := "", pkgPath := "", byteOffset := 8 }] := by
    unfold Program.fieldsOf; rw [Tryz.underlying47]
  have p0a := fun W => part_int (icells a) 0 (.int .i64 a.p) rfl W
  have p0b := fun W => part_int (icells b) 0 (.int .i64 b.p) rfl W
  have x0 := fun W => run_equalIn_int (P := Tryz.prog) W (d + 5) 3 .i64 .i64 a.p b.p Tryz.underlying3
  obtain ⟨b0, h0⟩ : ∃ x, (a.p == b.p) = x := ⟨_, rfl⟩
  rw [h0] at x0
  have p1a := fun W => part_struct Tryz.underlying45 sizeE (icells a) 1 _ (icells_e a ha) W
  have p1b := fun W => part_struct Tryz.underlying45 sizeE (icells b) 1 _ (icells_e b hb) W
  obtain ⟨b1, h1⟩ : ∃ x : Bool, x = true ↔ a.e = b.e := by
    by_cases h : a.e = b.e
    · exact ⟨true, by simp [h]⟩
    · exact ⟨false, by simp [h]⟩
  have x1 : ∀ W, (Op.equalIn (d + 6) 45 (.agg (ecells a.e).toArray) (.agg (ecells b.e).toArray)).run Tryz.prog W = .ok b1 W := fun W => equalEntry (d + 0) a.e b.e ha hb b1 h1 W
  rw [run_equalIn_struct w (d + 6) 47 _ _ (by rw [hf]; exact Tryz.underlying47) heldI, hf]
  have hq : x = (b0 && b1) := by
    rw [Bool.eq_iff_iff, hx]
    simp only [Bool.and_eq_true]
    rw [← h0, h1]
    simp only [beq_iff_eq]
    constructor
    · rintro rfl; simp
    · rintro ⟨e0, e1⟩
      cases a; cases b
      simp only at e0 e1
      rw [e0, e1]
  rw [hq]
  obtain ⟨A, hA⟩ : ∃ A, (icells a).toArray = A := ⟨_, rfl⟩
  obtain ⟨B, hB⟩ : ∃ B, (icells b).toArray = B := ⟨_, rfl⟩
  rw [hA] at p0a p1a
  rw [hB] at p0b p1b
  rw [hA, hB]
  obtain ⟨D1, hD1⟩ : ∃ D, (ecells a.e).toArray = D := ⟨_, rfl⟩
  obtain ⟨E1, hE1⟩ : ∃ D, (ecells b.e).toArray = D := ⟨_, rfl⟩
  rw [hD1] at p1a x1
  rw [hE1] at p1b x1
  simp [Op.eqFields, p0a, p0b, x0, p1a, p1b, x1]
  cases b0 <;> cases b1 <;> simp
theorem neqItem (a b : ItT) (ha : OkE a.e) (hb : OkE b.e) (A B : Array Value) (HA : Hid (A = (icells a).toArray)) (HB : Hid (B = (icells b).toArray)) (x : Bool) (hx : x = false ↔ a = b) (w : World) : (binOp .neq 47 (.agg A) (.agg B)).run Tryz.prog w = .ok (.bool x) w := by
  rw [run_neq_struct, HA.out, HB.out, show (10000 : Nat) = 9993 + 7 from rfl, equalItem 9993 a b ha hb (!x) (by rw [← hx]; simp)]; simp
theorem within8_any (n a b : Int) (w : World) : Calls Tryz.prog 61 #[.int .i64 n, .int .i64 a, .int .i64 b] w fun e w' => e = .returned (.bool (decide (a ≤ n) && decide (n ≤ b))) ∧ w' = w := by
  by_cases h1 : a ≤ n
  · have d1 : decide (a ≤ n) = true := by rw [decide_eq_true_eq]; exact h1
    obtain ⟨x, hx⟩ : ∃ x, decide (n ≤ b) = x := ⟨_, rfl⟩
    rw [d1, hx]
    clear h1
    go_enter Tryz.func61, Tryz.ntmps61
    go_wp2
    go_ret
    exact ⟨rfl, rfl⟩
  · have d1 : decide (a ≤ n) = false := by rw [decide_eq_false_iff_not]; exact h1
    rw [d1]
    clear h1
    go_enter Tryz.func61, Tryz.ntmps61
    go_wp2
    go_ret
    exact ⟨rfl, rfl⟩
structure CRow (W : World) (g o : Nat) (c : ClT) : Prop where
  r : W.cell? ⟨g, o, none⟩ = some (.int .i64 c.r)
  e : W.cell? ⟨g, o + 1, none⟩ = some (.int .i64 c.e)
  n : W.cell? ⟨g, o + 2, none⟩ = some (.int .i64 c.n)
  s : W.cell? ⟨g, o + 3, none⟩ = some (.int .i64 c.s)
  d : W.rangeAt g (o + 4) (cellsOf c.d)
theorem CRow.keep {W W' : World} {g o : Nat} {c : ClT} (h : CRow W g o c) (hb : Below W.heap.size W W') : CRow W' g o c := by
  have hg : g < W.heap.size := World.block_lt_of_cell? _ _ h.r
  exact ⟨(hb.cell hg).trans h.r, (hb.cell hg).trans h.e, (hb.cell hg).trans h.n, (hb.cell hg).trans h.s, range_keep hb h.d⟩
theorem crow_of {W : World} {g o : Nat} {c : ClT} (hr : W.rangeAt g o (ccells c)) : CRow W g o c := by
  refine ⟨?_, ?_, ?_, ?_, ?_⟩
  · have := hr 0 (.int .i64 c.r) rfl; simpa using this
  · exact hr 1 (.int .i64 c.e) rfl
  · exact hr 2 (.int .i64 c.n) rfl
  · exact hr 3 (.int .i64 c.s) rfl
  · intro j v hj
    have := hr (4 + j) v (by
      unfold ccells
      rw [List.getElem?_append_right (by simp)]
      simpa using hj)
    rw [Nat.add_assoc]; exact this
theorem crow_new (w : World) (c : ClT) (C : Array Value) (HC : Hid (C = (ccells c).toArray)) (t : TypeId) : CRow (w.alloc (.cells C t)) w.heap.size 0 c := by
  refine crow_of ?_
  intro j v hj
  rw [Nat.zero_add, cell_of_row _ _ j _ t (0, 0) (heap_alloc_new w _), HC.out]
  simpa using hj
set_option maxHeartbeats 2000000 in
theorem refRightC_any (c : ClT) (w : World) (C : Array Value) (HC : Hid (C = (ccells c).toArray)) :
    Calls Tryz.prog 80 #[.agg C] w fun e w' => e = .returned (.bool (rightC c)) ∧ Below w.heap.size w w' := by
  have HR := crow_new w c C HC 43
  have HB : Hid (Below w.heap.size w (w.alloc (.cells C 43))) := (Below.refl _ _).alloc (Nat.le_refl _) _
  have c0 := HR.r
  have c1 := HR.e
  have c2 := HR.n
  have c3 := HR.s
  simp only [Nat.zero_add] at c1 c2 c3
  have WI : Hid (∀ (n a b : Int) (W : World), Calls Tryz.prog 61 #[.int .i64 n, .int .i64 a, .int .i64 b] W fun e w' => e = .returned (.bool (decide (a ≤ n) && decide (n ≤ b))) ∧ w' = W) := within8_any
  obtain ⟨b1, hb1⟩ : ∃ b, (decide (1 ≤ c.r) && decide (c.r ≤ 5)) = b := ⟨_, rfl⟩
  obtain ⟨b2, hb2⟩ : ∃ b, (decide (1 ≤ c.e) && decide (c.e ≤ 900000000)) = b := ⟨_, rfl⟩
  obtain ⟨b3, hb3⟩ : ∃ b, (decide (1 ≤ c.n) && decide (c.n ≤ 3)) = b := ⟨_, rfl⟩
  obtain ⟨b4, hb4⟩ : ∃ b, (decide (0 ≤ c.s) && decide (c.s ≤ 100000)) = b := ⟨_, rfl⟩
  have W1 := hidk (WI.out c.r 1 5)
  have W2 := hidk (WI.out c.e 1 900000000)
  have W3 := hidk (WI.out c.n 1 3)
  have W4 := hidk (WI.out c.s 0 100000)
  rw [hb1] at W1
  rw [hb2] at W2
  rw [hb3] at W3
  rw [hb4] at W4
  have hE : rightC c = (b1 && (b2 && (b3 && b4))) := by
    rw [← hb1, ← hb2, ← hb3, ← hb4]
    unfold rightC
    simp only [Bool.and_assoc]
  rw [hE]
  obtain ⟨r, hr⟩ : ∃ r, r = c.r := ⟨_, rfl⟩
  obtain ⟨e, he⟩ : ∃ r, r = c.e := ⟨_, rfl⟩
  obtain ⟨n, hn⟩ : ∃ r, r = c.n := ⟨_, rfl⟩
  obtain ⟨s, hs⟩ : ∃ r, r = c.s := ⟨_, rfl⟩
  rw [← hr] at c0 W1
  rw [← he] at c1 W2
  rw [← hn] at c2 W3
  rw [← hs] at c3 W4
  clear hE hb1 hb2 hb3 hb4 WI HR hr he hn hs HC
  cases b1
  · go_enter Tryz.func80, Tryz.ntmps80
    go_wp2_with fail
    refine (W1.out _).mono ?_
    rintro e w1 ⟨rfl, rfl⟩
    go_wp2
    go_ret
    exact ⟨rfl, HB.out⟩
  cases b2
  · go_enter Tryz.func80, Tryz.ntmps80
    go_wp2_with fail
    refine (W1.out _).mono ?_
    rintro e w1 ⟨rfl, rfl⟩
    go_wp2_with fail
    refine (W2.out _).mono ?_
    rintro e w1 ⟨rfl, rfl⟩
    go_wp2
    go_ret
    exact ⟨rfl, HB.out⟩
  cases b3
  · go_enter Tryz.func80, Tryz.ntmps80
    go_wp2_with fail
    refine (W1.out _).mono ?_
    rintro e w1 ⟨rfl, rfl⟩
    go_wp2_with fail
    refine (W2.out _).mono ?_
    rintro e w1 ⟨rfl, rfl⟩
    go_wp2_with fail
    refine (W3.out _).mono ?_
    rintro e w1 ⟨rfl, rfl⟩
    go_wp2
    go_ret
    exact ⟨rfl, HB.out⟩
  · go_enter Tryz.func80, Tryz.ntmps80
    go_wp2_with fail
    refine (W1.out _).mono ?_
    rintro e w1 ⟨rfl, rfl⟩
    go_wp2_with fail
    refine (W2.out _).mono ?_
    rintro e w1 ⟨rfl, rfl⟩
    go_wp2_with fail
    refine (W3.out _).mono ?_
    rintro e w1 ⟨rfl, rfl⟩
    go_wp2_with fail
    refine (W4.out _).mono ?_
    rintro e w1 ⟨rfl, rfl⟩
    go_wp2
    go_ret
    exact ⟨rfl, HB.out⟩
theorem infoC : (Tryz.prog.info? 43).map (fun i => (i.zero, i.size)) = some (some (.agg (ccells zeroC).toArray), 36) := by kernel_rfl
theorem builtC0 : Tryz.prog.built 43 [] = some (ccells zeroC).toArray := by kernel_rfl
theorem one_cellsC (c : ClT) : (ccells c).toArray.all (·.oneCell') = true := by
  rw [List.all_toArray, List.all_eq_true]
  intro v hv
  unfold ccells at hv
  simp only [List.mem_append, List.mem_cons, List.not_mem_nil, or_false] at hv
  rcases hv with (rfl | rfl | rfl | rfl) | hv
  · rfl
  · rfl
  · rfl
  · rfl
  · exact cellsOf_one _ v hv
theorem claim_row5 (c : ClT) (hd : c.d.length = 32) : ∃ C : Array Value, Hid (C = (ccells c).toArray) ∧ Hid ((Tryz.prog.info? 43).map (·.size) = some C.size) ∧ Hid (C.all (·.oneCell') = true) ∧ Hid (C.size = 36) := by
  refine ⟨(ccells c).toArray, hidk rfl, ?_, one_cellsC c, ?_⟩
  · show _ = _
    rw [sizeC]; simp [ccells_length c hd]
  · show _ = _
    simp [ccells_length c hd]
theorem noughtsC : ∃ Z : Array Value, Hid (Z = (ccells zeroC).toArray) ∧ Hid ((Tryz.prog.info? 43).map (fun i => (i.zero, i.size)) = some (some (.agg Z), Z.size)) ∧ Hid (Tryz.prog.built 43 [] = some Z) ∧ Hid (Z.size = 36) :=
  ⟨(ccells zeroC).toArray, hidk rfl, infoC, builtC0, hidk rfl⟩
theorem wpList_build_none_w {P : Program} {ops : Array Oper} {rest : List Oper} {o : Oper} {a : Act} {w : World} {Q : Exit → Act → World → Prop} (hw : Region.wanted o (yielded ops a.tmps) = true) (t : TypeId) (ho : o.op = .build t #[])
    (cs : Array Value) (hb : P.built t [] = some cs) (h : wpList P ops Q rest (a.put o.dst (.agg cs)) w) : wpList P ops Q (o :: rest) a w :=
  BigFrame.wpList_want hw fun _ hK => by
    have hr := run_build w t #[] cs (by simpa using hb)
    unfold Oper.wp execOp
    simp [ho, hr]
    exact hK _ _ h
theorem wpList_set_mid {P : Program} {ops : Array Oper} {rest : List Oper} {o : Oper} {a : Act} {w : World} {Q : Exit → Act → World → Prop} (hgd : o.guard = none) (ty : TypeId) (x y : Operand) (ho : o.op = .store ty x y)
    (g k : Nat) (D : Array Value) (hx : a.eval x = .pointer (some ⟨g, k, none⟩)) (hy : a.eval y = .agg D) (t' : TypeId) (Z : Array Value) (hg : w.heap[g]? = some (.cells Z t' (0, 0))) (hk : k + D.size ≤ Z.size) (hi : (P.info? ty).map (·.size) = some D.size) (h1 : D.all (·.oneCell') = true)
    (h : ∀ w', Hid (Wrote g (Z.toList.take k ++ D.toList ++ Z.toList.drop (k + D.size)).toArray t' w w') → wpList P ops Q rest (a.put o.dst undef) w') : wpList P ops Q (o :: rest) a w := by
  refine wpList_plain hgd fun K hK => ?_
  have hkk := hK _ _ (h _ (wrote_row hg))
  have h1' : ∀ v ∈ D.toList, v.oneCell' = true := by
    intro v hv
    rw [Array.all_eq_true'] at h1
    exact h1 v (by simpa using hv)
  have hst := run_storeCells_at P g k t' D.toList 0 Z w hg (by simpa using hk) h1'
  cases hq : P.info? ty with
  | none => simp [hq] at hi
  | some i =>
    have hs : i.size = D.size := by simpa [hq] using hi
    unfold Oper.wp execOp
    simp only [ho, hx, hy, Instr.storeAt, Instr.sureAddr, Sem.run_bind, Sem.run_pure, Result.andThen_ok]
    simp only [Nat.add_zero, Nat.zero_add] at hst
    simp [storeVar, sizeOf, typeInfo, hq, Value.cells, hs, hst]
    simp only [List.append_assoc] at hkk ⊢
    exact hkk
theorem wpList_mid_w {P : Program} {ops : Array Oper} {rest : List Oper} {op : Oper} {a : Act} {w : World} {Q : Exit → Act → World → Prop} (hw : Region.wanted op (yielded ops a.tmps) = true) (ty : TypeId) (x : Operand) (ho : op.op = .load ty x)
    (b o : Nat) (hx : a.eval x = .pointer (some ⟨b, o, none⟩)) (D : Array Value) (d : TypeDesc) (hc : w.rangeAt b o D.toList)
    (hu : P.underlying ty = some d) (hd : d.isRow = true) (hi : (P.info? ty).map (·.size) = some D.size)
    (h : wpList P ops Q rest (a.put op.dst (.agg D)) w) : wpList P ops Q (op :: rest) a w := by
  have hy : YieldsIf P ops (fun W => W = w) op (.agg D) a := yieldsIf_mid hw ty x ho b o hx D d (fun W e => by rw [e]; exact hc) hu hd hi
  rcases hy with ⟨_, hv⟩ | ⟨hf, _⟩
  · exact BigFrame.wpList_want hw fun K hK => by
      simp only [Oper.wp, hv w rfl, Oper.upon]
      first | exact .inl (hK _ _ h) | exact hK _ _ h
  · rw [hw] at hf; cases hf
def CameT (w W : World) (M C X : Array Value) : Prop := Below w.heap.size w W ∧ W.heap[w.heap.size]? = some (.cells M 23 (0, 0)) ∧ W.heap[w.heap.size + 1]? = some (.cells C 27 (0, 0)) ∧ W.heap[w.heap.size + 2]? = some (.cells X 27 (0, 0))
theorem CameT.keep {w W W' : World} {M C X : Array Value} (h : CameT w W M C X) (hb : Below W.heap.size W W') : CameT w W' M C X :=
  ⟨h.1.trans (hb.mono h.1.size), (hb.block _ (heap_lt h.2.1)).trans h.2.1, (hb.block _ (heap_lt h.2.2.1)).trans h.2.2.1, (hb.block _ (heap_lt h.2.2.2)).trans h.2.2.2⟩
structure ERow (W : World) (g o : Nat) (x : EnT) : Prop where
  k : W.cell? ⟨g, o, none⟩ = some (.int .i64 x.k)
  c : W.cell? ⟨g, o + 1, none⟩ = some (.int .i64 x.c)
  s : W.cell? ⟨g, o + 2, none⟩ = some (.int .i64 x.s)
  t : W.cell? ⟨g, o + 3, none⟩ = some (.string x.t)
  h : W.rangeAt g (o + 4) (scells x.h)
  m : W.rangeAt g (o + 73) (ccells x.m)
theorem ERow.keep {W W' : World} {g o : Nat} {x : EnT} (r : ERow W g o x) (hb : Below W.heap.size W W') : ERow W' g o x := by
  have hg : g < W.heap.size := World.block_lt_of_cell? _ _ r.k
  exact ⟨(hb.cell hg).trans r.k, (hb.cell hg).trans r.c, (hb.cell hg).trans r.s, (hb.cell hg).trans r.t, range_keep hb r.h, range_keep hb r.m⟩
theorem erow_of {W : World} {g o : Nat} {x : EnT} (ok : OkE x) (hr : W.rangeAt g o (ecells x)) : ERow W g o x := by
  have hs := scells_length x.h ok.h ok.g
  refine ⟨?_, ?_, ?_, ?_, ?_, ?_⟩
  · have := hr 0 (.int .i64 x.k) rfl; simpa using this
  · exact hr 1 (.int .i64 x.c) rfl
  · exact hr 2 (.int .i64 x.s) rfl
  · exact hr 3 (.string x.t) rfl
  · intro j v hj
    have hlt := (List.getElem?_eq_some_iff.1 hj).1
    have := hr (4 + j) v (by
      unfold ecells
      rw [List.append_assoc, List.getElem?_append_right (by simp), List.getElem?_append_left (by simpa using hlt)]
      simpa using hj)
    rw [Nat.add_assoc]; exact this
  · intro j v hj
    have := hr (73 + j) v (by
      unfold ecells
      rw [List.getElem?_append_right (by simp [hs])]
      simp only [List.length_append, hs, List.length_cons, List.length_nil]
      rw [show 73 + j - (0 + 1 + 1 + 1 + 1 + 69) = j by omega]
      exact hj)
    rw [Nat.add_assoc]; exact this
theorem erow_new (w : World) (x : EnT) (ok : OkE x) (X : Array Value) (HX : Hid (X = (ecells x).toArray)) (t : TypeId) : ERow (w.alloc (.cells X t)) w.heap.size 0 x := by
  refine erow_of ok ?_
  intro j v hj
  rw [Nat.zero_add, cell_of_row _ _ j _ t (0, 0) (heap_alloc_new w _), HX.out]
  simpa using hj
theorem right_user {x : EnT} (h : x.k = 1) : rightE x = ((decide (1 ≤ x.c) && decide (x.c ≤ 3)) && ((decide (1 ≤ x.s) && decide (x.s ≤ 1000000)) && (decide (x.t.size ≤ 200) && (eqSB x.h zeroS && eqCB x.m zeroC)))) := by
  unfold rightE
  rw [if_pos h, Bool.eq_iff_iff]
  simp only [Bool.and_eq_true, decide_eq_true_eq, and_assoc]
theorem right_anchor {x : EnT} (h : x.k = 2) : rightE x = (decide (x.c = 0) && (decide (x.s = 0) && (decide (x.t.size = 0) && (mayS x.h && eqCB x.m zeroC)))) := by
  unfold rightE
  rw [if_neg (by omega), if_pos h, Bool.eq_iff_iff]
  simp only [Bool.and_eq_true, decide_eq_true_eq, and_assoc]
theorem right_claim {x : EnT} (h : x.k = 3) : rightE x = (decide (x.c = 0) && (decide (x.s = 0) && (decide (x.t.size = 0) && (eqSB x.h zeroS && rightC x.m)))) := by
  unfold rightE
  rw [if_neg (by omega), if_neg (by omega), if_pos h, Bool.eq_iff_iff]
  simp only [Bool.and_eq_true, decide_eq_true_eq, and_assoc]
theorem right_none {x : EnT} (h1 : ¬ x.k = 1) (h2 : ¬ x.k = 2) (h3 : ¬ x.k = 3) : rightE x = false := by
  unfold rightE
  rw [if_neg h1, if_neg h2, if_neg h3]
theorem text_zero (t : ByteArray) : t.toList.isEmpty = decide (t.size = 0) := by
  rw [Bool.eq_iff_iff, List.isEmpty_iff, decide_eq_true_eq, ByteArray.toList_eq]
  constructor
  · intro h
    have := congrArg List.length h
    exact this
  · intro h
    exact List.eq_nil_of_length_eq_zero h
set_option maxHeartbeats 8000000 in
theorem refRight_user (x : EnT) (ok : OkE x) (hk : x.k = 1) (w : World) (X : Array Value) (HX : Hid (X = (ecells x).toArray)) :
    Calls Tryz.prog 62 #[.agg X] w fun e w' => e = .returned (.bool (rightE x)) ∧ Below w.heap.size w w' := by
  have HR := erow_new w x ok X HX 45
  have HB : Hid (Below w.heap.size w (w.alloc (.cells X 45))) := (Below.refl _ _).alloc (Nat.le_refl _) _
  have c0 := HR.k
  have c1 := HR.c
  have c2 := HR.s
  have c3 := HR.t
  have hrh := HR.h
  have hrm := HR.m
  simp only [Nat.zero_add] at c1 c2 c3 hrh hrm
  obtain ⟨Q, HQ, HSQ, H1Q, H69Q⟩ := sign_row x.h ok.h ok.g
  obtain ⟨C, HC, HSC, H1C, H36C⟩ := claim_row5 x.m ok.m
  obtain ⟨ZS, HZS, HAS, HBS, H69S⟩ := noughtsS
  obtain ⟨ZC, HZC, HAC, HBC, H36Z⟩ := noughtsC
  have RQ : Hid (∀ W, Below (w.alloc (.cells X 45)).heap.size (w.alloc (.cells X 45)) W → W.rangeAt w.heap.size 4 Q.toList) := fun W hb => by rw [HQ.out]; exact range_keep hb (by simpa using hrh)
  have RC : Hid (∀ W, Below (w.alloc (.cells X 45)).heap.size (w.alloc (.cells X 45)) W → W.rangeAt w.heap.size 73 C.toList) := fun W hb => by rw [HC.out]; exact range_keep hb (by simpa using hrm)
  have H0 : Hid (Below (w.alloc (.cells X 45)).heap.size (w.alloc (.cells X 45)) (w.alloc (.cells X 45))) := Below.refl _ _
  have WI : Hid (∀ (n a b : Int) (W : World), Calls Tryz.prog 61 #[.int .i64 n, .int .i64 a, .int .i64 b] W fun e w' => e = .returned (.bool (decide (a ≤ n) && decide (n ≤ b))) ∧ w' = W) := within8_any
  obtain ⟨b1, hb1⟩ : ∃ b, (decide (1 ≤ x.c) && decide (x.c ≤ 3)) = b := ⟨_, rfl⟩
  obtain ⟨b2, hb2⟩ : ∃ b, (decide (1 ≤ x.s) && decide (x.s ≤ 1000000)) = b := ⟨_, rfl⟩
  obtain ⟨b3, hb3⟩ : ∃ b, decide (x.t.size ≤ 200) = b := ⟨_, rfl⟩
  have hb3' : decide ((x.t.size : Int) ≤ 200) = b3 := by rw [← hb3, Bool.eq_iff_iff, decide_eq_true_eq, decide_eq_true_eq]; omega
  obtain ⟨b4, hb4⟩ : ∃ b, eqSB x.h zeroS = b := ⟨_, rfl⟩
  obtain ⟨b5, hb5⟩ : ∃ b, eqCB x.m zeroC = b := ⟨_, rfl⟩
  have EQS : ∀ W, (binOp .eql 29 (.agg Q) (.agg ZS)).run Tryz.prog W = .ok (.bool b4) W := fun W => eqSigned x.h zeroS ok.h rfl ok.g rfl Q ZS HQ HZS b4 (by rw [← hb4]; exact eqSB_iff _ _) W
  have EQC : ∀ W, (binOp .eql 43 (.agg C) (.agg ZC)).run Tryz.prog W = .ok (.bool b5) W := fun W => eqClaim x.m zeroC ok.m rfl C ZC HC HZC b5 (by rw [← hb5]; exact eqCB_iff _ _) W
  have W1 := hidk (WI.out x.c 1 3)
  have W2 := hidk (WI.out x.s 1 1000000)
  rw [hb1] at W1
  rw [hb2] at W2
  rw [right_user hk]
  rw [hb1, hb2, hb3, hb4, hb5]
  rw [hk] at c0
  obtain ⟨c, hc⟩ : ∃ c, c = x.c := ⟨_, rfl⟩
  obtain ⟨s, hs⟩ : ∃ c, c = x.s := ⟨_, rfl⟩
  obtain ⟨t, ht⟩ : ∃ c, c = x.t := ⟨_, rfl⟩
  rw [← hc] at c1 W1
  rw [← hs] at c2 W2
  rw [← ht] at c3 hb3 hb3'
  have hml : t.size ≤ 9223372036854775807 ∨ 9223372036854775807 < t.size := by omega
  clear hb1 hb2 hb4 hb5 WI HR hrh hrm HX HQ HC HZS HZC ok hc hs ht hml
  cases b1
  · go_enter Tryz.func62, Tryz.ntmps62
    go_wp2_with fail
    refine (W1.out _).mono ?_
    rintro e w1 ⟨rfl, rfl⟩
    go_wp2
    go_ret
    exact ⟨rfl, HB.out⟩
  cases b2
  · go_enter Tryz.func62, Tryz.ntmps62
    go_wp2_with fail
    refine (W1.out _).mono ?_
    rintro e w1 ⟨rfl, rfl⟩
    go_wp2_with fail
    refine (W2.out _).mono ?_
    rintro e w1 ⟨rfl, rfl⟩
    go_wp2
    go_ret
    exact ⟨rfl, HB.out⟩
  cases b3
  · go_enter Tryz.func62, Tryz.ntmps62
    go_wp2_with fail
    refine (W1.out _).mono ?_
    rintro e w1 ⟨rfl, rfl⟩
    go_wp2_with fail
    refine (W2.out _).mono ?_
    rintro e w1 ⟨rfl, rfl⟩
    go_wp2
    go_ret
    exact ⟨rfl, HB.out⟩
  cases b4
  · go_enter Tryz.func62, Tryz.ntmps62
    go_wp2_with fail
    refine (W1.out _).mono ?_
    rintro e w1 ⟨rfl, rfl⟩
    go_wp2_with fail
    refine (W2.out _).mono ?_
    rintro e w1 ⟨rfl, rfl⟩
    go_wp2_with (first
      | (show aD 23 _ _ _ _ _ _ _ _ _ _ _; refine wpList_mid_w (by rfl) 29 (.tmp 22) rfl w.heap.size 4 rfl Q _ (RQ.out _ H0.out) Tryz.underlying29 rfl HSQ.out ?_; try simp only [Act.put, pS1, pS2, pS3])
      | (show aD 24 _ _ _ _ _ _ _ _ _ _ _; refine wpList_build_none_w (by rfl) 29 rfl ZS HBS.out ?_; try simp only [Act.put, pS1, pS2, pS3])
      | (show aD 29 _ _ _ _ _ _ _ _ _ _ _; refine wpList_mid_w (by rfl) 43 (.tmp 28) rfl w.heap.size 73 rfl C _ (RC.out _ H0.out) Tryz.underlying43 rfl HSC.out ?_; try simp only [Act.put, pS1, pS2, pS3])
      | (show aD 30 _ _ _ _ _ _ _ _ _ _ _; refine wpList_build_none_w (by rfl) 43 rfl ZC HBC.out ?_; try simp only [Act.put, pS1, pS2, pS3])
      | fail)
    go_ret
    exact ⟨rfl, HB.out⟩
  · go_enter Tryz.func62, Tryz.ntmps62
    go_wp2_with fail
    refine (W1.out _).mono ?_
    rintro e w1 ⟨rfl, rfl⟩
    go_wp2_with fail
    refine (W2.out _).mono ?_
    rintro e w1 ⟨rfl, rfl⟩
    go_wp2_with (first
      | (show aD 23 _ _ _ _ _ _ _ _ _ _ _; refine wpList_mid_w (by rfl) 29 (.tmp 22) rfl w.heap.size 4 rfl Q _ (RQ.out _ H0.out) Tryz.underlying29 rfl HSQ.out ?_; try simp only [Act.put, pS1, pS2, pS3])
      | (show aD 24 _ _ _ _ _ _ _ _ _ _ _; refine wpList_build_none_w (by rfl) 29 rfl ZS HBS.out ?_; try simp only [Act.put, pS1, pS2, pS3])
      | (show aD 29 _ _ _ _ _ _ _ _ _ _ _; refine wpList_mid_w (by rfl) 43 (.tmp 28) rfl w.heap.size 73 rfl C _ (RC.out _ H0.out) Tryz.underlying43 rfl HSC.out ?_; try simp only [Act.put, pS1, pS2, pS3])
      | (show aD 30 _ _ _ _ _ _ _ _ _ _ _; refine wpList_build_none_w (by rfl) 43 rfl ZC HBC.out ?_; try simp only [Act.put, pS1, pS2, pS3])
      | fail)
    go_ret
    exact ⟨rfl, HB.out⟩
set_option maxHeartbeats 8000000 in
theorem refRight_anchor (x : EnT) (ok : OkE x) (hk : x.k = 2) (w : World) (X : Array Value) (HX : Hid (X = (ecells x).toArray)) :
    Calls Tryz.prog 62 #[.agg X] w fun e w' => e = .returned (.bool (rightE x)) ∧ Below w.heap.size w w' := by
  have HR := erow_new w x ok X HX 45
  have HB : Hid (Below w.heap.size w (w.alloc (.cells X 45))) := (Below.refl _ _).alloc (Nat.le_refl _) _
  have c0 := HR.k
  have c1 := HR.c
  have c2 := HR.s
  have c3 := HR.t
  have hrh := HR.h
  have hrm := HR.m
  simp only [Nat.zero_add] at c1 c2 c3 hrh hrm
  obtain ⟨Q, HQ, HSQ, H1Q, H69Q⟩ := sign_row x.h ok.h ok.g
  obtain ⟨C, HC, HSC, H1C, H36C⟩ := claim_row5 x.m ok.m
  obtain ⟨ZS, HZS, HAS, HBS, H69S⟩ := noughtsS
  obtain ⟨ZC, HZC, HAC, HBC, H36Z⟩ := noughtsC
  have RQ : Hid (∀ W, Below (w.alloc (.cells X 45)).heap.size (w.alloc (.cells X 45)) W → W.rangeAt w.heap.size 4 Q.toList) := fun W hb => by rw [HQ.out]; exact range_keep hb (by simpa using hrh)
  have RC : Hid (∀ W, Below (w.alloc (.cells X 45)).heap.size (w.alloc (.cells X 45)) W → W.rangeAt w.heap.size 73 C.toList) := fun W hb => by rw [HC.out]; exact range_keep hb (by simpa using hrm)
  have H0 : Hid (Below (w.alloc (.cells X 45)).heap.size (w.alloc (.cells X 45)) (w.alloc (.cells X 45))) := Below.refl _ _
  obtain ⟨b1, hb1⟩ : ∃ b, decide (x.c = 0) = b := ⟨_, rfl⟩
  obtain ⟨b2, hb2⟩ : ∃ b, decide (x.s = 0) = b := ⟨_, rfl⟩
  obtain ⟨b3, hb3⟩ : ∃ b, decide (x.t.size = 0) = b := ⟨_, rfl⟩
  have q1 : (x.c == 0) = b1 := by rw [← hb1, Bool.eq_iff_iff, beq_iff_eq, decide_eq_true_eq]
  have q2 : (x.s == 0) = b2 := by rw [← hb2, Bool.eq_iff_iff, beq_iff_eq, decide_eq_true_eq]
  have q3 : x.t.toList.isEmpty = b3 := by rw [← hb3]; exact text_zero x.t
  have EQ1 : ∀ W, (binOp .eql 3 (.int .i64 x.c) (.int .i64 0)).run Tryz.prog W = .ok (.bool b1) W := fun W => by rw [← q1]; simp [go_sem]
  have EQ2 : ∀ W, (binOp .eql 3 (.int .i64 x.s) (.int .i64 0)).run Tryz.prog W = .ok (.bool b2) W := fun W => by rw [← q2]; simp [go_sem]
  obtain ⟨b4, hb4⟩ : ∃ b, mayS x.h = b := ⟨_, rfl⟩
  obtain ⟨b5, hb5⟩ : ∃ b, eqCB x.m zeroC = b := ⟨_, rfl⟩
  have MY : Hid (∀ W, Calls Tryz.prog 40 #[.agg Q] W fun e w' => e = .returned (.bool b4) ∧ Below W.heap.size W w') := fun W => by rw [← hb4]; exact refMay_any x.h ok.h W Q HQ
  have EQC : ∀ W, (binOp .eql 43 (.agg C) (.agg ZC)).run Tryz.prog W = .ok (.bool b5) W := fun W => eqClaim x.m zeroC ok.m rfl C ZC HC HZC b5 (by rw [← hb5]; exact eqCB_iff _ _) W
  rw [right_anchor hk]
  rw [hb1, hb2, hb3, hb4, hb5]
  rw [hk] at c0
  obtain ⟨c, hc⟩ : ∃ c, c = x.c := ⟨_, rfl⟩
  obtain ⟨s, hs⟩ : ∃ c, c = x.s := ⟨_, rfl⟩
  obtain ⟨t, ht⟩ : ∃ c, c = x.t := ⟨_, rfl⟩
  rw [← hc] at c1 q1 EQ1
  rw [← hs] at c2 q2 EQ2
  rw [← ht] at c3 q3
  clear hb1 hb2 hb3 hb4 hb5 HR hrh hrm HX HQ HC HZS HZC ok hc hs ht
  cases b1
  · go_enter Tryz.func62, Tryz.ntmps62
    go_wp2
    go_ret
    exact ⟨rfl, HB.out⟩
  cases b2
  · go_enter Tryz.func62, Tryz.ntmps62
    go_wp2
    go_ret
    exact ⟨rfl, HB.out⟩
  cases b3
  · go_enter Tryz.func62, Tryz.ntmps62
    go_wp2
    go_ret
    exact ⟨rfl, HB.out⟩
  cases b4
  · go_enter Tryz.func62, Tryz.ntmps62
    go_wp2_with (first
      | (show aD 50 _ _ _ _ _ _ _ _ _ _ _; refine wpList_mid_w (by rfl) 29 (.tmp 49) rfl w.heap.size 4 rfl Q _ (RQ.out _ H0.out) Tryz.underlying29 rfl HSQ.out ?_; try simp only [Act.put, pS1, pS2, pS3])
      | fail)
    refine (MY.out _).mono ?_
    rintro e w1 ⟨rfl, hb1⟩
    have HB1 := hidk (HB.out.trans (hb1.mono HB.out.size))
    have HRC1 := hidk (RC.out _ hb1)
    clear hb1
    go_wp2_with (first
      | fail)
    go_ret
    exact ⟨rfl, HB1.out⟩
  · go_enter Tryz.func62, Tryz.ntmps62
    go_wp2_with (first
      | (show aD 50 _ _ _ _ _ _ _ _ _ _ _; refine wpList_mid_w (by rfl) 29 (.tmp 49) rfl w.heap.size 4 rfl Q _ (RQ.out _ H0.out) Tryz.underlying29 rfl HSQ.out ?_; try simp only [Act.put, pS1, pS2, pS3])
      | fail)
    refine (MY.out _).mono ?_
    rintro e w1 ⟨rfl, hb1⟩
    have HB1 := hidk (HB.out.trans (hb1.mono HB.out.size))
    have HRC1 := hidk (RC.out _ hb1)
    clear hb1
    go_wp2_with (first
      | (show aD 55 _ _ _ _ _ _ _ _ _ _ _; refine wpList_mid_w (by rfl) 43 (.tmp 54) rfl w.heap.size 73 rfl C _ HRC1.out Tryz.underlying43 rfl HSC.out ?_; try simp only [Act.put, pS1, pS2, pS3])
      | (show aD 56 _ _ _ _ _ _ _ _ _ _ _; refine wpList_build_none_w (by rfl) 43 rfl ZC HBC.out ?_; try simp only [Act.put, pS1, pS2, pS3])
      | fail)
    go_ret
    exact ⟨rfl, HB1.out⟩
set_option maxHeartbeats 8000000 in
theorem refRight_claim (x : EnT) (ok : OkE x) (hk : x.k = 3) (w : World) (X : Array Value) (HX : Hid (X = (ecells x).toArray)) :
    Calls Tryz.prog 62 #[.agg X] w fun e w' => e = .returned (.bool (rightE x)) ∧ Below w.heap.size w w' := by
  have HR := erow_new w x ok X HX 45
  have HB : Hid (Below w.heap.size w (w.alloc (.cells X 45))) := (Below.refl _ _).alloc (Nat.le_refl _) _
  have c0 := HR.k
  have c1 := HR.c
  have c2 := HR.s
  have c3 := HR.t
  have hrh := HR.h
  have hrm := HR.m
  simp only [Nat.zero_add] at c1 c2 c3 hrh hrm
  obtain ⟨Q, HQ, HSQ, H1Q, H69Q⟩ := sign_row x.h ok.h ok.g
  obtain ⟨C, HC, HSC, H1C, H36C⟩ := claim_row5 x.m ok.m
  obtain ⟨ZS, HZS, HAS, HBS, H69S⟩ := noughtsS
  obtain ⟨ZC, HZC, HAC, HBC, H36Z⟩ := noughtsC
  have RQ : Hid (∀ W, Below (w.alloc (.cells X 45)).heap.size (w.alloc (.cells X 45)) W → W.rangeAt w.heap.size 4 Q.toList) := fun W hb => by rw [HQ.out]; exact range_keep hb (by simpa using hrh)
  have RC : Hid (∀ W, Below (w.alloc (.cells X 45)).heap.size (w.alloc (.cells X 45)) W → W.rangeAt w.heap.size 73 C.toList) := fun W hb => by rw [HC.out]; exact range_keep hb (by simpa using hrm)
  have H0 : Hid (Below (w.alloc (.cells X 45)).heap.size (w.alloc (.cells X 45)) (w.alloc (.cells X 45))) := Below.refl _ _
  obtain ⟨b1, hb1⟩ : ∃ b, decide (x.c = 0) = b := ⟨_, rfl⟩
  obtain ⟨b2, hb2⟩ : ∃ b, decide (x.s = 0) = b := ⟨_, rfl⟩
  obtain ⟨b3, hb3⟩ : ∃ b, decide (x.t.size = 0) = b := ⟨_, rfl⟩
  have q1 : (x.c == 0) = b1 := by rw [← hb1, Bool.eq_iff_iff, beq_iff_eq, decide_eq_true_eq]
  have q2 : (x.s == 0) = b2 := by rw [← hb2, Bool.eq_iff_iff, beq_iff_eq, decide_eq_true_eq]
  have q3 : x.t.toList.isEmpty = b3 := by rw [← hb3]; exact text_zero x.t
  have EQ1 : ∀ W, (binOp .eql 3 (.int .i64 x.c) (.int .i64 0)).run Tryz.prog W = .ok (.bool b1) W := fun W => by rw [← q1]; simp [go_sem]
  have EQ2 : ∀ W, (binOp .eql 3 (.int .i64 x.s) (.int .i64 0)).run Tryz.prog W = .ok (.bool b2) W := fun W => by rw [← q2]; simp [go_sem]
  obtain ⟨b4, hb4⟩ : ∃ b, eqSB x.h zeroS = b := ⟨_, rfl⟩
  obtain ⟨b5, hb5⟩ : ∃ b, rightC x.m = b := ⟨_, rfl⟩
  have EQS : ∀ W, (binOp .eql 29 (.agg Q) (.agg ZS)).run Tryz.prog W = .ok (.bool b4) W := fun W => eqSigned x.h zeroS ok.h rfl ok.g rfl Q ZS HQ HZS b4 (by rw [← hb4]; exact eqSB_iff _ _) W
  have RR : Hid (∀ W, Calls Tryz.prog 80 #[.agg C] W fun e w' => e = .returned (.bool b5) ∧ Below W.heap.size W w') := fun W => by rw [← hb5]; exact refRightC_any x.m W C HC
  rw [right_claim hk]
  rw [hb1, hb2, hb3, hb4, hb5]
  rw [hk] at c0
  obtain ⟨c, hc⟩ : ∃ c, c = x.c := ⟨_, rfl⟩
  obtain ⟨s, hs⟩ : ∃ c, c = x.s := ⟨_, rfl⟩
  obtain ⟨t, ht⟩ : ∃ c, c = x.t := ⟨_, rfl⟩
  rw [← hc] at c1 q1 EQ1
  rw [← hs] at c2 q2 EQ2
  rw [← ht] at c3 q3
  clear hb1 hb2 hb3 hb4 hb5 HR hrh hrm HX HQ HC HZS HZC ok hc hs ht
  cases b1
  · go_enter Tryz.func62, Tryz.ntmps62
    go_wp2
    go_ret
    exact ⟨rfl, HB.out⟩
  cases b2
  · go_enter Tryz.func62, Tryz.ntmps62
    go_wp2
    go_ret
    exact ⟨rfl, HB.out⟩
  cases b3
  · go_enter Tryz.func62, Tryz.ntmps62
    go_wp2
    go_ret
    exact ⟨rfl, HB.out⟩
  cases b4
  · go_enter Tryz.func62, Tryz.ntmps62
    go_wp2_with (first
      | (show aD 76 _ _ _ _ _ _ _ _ _ _ _; refine wpList_mid_w (by rfl) 29 (.tmp 75) rfl w.heap.size 4 rfl Q _ (RQ.out _ H0.out) Tryz.underlying29 rfl HSQ.out ?_; try simp only [Act.put, pS1, pS2, pS3])
      | (show aD 77 _ _ _ _ _ _ _ _ _ _ _; refine wpList_build_none_w (by rfl) 29 rfl ZS HBS.out ?_; try simp only [Act.put, pS1, pS2, pS3])
      | (show aD 82 _ _ _ _ _ _ _ _ _ _ _; refine wpList_mid_w (by rfl) 43 (.tmp 81) rfl w.heap.size 73 rfl C _ (RC.out _ H0.out) Tryz.underlying43 rfl HSC.out ?_; try simp only [Act.put, pS1, pS2, pS3])
      | fail)
    go_ret
    exact ⟨rfl, HB.out⟩
  · go_enter Tryz.func62, Tryz.ntmps62
    go_wp2_with (first
      | (show aD 76 _ _ _ _ _ _ _ _ _ _ _; refine wpList_mid_w (by rfl) 29 (.tmp 75) rfl w.heap.size 4 rfl Q _ (RQ.out _ H0.out) Tryz.underlying29 rfl HSQ.out ?_; try simp only [Act.put, pS1, pS2, pS3])
      | (show aD 77 _ _ _ _ _ _ _ _ _ _ _; refine wpList_build_none_w (by rfl) 29 rfl ZS HBS.out ?_; try simp only [Act.put, pS1, pS2, pS3])
      | (show aD 82 _ _ _ _ _ _ _ _ _ _ _; refine wpList_mid_w (by rfl) 43 (.tmp 81) rfl w.heap.size 73 rfl C _ (RC.out _ H0.out) Tryz.underlying43 rfl HSC.out ?_; try simp only [Act.put, pS1, pS2, pS3])
      | fail)
    refine (RR.out _).mono ?_
    rintro e w1 ⟨rfl, hb1⟩
    have HB1 := hidk (HB.out.trans (hb1.mono HB.out.size))
    clear hb1
    go_wp2_with fail
    go_ret
    exact ⟨rfl, HB1.out⟩
set_option maxHeartbeats 4000000 in
theorem refRight_none (x : EnT) (ok : OkE x) (h1 : ¬ x.k = 1) (h2 : ¬ x.k = 2) (h3 : ¬ x.k = 3) (w : World) (X : Array Value) (HX : Hid (X = (ecells x).toArray)) :
    Calls Tryz.prog 62 #[.agg X] w fun e w' => e = .returned (.bool (rightE x)) ∧ Below w.heap.size w w' := by
  rw [right_none h1 h2 h3]
  have HB : Hid (Below w.heap.size w (w.alloc (.cells X 45))) := (Below.refl _ _).alloc (Nat.le_refl _) _
  have c0 := (erow_new w x ok X HX 45).k
  have q1 : (x.k == 1) = false := by rw [beq_eq_false_iff_ne]; exact h1
  have q2 : (x.k == 2) = false := by rw [beq_eq_false_iff_ne]; exact h2
  have q3 : (x.k == 3) = false := by rw [beq_eq_false_iff_ne]; exact h3
  have d1 : decide (x.k = 1) = false := by rw [decide_eq_false_iff_not]; exact h1
  have d2 : decide (x.k = 2) = false := by rw [decide_eq_false_iff_not]; exact h2
  have d3 : decide (x.k = 3) = false := by rw [decide_eq_false_iff_not]; exact h3
  obtain ⟨k, hk⟩ : ∃ k, k = x.k := ⟨_, rfl⟩
  rw [← hk] at c0 q1 q2 q3 d1 d2 d3 h1 h2 h3
  clear HX ok hk
  go_enter Tryz.func62, Tryz.ntmps62
  go_wp2
  go_ret
  exact ⟨rfl, HB.out⟩
theorem refRightE_any (x : EnT) (ok : OkE x) (w : World) (X : Array Value) (HX : Hid (X = (ecells x).toArray)) :
    Calls Tryz.prog 62 #[.agg X] w fun e w' => e = .returned (.bool (rightE x)) ∧ Below w.heap.size w w' := by
  by_cases h1 : x.k = 1
  · exact refRight_user x ok h1 w X HX
  by_cases h2 : x.k = 2
  · exact refRight_anchor x ok h2 w X HX
  by_cases h3 : x.k = 3
  · exact refRight_claim x ok h3 w X HX
  exact refRight_none x ok h1 h2 h3 w X HX
structure FO (w : World) (x : EnT) (v : Value) (fs : List (Int × ByteArray)) (W : World) : Prop where
  row : ERow W w.heap.size 0 x
  own : W.ownsRow (w.heap.size + 1) 125 2 v fs.length (fcells fs)
  nil : v = .slice none 0 0 ↔ fs = []
  below : Below w.heap.size w W
  size : w.heap.size + 1 ≤ W.heap.size
theorem FO.keep {w W W' : World} {x : EnT} {v : Value} {fs : List (Int × ByteArray)} (h : FO w x v fs W) (hb : Below W.heap.size W W') : FO w x v fs W' :=
  ⟨h.row.keep hb, h.own.kept (row := none) ⟨hb.os, hb.tape, hb.output, hb.size, fun j hj _ => hb.block j hj⟩ (by cases hv : v.ownBlock <;> simp), h.nil, h.below.trans (hb.mono h.below.size), Nat.le_trans h.size hb.size⟩
theorem FO.first {w W : World} {x : EnT} (hr : ERow W w.heap.size 0 x) (hb : Below w.heap.size w W) (hs : w.heap.size + 1 ≤ W.heap.size) (n : ByteArray) : FO w x (.slice (some ⟨W.heap.size, 0, none⟩) 1 1) [(1, n)] (W.alloc (.cells #[.int .i64 1, .string n] 125)) := by
  have h0 : Below W.heap.size W (W.alloc (.cells #[.int .i64 1, .string n] 125)) := (Below.refl _ _).alloc (Nat.le_refl _) _
  refine ⟨hr.keep h0, ⟨rfl, .inr ⟨W.heap.size, 1, #[.int .i64 1, .string n], rfl, hs, heap_alloc_new W _, Nat.le_refl _, by unfold maxLen; decide, rfl, rfl⟩⟩, ?_, hb.trans (h0.mono hb.size), by simp; omega⟩
  constructor
  · intro e; cases e
  · intro e; cases e
theorem irow_new (w : World) (x : ItT) (X : Array Value) (HX : Hid (X = (icells x).toArray)) (t : TypeId) : (w.alloc (.cells X t)).cell? ⟨w.heap.size, 0, none⟩ = some (.int .i64 x.p) ∧ (w.alloc (.cells X t)).rangeAt w.heap.size 1 (ecells x.e) := by
  have each : ∀ j u, (icells x)[j]? = some u → (w.alloc (.cells X t)).cell? ⟨w.heap.size, j, none⟩ = some u := fun j u hj => by
    rw [cell_of_row _ _ j _ t (0, 0) (heap_alloc_new w _), HX.out]
    simpa using hj
  refine ⟨each 0 _ rfl, fun j v hj => each (1 + j) v ?_⟩
  unfold icells
  rw [List.getElem?_append_right (by simp)]
  simpa using hj
set_option maxHeartbeats 2000000 in
theorem refRightI_any (x : ItT) (ok : OkE x.e) (w : World) (X : Array Value) (HX : Hid (X = (icells x).toArray)) :
    Calls Tryz.prog 39 #[.agg X] w fun e w' => e = .returned (.bool (rightI x)) ∧ Below w.heap.size w w' := by
  have HB : Hid (Below w.heap.size w (w.alloc (.cells X 47))) := (Below.refl _ _).alloc (Nat.le_refl _) _
  obtain ⟨c0, hr⟩ := irow_new w x X HX 47
  obtain ⟨Q, HQ⟩ : ∃ Q : Array Value, Hid (Q = (ecells x.e).toArray) := ⟨_, hidk rfl⟩
  have HSQ : Hid ((Tryz.prog.info? 45).map (·.size) = some Q.size) := by show _ = _; rw [sizeE, HQ.out]; simp [ecells_length x.e ok]
  have HRQ : Hid ((w.alloc (.cells X 47)).rangeAt w.heap.size 1 Q.toList) := by show World.rangeAt _ _ _ _; rw [HQ.out]; simpa using hr
  obtain ⟨b1, hb1⟩ : ∃ b, (decide (1 ≤ x.p) && decide (x.p ≤ 900000000)) = b := ⟨_, rfl⟩
  obtain ⟨b2, hb2⟩ : ∃ b, rightE x.e = b := ⟨_, rfl⟩
  have W1 : Hid (∀ (W : World), Calls Tryz.prog 61 #[.int .i64 x.p, .int .i64 1, .int .i64 900000000] W fun e w' => e = .returned (.bool b1) ∧ w' = W) := fun W => by rw [← hb1]; exact within8_any x.p 1 900000000 W
  have R2 : Hid (∀ W, Calls Tryz.prog 62 #[.agg Q] W fun e w' => e = .returned (.bool b2) ∧ Below W.heap.size W w') := fun W => by rw [← hb2]; exact refRightE_any x.e ok W Q HQ
  have hE : rightI x = (b1 && b2) := by rw [← hb1, ← hb2]; rfl
  rw [hE]
  obtain ⟨p, hp⟩ : ∃ p, p = x.p := ⟨_, rfl⟩
  rw [← hp] at c0 W1
  clear hE hb1 hb2 hp HX HQ hr ok
  cases b1
  · go_enter Tryz.func39, Tryz.ntmps39
    go_wp2_with fail
    refine (W1.out _).mono ?_
    rintro e w1 ⟨rfl, rfl⟩
    go_wp2
    go_ret
    exact ⟨rfl, HB.out⟩
  · go_enter Tryz.func39, Tryz.ntmps39
    go_wp2_with fail
    refine (W1.out _).mono ?_
    rintro e w1 ⟨rfl, rfl⟩
    go_wp2_with (first
      | (show aD 8 _ _ _ _ _ _ _ _ _ _ _; refine wpList_mid_w (by rfl) 45 (.tmp 7) rfl w.heap.size 1 rfl Q _ HRQ.out Tryz.underlying45 rfl HSQ.out ?_; try simp only [Act.put, pS1, pS2, pS3])
      | fail)
    refine (R2.out _).mono ?_
    rintro e w1 ⟨rfl, hb1⟩
    have HB1 := hidk (HB.out.trans (hb1.mono HB.out.size))
    clear hb1
    go_wp2
    go_ret
    exact ⟨rfl, HB1.out⟩
structure InC (c : ClT) : Prop where
  d : c.d.length = 32
  r : In64 c.r
  e : In64 c.e
  n : In64 c.n
  s : In64 c.s
structure InE (x : EnT) : Prop where
  k : In64 x.k
  c : In64 x.c
  s : In64 x.s
  t : x.t.size ≤ 100000
  h : InS x.h
  m : InC x.m
theorem InE.ok {x : EnT} (h : InE x) : OkE x := ⟨h.h.h.d, h.h.g, h.m.d⟩
structure InI (x : ItT) : Prop where
  p : In64 x.p
  e : InE x.e
def cB (c : ClT) : List UInt8 := if rightC c = true then claimB c else []
def cE (c : ClT) : Int := if rightC c = true then 0 else 60
def eE (x : EnT) : Int := if rightE x = true then 0 else 60
def iE (x : ItT) : Int := if rightI x = true then 0 else 60
structure EntryC : Prop where
  checkC : ∀ (c : ClT) (hc : InC c) (w : World) (C : Array Value) (HC : Hid (C = (ccells c).toArray)),
    Calls Tryz.prog 87 #[.agg C] w fun e w' => e = .returned (.int .i64 (cE c)) ∧ Below w.heap.size w w'
  check : ∀ (x : EnT) (hx : InE x) (w : World) (X : Array Value) (HX : Hid (X = (ecells x).toArray)),
    Calls Tryz.prog 46 #[.agg X] w fun e w' => e = .returned (.int .i64 (eE x)) ∧ Below w.heap.size w w'
theorem zeroC_in : InC zeroC := ⟨rfl, by unfold In64; decide, by unfold In64; decide, by unfold In64; decide, by unfold In64; decide⟩
structure IRow (W : World) (g : Nat) (p : Int) (Q : Array Value) : Prop where
  p : W.cell? ⟨g, 0, none⟩ = some (.int .i64 p)
  e : W.rangeAt g 1 Q.toList
theorem IRow.keep {W W' : World} {g : Nat} {p : Int} {Q : Array Value} (r : IRow W g p Q) (hb : Below W.heap.size W W') : IRow W' g p Q :=
  ⟨(hb.cell (World.block_lt_of_cell? _ _ r.p)).trans r.p, range_keep hb r.e⟩
theorem infoE : (Tryz.prog.info? 45).map (fun i => (i.zero, i.size)) = some (some (.agg (ecells zeroE).toArray), 109) := by kernel_rfl
theorem builtE0 : Tryz.prog.built 45 [] = some (ecells zeroE).toArray := by kernel_rfl
theorem one_cellsE (x : EnT) : (ecells x).toArray.all (·.oneCell') = true := by
  rw [List.all_toArray, List.all_eq_true]
  intro v hv
  unfold ecells at hv
  simp only [List.mem_append, List.mem_cons, List.not_mem_nil, or_false] at hv
  rcases hv with ((rfl | rfl | rfl | rfl) | hv) | hv
  · rfl
  · rfl
  · rfl
  · rfl
  · have := one_cellsS x.h
    rw [List.all_toArray, List.all_eq_true] at this
    exact this v hv
  · have := one_cellsC x.m
    rw [List.all_toArray, List.all_eq_true] at this
    exact this v hv
theorem wpList_build_some {P : Program} {ops : Array Oper} {rest : List Oper} {o : Oper} {a : Act} {w : World} {Q : Exit → Act → World → Prop} (hg : o.guard = none) (t : TypeId) (parts : Array (Nat × Operand)) (ho : o.op = .build t parts) (vals : List (Nat × Value)) (hv : (parts.toList.map fun p => (p.1, a.eval p.2)) = vals)
    (cs : Array Value) (hb : P.built t vals = some cs) (h : wpList P ops Q rest (a.put o.dst (.agg cs)) w) : wpList P ops Q (o :: rest) a w := by
  refine wpList_build_row hg t parts ho cs ?_ h
  rw [← hb, ← hv, Array.toList_map]
theorem infoI : (Tryz.prog.info? 47).map (fun i => (i.zero, i.size)) = some (some (.agg (icells zeroI).toArray), 110) := by kernel_rfl
theorem builtI0 : Tryz.prog.built 47 [] = some (icells zeroI).toArray := by kernel_rfl
theorem one_cellsI (x : ItT) : (icells x).toArray.all (·.oneCell') = true := by
  have := one_cellsE x.e
  rw [List.all_toArray, List.all_eq_true] at this ⊢
  intro v hv
  unfold icells at hv
  simp only [List.mem_append, List.mem_cons, List.not_mem_nil, or_false] at hv
  rcases hv with rfl | hv
  · rfl
  · exact this v hv
theorem entry_row (x : EnT) (ok : OkE x) : ∃ C : Array Value, Hid (C = (ecells x).toArray) ∧ Hid ((Tryz.prog.info? 45).map (·.size) = some C.size) ∧ Hid (C.all (·.oneCell') = true) ∧ Hid (C.size = 109) := by
  refine ⟨(ecells x).toArray, hidk rfl, ?_, one_cellsE x, ?_⟩
  · show _ = _
    rw [sizeE]; simp [ecells_length x ok]
  · show _ = _
    simp [ecells_length x ok]
theorem item_row (x : ItT) (ok : OkE x.e) : ∃ C : Array Value, Hid (C = (icells x).toArray) ∧ Hid ((Tryz.prog.info? 47).map (·.size) = some C.size) ∧ Hid (C.all (·.oneCell') = true) ∧ Hid (C.size = 110) := by
  refine ⟨(icells x).toArray, hidk rfl, ?_, one_cellsI x, ?_⟩
  · show _ = _
    rw [sizeI]; simp [icells_length x ok]
  · show _ = _
    simp [icells_length x ok]
theorem noughtsE : ∃ Z : Array Value, Hid (Z = (ecells zeroE).toArray) ∧ Hid ((Tryz.prog.info? 45).map (fun i => (i.zero, i.size)) = some (some (.agg Z), Z.size)) ∧ Hid (Tryz.prog.built 45 [] = some Z) ∧ Hid (Z.size = 109) :=
  ⟨(ecells zeroE).toArray, hidk rfl, infoE, builtE0, hidk rfl⟩
theorem noughtsI : ∃ Z : Array Value, Hid (Z = (icells zeroI).toArray) ∧ Hid ((Tryz.prog.info? 47).map (fun i => (i.zero, i.size)) = some (some (.agg Z), Z.size)) ∧ Hid (Tryz.prog.built 47 [] = some Z) ∧ Hid (Z.size = 110) :=
  ⟨(icells zeroI).toArray, hidk rfl, infoI, builtI0, hidk rfl⟩
theorem builtI (x : ItT) (ok : OkE x.e) (C R : Array Value) (HC : Hid (C = (ecells x.e).toArray)) (HR : Hid (R = (icells x).toArray)) : Tryz.prog.built 47 [(0, .int .i64 x.p), (1, .agg C)] = some R := by
  have hi := infoI
  have hzl := ecells_length zeroE zeroE_ok
  cases hq : Tryz.prog.info? 47 with
  | none => rw [hq] at hi; cases hi
  | some i =>
    rw [hq] at hi
    simp only [Option.map_some, Option.some.injEq, Prod.mk.injEq] at hi
    have hE := sizeE
    have h3 : (Tryz.prog.info? 3).map (·.size) = some 1 := by kernel_rfl
    cases hqE : Tryz.prog.info? 45 with
    | none => rw [hqE] at hE; cases hE
    | some iE =>
      cases hq3 : Tryz.prog.info? 3 with
      | none => rw [hq3] at h3; cases h3
      | some i3 =>
        rw [hqE] at hE
        rw [hq3] at h3
        simp only [Option.map_some, Option.some.injEq] at hE h3
        unfold Program.built
        simp only [hq, Tryz.underlying47, hi.1, List.mapM_cons, List.mapM_nil, hqE, hq3, hE, h3, Option.map_some, Option.bind_eq_bind, Option.bind_some, Option.pure_def]
        show Instr.fill _ (icells zeroI).toArray _ = some R
        have hc : C.size = 109 := by rw [HC.out]; simp [ecells_length x.e ok]
        refine (fill_val _ 0 0 1 (.int .i64 x.p) #[.int .i64 x.p] _ [] [.int .i64 0] (ecells zeroE) _ rfl rfl rfl (by simp [icells, zeroI]) rfl rfl).trans ?_
        refine (fill_val _ 1 1 109 (.agg C) C _ [.int .i64 x.p] (ecells zeroE) [] _ rfl rfl hc (by simp) rfl hzl).trans ?_
        simp only [Instr.fill, List.append_nil, Option.some.injEq]
        rw [HR.out, HC.out]
        rfl
end Go.Proofs.YtjalebncfnekiaaGreatDoor
/- Variables of many cells within a fence. -/
namespace Go.Proofs.YtjalebncfnekiaaGreatDoor
open Go.RowKit Go.Shelf Nums Sums
set_option linter.unusedVariables false
set_option linter.unusedSimpArgs false
set_option maxRecDepth 100000
theorem wpListIn_new_var {F : Fence} {n : Nat} {P : Program} {ops : Array Oper} {rest : List Oper} {o : Oper} {a : Act} {w : World} {Q : Exit → Act → World → Prop} (hg : o.guard = none) (t : TypeId) (ho : o.op = .alloc t)
    (cs : Array Value) (hz : (P.info? t).map (fun i => (i.zero, i.size)) = some (some (.agg cs), cs.size)) (h : ∀ g w', Hid (Made g cs t w w') → wpListIn F n P ops Q rest (a.put o.dst (.pointer (some ⟨g, 0, none⟩))) w') : wpListIn F n P ops Q (o :: rest) a w := by
  refine wpListIn_plain hg fun K hK => ?_
  have hk := hK _ _ (h w.heap.size _ ⟨rfl, heap_alloc_new w _, (Below.refl _ _).alloc (Nat.le_refl _) _⟩)
  refine ⟨fun f hf => (by simp [Oper.about, ho] at hf), ?_⟩
  rw [Oper.semAt_plain F _ _ (by rw [ho]; intro c hc; cases hc)]
  unfold execOp
  cases hq : P.info? t with
  | none => simp [hq] at hz
  | some i =>
    simp [hq] at hz
    simp [ho, Instr.alloc, newVar, zeroValue, typeInfo, hq, hz.1, go_sem]
    exact hk
theorem wpListIn_set_var {F : Fence} {n : Nat} {P : Program} {ops : Array Oper} {rest : List Oper} {o : Oper} {a : Act} {w : World} {Q : Exit → Act → World → Prop} (hgd : o.guard = none) (t : TypeId) (x y : Operand) (ho : o.op = .store t x y)
    (g : Nat) (D : Array Value) (hx : a.eval x = .pointer (some ⟨g, 0, none⟩)) (hy : a.eval y = .agg D) (t' : TypeId) (Z : Array Value) (hg : w.heap[g]? = some (.cells Z t' (0, 0))) (hi : (P.info? t).map (·.size) = some D.size) (hold : Z.size = D.size) (h1 : D.all (·.oneCell') = true)
    (h : ∀ w', Hid (Wrote g D t' w w') → wpListIn F n P ops Q rest (a.put o.dst undef) w') : wpListIn F n P ops Q (o :: rest) a w := by
  refine wpListIn_plain hgd fun K hK => ?_
  have hk := hK _ _ (h _ (wrote_row hg))
  refine ⟨fun f hf => (by simp [Oper.about, ho] at hf), ?_⟩
  rw [Oper.semAt_plain F _ _ (by rw [ho]; intro c hc; cases hc)]
  unfold execOp
  simp [ho, hx, hy, Instr.storeAt, Instr.sureAddr, Sem.run_bind, Result.andThen, run_storeVar_row w g t' t Z D hg hi hold h1]
  exact hk
theorem wpListIn_mid {F : Fence} {n : Nat} {P : Program} {ops : Array Oper} {rest : List Oper} {op : Oper} {a : Act} {w : World} {Q : Exit → Act → World → Prop} (hw : Region.wanted op (yielded ops a.tmps) = true) (ty : TypeId) (x : Operand) (ho : op.op = .load ty x)
    (b o : Nat) (hx : a.eval x = .pointer (some ⟨b, o, none⟩)) (D : Array Value) (d : TypeDesc) (hc : w.rangeAt b o D.toList)
    (hu : P.underlying ty = some d) (hd : d.isRow = true) (hi : (P.info? ty).map (·.size) = some D.size)
    (h : wpListIn F n P ops Q rest (a.put op.dst (.agg D)) w) : wpListIn F n P ops Q (op :: rest) a w := by
  refine BigFrame.wpListIn_want hw fun K hK => ?_
  have hk := hK _ _ h
  refine ⟨fun f hf => (by simp [Oper.about, ho] at hf), ?_⟩
  rw [Oper.semAt_plain F _ _ (by rw [ho]; intro c hc; cases hc)]
  unfold execOp
  simp only [ho, hx, Instr.loadAt, Instr.sureAddr, Sem.run_bind, Sem.run_pure, Result.andThen_ok, run_loadVar_mid w b o ty D.toList d hc hu hd (by simpa using hi)]
  exact hk
end Go.Proofs.YtjalebncfnekiaaGreatDoor
/- A log gone through from its end (chapter 13). -/
namespace Go.Proofs.YtjalebncfnekiaaGreatDoor
open Nums Sums
set_option linter.unusedVariables false
set_option maxRecDepth 100000
def bkN (m : Nat) : List Nat := (List.range m).reverse
theorem bkN_next (k : Nat) : bkN (k + 1) = k :: bkN k := by unfold bkN; rw [List.range_succ, List.reverse_append]; rfl
def itC (l : List ItT) (i : Nat) : ItT := l.getD i ⟨0, zeroE⟩
theorem itC_ok {l : List ItT} (h : ∀ x ∈ l, OkE x.e) (i : Nat) : OkE (itC l i).e := by
  unfold itC
  rw [List.getD_eq_getElem?_getD]
  by_cases hi : i < l.length
  · rw [List.getElem?_eq_getElem hi]; exact h _ (List.getElem_mem hi)
  · rw [List.getElem?_eq_none (by omega)]; exact ⟨rfl, rfl, rfl⟩
theorem itC_at {l : List ItT} {i : Nat} (hi : i < l.length) : itC l i = l[i] := by
  unfold itC
  rw [List.getD_eq_getElem?_getD, List.getElem?_eq_getElem hi]
  rfl
theorem map_bkN (l : List ItT) : (bkN l.length).map (itC l) = l.reverse := by
  unfold bkN
  rw [List.map_reverse]
  congr 1
  refine List.ext_getElem (by simp) fun i h1 h2 => ?_
  rw [List.getElem_map, List.getElem_range, itC_at h2]
theorem lat_bk (l : List ItT) (r : Int) : latA l r = ((bkN l.length).find? fun i => isAn (itC l i) r).map fun i => (itC l i).e.h := by
  rw [latA_from, ← map_bkN, List.find?_map, Option.map_map]
  rfl
theorem lat_stop {l : List ItT} {r : Int} {pre : List Nat} {i : Nat} (hp : pre ++ [i] <+: bkN l.length) (h0 : ∀ j ∈ pre, isAn (itC l j) r = false) (h1 : isAn (itC l i) r = true) : latA l r = some (itC l i).e.h := by
  obtain ⟨t, ht⟩ := hp
  have : (bkN l.length).find? (fun i => isAn (itC l i) r) = some i := by
    rw [← ht, List.append_assoc, List.find?_append, List.find?_eq_none.2 (fun j hj => by rw [h0 j hj]; decide)]
    rw [Option.none_or]
    show (i :: t).find? _ = _
    rw [List.find?_cons, h1]
  rw [lat_bk, this]
  rfl
theorem lat_done {l : List ItT} {r : Int} (h : ∀ j ∈ bkN l.length, isAn (itC l j) r = false) : latA l r = none := by
  rw [lat_bk, List.find?_eq_none.2 (fun j hj => by rw [h j hj]; decide)]
  rfl
def plF (l : List ItT) (r s : Int) (pre : List Nat) : Option Nat := pre.foldl (fun o i => if abA r s (itC l i) = true then some i else o) none
theorem plF_snoc (l : List ItT) (r s : Int) (pre : List Nat) (i : Nat) : plF l r s (pre ++ [i]) = if abA r s (itC l i) = true then some i else plF l r s pre := by
  unfold plF
  rw [List.foldl_append]
  rfl
theorem foldr_find {p : Nat → Bool} : ∀ L : List Nat, L.foldr (fun i o => if p i = true then some i else o) none = L.find? p
  | [] => rfl
  | x :: L => by
    rw [List.foldr_cons, foldr_find L, List.find?_cons]
    cases p x <;> rfl
theorem plF_all (l : List ItT) (r s : Int) : plF l r s (bkN l.length) = plcA l r s := by
  unfold plF bkN
  rw [List.foldl_reverse, foldr_find]
  cases h : (List.range l.length).find? (fun i => abA r s (itC l i)) with
  | none =>
    rw [List.find?_eq_none] at h
    refine (plcA_no fun y hy => ?_).symm
    obtain ⟨i, hi, rfl⟩ := List.mem_iff_getElem.1 hy
    have := h i (List.mem_range.2 hi)
    rw [itC_at hi] at this
    simpa using this
  | some k =>
    obtain ⟨h1, h2, h3⟩ := List.find?_range_eq_some.1 h
    have hk := List.mem_range.1 h2
    refine (plcA_yes k hk (fun y hy => ?_) (by rw [itC_at hk] at h1; exact h1)).symm
    obtain ⟨i, hi, rfl⟩ := List.mem_take_iff_getElem.1 hy
    have := h3 i (by omega)
    rw [itC_at (by omega)] at this
    simpa using this
end Go.Proofs.YtjalebncfnekiaaGreatDoor
/- What EntryBytes says of any input, over what the calls of package entry answer. -/
namespace Go.Proofs.YtjalebncfnekiaaGreatDoor
open Go.RowKit Sums Nums
set_option linter.unusedVariables false
set_option linter.unusedSimpArgs false
set_option maxRecDepth 100000
structure CmE (x : EnT) : Prop where
  k : In64 x.k
  c : In64 x.c
  s : In64 x.s
  t : x.t.size ≤ maxLen
  h : InS x.h
  m : InC x.m
theorem CmE.ok {x : EnT} (h : CmE x) : OkE x := ⟨h.h.h.d, h.h.g, h.m.d⟩
theorem CmE.in {x : EnT} (h : CmE x) (ht : ¬ 16384 < x.t.size) : InE x := ⟨h.k, h.c, h.s, by omega, h.h, h.m⟩
structure CmI (x : ItT) : Prop where
  p : In64 x.p
  e : CmE x.e
theorem CmI.in {x : ItT} (h : CmI x) (ht : ¬ 16384 < x.e.t.size) : InI x := ⟨h.p, h.e.in ht⟩
end Go.Proofs.YtjalebncfnekiaaGreatDoor
/- What the program takes of a row, and that it is the thing whose bytes these are if it is laid as them. -/
namespace Go.Proofs.YtjalebncfnekiaaGreatDoor
open Nums Sums
set_option linter.unusedVariables false
set_option maxRecDepth 100000
end Go.Proofs.YtjalebncfnekiaaGreatDoor
/- What the small calls of package entry answer: within, CheckClaim, numberField; bytes.Equal; what a row's data, number and digest answer. -/
namespace Go.Proofs.YtjalebncfnekiaaGreatDoor
open Go.RowKit Sums Nums
set_option linter.unusedVariables false
set_option linter.unusedSimpArgs false
set_option maxRecDepth 100000
theorem eWithin_any (n a b : Int) (w : World) : Calls Tryz.prog 97 #[.int .i64 n, .int .i64 a, .int .i64 b] w fun e w' => e = .returned (.bool (decide (a ≤ n) && decide (n ≤ b))) ∧ w' = w := by
  by_cases h1 : a ≤ n
  · have d1 : decide (a ≤ n) = true := by rw [decide_eq_true_eq]; exact h1
    obtain ⟨x, hx⟩ : ∃ x, decide (n ≤ b) = x := ⟨_, rfl⟩
    rw [d1, hx]
    clear h1
    go_enter Tryz.func97, Tryz.ntmps97
    go_wp2
    go_ret
    exact ⟨rfl, rfl⟩
  · have d1 : decide (a ≤ n) = false := by rw [decide_eq_false_iff_not]; exact h1
    rw [d1]
    clear h1
    go_enter Tryz.func97, Tryz.ntmps97
    go_wp2
    go_ret
    exact ⟨rfl, rfl⟩
set_option maxHeartbeats 2000000 in
theorem eCheckC_any (c : ClT) (w : World) (C : Array Value) (HC : Hid (C = (ccells c).toArray)) :
    Calls Tryz.prog 87 #[.agg C] w fun e w' => e = .returned (.int .i64 (cE c)) ∧ Below w.heap.size w w' := by
  have HR := crow_new w c C HC 43
  have HB : Hid (Below w.heap.size w (w.alloc (.cells C 43))) := (Below.refl _ _).alloc (Nat.le_refl _) _
  have hnot : ∀ (x : Bool) (w : World), (Op.unary .not (.bool x)).run Tryz.prog w = .ok (.bool (!x)) w := fun _ _ => rfl
  have c0 := HR.r
  have c1 := HR.e
  have c2 := HR.n
  have c3 := HR.s
  simp only [Nat.zero_add] at c1 c2 c3
  have WI : Hid (∀ (n a b : Int) (W : World), Calls Tryz.prog 97 #[.int .i64 n, .int .i64 a, .int .i64 b] W fun e w' => e = .returned (.bool (decide (a ≤ n) && decide (n ≤ b))) ∧ w' = W) := eWithin_any
  obtain ⟨b1, hb1⟩ : ∃ b, (decide (1 ≤ c.r) && decide (c.r ≤ 5)) = b := ⟨_, rfl⟩
  obtain ⟨b2, hb2⟩ : ∃ b, (decide (1 ≤ c.e) && decide (c.e ≤ 900000000)) = b := ⟨_, rfl⟩
  obtain ⟨b3, hb3⟩ : ∃ b, (decide (1 ≤ c.n) && decide (c.n ≤ 3)) = b := ⟨_, rfl⟩
  obtain ⟨b4, hb4⟩ : ∃ b, (decide (0 ≤ c.s) && decide (c.s ≤ 100000)) = b := ⟨_, rfl⟩
  have W1 := hidk (WI.out c.r 1 5)
  have W2 := hidk (WI.out c.e 1 900000000)
  have W3 := hidk (WI.out c.n 1 3)
  have W4 := hidk (WI.out c.s 0 100000)
  rw [hb1] at W1
  rw [hb2] at W2
  rw [hb3] at W3
  rw [hb4] at W4
  have hE : cE c = if (b1 && (b2 && (b3 && b4))) = true then 0 else 60 := by
    rw [← hb1, ← hb2, ← hb3, ← hb4]
    unfold cE rightC
    simp only [Bool.and_assoc]
  rw [hE]
  obtain ⟨r, hr⟩ : ∃ r, r = c.r := ⟨_, rfl⟩
  obtain ⟨e, he⟩ : ∃ r, r = c.e := ⟨_, rfl⟩
  obtain ⟨n, hn⟩ : ∃ r, r = c.n := ⟨_, rfl⟩
  obtain ⟨s, hs⟩ : ∃ r, r = c.s := ⟨_, rfl⟩
  rw [← hr] at c0 W1
  rw [← he] at c1 W2
  rw [← hn] at c2 W3
  rw [← hs] at c3 W4
  clear hE hb1 hb2 hb3 hb4 WI HR hr he hn hs HC
  cases b1
  · go_enter Tryz.func87, Tryz.ntmps87
    go_wp2_with fail
    refine (W1.out _).mono ?_
    rintro e w1 ⟨rfl, rfl⟩
    go_wp2
    go_ret
    exact ⟨rfl, HB.out⟩
  cases b2
  · go_enter Tryz.func87, Tryz.ntmps87
    go_wp2_with fail
    refine (W1.out _).mono ?_
    rintro e w1 ⟨rfl, rfl⟩
    go_wp2_with fail
    refine (W2.out _).mono ?_
    rintro e w1 ⟨rfl, rfl⟩
    go_wp2
    go_ret
    exact ⟨rfl, HB.out⟩
  cases b3
  · go_enter Tryz.func87, Tryz.ntmps87
    go_wp2_with fail
    refine (W1.out _).mono ?_
    rintro e w1 ⟨rfl, rfl⟩
    go_wp2_with fail
    refine (W2.out _).mono ?_
    rintro e w1 ⟨rfl, rfl⟩
    go_wp2_with fail
    refine (W3.out _).mono ?_
    rintro e w1 ⟨rfl, rfl⟩
    go_wp2
    go_ret
    exact ⟨rfl, HB.out⟩
  cases b4
  · go_enter Tryz.func87, Tryz.ntmps87
    go_wp2_with fail
    refine (W1.out _).mono ?_
    rintro e w1 ⟨rfl, rfl⟩
    go_wp2_with fail
    refine (W2.out _).mono ?_
    rintro e w1 ⟨rfl, rfl⟩
    go_wp2_with fail
    refine (W3.out _).mono ?_
    rintro e w1 ⟨rfl, rfl⟩
    go_wp2_with fail
    refine (W4.out _).mono ?_
    rintro e w1 ⟨rfl, rfl⟩
    go_wp2
    go_ret
    exact ⟨rfl, HB.out⟩
  · go_enter Tryz.func87, Tryz.ntmps87
    go_wp2_with fail
    refine (W1.out _).mono ?_
    rintro e w1 ⟨rfl, rfl⟩
    go_wp2_with fail
    refine (W2.out _).mono ?_
    rintro e w1 ⟨rfl, rfl⟩
    go_wp2_with fail
    refine (W3.out _).mono ?_
    rintro e w1 ⟨rfl, rfl⟩
    go_wp2_with fail
    refine (W4.out _).mono ?_
    rintro e w1 ⟨rfl, rfl⟩
    go_wp2
    go_ret
    exact ⟨rfl, HB.out⟩
theorem hWithin_any (n a b : Int) (w : World) : Calls Tryz.prog 48 #[.int .i64 n, .int .i64 a, .int .i64 b] w fun e w' => e = .returned (.bool (decide (a ≤ n) && decide (n ≤ b))) ∧ w' = w := by
  by_cases h1 : a ≤ n
  · have d1 : decide (a ≤ n) = true := by rw [decide_eq_true_eq]; exact h1
    obtain ⟨x, hx⟩ : ∃ x, decide (n ≤ b) = x := ⟨_, rfl⟩
    rw [d1, hx]
    clear h1
    go_enter Tryz.func48, Tryz.ntmps48
    go_wp2
    go_ret
    exact ⟨rfl, rfl⟩
  · have d1 : decide (a ≤ n) = false := by rw [decide_eq_false_iff_not]; exact h1
    rw [d1]
    clear h1
    go_enter Tryz.func48, Tryz.ntmps48
    go_wp2
    go_ret
    exact ⟨rfl, rfl⟩
set_option maxHeartbeats 2000000 in
theorem hCheck_any (h : HdT) (hd : h.d.length = 32) (w : World) (C : Array Value) (HC : Hid (C = (hcells h).toArray)) :
    Calls Tryz.prog 47 #[.agg C] w fun e w' => e = .returned (.int .i64 (putE h)) ∧ Below w.heap.size w w' := by
  have HR := hrow_new w h hd C HC 27
  have HB : Hid (Below w.heap.size w (w.alloc (.cells C 27))) := (Below.refl _ _).alloc (Nat.le_refl _) _
  have c0 := HR.r
  have c1 := HR.e
  have c2 := HR.s
  have c4 := HR.t
  simp only [Nat.zero_add] at c1 c2 c4
  have hnot : ∀ (x : Bool) (w : World), (Op.unary .not (.bool x)).run Tryz.prog w = .ok (.bool (!x)) w := fun _ _ => rfl
  have WI : Hid (∀ (n a b : Int) (W : World), Calls Tryz.prog 48 #[.int .i64 n, .int .i64 a, .int .i64 b] W fun e w' => e = .returned (.bool (decide (a ≤ n) && decide (n ≤ b))) ∧ w' = W) := hWithin_any
  obtain ⟨b1, hb1⟩ : ∃ b, (decide (1 ≤ h.r) && decide (h.r ≤ 5)) = b := ⟨_, rfl⟩
  obtain ⟨b2, hb2⟩ : ∃ b, (decide (1 ≤ h.e) && decide (h.e ≤ 900000000)) = b := ⟨_, rfl⟩
  obtain ⟨b3, hb3⟩ : ∃ b, (decide (0 ≤ h.s) && decide (h.s ≤ 100000)) = b := ⟨_, rfl⟩
  obtain ⟨b4, hb4⟩ : ∃ b, (decide (0 ≤ h.t) && decide (h.t ≤ 900000000)) = b := ⟨_, rfl⟩
  have W1 := hidk (WI.out h.r 1 5)
  have W2 := hidk (WI.out h.e 1 900000000)
  have W3 := hidk (WI.out h.s 0 100000)
  have W4 := hidk (WI.out h.t 0 900000000)
  rw [hb1] at W1
  rw [hb2] at W2
  rw [hb3] at W3
  rw [hb4] at W4
  have hE : putE h = if (b1 && (b2 && (b3 && b4))) = true then 0 else 70 := by
    rw [← hb1, ← hb2, ← hb3, ← hb4]
    unfold putE rightH
    simp only [Bool.and_assoc]
  rw [hE]
  obtain ⟨r, hr⟩ : ∃ r, r = h.r := ⟨_, rfl⟩
  obtain ⟨e, he⟩ : ∃ r, r = h.e := ⟨_, rfl⟩
  obtain ⟨s, hs⟩ : ∃ r, r = h.s := ⟨_, rfl⟩
  obtain ⟨t, ht⟩ : ∃ r, r = h.t := ⟨_, rfl⟩
  rw [← hr] at c0 W1
  rw [← he] at c1 W2
  rw [← hs] at c2 W3
  rw [← ht] at c4 W4
  clear hE hb1 hb2 hb3 hb4 WI HR hr he hs ht HC
  cases b1
  · go_enter Tryz.func47, Tryz.ntmps47
    go_wp2_with fail
    refine (W1.out _).mono ?_
    rintro e w1 ⟨rfl, rfl⟩
    go_wp2
    go_ret
    exact ⟨rfl, HB.out⟩
  cases b2
  · go_enter Tryz.func47, Tryz.ntmps47
    go_wp2_with fail
    refine (W1.out _).mono ?_
    rintro e w1 ⟨rfl, rfl⟩
    go_wp2_with fail
    refine (W2.out _).mono ?_
    rintro e w1 ⟨rfl, rfl⟩
    go_wp2
    go_ret
    exact ⟨rfl, HB.out⟩
  cases b3
  · go_enter Tryz.func47, Tryz.ntmps47
    go_wp2_with fail
    refine (W1.out _).mono ?_
    rintro e w1 ⟨rfl, rfl⟩
    go_wp2_with fail
    refine (W2.out _).mono ?_
    rintro e w1 ⟨rfl, rfl⟩
    go_wp2_with fail
    refine (W3.out _).mono ?_
    rintro e w1 ⟨rfl, rfl⟩
    go_wp2
    go_ret
    exact ⟨rfl, HB.out⟩
  cases b4
  · go_enter Tryz.func47, Tryz.ntmps47
    go_wp2_with fail
    refine (W1.out _).mono ?_
    rintro e w1 ⟨rfl, rfl⟩
    go_wp2_with fail
    refine (W2.out _).mono ?_
    rintro e w1 ⟨rfl, rfl⟩
    go_wp2_with fail
    refine (W3.out _).mono ?_
    rintro e w1 ⟨rfl, rfl⟩
    go_wp2_with fail
    refine (W4.out _).mono ?_
    rintro e w1 ⟨rfl, rfl⟩
    go_wp2
    go_ret
    exact ⟨rfl, HB.out⟩
  · go_enter Tryz.func47, Tryz.ntmps47
    go_wp2_with fail
    refine (W1.out _).mono ?_
    rintro e w1 ⟨rfl, rfl⟩
    go_wp2_with fail
    refine (W2.out _).mono ?_
    rintro e w1 ⟨rfl, rfl⟩
    go_wp2_with fail
    refine (W3.out _).mono ?_
    rintro e w1 ⟨rfl, rfl⟩
    go_wp2_with fail
    refine (W4.out _).mono ?_
    rintro e w1 ⟨rfl, rfl⟩
    go_wp2
    go_ret
    exact ⟨rfl, HB.out⟩
theorem putE_ok (h : HdT) : putE h = 0 ∧ rightH h = true ∨ putE h = 70 ∧ rightH h = false := by
  unfold putE
  cases rightH h
  · exact .inr ⟨rfl, rfl⟩
  · exact .inl ⟨rfl, rfl⟩
set_option maxHeartbeats 2000000 in
theorem hMay_any (s : SgT) (hd : s.h.d.length = 32) (w : World) (C : Array Value) (HC : Hid (C = (scells s).toArray)) :
    Calls Tryz.prog 28 #[.agg C] w fun e w' => e = .returned (.bool (mayS s)) ∧ Below w.heap.size w w' := by
  have HR := hidk (srow_new w s hd C HC 29)
  have HB : Hid (Below w.heap.size w (w.alloc (.cells C 29))) := (Below.refl _ _).alloc (Nat.le_refl _) _
  obtain ⟨HCs, HHC, HSH, H36⟩ := head_row s.h hd
  have HRH : Hid ((w.alloc (.cells C 29)).rangeAt w.heap.size 0 HCs.toList) := by rw [HHC.out]; exact HR.out.h
  obtain ⟨n, Hn⟩ : ∃ n, Hid (n = s.n) := ⟨s.n, hidk rfl⟩
  obtain ⟨b2, hb2⟩ : ∃ b, (decide (1 ≤ n) && decide (n ≤ 3)) = b := ⟨_, rfl⟩
  obtain ⟨E, hE0⟩ : ∃ E, E = putE s.h := ⟨_, rfl⟩
  have R1 : Hid (∀ W, Calls Tryz.prog 47 #[.agg HCs] W fun e w' => e = .returned (.int .i64 E) ∧ Below W.heap.size W w') := fun W => by rw [hE0]; exact hCheck_any s.h hd W HCs HHC
  have W2 : Hid (∀ W, Calls Tryz.prog 48 #[.int .i64 n, .int .i64 1, .int .i64 3] W fun e w' => e = .returned (.bool b2) ∧ w' = W) := fun W => by rw [← hb2]; exact hWithin_any n 1 3 W
  have hM : mayS s = (rightH s.h && b2) := by
    rw [← hb2, Hn.out]
    unfold mayS
    rw [Bool.and_assoc]
  rw [hM]
  have hp := putE_ok s.h
  rw [← hE0] at hp
  clear hM hb2 HC hE0
  rcases hp with ⟨rfl, hr⟩ | ⟨rfl, hr⟩
  · rw [hr]
    clear hr
    go_enter Tryz.func28, Tryz.ntmps28
    go_wp2_with (first
      | (show aD 4 _ _ _ _ _ _ _ _ _ _ _; refine wpList_mid rfl 27 (.tmp 3) rfl w.heap.size 0 rfl HCs _ HRH.out Tryz.underlying27 rfl HSH.out ?_; try simp only [Act.put, pS1, pS2, pS3])
      | fail)
    refine (R1.out _).mono ?_
    rintro e w1 ⟨rfl, hb⟩
    have HB1 := hidk (HB.out.trans (hb.mono HB.out.size))
    have hc := (HR.out.keep hb).n
    rw [← Hn.out, Nat.zero_add] at hc
    clear hb
    go_wp2_with fail
    refine (W2.out _).mono ?_
    rintro e w2 ⟨rfl, rfl⟩
    go_wp2
    go_ret
    exact ⟨rfl, HB1.out⟩
  · rw [hr]
    clear hr
    go_enter Tryz.func28, Tryz.ntmps28
    go_wp2_with (first
      | (show aD 4 _ _ _ _ _ _ _ _ _ _ _; refine wpList_mid rfl 27 (.tmp 3) rfl w.heap.size 0 rfl HCs _ HRH.out Tryz.underlying27 rfl HSH.out ?_; try simp only [Act.put, pS1, pS2, pS3])
      | fail)
    refine (R1.out _).mono ?_
    rintro e w1 ⟨rfl, hb⟩
    have HB1 := hidk (HB.out.trans (hb.mono HB.out.size))
    clear hb
    go_wp2
    go_ret
    exact ⟨rfl, HB1.out⟩
set_option maxHeartbeats 2000000 in
theorem hNum_any (t n : Int) (w : World) : Calls Tryz.prog 89 #[.int .i64 t, .int .i64 n] w fun e w' => e = .returned (.agg #[.int .i64 t, .string (nOf n)]) ∧ Below w.heap.size w w' := by
  obtain ⟨x, Hx⟩ : ∃ x : ByteArray, Hid (x = nOf n) := ⟨nOf n, hidk rfl⟩
  obtain ⟨E, HE⟩ : ∃ E, Hid (E = neOf n) := ⟨_, hidk rfl⟩
  have N1 : Hid (∀ W, Calls Tryz.prog 100 #[.int .i64 n] W fun e w' => e = .returned (.tuple #[.string x, .int .i64 E]) ∧ Below W.heap.size W w') := fun W => by rw [Hx.out, HE.out]; exact number_any n W
  rw [← Hx.out]
  clear Hx HE
  go_enter Tryz.func89, Tryz.ntmps89
  go_wp2_with fail
  refine (N1.out _).mono ?_
  rintro e w1 ⟨rfl, hb1⟩
  have hlt : w.heap.size < w1.heap.size := by have := hb1.size; simp at this; omega
  have hg : w1.heap[w.heap.size]? = some (.cells #[.int .i64 0, .string ⟨#[]⟩] 125 (0, 0)) := (hb1.block _ (by simp)).trans (heap_alloc_new w _)
  have c0 : w1.cell? ⟨w.heap.size, 0, none⟩ = some (.int .i64 0) := by rw [cell_of_row w1 _ 0 _ 125 (0, 0) hg]; rfl
  have c1 : w1.cell? ⟨w.heap.size, 1, none⟩ = some (.string ⟨#[]⟩) := by rw [cell_of_row w1 _ 1 _ 125 (0, 0) hg]; rfl
  have HB : Hid (Below w.heap.size w w1) := ((Below.refl _ _).alloc (Nat.le_refl _) _).trans (hb1.mono (by simp))
  have f0 : w1.frozen? ⟨w.heap.size, 0, none⟩ = false := frozen_of_row w1 _ 0 _ _ hg
  have f1 : w1.frozen? ⟨w.heap.size, 1, none⟩ = false := frozen_of_row w1 _ 1 _ _ hg
  clear hb1
  have HG2 := hidk (Go.heap_setCell_same _ _ 1 _ _ (.string x) (Go.heap_setCell_same w1 _ 0 _ _ (.int .i64 t) hg))
  clear hg
  go_wp2
  refine bodyPost_ret (v := .agg #[.int .i64 t, .string x]) ?_ rfl ⟨rfl, (HB.out.setCell (Nat.le_refl _) _).setCell (Nat.le_refl _) _⟩
  exact results_cell_row (p := 4) (ty := 125) rfl _ _ w.heap.size 125 #[.int .i64 t, .string x] (0, 0) _ rfl HG2.out Tryz.underlying125 rfl (by kernel_rfl)
set_option maxHeartbeats 2000000 in
theorem hDig_any (t : Int) (d : List UInt8) (hd : d.length = 32) (w : World) (D : Array Value) (HD : Hid (D = (cellsOf d).toArray)) : Calls Tryz.prog 90 #[.int .i64 t, .agg D] w fun e w' => e = .returned (.agg #[.int .i64 t, .string (bA d)]) ∧ Below w.heap.size w w' := by
  obtain ⟨x, Hx⟩ : ∃ x : ByteArray, Hid (x = bA d) := ⟨bA d, hidk rfl⟩
  have HCV : Hid (∀ (W : World) (g : Nat), W.heap[g]? = some (.cells D 25 (0, 0)) → Sem.run Tryz.prog (convert 77 9 (.slice (some ⟨g, 0, none⟩) 32 32)) W = .ok (.string x) W) := fun W g h => by
    rw [Hx.out]
    refine conv_at W g 0 d hd fun j v hj => ?_
    rw [Nat.zero_add, cell_of_row W g j _ _ (0, 0) h, HD.out]
    simpa using hj
  have HSL := hidk slice_at
  rw [← Hx.out]
  clear Hx HD
  have hn0 : (w.alloc (.cells D 25)).heap[w.heap.size]? = some (.cells D 25 (0, 0)) := heap_alloc_new w _
  have hcv := HCV.out ((w.alloc (.cells D 25)).alloc (.cells #[.int .i64 0, .string ⟨#[]⟩] 125)) w.heap.size (heap_keep hn0)
  have hsl := HSL.out ((w.alloc (.cells D 25)).alloc (.cells #[.int .i64 0, .string ⟨#[]⟩] 125)) w.heap.size 0
  have hg := heap_alloc_new (w.alloc (.cells D 25)) (.cells #[.int .i64 0, .string ⟨#[]⟩] 125)
  rw [alloc_size] at hg
  have hg2 := heap_alloc_new (w.alloc (.cells D 25)) (.cells #[.int .i64 t, .string x] 125)
  rw [alloc_size] at hg2
  have HG2 := hidk hg2
  have HB : Hid (Below w.heap.size w ((w.alloc (.cells D 25)).alloc (.cells #[.int .i64 t, .string x] 125))) := ((Below.refl _ _).alloc (Nat.le_refl _) _).alloc (by simp) _
  clear HCV HSL hn0 hg hg2
  go_enter Tryz.func90, Tryz.ntmps90
  go_wp2
  refine bodyPost_ret (v := .agg #[.int .i64 t, .string x]) ?_ rfl ⟨rfl, HB.out⟩
  exact results_cell_row (p := 4) (ty := 125) rfl _ _ (w.heap.size + 1) 125 #[.int .i64 t, .string x] (0, 0) _ rfl HG2.out Tryz.underlying125 rfl (by kernel_rfl)
theorem erow_row {W : World} {g : Nat} {x : EnT} (ok : OkE x) {X : Array Value} (HX : Hid (X = (ecells x).toArray)) {t : TypeId} (h : W.heap[g]? = some (.cells X t (0, 0))) : ERow W g 0 x := by
  refine erow_of ok fun j v hj => ?_
  rw [Nat.zero_add, cell_of_row _ _ j _ t (0, 0) h, HX.out]
  simpa using hj
def userR (x : EnT) : Bool := (decide (1 ≤ x.c) && decide (x.c ≤ 3)) && ((decide (1 ≤ x.s) && decide (x.s ≤ 1000000)) && decide (x.t.size ≤ 200))
def toldB (x : EnT) : Bool := if x.k = 1 then userR x else if x.k = 2 then mayS x.h else if x.k = 3 then rightC x.m else false
def bareE (x : EnT) : EnT := if x.k = 1 then ⟨x.k, x.c, x.s, x.t, zeroS, zeroC⟩ else if x.k = 2 then ⟨x.k, 0, 0, ⟨#[]⟩, x.h, zeroC⟩ else if x.k = 3 then ⟨x.k, 0, 0, ⟨#[]⟩, zeroS, x.m⟩ else zeroE
theorem bareE_ok {x : EnT} (ok : OkE x) : OkE (bareE x) := by
  unfold bareE
  split
  · exact ⟨rfl, rfl, rfl⟩
  split
  · exact ⟨ok.h, ok.g, rfl⟩
  split
  · exact ⟨rfl, rfl, ok.m⟩
  exact zeroE_ok
theorem size_none {t : ByteArray} : t.size = 0 ↔ t = ⟨#[]⟩ :=
  ⟨fun h => empty_of h, fun h => by rw [h]; rfl⟩
theorem told_right (x : EnT) : rightE x = true ↔ (toldB x = true ∧ bareE x = x) := by
  by_cases h1 : x.k = 1
  · rw [right_user h1]
    unfold toldB bareE userR
    rw [if_pos h1, if_pos h1]
    cases x
    simp only [Bool.and_eq_true, decide_eq_true_eq, eqSB_iff, eqCB_iff, EnT.mk.injEq, true_and]
    constructor
    · rintro ⟨a, b, c, d, e⟩; exact ⟨⟨a, b, c⟩, d.symm, e.symm⟩
    · rintro ⟨⟨a, b, c⟩, d, e⟩; exact ⟨a, b, c, d.symm, e.symm⟩
  by_cases h2 : x.k = 2
  · rw [right_anchor h2]
    unfold toldB bareE
    rw [if_neg h1, if_neg h1, if_pos h2, if_pos h2]
    cases x
    simp only [Bool.and_eq_true, decide_eq_true_eq, eqSB_iff, eqCB_iff, EnT.mk.injEq, true_and, size_none]
    constructor
    · rintro ⟨a, b, c, d, e⟩; exact ⟨d, a.symm, b.symm, c.symm, e.symm⟩
    · rintro ⟨d, a, b, c, e⟩; exact ⟨a.symm, b.symm, c.symm, d, e.symm⟩
  by_cases h3 : x.k = 3
  · rw [right_claim h3]
    unfold toldB bareE
    rw [if_neg h1, if_neg h1, if_neg h2, if_neg h2, if_pos h3, if_pos h3]
    cases x
    simp only [Bool.and_eq_true, decide_eq_true_eq, eqSB_iff, eqCB_iff, EnT.mk.injEq, true_and, and_true, size_none]
    constructor
    · rintro ⟨a, b, c, d, e⟩; exact ⟨e, a.symm, b.symm, c.symm, d.symm⟩
    · rintro ⟨e, a, b, c, d⟩; exact ⟨a.symm, b.symm, c.symm, d.symm, e⟩
  rw [right_none h1 h2 h3]
  unfold toldB
  rw [if_neg h1, if_neg h2, if_neg h3]
  simp
set_option maxHeartbeats 2000000 in
theorem eUser_any (x : EnT) (ok : OkE x) (w : World) (X : Array Value) (HX : Hid (X = (ecells x).toArray)) :
    Calls Tryz.prog 85 #[.agg X] w fun e w' => e = .returned (.bool (userR x)) ∧ Below w.heap.size w w' := by
  have HR := erow_new w x ok X HX 45
  have HB : Hid (Below w.heap.size w (w.alloc (.cells X 45))) := (Below.refl _ _).alloc (Nat.le_refl _) _
  have c1 := HR.c
  have c2 := HR.s
  have c3 := HR.t
  simp only [Nat.zero_add] at c1 c2 c3
  unfold userR
  obtain ⟨b1, hb1⟩ : ∃ b, (decide (1 ≤ x.c) && decide (x.c ≤ 3)) = b := ⟨_, rfl⟩
  obtain ⟨b2, hb2⟩ : ∃ b, (decide (1 ≤ x.s) && decide (x.s ≤ 1000000)) = b := ⟨_, rfl⟩
  obtain ⟨b3, hb3⟩ : ∃ b, decide (x.t.size ≤ 200) = b := ⟨_, rfl⟩
  have hb3' : decide ((x.t.size : Int) ≤ 200) = b3 := by rw [← hb3, Bool.eq_iff_iff, decide_eq_true_eq, decide_eq_true_eq]; omega
  have W1 := hidk (eWithin_any x.c 1 3)
  have W2 := hidk (eWithin_any x.s 1 1000000)
  rw [hb1] at W1
  rw [hb2] at W2
  rw [hb1, hb2, hb3]
  obtain ⟨c, hc⟩ : ∃ c, c = x.c := ⟨_, rfl⟩
  obtain ⟨s, hs⟩ : ∃ c, c = x.s := ⟨_, rfl⟩
  obtain ⟨t, ht⟩ : ∃ c, c = x.t := ⟨_, rfl⟩
  rw [← hc] at c1 W1
  rw [← hs] at c2 W2
  rw [← ht] at c3 hb3 hb3'
  clear hb1 hb2 HR HX ok hc hs ht
  cases b1
  · go_enter Tryz.func85, Tryz.ntmps85
    go_wp2_with fail
    refine (W1.out _).mono ?_
    rintro e w1 ⟨rfl, rfl⟩
    go_wp2
    go_ret
    exact ⟨rfl, HB.out⟩
  cases b2
  · go_enter Tryz.func85, Tryz.ntmps85
    go_wp2_with fail
    refine (W1.out _).mono ?_
    rintro e w1 ⟨rfl, rfl⟩
    go_wp2_with fail
    refine (W2.out _).mono ?_
    rintro e w1 ⟨rfl, rfl⟩
    go_wp2
    go_ret
    exact ⟨rfl, HB.out⟩
  · go_enter Tryz.func85, Tryz.ntmps85
    go_wp2_with fail
    refine (W1.out _).mono ?_
    rintro e w1 ⟨rfl, rfl⟩
    go_wp2_with fail
    refine (W2.out _).mono ?_
    rintro e w1 ⟨rfl, rfl⟩
    go_wp2
    go_ret
    exact ⟨rfl, HB.out⟩
set_option maxHeartbeats 2000000 in
theorem eMay_any (s : SgT) (hd : s.h.d.length = 32) (w : World) (C : Array Value) (HC : Hid (C = (scells s).toArray)) :
    Calls Tryz.prog 86 #[.agg C] w fun e w' => e = .returned (.bool (mayS s)) ∧ Below w.heap.size w w' := by
  have HR := hidk (srow_new w s hd C HC 29)
  have HB : Hid (Below w.heap.size w (w.alloc (.cells C 29))) := (Below.refl _ _).alloc (Nat.le_refl _) _
  obtain ⟨HCs, HHC, HSH, H36⟩ := head_row s.h hd
  have HRH : Hid ((w.alloc (.cells C 29)).rangeAt w.heap.size 0 HCs.toList) := by rw [HHC.out]; exact HR.out.h
  obtain ⟨n, Hn⟩ : ∃ n, Hid (n = s.n) := ⟨s.n, hidk rfl⟩
  obtain ⟨b2, hb2⟩ : ∃ b, (decide (1 ≤ n) && decide (n ≤ 3)) = b := ⟨_, rfl⟩
  obtain ⟨E, hE0⟩ : ∃ E, E = putE s.h := ⟨_, rfl⟩
  have R1 : Hid (∀ W, Calls Tryz.prog 47 #[.agg HCs] W fun e w' => e = .returned (.int .i64 E) ∧ Below W.heap.size W w') := fun W => by rw [hE0]; exact hCheck_any s.h hd W HCs HHC
  have W2 : Hid (∀ W, Calls Tryz.prog 97 #[.int .i64 n, .int .i64 1, .int .i64 3] W fun e w' => e = .returned (.bool b2) ∧ w' = W) := fun W => by rw [← hb2]; exact eWithin_any n 1 3 W
  have hM : mayS s = (rightH s.h && b2) := by
    rw [← hb2, Hn.out]
    unfold mayS
    rw [Bool.and_assoc]
  rw [hM]
  have hp := putE_ok s.h
  rw [← hE0] at hp
  clear hM hb2 HC hE0
  rcases hp with ⟨rfl, hr⟩ | ⟨rfl, hr⟩
  · rw [hr]
    clear hr
    go_enter Tryz.func86, Tryz.ntmps86
    go_wp2_with (first
      | (show aD 4 _ _ _ _ _ _ _ _ _ _ _; refine wpList_mid rfl 27 (.tmp 3) rfl w.heap.size 0 rfl HCs _ HRH.out Tryz.underlying27 rfl HSH.out ?_; try simp only [Act.put, pS1, pS2, pS3])
      | fail)
    refine (R1.out _).mono ?_
    rintro e w1 ⟨rfl, hb⟩
    have HB1 := hidk (HB.out.trans (hb.mono HB.out.size))
    have hc := (HR.out.keep hb).n
    rw [← Hn.out, Nat.zero_add] at hc
    clear hb
    go_wp2_with fail
    refine (W2.out _).mono ?_
    rintro e w2 ⟨rfl, rfl⟩
    go_wp2
    go_ret
    exact ⟨rfl, HB1.out⟩
  · rw [hr]
    clear hr
    go_enter Tryz.func86, Tryz.ntmps86
    go_wp2_with (first
      | (show aD 4 _ _ _ _ _ _ _ _ _ _ _; refine wpList_mid rfl 27 (.tmp 3) rfl w.heap.size 0 rfl HCs _ HRH.out Tryz.underlying27 rfl HSH.out ?_; try simp only [Act.put, pS1, pS2, pS3])
      | fail)
    refine (R1.out _).mono ?_
    rintro e w1 ⟨rfl, hb⟩
    have HB1 := hidk (HB.out.trans (hb.mono HB.out.size))
    clear hb
    go_wp2
    go_ret
    exact ⟨rfl, HB1.out⟩
theorem builtE4 (k c s : Int) (t : ByteArray) (R : Array Value) (HR : Hid (R = (ecells ⟨k, c, s, t, zeroS, zeroC⟩).toArray)) : Tryz.prog.built 45 [(0, .int .i64 k), (1, .int .i64 c), (2, .int .i64 s), (3, .string t)] = some R := by
  have hi := infoE
  cases hq : Tryz.prog.info? 45 with
  | none => rw [hq] at hi; cases hi
  | some i =>
    rw [hq] at hi
    simp only [Option.map_some, Option.some.injEq, Prod.mk.injEq] at hi
    have hH : (Tryz.prog.info? 41).map (·.size) = some 1 := by kernel_rfl
    have h9 : (Tryz.prog.info? 9).map (·.size) = some 1 := by kernel_rfl
    have h3 : (Tryz.prog.info? 3).map (·.size) = some 1 := by kernel_rfl
    have hS := sizeS
    have hC := sizeC
    cases hqH : Tryz.prog.info? 41 with
    | none => rw [hqH] at hH; cases hH
    | some iH =>
    cases hq9 : Tryz.prog.info? 9 with
    | none => rw [hq9] at h9; cases h9
    | some i9 =>
    cases hq3 : Tryz.prog.info? 3 with
    | none => rw [hq3] at h3; cases h3
    | some i3 =>
    cases hqS : Tryz.prog.info? 29 with
    | none => rw [hqS] at hS; cases hS
    | some iS =>
    cases hqC : Tryz.prog.info? 43 with
    | none => rw [hqC] at hC; cases hC
    | some iC =>
    rw [hqH] at hH
    rw [hq9] at h9
    rw [hq3] at h3
    rw [hqS] at hS
    rw [hqC] at hC
    simp only [Option.map_some, Option.some.injEq] at hH h9 h3 hS hC
    unfold Program.built
    simp only [hq, Tryz.underlying45, hi.1, List.mapM_cons, List.mapM_nil, hqH, hq9, hq3, hqS, hqC, hH, h9, h3, hS, hC, Option.map_some, Option.bind_eq_bind, Option.bind_some, Option.pure_def]
    show Instr.fill _ (ecells zeroE).toArray _ = some R
    refine (fill_val _ 0 0 1 (.int .i64 k) #[.int .i64 k] _ [] [.int .i64 0] ([.int .i64 0, .int .i64 0, .string ByteArray.empty] ++ scells zeroS ++ ccells zeroC) _ rfl rfl rfl (by simp [ecells, zeroE]) rfl rfl).trans ?_
    refine (fill_val _ 1 1 1 (.int .i64 c) #[.int .i64 c] _ [.int .i64 k] [.int .i64 0] ([.int .i64 0, .string ByteArray.empty] ++ scells zeroS ++ ccells zeroC) _ rfl rfl rfl (by simp) rfl rfl).trans ?_
    refine (fill_val _ 2 2 1 (.int .i64 s) #[.int .i64 s] _ [.int .i64 k, .int .i64 c] [.int .i64 0] ([.string ByteArray.empty] ++ scells zeroS ++ ccells zeroC) _ rfl rfl rfl (by simp) rfl rfl).trans ?_
    refine (fill_val _ 3 3 1 (.string t) #[.string t] _ [.int .i64 k, .int .i64 c, .int .i64 s] [.string ByteArray.empty] (scells zeroS ++ ccells zeroC) _ rfl rfl rfl (by simp) rfl rfl).trans ?_
    simp only [Instr.fill, List.append_nil, Option.some.injEq]
    rw [HR.out]
    rfl
theorem builtEh (k : Int) (h : SgT) (hd : h.h.d.length = 32) (hg : h.g.length = 32) (Q R : Array Value) (HQ : Hid (Q = (scells h).toArray)) (HR : Hid (R = (ecells ⟨k, 0, 0, ⟨#[]⟩, h, zeroC⟩).toArray)) : Tryz.prog.built 45 [(0, .int .i64 k), (4, .agg Q)] = some R := by
  have hi := infoE
  cases hq : Tryz.prog.info? 45 with
  | none => rw [hq] at hi; cases hi
  | some i =>
    rw [hq] at hi
    simp only [Option.map_some, Option.some.injEq, Prod.mk.injEq] at hi
    have hH : (Tryz.prog.info? 41).map (·.size) = some 1 := by kernel_rfl
    have h9 : (Tryz.prog.info? 9).map (·.size) = some 1 := by kernel_rfl
    have h3 : (Tryz.prog.info? 3).map (·.size) = some 1 := by kernel_rfl
    have hS := sizeS
    have hC := sizeC
    cases hqH : Tryz.prog.info? 41 with
    | none => rw [hqH] at hH; cases hH
    | some iH =>
    cases hq9 : Tryz.prog.info? 9 with
    | none => rw [hq9] at h9; cases h9
    | some i9 =>
    cases hq3 : Tryz.prog.info? 3 with
    | none => rw [hq3] at h3; cases h3
    | some i3 =>
    cases hqS : Tryz.prog.info? 29 with
    | none => rw [hqS] at hS; cases hS
    | some iS =>
    cases hqC : Tryz.prog.info? 43 with
    | none => rw [hqC] at hC; cases hC
    | some iC =>
    rw [hqH] at hH
    rw [hq9] at h9
    rw [hq3] at h3
    rw [hqS] at hS
    rw [hqC] at hC
    simp only [Option.map_some, Option.some.injEq] at hH h9 h3 hS hC
    unfold Program.built
    simp only [hq, Tryz.underlying45, hi.1, List.mapM_cons, List.mapM_nil, hqH, hq9, hq3, hqS, hqC, hH, h9, h3, hS, hC, Option.map_some, Option.bind_eq_bind, Option.bind_some, Option.pure_def]
    show Instr.fill _ (ecells zeroE).toArray _ = some R
    refine (fill_val _ 0 0 1 (.int .i64 k) #[.int .i64 k] _ [] [.int .i64 0] ([.int .i64 0, .int .i64 0, .string ByteArray.empty] ++ scells zeroS ++ ccells zeroC) _ rfl rfl rfl (by simp [ecells, zeroE]) rfl rfl).trans ?_
    refine (fill_val _ 4 4 69 (.agg Q) Q _ [.int .i64 k, .int .i64 0, .int .i64 0, .string ByteArray.empty] (scells zeroS) (ccells zeroC) _ rfl rfl (by rw [HQ.out]; simp [scells_length h hd hg]) (by simp) rfl (scells_length zeroS rfl rfl)).trans ?_
    simp only [Instr.fill, List.append_nil, Option.some.injEq]
    rw [HR.out, HQ.out]
    rfl
theorem builtEm (k : Int) (m : ClT) (hd : m.d.length = 32) (Q R : Array Value) (HQ : Hid (Q = (ccells m).toArray)) (HR : Hid (R = (ecells ⟨k, 0, 0, ⟨#[]⟩, zeroS, m⟩).toArray)) : Tryz.prog.built 45 [(0, .int .i64 k), (5, .agg Q)] = some R := by
  have hi := infoE
  cases hq : Tryz.prog.info? 45 with
  | none => rw [hq] at hi; cases hi
  | some i =>
    rw [hq] at hi
    simp only [Option.map_some, Option.some.injEq, Prod.mk.injEq] at hi
    have hH : (Tryz.prog.info? 41).map (·.size) = some 1 := by kernel_rfl
    have h9 : (Tryz.prog.info? 9).map (·.size) = some 1 := by kernel_rfl
    have h3 : (Tryz.prog.info? 3).map (·.size) = some 1 := by kernel_rfl
    have hS := sizeS
    have hC := sizeC
    cases hqH : Tryz.prog.info? 41 with
    | none => rw [hqH] at hH; cases hH
    | some iH =>
    cases hq9 : Tryz.prog.info? 9 with
    | none => rw [hq9] at h9; cases h9
    | some i9 =>
    cases hq3 : Tryz.prog.info? 3 with
    | none => rw [hq3] at h3; cases h3
    | some i3 =>
    cases hqS : Tryz.prog.info? 29 with
    | none => rw [hqS] at hS; cases hS
    | some iS =>
    cases hqC : Tryz.prog.info? 43 with
    | none => rw [hqC] at hC; cases hC
    | some iC =>
    rw [hqH] at hH
    rw [hq9] at h9
    rw [hq3] at h3
    rw [hqS] at hS
    rw [hqC] at hC
    simp only [Option.map_some, Option.some.injEq] at hH h9 h3 hS hC
    unfold Program.built
    simp only [hq, Tryz.underlying45, hi.1, List.mapM_cons, List.mapM_nil, hqH, hq9, hq3, hqS, hqC, hH, h9, h3, hS, hC, Option.map_some, Option.bind_eq_bind, Option.bind_some, Option.pure_def]
    show Instr.fill _ (ecells zeroE).toArray _ = some R
    refine (fill_val _ 0 0 1 (.int .i64 k) #[.int .i64 k] _ [] [.int .i64 0] ([.int .i64 0, .int .i64 0, .string ByteArray.empty] ++ scells zeroS ++ ccells zeroC) _ rfl rfl rfl (by simp [ecells, zeroE]) rfl rfl).trans ?_
    refine (fill_val _ 5 73 36 (.agg Q) Q _ ([.int .i64 k, .int .i64 0, .int .i64 0, .string ByteArray.empty] ++ scells zeroS) (ccells zeroC) [] _ rfl rfl (by rw [HQ.out]; simp [ccells_length m hd]) (by simp) (by simp [scells_length zeroS rfl rfl]) (ccells_length zeroC rfl)).trans ?_
    simp only [Instr.fill, List.append_nil, Option.some.injEq]
    rw [HR.out, HQ.out]
    rfl
set_option maxHeartbeats 8000000 in
theorem eTold_user (x : EnT) (ok : OkE x) (hk : x.k = 1) (w : World) (X B : Array Value) (HX : Hid (X = (ecells x).toArray)) (HB : Hid (B = (ecells (bareE x)).toArray)) :
    Calls Tryz.prog 72 #[.agg X] w fun e w' => e = .returned (.tuple #[.agg B, .bool (toldB x)]) ∧ Below w.heap.size w w' := by
  obtain ⟨Z, HZ, HA, HBZ, HNZ⟩ := noughtsE
  have HSX : Hid ((Tryz.prog.info? 45).map (·.size) = some X.size) := by show _ = _; rw [sizeE, HX.out]; simp [ecells_length _ ok]
  have HSB : Hid ((Tryz.prog.info? 45).map (·.size) = some B.size) := by show _ = _; rw [sizeE, HB.out]; simp [ecells_length _ (bareE_ok ok)]
  have H1B : Hid (B.all (·.oneCell') = true) := by show _ = _; rw [HB.out]; exact one_cellsE _
  have HZB : Hid (Z.size = B.size) := by show _ = _; rw [HNZ.out, HB.out]; simp [ecells_length _ (bareE_ok ok)]
  have HX0 : Hid ((w.alloc (.cells X 45)).heap[w.heap.size]? = some (.cells X 45 (0, 0))) := heap_alloc_new w _
  have HW0 : Hid (Below w.heap.size w (w.alloc (.cells X 45))) := (Below.refl _ _).alloc (Nat.le_refl _) _
  have ER : Hid (∀ W : World, W.heap[w.heap.size]? = some (.cells X 45 (0, 0)) → ERow W w.heap.size 0 x) := fun W h => erow_row ok HX h
  have K0 : Hid (∀ W : World, W.heap[w.heap.size]? = some (.cells X 45 (0, 0)) → W.cell? ⟨w.heap.size, 0, none⟩ = some (.int .i64 1)) := fun W h => by have := (ER.out W h).k; rwa [hk] at this
  obtain ⟨c, Hc⟩ : ∃ c, Hid (c = x.c) := ⟨_, hidk rfl⟩
  obtain ⟨s, Hs⟩ : ∃ c, Hid (c = x.s) := ⟨_, hidk rfl⟩
  obtain ⟨t, Ht⟩ : ∃ c, Hid (c = x.t) := ⟨_, hidk rfl⟩
  have K1 : Hid (∀ W : World, W.heap[w.heap.size]? = some (.cells X 45 (0, 0)) → W.cell? ⟨w.heap.size, 1, none⟩ = some (.int .i64 c)) := fun W h => by have := (ER.out W h).c; rwa [← Hc.out, Nat.zero_add] at this
  have K2 : Hid (∀ W : World, W.heap[w.heap.size]? = some (.cells X 45 (0, 0)) → W.cell? ⟨w.heap.size, 2, none⟩ = some (.int .i64 s)) := fun W h => by have := (ER.out W h).s; rwa [← Hs.out, Nat.zero_add] at this
  have K3 : Hid (∀ W : World, W.heap[w.heap.size]? = some (.cells X 45 (0, 0)) → W.cell? ⟨w.heap.size, 3, none⟩ = some (.string t)) := fun W h => by have := (ER.out W h).t; rwa [← Ht.out, Nat.zero_add] at this
  have BH : Hid (∀ W, (Instr.build 45 #[(0, .int .i64 1), (1, .int .i64 c), (2, .int .i64 s), (3, .string t)]).run Tryz.prog W = .ok (.agg B) W) := fun W => by
    refine run_build W 45 _ B (builtE4 1 c s t B ?_)
    show _ = _
    rw [HB.out, Hc.out, Hs.out, Ht.out]
    unfold bareE
    rw [if_pos hk, hk]
  obtain ⟨u, hu⟩ : ∃ u, u = userR x := ⟨_, rfl⟩
  have U1 : Hid (∀ W, Calls Tryz.prog 85 #[.agg X] W fun e w' => e = .returned (.bool u) ∧ Below W.heap.size W w') := fun W => by rw [hu]; exact eUser_any x ok W X HX
  rw [show toldB x = u by unfold toldB; rw [if_pos hk, hu]]
  clear HX HB HZ HBZ HNZ ok hk hu ER Hc Hs Ht
  go_enter Tryz.func72, Tryz.ntmps72
  go_wp2_with (first
    | (show aD 2 _ _ _ _ _ _ _ _ _ _ _; refine wpList_new_var rfl 45 rfl Z HA.out ?_; intro g2 w1 HM2; have c0 := K0.out w1 ((HM2.out.below.block _ (heap_lt HX0.out)).trans HX0.out); try simp only [Act.put, pS1, pS2, pS3])
    | fail)
  have hg2 : w.heap.size < g2 := by rw [HM2.out.new]; exact heap_lt HX0.out
  have HX1 := hidk ((HM2.out.below.block _ (heap_lt HX0.out)).trans HX0.out)
  have HR2 := hidk HM2.out.row
  have HB1 := hidk (HW0.out.trans (HM2.out.below.mono HW0.out.size))
  clear HM2 HX0 HW0 c0
  refine wp_region_held_drew (S := (fun W => W.heap[w.heap.size]? = some (.cells X 45 (0, 0)))) (by kernel_rfl) HX1.out (fun hHeld => ?_)
  refine zX 0 (.pointer (some ⟨w.heap.size, 0, none⟩)) rfl hHeld ?_
  try simp only [Act.put, pS1, pS2, pS3]
  refine zW 1 (.int .i64 1) rfl (Or.inl ⟨by rfl, by intro W hSw; have h1 := K0.out W hSw; go_simp⟩) hHeld ?_
  try simp only [Act.put, pS1, pS2, pS3]
  refine zX 2 (.pointer (some ⟨w.heap.size, 1, none⟩)) rfl hHeld ?_
  try simp only [Act.put, pS1, pS2, pS3]
  refine zW 3 (.int .i64 c) rfl (Or.inl ⟨by rfl, by intro W hSw; have h1 := K1.out W hSw; go_simp⟩) hHeld ?_
  try simp only [Act.put, pS1, pS2, pS3]
  refine zX 4 (.pointer (some ⟨w.heap.size, 2, none⟩)) rfl hHeld ?_
  try simp only [Act.put, pS1, pS2, pS3]
  refine zW 5 (.int .i64 s) rfl (Or.inl ⟨by rfl, by intro W hSw; have h1 := K2.out W hSw; go_simp⟩) hHeld ?_
  try simp only [Act.put, pS1, pS2, pS3]
  refine zX 6 (.pointer (some ⟨w.heap.size, 3, none⟩)) rfl hHeld ?_
  try simp only [Act.put, pS1, pS2, pS3]
  refine zW 7 (.string t) rfl (Or.inl ⟨by rfl, by intro W hSw; have h1 := K3.out W hSw; go_simp⟩) hHeld ?_
  try simp only [Act.put, pS1, pS2, pS3]
  refine zW 8 (.agg B) rfl (yieldsIf_build (by rfl) 45 _ rfl #[(0, .int .i64 1), (1, .int .i64 c), (2, .int .i64 s), (3, .string t)] rfl (.agg B) BH.out) hHeld ?_
  try simp only [Act.put, pS1, pS2, pS3]
  refine zW 9 (.agg X) rfl (yieldsIf_row (by rfl) 45 (.tmp 1) rfl w.heap.size rfl 45 X (0, 0) _ (fun _ h => h) Tryz.underlying45 rfl HSX.out) hHeld ?_
  try simp only [Act.put, pS1, pS2, pS3]
  refine wpAnyH_ready (rs := [10]) (by kernel_rfl) (by simp) ?_
  refine (AllReadyH.cons (o := { dst := some 18, op := .call { callee := .value (.func 85), args := #[.tmp 17], argTypes := #[45] }, type := 4, pos := "entry.go:120", after := #[zD 9], guard := none }) rfl (fun K hK => ?_) AllReadyH.nil)
  go_simp
  refine (U1.out _).mono ?_
  rintro e w10 ⟨rfl, hbc⟩
  have HBc := hidk (HB1.out.drew.trans (hbc.mono HB1.out.size))
  have HR2c := hidk ((hbc.block g2 (heap_lt HR2.out)).trans HR2.out)
  go_wp2_with fail
  refine hK.out _ _ ((hbc.block _ (heap_lt HX1.out)).trans HX1.out) (fun hHeld => ?_)
  clear hK K
  try simp only [Act.put, pS1, pS2, pS3]
  refine wpAnyH_ready (rs := [11]) (by kernel_rfl) (by simp) ?_
  refine (AllReadyH.cons (o := { dst := none, op := .store 45 (.tmp 2) (.tmp 16), type := 0, pos := "entry.go:120", after := #[zD 8, zC 10, zP 0, zP 1, zP 2, zP 3, zP 4, zP 5, zP 6, zP 7, zP 8, { on := 9, ground := Ground.textOnly Departure.lateStores }, { on := 10, ground := Ground.textOnly Departure.lateStoresUnsure }], guard := none }) rfl (fun K hK => ?_) AllReadyH.nil)
  refine step_set_var (by rfl) 45 (.tmp 2) (.tmp 16) rfl g2 B rfl rfl 45 Z HR2c.out HSB.out HZB.out H1B.out ?_
  intro wz HW2
  refine hK.out _ _ ((HW2.out.other _ (by omega)).trans hHeld) (fun hHeld => ?_)
  clear hK K
  try simp only [Act.put, pS1, pS2, pS3]
  refine zX 12 (.bool u) rfl hHeld ?_
  try simp only [Act.put, pS1, pS2, pS3]
  refine wpAnyH_done (by kernel_rfl) ?_ _
  go_wp2_with fail
  refine bodyPost_ret (v := .tuple #[.agg B, .bool u]) ?_ rfl ⟨rfl, HW2.out.below _ _ HBc.out (by omega)⟩
  exact results_row_tmp (p := 2) (q := 3) (ty := 45) rfl _ _ g2 45 B (0, 0) _ rfl HW2.out.row Tryz.underlying45 rfl HSB.out
set_option maxHeartbeats 8000000 in
theorem eTold_anchor (x : EnT) (ok : OkE x) (hk : x.k = 2) (w : World) (X B : Array Value) (HX : Hid (X = (ecells x).toArray)) (HB : Hid (B = (ecells (bareE x)).toArray)) :
    Calls Tryz.prog 72 #[.agg X] w fun e w' => e = .returned (.tuple #[.agg B, .bool (toldB x)]) ∧ Below w.heap.size w w' := by
  obtain ⟨Z, HZ, HA, HBZ, HNZ⟩ := noughtsE
  have HSX : Hid ((Tryz.prog.info? 45).map (·.size) = some X.size) := by show _ = _; rw [sizeE, HX.out]; simp [ecells_length _ ok]
  have HSB : Hid ((Tryz.prog.info? 45).map (·.size) = some B.size) := by show _ = _; rw [sizeE, HB.out]; simp [ecells_length _ (bareE_ok ok)]
  have H1B : Hid (B.all (·.oneCell') = true) := by show _ = _; rw [HB.out]; exact one_cellsE _
  have HZB : Hid (Z.size = B.size) := by show _ = _; rw [HNZ.out, HB.out]; simp [ecells_length _ (bareE_ok ok)]
  have HX0 : Hid ((w.alloc (.cells X 45)).heap[w.heap.size]? = some (.cells X 45 (0, 0))) := heap_alloc_new w _
  have HW0 : Hid (Below w.heap.size w (w.alloc (.cells X 45))) := (Below.refl _ _).alloc (Nat.le_refl _) _
  have ER : Hid (∀ W : World, W.heap[w.heap.size]? = some (.cells X 45 (0, 0)) → ERow W w.heap.size 0 x) := fun W h => erow_row ok HX h
  have K0 : Hid (∀ W : World, W.heap[w.heap.size]? = some (.cells X 45 (0, 0)) → W.cell? ⟨w.heap.size, 0, none⟩ = some (.int .i64 2)) := fun W h => by have := (ER.out W h).k; rwa [hk] at this
  obtain ⟨Q, HQ, HSQ, H1Q, H69Q⟩ := sign_row x.h ok.h ok.g
  have KQ : Hid (∀ W : World, W.heap[w.heap.size]? = some (.cells X 45 (0, 0)) → W.rangeAt w.heap.size 4 Q.toList) := fun W h => by have := (ER.out W h).h; rw [HQ.out]; simpa using this
  have BH : Hid (∀ W, (Instr.build 45 #[(0, .int .i64 2), (4, .agg Q)]).run Tryz.prog W = .ok (.agg B) W) := fun W => by
    refine run_build W 45 _ B (builtEh 2 x.h ok.h ok.g Q B HQ ?_)
    show _ = _
    rw [HB.out]
    unfold bareE
    rw [if_neg (by omega), if_pos hk, hk]
  obtain ⟨u, hu⟩ : ∃ u, u = mayS x.h := ⟨_, rfl⟩
  have U1 : Hid (∀ W, Calls Tryz.prog 86 #[.agg Q] W fun e w' => e = .returned (.bool u) ∧ Below W.heap.size W w') := fun W => by rw [hu]; exact eMay_any x.h ok.h W Q HQ
  rw [show toldB x = u by unfold toldB; rw [if_neg (by omega), if_pos hk, hu]]
  clear HX HB HZ HBZ HNZ ok hk hu ER HQ
  go_enter Tryz.func72, Tryz.ntmps72
  go_wp2_with (first
    | (show aD 2 _ _ _ _ _ _ _ _ _ _ _; refine wpList_new_var rfl 45 rfl Z HA.out ?_; intro g2 w1 HM2; have c0 := K0.out w1 ((HM2.out.below.block _ (heap_lt HX0.out)).trans HX0.out); try simp only [Act.put, pS1, pS2, pS3])
    | fail)
  have hg2 : w.heap.size < g2 := by rw [HM2.out.new]; exact heap_lt HX0.out
  have HX1 := hidk ((HM2.out.below.block _ (heap_lt HX0.out)).trans HX0.out)
  have HR2 := hidk HM2.out.row
  have HB1 := hidk (HW0.out.trans (HM2.out.below.mono HW0.out.size))
  clear HM2 HX0 HW0 c0
  refine wp_region_held_drew (S := (fun W => W.heap[w.heap.size]? = some (.cells X 45 (0, 0)))) (by kernel_rfl) HX1.out (fun hHeld => ?_)
  refine zX 0 (.pointer (some ⟨w.heap.size, 0, none⟩)) rfl hHeld ?_
  try simp only [Act.put, pS1, pS2, pS3]
  refine zW 1 (.int .i64 2) rfl (Or.inl ⟨by rfl, by intro W hSw; have h1 := K0.out W hSw; go_simp⟩) hHeld ?_
  try simp only [Act.put, pS1, pS2, pS3]
  refine zX 2 (.pointer (some ⟨w.heap.size, 4, none⟩)) rfl hHeld ?_
  try simp only [Act.put, pS1, pS2, pS3]
  refine zW 3 (.agg Q) rfl (yieldsIf_mid (by rfl) 29 (.tmp 23) rfl w.heap.size 4 rfl Q _ (fun W h => KQ.out W h) Tryz.underlying29 rfl HSQ.out) hHeld ?_
  try simp only [Act.put, pS1, pS2, pS3]
  refine zW 4 (.agg B) rfl (yieldsIf_build (by rfl) 45 _ rfl #[(0, .int .i64 2), (4, .agg Q)] rfl (.agg B) BH.out) hHeld ?_
  try simp only [Act.put, pS1, pS2, pS3]
  refine zX 5 (.pointer (some ⟨w.heap.size, 4, none⟩)) rfl hHeld ?_
  try simp only [Act.put, pS1, pS2, pS3]
  refine zW 6 (.agg Q) rfl (yieldsIf_mid (by rfl) 29 (.tmp 26) rfl w.heap.size 4 rfl Q _ (fun W h => KQ.out W h) Tryz.underlying29 rfl HSQ.out) hHeld ?_
  try simp only [Act.put, pS1, pS2, pS3]
  refine wpAnyH_ready (rs := [7]) (by kernel_rfl) (by simp) ?_
  refine (AllReadyH.cons (o := { dst := some 28, op := .call { callee := .value (.func 86), args := #[.tmp 27], argTypes := #[29] }, type := 4, pos := "entry.go:122", after := #[zD 6], guard := none }) rfl (fun K hK => ?_) AllReadyH.nil)
  go_simp
  refine (U1.out _).mono ?_
  rintro e w7 ⟨rfl, hbc⟩
  have HBc := hidk (HB1.out.drew.trans (hbc.mono HB1.out.size))
  have HR2c := hidk ((hbc.block g2 (heap_lt HR2.out)).trans HR2.out)
  go_wp2_with fail
  refine hK.out _ _ ((hbc.block _ (heap_lt HX1.out)).trans HX1.out) (fun hHeld => ?_)
  clear hK K
  try simp only [Act.put, pS1, pS2, pS3]
  refine wpAnyH_ready (rs := [8]) (by kernel_rfl) (by simp) ?_
  refine (AllReadyH.cons (o := { dst := none, op := .store 45 (.tmp 2) (.tmp 25), type := 0, pos := "entry.go:122", after := #[zD 4, zC 7, zP 0, zP 1, zP 2, zP 3, zP 4, { on := 5, ground := Ground.textOnly Departure.lateStores }, { on := 6, ground := Ground.textOnly Departure.lateStores }, { on := 7, ground := Ground.textOnly Departure.lateStoresUnsure }], guard := none }) rfl (fun K hK => ?_) AllReadyH.nil)
  refine step_set_var (by rfl) 45 (.tmp 2) (.tmp 25) rfl g2 B rfl rfl 45 Z HR2c.out HSB.out HZB.out H1B.out ?_
  intro wz HW2
  refine hK.out _ _ ((HW2.out.other _ (by omega)).trans hHeld) (fun hHeld => ?_)
  clear hK K
  try simp only [Act.put, pS1, pS2, pS3]
  refine zX 9 (.bool u) rfl hHeld ?_
  try simp only [Act.put, pS1, pS2, pS3]
  refine wpAnyH_done (by kernel_rfl) ?_ _
  go_wp2_with fail
  refine bodyPost_ret (v := .tuple #[.agg B, .bool u]) ?_ rfl ⟨rfl, HW2.out.below _ _ HBc.out (by omega)⟩
  exact results_row_tmp (p := 2) (q := 3) (ty := 45) rfl _ _ g2 45 B (0, 0) _ rfl HW2.out.row Tryz.underlying45 rfl HSB.out
set_option maxHeartbeats 8000000 in
theorem eTold_claim (x : EnT) (ok : OkE x) (hk : x.k = 3) (w : World) (X B : Array Value) (HX : Hid (X = (ecells x).toArray)) (HB : Hid (B = (ecells (bareE x)).toArray)) :
    Calls Tryz.prog 72 #[.agg X] w fun e w' => e = .returned (.tuple #[.agg B, .bool (toldB x)]) ∧ Below w.heap.size w w' := by
  obtain ⟨Z, HZ, HA, HBZ, HNZ⟩ := noughtsE
  have HSX : Hid ((Tryz.prog.info? 45).map (·.size) = some X.size) := by show _ = _; rw [sizeE, HX.out]; simp [ecells_length _ ok]
  have HSB : Hid ((Tryz.prog.info? 45).map (·.size) = some B.size) := by show _ = _; rw [sizeE, HB.out]; simp [ecells_length _ (bareE_ok ok)]
  have H1B : Hid (B.all (·.oneCell') = true) := by show _ = _; rw [HB.out]; exact one_cellsE _
  have HZB : Hid (Z.size = B.size) := by show _ = _; rw [HNZ.out, HB.out]; simp [ecells_length _ (bareE_ok ok)]
  have HX0 : Hid ((w.alloc (.cells X 45)).heap[w.heap.size]? = some (.cells X 45 (0, 0))) := heap_alloc_new w _
  have HW0 : Hid (Below w.heap.size w (w.alloc (.cells X 45))) := (Below.refl _ _).alloc (Nat.le_refl _) _
  have ER : Hid (∀ W : World, W.heap[w.heap.size]? = some (.cells X 45 (0, 0)) → ERow W w.heap.size 0 x) := fun W h => erow_row ok HX h
  have K0 : Hid (∀ W : World, W.heap[w.heap.size]? = some (.cells X 45 (0, 0)) → W.cell? ⟨w.heap.size, 0, none⟩ = some (.int .i64 3)) := fun W h => by have := (ER.out W h).k; rwa [hk] at this
  obtain ⟨Q, HQ, HSQ, H1Q, H36Q⟩ := claim_row5 x.m ok.m
  have KQ : Hid (∀ W : World, W.heap[w.heap.size]? = some (.cells X 45 (0, 0)) → W.rangeAt w.heap.size 73 Q.toList) := fun W h => by have := (ER.out W h).m; rw [HQ.out]; simpa using this
  have BH : Hid (∀ W, (Instr.build 45 #[(0, .int .i64 3), (5, .agg Q)]).run Tryz.prog W = .ok (.agg B) W) := fun W => by
    refine run_build W 45 _ B (builtEm 3 x.m ok.m Q B HQ ?_)
    show _ = _
    rw [HB.out]
    unfold bareE
    rw [if_neg (by omega), if_neg (by omega), if_pos hk, hk]
  obtain ⟨E, hE⟩ : ∃ u, u = cE x.m := ⟨_, rfl⟩
  have U1 : Hid (∀ W, Calls Tryz.prog 87 #[.agg Q] W fun e w' => e = .returned (.int .i64 E) ∧ Below W.heap.size W w') := fun W => by rw [hE]; exact eCheckC_any x.m W Q HQ
  obtain ⟨u, hu, huE⟩ : ∃ u, u = rightC x.m ∧ (E == 0) = u := ⟨_, rfl, by rw [hE]; unfold cE; cases rightC x.m <;> rfl⟩
  rw [show toldB x = u by unfold toldB; rw [if_neg (by omega), if_neg (by omega), if_pos hk, hu]]
  have HUE := hidk huE
  clear HX HB HZ HBZ HNZ ok hk hu ER HQ hE huE
  go_enter Tryz.func72, Tryz.ntmps72
  go_wp2_with (first
    | (show aD 2 _ _ _ _ _ _ _ _ _ _ _; refine wpList_new_var rfl 45 rfl Z HA.out ?_; intro g2 w1 HM2; have c0 := K0.out w1 ((HM2.out.below.block _ (heap_lt HX0.out)).trans HX0.out); try simp only [Act.put, pS1, pS2, pS3])
    | fail)
  have hg2 : w.heap.size < g2 := by rw [HM2.out.new]; exact heap_lt HX0.out
  have HX1 := hidk ((HM2.out.below.block _ (heap_lt HX0.out)).trans HX0.out)
  have HR2 := hidk HM2.out.row
  have HB1 := hidk (HW0.out.trans (HM2.out.below.mono HW0.out.size))
  clear HM2 HX0 HW0 c0
  refine wp_region_held_drew (S := (fun W => W.heap[w.heap.size]? = some (.cells X 45 (0, 0)))) (by kernel_rfl) HX1.out (fun hHeld => ?_)
  refine zX 0 (.pointer (some ⟨w.heap.size, 0, none⟩)) rfl hHeld ?_
  try simp only [Act.put, pS1, pS2, pS3]
  refine zW 1 (.int .i64 3) rfl (Or.inl ⟨by rfl, by intro W hSw; have h1 := K0.out W hSw; go_simp⟩) hHeld ?_
  try simp only [Act.put, pS1, pS2, pS3]
  refine zX 2 (.pointer (some ⟨w.heap.size, 73, none⟩)) rfl hHeld ?_
  try simp only [Act.put, pS1, pS2, pS3]
  refine zW 3 (.agg Q) rfl (yieldsIf_mid (by rfl) 43 (.tmp 33) rfl w.heap.size 73 rfl Q _ (fun W h => KQ.out W h) Tryz.underlying43 rfl HSQ.out) hHeld ?_
  try simp only [Act.put, pS1, pS2, pS3]
  refine zW 4 (.agg B) rfl (yieldsIf_build (by rfl) 45 _ rfl #[(0, .int .i64 3), (5, .agg Q)] rfl (.agg B) BH.out) hHeld ?_
  try simp only [Act.put, pS1, pS2, pS3]
  refine zX 5 (.pointer (some ⟨w.heap.size, 73, none⟩)) rfl hHeld ?_
  try simp only [Act.put, pS1, pS2, pS3]
  refine zW 6 (.agg Q) rfl (yieldsIf_mid (by rfl) 43 (.tmp 36) rfl w.heap.size 73 rfl Q _ (fun W h => KQ.out W h) Tryz.underlying43 rfl HSQ.out) hHeld ?_
  try simp only [Act.put, pS1, pS2, pS3]
  refine wpAnyH_ready (rs := [7]) (by kernel_rfl) (by simp) ?_
  refine (AllReadyH.cons (o := { dst := some 38, op := .call { callee := .value (.func 87), args := #[.tmp 37], argTypes := #[43] }, type := 34, pos := "entry.go:124", after := #[zD 6], guard := none }) rfl (fun K hK => ?_) AllReadyH.nil)
  go_simp
  refine (U1.out _).mono ?_
  rintro e w7 ⟨rfl, hbc⟩
  have HBc := hidk (HB1.out.drew.trans (hbc.mono HB1.out.size))
  have HR2c := hidk ((hbc.block g2 (heap_lt HR2.out)).trans HR2.out)
  go_wp2_with fail
  refine hK.out _ _ ((hbc.block _ (heap_lt HX1.out)).trans HX1.out) (fun hHeld => ?_)
  clear hK K
  try simp only [Act.put, pS1, pS2, pS3]
  refine zW 8 (.bool u) rfl (Or.inl ⟨by rfl, by intro W hSw; have h1 := HUE.out; go_simp⟩) hHeld ?_
  try simp only [Act.put, pS1, pS2, pS3]
  refine wpAnyH_ready (rs := [9]) (by kernel_rfl) (by simp) ?_
  refine (AllReadyH.cons (o := { dst := none, op := .store 45 (.tmp 2) (.tmp 35), type := 0, pos := "entry.go:124", after := #[zD 4, zC 7, zP 0, zP 1, zP 2, zP 3, zP 4, { on := 5, ground := Ground.textOnly Departure.lateStores }, { on := 6, ground := Ground.textOnly Departure.lateStores }, { on := 7, ground := Ground.textOnly Departure.lateStoresUnsure }, { on := 8, ground := Ground.textOnly Departure.lateStores }], guard := none }) rfl (fun K hK => ?_) AllReadyH.nil)
  refine step_set_var (by rfl) 45 (.tmp 2) (.tmp 35) rfl g2 B rfl rfl 45 Z HR2c.out HSB.out HZB.out H1B.out ?_
  intro wz HW2
  refine hK.out _ _ ((HW2.out.other _ (by omega)).trans hHeld) (fun hHeld => ?_)
  clear hK K
  try simp only [Act.put, pS1, pS2, pS3]
  refine zX 10 (.bool u) rfl hHeld ?_
  try simp only [Act.put, pS1, pS2, pS3]
  refine wpAnyH_done (by kernel_rfl) ?_ _
  go_wp2_with fail
  refine bodyPost_ret (v := .tuple #[.agg B, .bool u]) ?_ rfl ⟨rfl, HW2.out.below _ _ HBc.out (by omega)⟩
  exact results_row_tmp (p := 2) (q := 3) (ty := 45) rfl _ _ g2 45 B (0, 0) _ rfl HW2.out.row Tryz.underlying45 rfl HSB.out
set_option maxHeartbeats 8000000 in
theorem eTold_none (x : EnT) (ok : OkE x) (hk : ¬ x.k = 1 ∧ ¬ x.k = 2 ∧ ¬ x.k = 3) (w : World) (X B : Array Value) (HX : Hid (X = (ecells x).toArray)) (HB : Hid (B = (ecells (bareE x)).toArray)) :
    Calls Tryz.prog 72 #[.agg X] w fun e w' => e = .returned (.tuple #[.agg B, .bool (toldB x)]) ∧ Below w.heap.size w w' := by
  obtain ⟨Z, HZ, HA, HBZ, HNZ⟩ := noughtsE
  have HSX : Hid ((Tryz.prog.info? 45).map (·.size) = some X.size) := by show _ = _; rw [sizeE, HX.out]; simp [ecells_length _ ok]
  have HSB : Hid ((Tryz.prog.info? 45).map (·.size) = some B.size) := by show _ = _; rw [sizeE, HB.out]; simp [ecells_length _ (bareE_ok ok)]
  have H1B : Hid (B.all (·.oneCell') = true) := by show _ = _; rw [HB.out]; exact one_cellsE _
  have HZB : Hid (Z.size = B.size) := by show _ = _; rw [HNZ.out, HB.out]; simp [ecells_length _ (bareE_ok ok)]
  have HX0 : Hid ((w.alloc (.cells X 45)).heap[w.heap.size]? = some (.cells X 45 (0, 0))) := heap_alloc_new w _
  have HW0 : Hid (Below w.heap.size w (w.alloc (.cells X 45))) := (Below.refl _ _).alloc (Nat.le_refl _) _
  have ER : Hid (∀ W : World, W.heap[w.heap.size]? = some (.cells X 45 (0, 0)) → ERow W w.heap.size 0 x) := fun W h => erow_row ok HX h
  obtain ⟨h1, h2, h3⟩ := hk
  obtain rfl : B = Z := by rw [HB.out, HZ.out]; unfold bareE; rw [if_neg h1, if_neg h2, if_neg h3]
  rw [show toldB x = false by unfold toldB; rw [if_neg h1, if_neg h2, if_neg h3]]
  have q1 : (x.k == 1) = false := by rw [beq_eq_false_iff_ne]; exact h1
  have q2 : (x.k == 2) = false := by rw [beq_eq_false_iff_ne]; exact h2
  have q3 : (x.k == 3) = false := by rw [beq_eq_false_iff_ne]; exact h3
  have d1 : decide (x.k = 1) = false := by rw [decide_eq_false_iff_not]; exact h1
  have d2 : decide (x.k = 2) = false := by rw [decide_eq_false_iff_not]; exact h2
  have d3 : decide (x.k = 3) = false := by rw [decide_eq_false_iff_not]; exact h3
  obtain ⟨k, hk⟩ : ∃ k, k = x.k := ⟨_, rfl⟩
  rw [← hk] at q1 q2 q3 d1 d2 d3 h1 h2 h3
  have K0 : Hid (∀ W : World, W.heap[w.heap.size]? = some (.cells X 45 (0, 0)) → W.cell? ⟨w.heap.size, 0, none⟩ = some (.int .i64 k)) := fun W h => by have := (ER.out W h).k; rwa [← hk] at this
  clear HX HB HZ HNZ ok hk ER
  go_enter Tryz.func72, Tryz.ntmps72
  go_wp2_with (first
    | (show aD 2 _ _ _ _ _ _ _ _ _ _ _; refine wpList_new_var rfl 45 rfl B HA.out ?_; intro g2 w1 HM2; have c0 := K0.out w1 ((HM2.out.below.block _ (heap_lt HX0.out)).trans HX0.out); try simp only [Act.put, pS1, pS2, pS3])
    | (show aD 40 _ _ _ _ _ _ _ _ _ _ _; refine wpList_build_none rfl 45 rfl B HBZ.out ?_; try simp only [Act.put, pS1, pS2, pS3])
    | (refine wpList_set_var rfl 45 (.tmp 2) (.tmp 40) rfl g2 B rfl rfl 45 B HM2.out.row HSB.out rfl H1B.out ?_; intro wz HW2; try simp only [Act.put, pS1, pS2, pS3])
    | fail)
  have hg2 : w.heap.size < g2 := by rw [HM2.out.new]; exact heap_lt HX0.out
  have HB1 := hidk (HW0.out.trans (HM2.out.below.mono HW0.out.size))
  refine bodyPost_ret (v := .tuple #[.agg B, .bool false]) ?_ rfl ⟨rfl, HW2.out.below _ _ HB1.out (by omega)⟩
  exact results_row_tmp (p := 2) (q := 3) (ty := 45) rfl _ _ g2 45 B (0, 0) _ rfl HW2.out.row Tryz.underlying45 rfl HSB.out
theorem eTold_any (x : EnT) (ok : OkE x) (w : World) (X B : Array Value) (HX : Hid (X = (ecells x).toArray)) (HB : Hid (B = (ecells (bareE x)).toArray)) :
    Calls Tryz.prog 72 #[.agg X] w fun e w' => e = .returned (.tuple #[.agg B, .bool (toldB x)]) ∧ Below w.heap.size w w' := by
  by_cases h1 : x.k = 1
  · exact eTold_user x ok h1 w X B HX HB
  by_cases h2 : x.k = 2
  · exact eTold_anchor x ok h2 w X B HX HB
  by_cases h3 : x.k = 3
  · exact eTold_claim x ok h3 w X B HX HB
  exact eTold_none x ok ⟨h1, h2, h3⟩ w X B HX HB
set_option maxHeartbeats 4000000 in
theorem eCheck_any (x : EnT) (ok : OkE x) (w : World) (X : Array Value) (HX : Hid (X = (ecells x).toArray)) :
    Calls Tryz.prog 46 #[.agg X] w fun e w' => e = .returned (.int .i64 (eE x)) ∧ Below w.heap.size w w' := by
  have hnot : ∀ (x : Bool) (w : World), (Op.unary .not (.bool x)).run Tryz.prog w = .ok (.bool (!x)) w := fun _ _ => rfl
  obtain ⟨Z, HZ, HA, HBZ, HNZ⟩ := noughtsE
  obtain ⟨B, HB, HSB, H1B, HNB⟩ := entry_row (bareE x) (bareE_ok ok)
  have HSX : Hid ((Tryz.prog.info? 45).map (·.size) = some X.size) := by show _ = _; rw [sizeE, HX.out]; simp [ecells_length _ ok]
  have HZB : Hid (Z.size = B.size) := by show _ = _; rw [HNZ.out, HNB.out]
  have HX0 : Hid ((w.alloc (.cells X 45)).heap[w.heap.size]? = some (.cells X 45 (0, 0))) := heap_alloc_new w _
  have HW0 : Hid (Below w.heap.size w (w.alloc (.cells X 45))) := (Below.refl _ _).alloc (Nat.le_refl _) _
  obtain ⟨u, hu⟩ : ∃ u, u = toldB x := ⟨_, rfl⟩
  obtain ⟨q, hq⟩ : ∃ q : Bool, q = false ↔ bareE x = x := by
    by_cases h : bareE x = x
    · exact ⟨false, by simp [h]⟩
    · exact ⟨true, by simp [h]⟩
  have T1 : Hid (∀ W, Calls Tryz.prog 72 #[.agg X] W fun e w' => e = .returned (.tuple #[.agg B, .bool u]) ∧ Below W.heap.size W w') := fun W => by rw [hu]; exact eTold_any x ok W X B HX HB
  have NQ : ∀ W, (binOp .neq 45 (.agg B) (.agg X)).run Tryz.prog W = .ok (.bool q) W := fun W => neqEntry (bareE x) x (bareE_ok ok) ok B X HB HX q hq W
  have hE : eE x = if (u && !q) = true then 0 else 60 := by
    unfold eE
    congr 1
    rw [eq_iff_iff, told_right, hu, Bool.and_eq_true, ← hq]
    cases q <;> simp
  rw [hE]
  clear HX HB hE hu hq HZ HBZ HNZ HNB ok
  cases u
  · go_enter Tryz.func46, Tryz.ntmps46
    go_wp2_with (first
      | (show aD 6 _ _ _ _ _ _ _ _ _ _ _; refine wpList_load_row rfl 45 (.tmp 1) rfl w.heap.size rfl 45 X (0, 0) _ HX0.out Tryz.underlying45 rfl HSX.out ?_; try simp only [Act.put, pS1, pS2, pS3])
      | fail)
    refine (T1.out _).mono ?_
    rintro e w1 ⟨rfl, hb1⟩
    have HB1 := hidk (HW0.out.trans (hb1.mono HW0.out.size))
    clear hb1 T1
    go_wp2_with (first
      | (show aD 3 _ _ _ _ _ _ _ _ _ _ _; refine wpList_new_var rfl 45 rfl Z HA.out ?_; intro g3 w2 HM3; try simp only [Act.put, pS1, pS2, pS3])
      | (refine wpList_set_var rfl 45 (.tmp 3) (.tmp 8) rfl g3 B rfl rfl 45 Z HM3.out.row HSB.out HZB.out H1B.out ?_; intro w3 HW3; try simp only [Act.put, pS1, pS2, pS3])
      | fail)
    have h3 : w.heap.size ≤ g3 := by rw [HM3.out.new]; exact HB1.out.size
    go_ret
    exact ⟨rfl, HW3.out.below _ _ (HB1.out.trans (HM3.out.below.mono HB1.out.size)) h3⟩
  · go_enter Tryz.func46, Tryz.ntmps46
    go_wp2_with (first
      | (show aD 6 _ _ _ _ _ _ _ _ _ _ _; refine wpList_load_row rfl 45 (.tmp 1) rfl w.heap.size rfl 45 X (0, 0) _ HX0.out Tryz.underlying45 rfl HSX.out ?_; try simp only [Act.put, pS1, pS2, pS3])
      | fail)
    refine (T1.out _).mono ?_
    rintro e w1 ⟨rfl, hb1⟩
    have HB1 := hidk (HW0.out.trans (hb1.mono HW0.out.size))
    have HX1 := hidk ((hb1.block _ (heap_lt HX0.out)).trans HX0.out)
    have hx1 := heap_lt HX1.out
    clear hb1 T1
    cases q
    all_goals
      go_wp2_with (first
        | (show aD 3 _ _ _ _ _ _ _ _ _ _ _; refine wpList_new_var rfl 45 rfl Z HA.out ?_; intro g3 w2 HM3; try simp only [Act.put, pS1, pS2, pS3])
        | (refine wpList_set_var rfl 45 (.tmp 3) (.tmp 8) rfl g3 B rfl rfl 45 Z HM3.out.row HSB.out HZB.out H1B.out ?_; intro w3 HW3; try simp only [Act.put, pS1, pS2, pS3])
        | (show aD 13 _ _ _ _ _ _ _ _ _ _ _; refine wpList_load_row_w (by rfl) 45 (.tmp 3) rfl g3 rfl 45 B (0, 0) _ HW3.out.row Tryz.underlying45 rfl HSB.out ?_; try simp only [Act.put, pS1, pS2, pS3])
        | (show aD 14 _ _ _ _ _ _ _ _ _ _ _; refine wpList_load_row_w (by rfl) 45 (.tmp 1) rfl w.heap.size rfl 45 X (0, 0) _ ((HW3.out.other _ (by have e1 := HM3.out.new; omega)).trans ((HM3.out.below.block _ hx1).trans HX1.out)) Tryz.underlying45 rfl HSX.out ?_; try simp only [Act.put, pS1, pS2, pS3])
        | fail)
      have h3 : w.heap.size ≤ g3 := by rw [HM3.out.new]; exact HB1.out.size
      go_ret
      exact ⟨rfl, HW3.out.below _ _ (HB1.out.trans (HM3.out.below.mono HB1.out.size)) h3⟩
theorem reads_no (w : World) : Reads w none 0 0 [] := ⟨rfl, Nat.le_refl _, by decide, .inl ⟨rfl, rfl⟩⟩
theorem bytes_no (w : World) (E : Int) : BytesE [] E (.returned (.tuple #[.slice none 0 0, .int .i64 E])) w := ⟨none, 0, rfl, reads_no w⟩
theorem rowOf_ok {fs : List (Int × ByteArray)} (h : layE 0 fs = 0) : rowOf fs = rowB fs := by unfold rowOf; rw [if_pos h]
set_option maxHeartbeats 2000000 in
theorem hPut_no (h : HdT) (hd : h.d.length = 32) (hr : rightH h = false) (w : World) (C : Array Value) (HC : Hid (C = (hcells h).toArray)) :
    Calls Tryz.prog 74 #[.agg C] w fun e w' => BytesE [] 70 e w' ∧ Below w.heap.size w w' := by
  have HSC : Hid ((Tryz.prog.info? 27).map (·.size) = some C.size) := by show _ = _; rw [sizeH, HC.out]; simp [hcells_length h hd]
  have HR : Hid ((w.alloc (.cells C 27)).heap[w.heap.size]? = some (.cells C 27 (0, 0))) := heap_alloc_new w _
  have HB : Hid (Below w.heap.size w (w.alloc (.cells C 27))) := (Below.refl _ _).alloc (Nat.le_refl _) _
  have K1 : Hid (∀ W, Calls Tryz.prog 47 #[.agg C] W fun e w' => e = .returned (.int .i64 70) ∧ Below W.heap.size W w') := fun W => by
    have := hCheck_any h hd W C HC
    rwa [show putE h = 70 by unfold putE; rw [hr]; rfl] at this
  clear HC hr
  go_enter Tryz.func74, Tryz.ntmps74
  go_wp2_with (first
    | (show aD 5 _ _ _ _ _ _ _ _ _ _ _; refine wpList_load_row rfl 27 (.tmp 1) rfl w.heap.size rfl 27 C (0, 0) _ HR.out Tryz.underlying27 rfl HSC.out ?_; try simp only [Act.put, pS1, pS2, pS3])
    | fail)
  refine (K1.out _).mono ?_
  rintro e w1 ⟨rfl, hb1⟩
  have HB1 := hidk (HB.out.trans (hb1.mono HB.out.size))
  clear hb1
  go_wp2
  go_ret2
  exact ⟨bytes_no _ _, HB1.out⟩
set_option maxHeartbeats 8000000 in
theorem hPut_yes (h : HdT) (hd : h.d.length = 32) (hr : rightH h = true) (w : World) (C : Array Value) (HC : Hid (C = (hcells h).toArray)) :
    Calls Tryz.prog 74 #[.agg C] w fun e w' => BytesE (headB h) 0 e w' ∧ Below w.heap.size w w' := by
  have HSC : Hid ((Tryz.prog.info? 27).map (·.size) = some C.size) := by show _ = _; rw [sizeH, HC.out]; simp [hcells_length h hd]
  have HRW : Hid ((w.alloc (.cells C 27)).heap[w.heap.size]? = some (.cells C 27 (0, 0))) := heap_alloc_new w _
  have K1 : Hid (∀ W, Calls Tryz.prog 47 #[.agg C] W fun e w' => e = .returned (.int .i64 0) ∧ Below W.heap.size W w') := fun W => by
    have := hCheck_any h hd W C HC
    rwa [show putE h = 0 by unfold putE; rw [hr]; rfl] at this
  obtain ⟨r, Hr⟩ : ∃ r, Hid (r = h.r) := ⟨h.r, hidk rfl⟩
  obtain ⟨e, He⟩ : ∃ r, Hid (r = h.e) := ⟨h.e, hidk rfl⟩
  obtain ⟨s, Hs⟩ : ∃ r, Hid (r = h.s) := ⟨h.s, hidk rfl⟩
  obtain ⟨t, Ht⟩ : ∃ r, Hid (r = h.t) := ⟨h.t, hidk rfl⟩
  obtain ⟨n1, Hn1⟩ : ∃ s : ByteArray, Hid (s = nOf r) := ⟨nOf r, hidk rfl⟩
  obtain ⟨n2, Hn2⟩ : ∃ s : ByteArray, Hid (s = nOf e) := ⟨nOf e, hidk rfl⟩
  obtain ⟨n3, Hn3⟩ : ∃ x : ByteArray, Hid (x = nOf s) := ⟨nOf s, hidk rfl⟩
  obtain ⟨n5, Hn5⟩ : ∃ s : ByteArray, Hid (s = nOf t) := ⟨nOf t, hidk rfl⟩
  obtain ⟨x4, HX⟩ : ∃ x : ByteArray, Hid (x = bA h.d) := ⟨bA h.d, hidk rfl⟩
  obtain ⟨l, Hl⟩ : ∃ l, Hid (l = headB h) := ⟨headB h, hidk rfl⟩
  obtain ⟨D, HD, HSD, H1D, H32D⟩ := dig_row' h.d hd
  have N1 : Hid (∀ W, Calls Tryz.prog 89 #[.int .i64 1, .int .i64 r] W fun e w' => e = .returned (.agg #[.int .i64 1, .string n1]) ∧ Below W.heap.size W w') := fun W => by rw [Hn1.out]; exact hNum_any 1 r W
  have N2 : Hid (∀ W, Calls Tryz.prog 89 #[.int .i64 2, .int .i64 e] W fun e w' => e = .returned (.agg #[.int .i64 2, .string n2]) ∧ Below W.heap.size W w') := fun W => by rw [Hn2.out]; exact hNum_any 2 e W
  have N3 : Hid (∀ W, Calls Tryz.prog 89 #[.int .i64 3, .int .i64 s] W fun e w' => e = .returned (.agg #[.int .i64 3, .string n3]) ∧ Below W.heap.size W w') := fun W => by rw [Hn3.out]; exact hNum_any 3 s W
  have N5 : Hid (∀ W, Calls Tryz.prog 89 #[.int .i64 5, .int .i64 t] W fun e w' => e = .returned (.agg #[.int .i64 5, .string n5]) ∧ Below W.heap.size W w') := fun W => by rw [Hn5.out]; exact hNum_any 5 t W
  have X4 : Hid (∀ W, Calls Tryz.prog 90 #[.int .i64 4, .agg D] W fun e w' => e = .returned (.agg #[.int .i64 4, .string x4]) ∧ Below W.heap.size W w') := fun W => by rw [HX.out]; exact hDig_any 4 h.d hd W D HD
  have hL5 : fieldsN (hL h) = [(1, n1), (2, n2), (3, n3), (4, x4), (5, n5)] := by rw [Hn1.out, Hn2.out, Hn3.out, Hn5.out, HX.out, Hr.out, He.out, Hs.out, Ht.out]; rfl
  have LY : Hid (∀ W, Calls Tryz.prog 88 #[.slice (some ⟨W.heap.size, 0, none⟩) 5 5] (W.alloc (.cells #[.int .i64 1, .string n1, .int .i64 2, .string n2, .int .i64 3, .string n3, .int .i64 4, .string x4, .int .i64 5, .string n5] 125)) fun e w' => ∃ a c, e = .returned (.tuple #[.slice a l.length c, .int .i64 0]) ∧ Reads w' a l.length c l ∧ Below W.heap.size W w') := fun W => by
    have hk := layE_hL h hd
    have hrw := rowOf_ok hk
    rw [hL5] at hk hrw
    have hm : ∀ f ∈ [((1 : Int), n1), (2, n2), (3, n3), (4, x4), (5, n5)], f.2.size ≤ maxLen := fun y hy => by
      simp only [List.mem_cons, List.not_mem_nil, or_false] at hy
      unfold maxLen
      rcases hy with rfl | rfl | rfl | rfl | rfl
      · have := nOf_size r; rw [← Hn1.out] at this; show n1.size ≤ _; omega
      · have := nOf_size e; rw [← Hn2.out] at this; show n2.size ≤ _; omega
      · have := nOf_size s; rw [← Hn3.out] at this; show n3.size ≤ _; omega
      · have := bA_size h.d; rw [← HX.out] at this; show x4.size ≤ _; omega
      · have := nOf_size t; rw [← Hn5.out] at this; show n5.size ≤ _; omega
    have hF := freads_lit W #[.int .i64 1, .string n1, .int .i64 2, .string n2, .int .i64 3, .string n3, .int .i64 4, .string x4, .int .i64 5, .string n5] (0, 0) [((1 : Int), n1), (2, n2), (3, n3), (4, x4), (5, n5)] rfl (by show 5 ≤ 1048576; decide) hm
    rw [← alloc_size W (.cells #[.int .i64 1, .string n1, .int .i64 2, .string n2, .int .i64 3, .string n3, .int .i64 4, .string x4, .int .i64 5, .string n5] 125)] at hF
    refine (lay_reads (some ⟨W.heap.size, 0, none⟩) 5 5 [((1 : Int), n1), (2, n2), (3, n3), (4, x4), (5, n5)] _ hF (by decide) (k := 0) (l := l) hk (by rw [hrw, Hl.out, ← hL5]; rfl)).mono ?_
    rintro e w' ⟨a, c, he, hrd, hb⟩
    exact ⟨a, c, he, hrd, ((Below.refl _ _).alloc (Nat.le_refl _) _).trans (hb.mono (by simp))⟩
  have HR := hidk (hrow_new w h hd C HC 27)
  have HB : Hid (Below w.heap.size w (w.alloc (.cells C 27))) := (Below.refl _ _).alloc (Nat.le_refl _) _
  have HDL : Hid (D.toList = cellsOf h.d) := by show _ = _; rw [HD.out]
  rw [← Hl.out]
  clear HC HX hL5 HD Hn1 Hn2 Hn3 Hn5 Hl hr
  go_enter Tryz.func74, Tryz.ntmps74
  go_wp2_with (first
    | (show aD 5 _ _ _ _ _ _ _ _ _ _ _; refine wpList_load_row rfl 27 (.tmp 1) rfl w.heap.size rfl 27 C (0, 0) _ HRW.out Tryz.underlying27 rfl HSC.out ?_; try simp only [Act.put, pS1, pS2, pS3])
    | fail)
  refine (K1.out _).mono ?_
  rintro e w0 ⟨rfl, hb0⟩
  have HB0 := hidk (HB.out.trans (hb0.mono HB.out.size))
  have HR0 := hidk (HR.out.keep hb0)
  clear hb0 HB HR HRW K1
  go_wp2
  refine wp_region_held_drew (S := (fun W => HRow W w.heap.size 0 h)) (by kernel_rfl) (show HRow w0.drew w.heap.size 0 h from HR0.out.keep (Below.refl _ _).drew) (fun hHeld => ?_)
  refine zX 0 (.pointer (some ⟨w.heap.size, 0, none⟩)) rfl hHeld ?_
  try simp only [Act.put, pS1, pS2, pS3]
  refine zW 1 (.int .i64 r) rfl (Or.inl ⟨by rfl, by intro W hSw; have h1 := hSw.r; rw [← Hr.out] at h1; go_simp⟩) hHeld ?_
  try simp only [Act.put, pS1, pS2, pS3]
  refine zX 3 (.pointer (some ⟨w.heap.size, 1, none⟩)) rfl hHeld ?_
  try simp only [Act.put, pS1, pS2, pS3]
  refine zW 4 (.int .i64 e) rfl (Or.inl ⟨by rfl, by intro W hSw; have h1 := hSw.e; rw [← He.out, Nat.zero_add] at h1; go_simp⟩) hHeld ?_
  try simp only [Act.put, pS1, pS2, pS3]
  refine zX 6 (.pointer (some ⟨w.heap.size, 2, none⟩)) rfl hHeld ?_
  try simp only [Act.put, pS1, pS2, pS3]
  refine zW 7 (.int .i64 s) rfl (Or.inl ⟨by rfl, by intro W hSw; have h1 := hSw.s; rw [← Hs.out, Nat.zero_add] at h1; go_simp⟩) hHeld ?_
  try simp only [Act.put, pS1, pS2, pS3]
  refine zX 9 (.pointer (some ⟨w.heap.size, 3, none⟩)) rfl hHeld ?_
  try simp only [Act.put, pS1, pS2, pS3]
  refine zW 10 (.agg D) rfl (yieldsIf_mid (by rfl) 25 (.tmp 19) rfl w.heap.size 3 rfl D _ (fun _ h => by rw [HDL.out]; have := h.d; rwa [Nat.zero_add] at this) Tryz.underlying25 rfl HSD.out) hHeld ?_
  try simp only [Act.put, pS1, pS2, pS3]
  refine zX 12 (.pointer (some ⟨w.heap.size, 35, none⟩)) rfl hHeld ?_
  try simp only [Act.put, pS1, pS2, pS3]
  refine zW 13 (.int .i64 t) rfl (Or.inl ⟨by rfl, by intro W hSw; have h1 := hSw.t; rw [← Ht.out, Nat.zero_add] at h1; go_simp⟩) hHeld ?_
  try simp only [Act.put, pS1, pS2, pS3]
  refine wpAnyH_ready (rs := [2]) (by kernel_rfl) (by simp) ?_
  refine (AllReadyH.cons (o := { dst := some 12, op := .call { callee := .value (.func 89), args := #[.const (.int .i64 1), .tmp 11], argTypes := #[3, 3] }, type := 125, pos := "head.go:47", after := #[zD 1], guard := none }) rfl (fun K hK => ?_) AllReadyH.nil)
  go_simp
  refine (N1.out _).mono ?_
  rintro e w2 ⟨rfl, hb1⟩
  have HB1 := hidk (HB0.out.drew.trans (hb1.mono HB0.out.size))
  go_wp2_with fail
  refine hK.out _ _ (hHeld.keep hb1) (fun hHeld => ?_)
  clear hK K
  try simp only [Act.put, pS1, pS2, pS3]
  refine wpAnyH_ready (rs := [5]) (by kernel_rfl) (by simp) ?_
  refine (AllReadyH.cons (o := { dst := some 15, op := .call { callee := .value (.func 89), args := #[.const (.int .i64 2), .tmp 14], argTypes := #[3, 3] }, type := 125, pos := "head.go:48", after := #[zD 4, zC 2], guard := none }) rfl (fun K hK => ?_) AllReadyH.nil)
  go_simp
  refine (N2.out _).mono ?_
  rintro e w5 ⟨rfl, hb2⟩
  have HB2 := hidk (HB1.out.trans (hb2.mono HB1.out.size))
  go_wp2_with fail
  refine hK.out _ _ (hHeld.keep hb2) (fun hHeld => ?_)
  clear hK K
  try simp only [Act.put, pS1, pS2, pS3]
  refine wpAnyH_ready (rs := [8]) (by kernel_rfl) (by simp) ?_
  refine (AllReadyH.cons (o := { dst := some 18, op := .call { callee := .value (.func 89), args := #[.const (.int .i64 3), .tmp 17], argTypes := #[3, 3] }, type := 125, pos := "head.go:49", after := #[zD 7, zC 5], guard := none }) rfl (fun K hK => ?_) AllReadyH.nil)
  go_simp
  refine (N3.out _).mono ?_
  rintro e w8 ⟨rfl, hb3⟩
  have HB3 := hidk (HB2.out.trans (hb3.mono HB2.out.size))
  go_wp2_with fail
  refine hK.out _ _ (hHeld.keep hb3) (fun hHeld => ?_)
  clear hK K
  try simp only [Act.put, pS1, pS2, pS3]
  refine wpAnyH_ready (rs := [11]) (by kernel_rfl) (by simp) ?_
  refine (AllReadyH.cons (o := { dst := some 21, op := .call { callee := .value (.func 90), args := #[.const (.int .i64 4), .tmp 20], argTypes := #[3, 25] }, type := 125, pos := "head.go:50", after := #[zD 10, zC 8], guard := none }) rfl (fun K hK => ?_) AllReadyH.nil)
  go_simp
  refine (X4.out _).mono ?_
  rintro e w11 ⟨rfl, hb4⟩
  have HB4 := hidk (HB3.out.trans (hb4.mono HB3.out.size))
  go_wp2_with fail
  refine hK.out _ _ (hHeld.keep hb4) (fun hHeld => ?_)
  clear hK K
  try simp only [Act.put, pS1, pS2, pS3]
  refine wpAnyH_ready (rs := [14]) (by kernel_rfl) (by simp) ?_
  refine (AllReadyH.cons (o := { dst := some 24, op := .call { callee := .value (.func 89), args := #[.const (.int .i64 5), .tmp 23], argTypes := #[3, 3] }, type := 125, pos := "head.go:51", after := #[zD 13, zC 11], guard := none }) rfl (fun K hK => ?_) AllReadyH.nil)
  go_simp
  refine (N5.out _).mono ?_
  rintro e w14 ⟨rfl, hb5⟩
  have HB5 := hidk (HB4.out.trans (hb5.mono HB4.out.size))
  go_wp2_with fail
  refine hK.out _ _ (hHeld.keep hb5) (fun hHeld => ?_)
  clear hK K
  try simp only [Act.put, pS1, pS2, pS3]
  refine wpAnyH_ready (rs := [15]) (by kernel_rfl) (by simp) ?_
  refine (AllReadyH.cons (o := { dst := some 25, op := .buildSlice 128 5 #[(0, .tmp 12), (1, .tmp 15), (2, .tmp 18), (3, .tmp 21), (4, .tmp 24)], type := 128, pos := "head.go:46", after := #[zD 2, zD 5, zD 8, zD 11, zD 14], guard := none }) rfl (fun K hK => ?_) AllReadyH.nil)
  have HR14 := hidk hHeld
  go_simp
  refine hK.out _ _ (hHeld.keep ((Below.refl _ _).alloc (Nat.le_refl _) _)) (fun hHeld => ?_)
  clear hK K
  try simp only [Act.put, pS1, pS2, pS3]
  refine wpAnyH_ready (rs := [16]) (by kernel_rfl) (by simp) ?_
  refine (AllReadyH.cons (o := { dst := some 26, op := .call { callee := .value (.func 88), args := #[.tmp 25], argTypes := #[128] }, type := 111, pos := "head.go:46", after := #[zD 15, zC 14], guard := none }) rfl (fun K hK => ?_) AllReadyH.nil)
  go_simp
  refine (LY.out _).mono ?_
  rintro e w16 ⟨a16, c16, rfl, hrd, hb6⟩
  have HRD := hidk hrd
  have HBF := hidk (HB5.out.trans (hb6.mono HB5.out.size))
  go_wp2_with fail
  refine hK.out _ _ (HR14.out.keep hb6) (fun hHeld => ?_)
  clear hK K
  try simp only [Act.put, pS1, pS2, pS3]
  refine zX 17 (.slice a16 l.length c16) rfl hHeld ?_
  try simp only [Act.put, pS1, pS2, pS3]
  refine zX 18 (.int .i64 0) rfl hHeld ?_
  try simp only [Act.put, pS1, pS2, pS3]
  refine zX 19 (.slice a16 l.length c16) rfl hHeld ?_
  try simp only [Act.put, pS1, pS2, pS3]
  refine zX 20 (.int .i64 0) rfl hHeld ?_
  try simp only [Act.put, pS1, pS2, pS3]
  refine wpAnyH_done (by kernel_rfl) ?_ _
  go_wp2
  go_ret2
  exact ⟨⟨_, _, rfl, HRD.out⟩, HBF.out⟩
theorem hPut_any (h : HdT) (hd : h.d.length = 32) (w : World) (C : Array Value) (HC : Hid (C = (hcells h).toArray)) :
    Calls Tryz.prog 74 #[.agg C] w fun e w' => BytesE (putB h) (putE h) e w' ∧ Below w.heap.size w w' := by
  unfold putB putE
  cases hr : rightH h
  · exact hPut_no h hd hr w C HC
  · exact hPut_yes h hd hr w C HC
set_option maxHeartbeats 2000000 in
theorem hLaid_any (h : HdT) (hd : h.d.length = 32) (w : World) (C : Array Value) (HC : Hid (C = (hcells h).toArray)) :
    Calls Tryz.prog 52 #[.agg C] w fun e w' => e = .returned (.string (bA (putB h))) ∧ Below w.heap.size w w' := by
  have HSC : Hid ((Tryz.prog.info? 27).map (·.size) = some C.size) := by show _ = _; rw [sizeH, HC.out]; simp [hcells_length h hd]
  have HR : Hid ((w.alloc (.cells C 27)).heap[w.heap.size]? = some (.cells C 27 (0, 0))) := heap_alloc_new w _
  have HB : Hid (Below w.heap.size w (w.alloc (.cells C 27))) := (Below.refl _ _).alloc (Nat.le_refl _) _
  have P1 : Hid (∀ W, Calls Tryz.prog 74 #[.agg C] W fun e w' => BytesE (putB h) (putE h) e w' ∧ Below W.heap.size W w') := fun W => hPut_any h hd W C HC
  obtain ⟨l, hl⟩ : ∃ l, l = putB h := ⟨_, rfl⟩
  obtain ⟨E, hE⟩ : ∃ l, l = putE h := ⟨_, rfl⟩
  obtain ⟨x, Hx⟩ : ∃ x : ByteArray, Hid (x = bA l) := ⟨bA l, hidk rfl⟩
  rw [← hl, ← hE] at P1
  rw [← hl, ← Hx.out]
  clear HC hl hE
  go_enter Tryz.func52, Tryz.ntmps52
  go_wp2_with (first
    | (show aD 6 _ _ _ _ _ _ _ _ _ _ _; refine wpList_load_row rfl 27 (.tmp 1) rfl w.heap.size rfl 27 C (0, 0) _ HR.out Tryz.underlying27 rfl HSC.out ?_; try simp only [Act.put, pS1, pS2, pS3])
    | fail)
  refine (P1.out _).mono ?_
  rintro e w1 ⟨⟨a1, c1, rfl, hr1⟩, hb1⟩
  have HB1 := hidk (HB.out.trans (hb1.mono HB.out.size))
  have hcv := conv_reads hr1
  rw [show (⟨l.toArray⟩ : ByteArray) = x from Hx.out.symm] at hcv
  clear hb1 hr1
  go_wp2
  go_ret
  exact ⟨rfl, HB1.out⟩
def signT (h : HdT) : ByteArray := ⟨#[104, 101, 97, 100, 32]⟩ ++ bA (putB h)
theorem putB_length (h : HdT) (hd : h.d.length = 32) : (putB h).length ≤ 84 := by
  unfold putB
  split
  · exact headB_length h hd
  · exact Nat.zero_le _
set_option maxHeartbeats 2000000 in
theorem hText_any (h : HdT) (hd : h.d.length = 32) (w : World) (C : Array Value) (HC : Hid (C = (hcells h).toArray)) :
    Calls Tryz.prog 30 #[.agg C] w fun e w' => e = .returned (.string (signT h)) ∧ Below w.heap.size w w' := by
  have HSC : Hid ((Tryz.prog.info? 27).map (·.size) = some C.size) := by show _ = _; rw [sizeH, HC.out]; simp [hcells_length h hd]
  have HR : Hid ((w.alloc (.cells C 27)).heap[w.heap.size]? = some (.cells C 27 (0, 0))) := heap_alloc_new w _
  have HB : Hid (Below w.heap.size w (w.alloc (.cells C 27))) := (Below.refl _ _).alloc (Nat.le_refl _) _
  have P1 : Hid (∀ W, Calls Tryz.prog 52 #[.agg C] W fun e w' => e = .returned (.string (bA (putB h))) ∧ Below W.heap.size W w') := fun W => hLaid_any h hd W C HC
  have hs := putB_length h hd
  rw [← bA_size] at hs
  unfold signT
  obtain ⟨x, hx⟩ : ∃ x : ByteArray, x = bA (putB h) := ⟨_, rfl⟩
  rw [← hx] at P1 hs ⊢
  clear HC hx
  go_enter Tryz.func30, Tryz.ntmps30
  go_wp2_with (first
    | (show aD 3 _ _ _ _ _ _ _ _ _ _ _; refine wpList_load_row rfl 27 (.tmp 1) rfl w.heap.size rfl 27 C (0, 0) _ HR.out Tryz.underlying27 rfl HSC.out ?_; try simp only [Act.put, pS1, pS2, pS3])
    | fail)
  refine (P1.out _).mono ?_
  rintro e w1 ⟨rfl, hb1⟩
  have HB1 := hidk (HB.out.trans (hb1.mono HB.out.size))
  clear hb1
  go_wp2
  go_ret
  exact ⟨rfl, HB1.out⟩
theorem signT_right (h : HdT) (hr : rightH h = true) : (signT h).data.toList = headT h := by
  unfold signT headT putB
  rw [if_pos hr]
  simp [bA]
theorem signT_size (h : HdT) (hd : h.d.length = 32) : (signT h).size ≤ 100000 := by
  have := putB_length h hd
  have e : (signT h).size = 5 + (putB h).length := by
    unfold signT
    rw [ByteArray.size_append, bA_size]
    rfl
  omega
theorem came2 (w : World) (M C : Array Value) (t u : TypeId) : Below w.heap.size w ((w.alloc (.cells M t)).alloc (.cells C u)) ∧ ((w.alloc (.cells M t)).alloc (.cells C u)).heap[w.heap.size]? = some (.cells M t (0, 0)) ∧ ((w.alloc (.cells M t)).alloc (.cells C u)).heap[w.heap.size + 1]? = some (.cells C u (0, 0)) :=
  ⟨((Below.refl _ _).alloc (Nat.le_refl _) _).alloc (by simp) _, heap_keep (heap_alloc_new w _), by have := heap_alloc_new (w.alloc (.cells M t)) (.cells C u); rwa [alloc_size] at this⟩
theorem srow_row {W : World} {g : Nat} {s : SgT} (hd : s.h.d.length = 32) {C : Array Value} (HC : Hid (C = (scells s).toArray)) {t : TypeId} (h : W.heap[g]? = some (.cells C t (0, 0))) : SRow W g 0 s := by
  refine srow_of hd fun j v hj => ?_
  rw [Nat.zero_add, cell_of_row _ _ j _ t (0, 0) h, HC.out]
  simpa using hj
theorem srow_r {W : World} {g : Nat} {s : SgT} (h : SRow W g 0 s) : W.cell? ⟨g, 0, none⟩ = some (.int .i64 s.h.r) := by
  have := h.h 0 (.int .i64 s.h.r) rfl
  simpa using this
set_option maxHeartbeats 8000000 in
theorem hVerify_any (master : List UInt8) (s : SgT) (w : World) (M C : Array Value) (HM : Hid (M = (cellsOf master).toArray)) (HC : Hid (C = (scells s).toArray)) (hm : master.length = 32) (hs : InS s) (hT : TabT w) :
    Calls Tryz.prog 15 #[.agg M, .agg C] w fun e w' => e = .returned (.int .i64 (verE master s)) ∧ Below w.heap.size w w' := by
  have hnot : ∀ (x : Bool) (w : World), (Op.unary .not (.bool x)).run Tryz.prog w = .ok (.bool (!x)) w := fun _ _ => rfl
  have hd := hs.h.d
  have hg := hs.g
  have HSM : Hid ((Tryz.prog.info? 23).map (·.size) = some M.size) := by show _ = _; rw [sizeY, HM.out]; simp [cellsOf_length, hm]
  have HSC : Hid ((Tryz.prog.info? 29).map (·.size) = some C.size) := by show _ = _; rw [sizeS, HC.out]; simp [scells_length s hd hg]
  obtain ⟨b, hb⟩ : ∃ b, b = mayS s := ⟨_, rfl⟩
  have K1 : Hid (∀ W, Calls Tryz.prog 28 #[.agg C] W fun e w' => e = .returned (.bool b) ∧ Below W.heap.size W w') := fun W => by rw [hb]; exact hMay_any s hd W C HC
  obtain ⟨r, Hr⟩ : ∃ r, Hid (r = s.h.r) := ⟨s.h.r, hidk rfl⟩
  obtain ⟨n, Hn⟩ : ∃ n, Hid (n = s.n) := ⟨s.n, hidk rfl⟩
  obtain ⟨HCs, HHC, HSH, H36⟩ := head_row s.h hd
  obtain ⟨D, HD, HSD, H1D, H32D⟩ := dig_row' s.g hg
  obtain ⟨u, HU⟩ : ∃ u, Hid (u = signT s.h) := ⟨_, hidk rfl⟩
  have T1 : Hid (∀ W, Calls Tryz.prog 30 #[.agg HCs] W fun e w' => e = .returned (.string u) ∧ Below W.heap.size W w') := fun W => by rw [HU.out]; exact hText_any s.h hd W HCs HHC
  obtain ⟨k, Hk⟩ : ∃ k, Hid (k = holdE master r n u.data.toList s.g) := ⟨_, hidk rfl⟩
  have Q1 : Hid (∀ W, Below w.heap.size w W → Calls Tryz.prog 29 #[.agg M, .int .i64 r, .int .i64 n, .string u, .agg D] W fun e w' => e = .returned (.int .i64 k) ∧ Below W.heap.size W w') := fun W hbw => by
    rw [Hk.out]
    exact holds_any master r n u s.g W M D HM HD hm hg (by rw [HU.out]; exact signT_size s.h hd) (hT.keep hbw)
  have HV : Hid (verE master s = if b = true then k else 70) := by
    show _ = _
    unfold verE
    rw [hb]
    cases hq : mayS s
    · rfl
    · have ho := mayS_owner s hq
      have hrt := ((mayS_iff s).1 hq).1
      rw [if_pos rfl, if_pos rfl, Hk.out, Hr.out, Hn.out, HU.out, holdE_in _ _ _ _ _ ho, signT_right s.h hrt]
      rfl
  rw [HV.out]
  have HW0 := hidk (came2 w M C 23 29)
  have HS0 := hidk (srow_row hd HC HW0.out.2.2)
  have HDL : Hid (D.toList = cellsOf s.g) := by show _ = _; rw [HD.out]
  have HHL : Hid (HCs.toList = hcells s.h) := by show _ = _; rw [HHC.out]
  clear HC HM hT HD HV Hk HU hb
  cases b
  · go_enter Tryz.func15, Tryz.ntmps15
    go_wp2_with (first
      | (show aD 5 _ _ _ _ _ _ _ _ _ _ _; refine wpList_load_row rfl 29 (.tmp 3) rfl (w.heap.size + 1) rfl 29 C (0, 0) _ HW0.out.2.2 Tryz.underlying29 rfl HSC.out ?_; try simp only [Act.put, pS1, pS2, pS3])
      | fail)
    refine (K1.out _).mono ?_
    rintro e w1 ⟨rfl, hb1⟩
    have HB1 := hidk (HW0.out.1.trans (hb1.mono HW0.out.1.size))
    clear hb1
    go_wp2
    go_ret
    exact ⟨rfl, HB1.out⟩
  · go_enter Tryz.func15, Tryz.ntmps15
    go_wp2_with (first
      | (show aD 5 _ _ _ _ _ _ _ _ _ _ _; refine wpList_load_row rfl 29 (.tmp 3) rfl (w.heap.size + 1) rfl 29 C (0, 0) _ HW0.out.2.2 Tryz.underlying29 rfl HSC.out ?_; try simp only [Act.put, pS1, pS2, pS3])
      | fail)
    refine (K1.out _).mono ?_
    rintro e w1 ⟨rfl, hb1⟩
    have HB1 := hidk (HW0.out.1.trans (hb1.mono HW0.out.1.size))
    have HM1 := hidk ((hb1.block _ (heap_lt HW0.out.2.1)).trans HW0.out.2.1)
    have HS1 := hidk (HS0.out.keep hb1)
    clear hb1 HW0 HS0 K1
    go_wp2
    refine wp_region_held_drew (S := (fun W => W.heap[w.heap.size]? = some (.cells M 23 (0, 0)) ∧ SRow W (w.heap.size + 1) 0 s)) (by kernel_rfl) ⟨HM1.out, HS1.out.keep (Below.refl _ _).drew⟩ (fun hHeld => ?_)
    refine zW 0 (.agg M) rfl (yieldsIf_row (by rfl) 23 (.tmp 2) rfl w.heap.size rfl 23 M (0, 0) _ (fun _ h => h.1) Tryz.underlying23 rfl HSM.out) hHeld ?_
    try simp only [Act.put, pS1, pS2, pS3]
    refine zX 1 (.pointer (some ⟨w.heap.size + 1, 0, none⟩)) rfl hHeld ?_
    try simp only [Act.put, pS1, pS2, pS3]
    refine zX 2 (.pointer (some ⟨w.heap.size + 1, 0, none⟩)) rfl hHeld ?_
    try simp only [Act.put, pS1, pS2, pS3]
    refine zW 3 (.int .i64 r) rfl (Or.inl ⟨by rfl, by intro W hSw; have h1 := srow_r hSw.2; rw [← Hr.out] at h1; go_simp⟩) hHeld ?_
    try simp only [Act.put, pS1, pS2, pS3]
    refine zX 4 (.pointer (some ⟨w.heap.size + 1, 36, none⟩)) rfl hHeld ?_
    try simp only [Act.put, pS1, pS2, pS3]
    refine zW 5 (.int .i64 n) rfl (Or.inl ⟨by rfl, by intro W hSw; have h1 := hSw.2.n; rw [← Hn.out, Nat.zero_add] at h1; go_simp⟩) hHeld ?_
    try simp only [Act.put, pS1, pS2, pS3]
    refine zX 6 (.pointer (some ⟨w.heap.size + 1, 0, none⟩)) rfl hHeld ?_
    try simp only [Act.put, pS1, pS2, pS3]
    refine zW 7 (.agg HCs) rfl (yieldsIf_mid (by rfl) 27 (.tmp 14) rfl (w.heap.size + 1) 0 rfl HCs _ (fun _ h => by rw [HHL.out]; exact h.2.h) Tryz.underlying27 rfl HSH.out) hHeld ?_
    try simp only [Act.put, pS1, pS2, pS3]
    refine zX 9 (.pointer (some ⟨w.heap.size + 1, 37, none⟩)) rfl hHeld ?_
    try simp only [Act.put, pS1, pS2, pS3]
    refine zW 10 (.agg D) rfl (yieldsIf_mid (by rfl) 25 (.tmp 17) rfl (w.heap.size + 1) 37 rfl D _ (fun _ h => by rw [HDL.out]; have := h.2.g; rwa [Nat.zero_add] at this) Tryz.underlying25 rfl HSD.out) hHeld ?_
    try simp only [Act.put, pS1, pS2, pS3]
    refine wpAnyH_ready (rs := [8]) (by kernel_rfl) (by simp) ?_
    refine (AllReadyH.cons (o := { dst := some 16, op := .call { callee := .value (.func 30), args := #[.tmp 15], argTypes := #[27] }, type := 9, pos := "head.go:88", after := #[zD 7], guard := none }) rfl (fun K hK => ?_) AllReadyH.nil)
    go_simp
    refine (T1.out _).mono ?_
    rintro e w8 ⟨rfl, hb8⟩
    have HBc := hidk (HB1.out.drew.trans (hb8.mono HB1.out.size))
    go_wp2_with fail
    refine hK.out _ _ ⟨(hb8.block _ (heap_lt hHeld.1)).trans hHeld.1, hHeld.2.keep hb8⟩ (fun hHeld => ?_)
    clear hK K
    try simp only [Act.put, pS1, pS2, pS3]
    refine wpAnyH_ready (rs := [11]) (by kernel_rfl) (by simp) ?_
    refine (AllReadyH.cons (o := { dst := some 19, op := .call { callee := .value (.func 29), args := #[.tmp 8, .tmp 11, .tmp 13, .tmp 16, .tmp 18], argTypes := #[23, 3, 3, 9, 25] }, type := 34, pos := "head.go:88", after := #[zD 0, zD 3, zD 5, zD 8, zD 10, zC 8], guard := none }) rfl (fun K hK => ?_) AllReadyH.nil)
    go_simp
    refine (Q1.out _ HBc.out).mono ?_
    rintro e w11 ⟨rfl, hb9⟩
    have HBF := hidk (HBc.out.trans (hb9.mono HBc.out.size))
    go_wp2_with fail
    refine hK.out _ _ ⟨(hb9.block _ (heap_lt hHeld.1)).trans hHeld.1, hHeld.2.keep hb9⟩ (fun hHeld => ?_)
    clear hK K
    try simp only [Act.put, pS1, pS2, pS3]
    refine zX 12 (.int .i64 k) rfl hHeld ?_
    try simp only [Act.put, pS1, pS2, pS3]
    refine wpAnyH_done (by kernel_rfl) ?_ _
    go_wp2
    go_ret
    exact ⟨rfl, HBF.out⟩
def tkD (tag : Int) (fs : List (Int × ByteArray)) : ByteArray := match fs with
  | f :: _ => if f.1 = tag then f.2 else ⟨#[]⟩
  | [] => ⟨#[]⟩
def tkB (tag : Int) (fs : List (Int × ByteArray)) : Bool := match fs with
  | f :: _ => decide (f.1 = tag)
  | [] => false
theorem builtS2 (h : HdT) (n : Int) (hd : h.d.length = 32) (C R : Array Value) (HC : Hid (C = (hcells h).toArray)) (HR : Hid (R = (scells ⟨h, n, List.replicate 32 0⟩).toArray)) : Tryz.prog.built 29 [(0, .agg C), (1, .int .i64 n)] = some R := by
  have hi := infoS
  have hzl := hcells_length zeroH rfl
  cases hq : Tryz.prog.info? 29 with
  | none => rw [hq] at hi; cases hi
  | some i =>
    rw [hq] at hi
    simp only [Option.map_some, Option.some.injEq, Prod.mk.injEq] at hi
    have hH := sizeH
    have hD := size23
    have h3 : (Tryz.prog.info? 3).map (·.size) = some 1 := by kernel_rfl
    cases hqH : Tryz.prog.info? 27 with
    | none => rw [hqH] at hH; cases hH
    | some iH =>
      cases hqD : Tryz.prog.info? 25 with
      | none => rw [hqD] at hD; cases hD
      | some iD =>
        cases hq3 : Tryz.prog.info? 3 with
        | none => rw [hq3] at h3; cases h3
        | some i3 =>
          rw [hqH] at hH
          rw [hqD] at hD
          rw [hq3] at h3
          simp only [Option.map_some, Option.some.injEq] at hH hD h3
          unfold Program.built
          simp only [hq, Tryz.underlying29, hi.1, List.mapM_cons, List.mapM_nil, hqH, hqD, hq3, hH, hD, h3, Option.map_some, Option.bind_eq_bind, Option.bind_some, Option.pure_def]
          show Instr.fill _ (scells zeroS).toArray _ = some R
          have hc36 : C.size = 36 := by rw [HC.out]; simp [hcells_length h hd]
          refine (fill_val _ 0 0 36 (.agg C) C _ [] (hcells zeroH) ([.int .i64 0] ++ cellsOf (List.replicate 32 0)) _ rfl rfl hc36 (by simp [scells, zeroS]) rfl hzl).trans ?_
          refine (fill_val _ 1 36 1 (.int .i64 n) #[.int .i64 n] _ C.toList [.int .i64 0] (cellsOf (List.replicate 32 0)) _ rfl rfl rfl (by simp) (by simpa using hc36) rfl).trans ?_
          simp only [Instr.fill, List.append_nil, Option.some.injEq]
          rw [HR.out, HC.out]
          rfl
theorem step_set_mid {P : Program} {ops : Array Oper} {o : Oper} {a : Act} {w : World} {K : Act → World → Prop} {Q : Exit → Act → World → Prop} {E : Prop} (hw : Region.wanted o (yielded ops a.tmps) = true) (ty : TypeId) (x y : Operand) (ho : o.op = .store ty x y)
    (g k : Nat) (D : Array Value) (hx : a.eval x = .pointer (some ⟨g, k, none⟩)) (hy : a.eval y = .agg D) (t' : TypeId) (Z : Array Value) (hg : w.heap[g]? = some (.cells Z t' (0, 0))) (hk : k + D.size ≤ Z.size) (hi : (P.info? ty).map (·.size) = some D.size) (h1 : D.all (·.oneCell') = true)
    (h : ∀ w', Hid (Wrote g (Z.toList.take k ++ D.toList ++ Z.toList.drop (k + D.size)).toArray t' w w') → K (a.put o.dst undef) w') : if Region.wanted o (yielded ops a.tmps) = true then Oper.wp P o a w K Q else E := by
  rw [if_pos hw]
  have hkk := h _ (wrote_row hg)
  have h1' : ∀ v ∈ D.toList, v.oneCell' = true := by
    intro v hv
    rw [Array.all_eq_true'] at h1
    exact h1 v (by simpa using hv)
  have hst := run_storeCells_at P g k t' D.toList 0 Z w hg (by simpa using hk) h1'
  cases hq : P.info? ty with
  | none => simp [hq] at hi
  | some i =>
    have hs : i.size = D.size := by simpa [hq] using hi
    unfold Oper.wp execOp
    simp only [ho, hx, hy, Instr.storeAt, Instr.sureAddr, Sem.run_bind, Sem.run_pure, Result.andThen_ok]
    simp only [Nat.add_zero, Nat.zero_add] at hst
    simp [storeVar, sizeOf, typeInfo, hq, Value.cells, hs, hst]
    simp only [List.append_assoc] at hkk ⊢
    exact hkk
theorem scells_sign (h : HdT) (n : Int) (t d : List UInt8) (hd : h.d.length = 32) (ht : t.length = 32) : ((scells ⟨h, n, t⟩).toArray.toList.take 37 ++ cellsOf d ++ (scells ⟨h, n, t⟩).toArray.toList.drop (37 + 32)).toArray = (scells ⟨h, n, d⟩).toArray := by
  unfold scells
  congr 1
  have e : ∀ l : List Value, l.toArray.toList = l := fun _ => rfl
  simp only [e, List.drop_append, List.take_append, List.length_append, hcells_length h hd, cellsOf_length, ht, List.length_singleton]
  rw [List.take_of_length_le (l := hcells h) (by rw [hcells_length h hd]; omega), List.drop_of_length_le (l := hcells h) (by rw [hcells_length h hd]; omega), List.drop_of_length_le (l := cellsOf t) (by rw [cellsOf_length, ht]; omega)]
  simp
theorem signsO_may (h : HdT) (n : Int) (g : List UInt8) : mayS ⟨h, n, g⟩ = signsO h n := by
  unfold mayS signsO
  rw [Bool.and_assoc]
set_option maxHeartbeats 8000000 in
theorem hSign_any (master : List UInt8) (h : HdT) (n : Int) (w : World) (M C R : Array Value) (HM : Hid (M = (cellsOf master).toArray)) (HC : Hid (C = (hcells h).toArray)) (hm : master.length = 32) (hd : h.d.length = 32) (hT : TabT w) (HR : Hid (R = (scells (signO master h n)).toArray)) :
    Calls Tryz.prog 36 #[.agg M, .agg C, .int .i64 n] w fun e w' => e = .returned (.tuple #[.agg R, .int .i64 (signE h n)]) ∧ Below w.heap.size w w' := by
  have hnot : ∀ (x : Bool) (w : World), (Op.unary .not (.bool x)).run Tryz.prog w = .ok (.bool (!x)) w := fun _ _ => rfl
  obtain ⟨Z, HZ, HA, HBZ, H69⟩ := noughtsS
  obtain ⟨ZY, HZY, HAY, HY32⟩ := noughtsY
  have HSZ : Hid ((Tryz.prog.info? 29).map (·.size) = some Z.size) := by show _ = _; rw [sizeS, H69.out]
  have H1Z : Hid (Z.all (·.oneCell') = true) := by show _ = _; rw [HZ.out]; exact one_cellsS _
  have HSM : Hid ((Tryz.prog.info? 23).map (·.size) = some M.size) := by show _ = _; rw [sizeY, HM.out]; simp [cellsOf_length, hm]
  have HSC : Hid ((Tryz.prog.info? 27).map (·.size) = some C.size) := by show _ = _; rw [sizeH, HC.out]; simp [hcells_length h hd]
  obtain ⟨S0, HS0, HSS, H1S, HS69⟩ := sign_row ⟨h, n, List.replicate 32 0⟩ hd rfl
  have HZS : Hid (Z.size = S0.size) := by show _ = _; rw [H69.out, HS69.out]
  have HBS : Hid (Tryz.prog.built 29 [(0, .agg C), (1, .int .i64 n)] = some S0) := builtS2 h n hd C S0 HC HS0
  obtain ⟨b, hb⟩ : ∃ b, b = signsO h n := ⟨_, rfl⟩
  have K1 : Hid (∀ W, Calls Tryz.prog 28 #[.agg S0] W fun e w' => e = .returned (.bool b) ∧ Below W.heap.size W w') := fun W => by rw [hb, ← signsO_may h n (List.replicate 32 0)]; exact hMay_any ⟨h, n, List.replicate 32 0⟩ hd W S0 HS0
  have HW0 := hidk (came2 w M C 23 27)
  cases b
  · have HRZ : Hid (R = Z) := by
      show _ = _
      rw [HR.out, HZ.out]; unfold signO; rw [← hb]; rfl
    rw [show signE h n = 70 by unfold signE; rw [← hb]; rfl, HRZ.out]
    clear HM HC hm hT HR HS0 hb HRZ HZ H69 HZY HAY HY32
    go_enter Tryz.func36, Tryz.ntmps36
    go_wp2_with (first
      | (show aD 6 _ _ _ _ _ _ _ _ _ _ _; refine wpList_new_var rfl 29 rfl Z HA.out ?_; intro g6 w1 HM6; try simp only [Act.put, pS1, pS2, pS3])
      | (show aD 11 _ _ _ _ _ _ _ _ _ _ _; refine wpList_load_row rfl 27 (.tmp 4) rfl (w.heap.size + 1) rfl 27 C (0, 0) _ ((HM6.out.below.block _ (heap_lt HW0.out.2.2)).trans HW0.out.2.2) Tryz.underlying27 rfl HSC.out ?_; try simp only [Act.put, pS1, pS2, pS3])
      | (show aD 13 _ _ _ _ _ _ _ _ _ _ _; refine wpList_build_two rfl 29 0 1 (.tmp 11) (.tmp 12) rfl S0 (.agg C) (.int .i64 n) rfl rfl HBS.out ?_; try simp only [Act.put, pS1, pS2, pS3])
      | (show aD 8 _ _ _ _ _ _ _ _ _ _ _; refine wpList_new_var rfl 29 rfl Z HA.out ?_; intro g8 w2 HM8; try simp only [Act.put, pS1, pS2, pS3])
      | (refine wpList_set_var rfl 29 (.tmp 8) (.tmp 13) rfl g8 S0 rfl rfl 29 Z HM8.out.row HSS.out HZS.out H1S.out ?_; intro w3 HW8; try simp only [Act.put, pS1, pS2, pS3])
      | (show aD 14 _ _ _ _ _ _ _ _ _ _ _; refine wpList_load_row rfl 29 (.tmp 8) rfl g8 rfl 29 S0 (0, 0) _ HW8.out.row Tryz.underlying29 rfl HSS.out ?_; try simp only [Act.put, pS1, pS2, pS3])
      | fail)
    have HB1 := hidk (HW0.out.1.trans (HM6.out.below.mono HW0.out.1.size))
    have h6 : w.heap.size ≤ g6 := by rw [HM6.out.new]; exact HW0.out.1.size
    have h8 : g6 < g8 := by rw [HM8.out.new]; exact heap_lt HM6.out.row
    have HB3 := hidk (HW8.out.below _ _ (HB1.out.trans (HM8.out.below.mono HB1.out.size)) (by omega))
    have HR6 := hidk ((HW8.out.other g6 (by omega)).trans ((HM8.out.below.block _ (heap_lt HM6.out.row)).trans HM6.out.row))
    clear HM6 HM8 HW8 HB1 HW0
    refine (K1.out _).mono ?_
    rintro e w4 ⟨rfl, hb4⟩
    have HB4 := hidk (HB3.out.trans (hb4.mono HB3.out.size))
    have HR64 := hidk ((hb4.block _ (heap_lt HR6.out)).trans HR6.out)
    clear hb4 HB3 HR6 K1
    go_wp2_with (first
      | (show aD 17 _ _ _ _ _ _ _ _ _ _ _; refine wpList_build_none rfl 29 rfl Z HBZ.out ?_; try simp only [Act.put, pS1, pS2, pS3])
      | (refine wpList_set_var rfl 29 (.tmp 6) (.tmp 17) rfl g6 Z rfl rfl 29 Z HR64.out HSZ.out rfl H1Z.out ?_; intro w5 HW6; try simp only [Act.put, pS1, pS2, pS3])
      | fail)
    refine bodyPost_ret (v := .tuple #[.agg Z, .int .i64 70]) ?_ rfl ⟨rfl, HW6.out.below w.heap.size w HB4.out h6⟩
    exact results_row_tmp (p := 6) (q := 7) (ty := 29) rfl _ _ g6 29 Z (0, 0) _ rfl HW6.out.row Tryz.underlying29 rfl HSZ.out
  · have ho := signsO_owner h n hb.symm
    have hrt : rightH h = true := by
      have := hb.symm
      unfold signsO at this
      simp only [Bool.and_eq_true] at this
      exact this.1
    have hR2 : R = (scells ⟨h, n, tagD master h n⟩).toArray := by rw [HR.out]; unfold signO; rw [← hb]; rfl
    rw [show signE h n = 0 by unfold signE; rw [← hb]; rfl]
    obtain ⟨r, Hr⟩ : ∃ r, Hid (r = h.r) := ⟨h.r, hidk rfl⟩
    obtain ⟨Ky, HK, HSK, H1K, H32K⟩ := key_row (keyD master r n) (keyD_length sumD_length _ _ _)
    obtain ⟨u, HU⟩ : ∃ u, Hid (u = signT h) := ⟨_, hidk rfl⟩
    obtain ⟨D, HD, HSD, H1D, H32D⟩ := dig_row' (tagD master h n) (tagD_length sumD_length _ _ _)
    have HZK : Hid (ZY.size = Ky.size) := by show _ = _; rw [HY32.out, H32K.out]
    have C1 : Hid (∀ W, Below w.heap.size w W → Calls Tryz.prog 49 #[.agg M, .int .i64 r, .int .i64 n] W fun e w' => e = .returned (.tuple #[.agg Ky, .int .i64 0]) ∧ Below W.heap.size W w') := fun W hbw => by
      have := key_any master r n W M Ky HM hm (hT.keep hbw) (by show _ = _; rw [HK.out, keyO_in _ _ _ (by rw [Hr.out]; exact ho)])
      rwa [show keyE r n = 0 by unfold keyE; rw [if_pos (by rw [Hr.out]; exact ho)]] at this
    have T1 : Hid (∀ W, Calls Tryz.prog 30 #[.agg C] W fun e w' => e = .returned (.string u) ∧ Below W.heap.size W w') := fun W => by rw [HU.out]; exact hText_any h hd W C HC
    have C2 : Hid (∀ W, Below w.heap.size w W → Calls Tryz.prog 51 #[.agg Ky, .string u] W fun e w' => e = .returned (.agg D) ∧ Below W.heap.size W w') := fun W hbw =>
      mac_any (keyD master r n) u W Ky D HK (keyD_length sumD_length _ _ _) (by rw [HU.out]; exact signT_size h hd) (hT.keep hbw) (by show _ = _; rw [HD.out, HU.out, signT_right h hrt, Hr.out]; rfl)
    have HSR : Hid ((Tryz.prog.info? 29).map (·.size) = some R.size) := by show _ = _; rw [sizeS, hR2, List.size_toArray]; exact congrArg some (scells_length _ hd (tagD_length sumD_length _ _ _)).symm
    have H1R : Hid (R.all (·.oneCell') = true) := by show _ = _; rw [hR2]; exact one_cellsS _
    have HZR : Hid (Z.size = R.size) := by show _ = _; rw [H69.out, hR2, List.size_toArray]; exact (scells_length _ hd (tagD_length sumD_length _ _ _)).symm
    have HRR : Hid ((S0.toList.take 37 ++ D.toList ++ S0.toList.drop (37 + D.size)).toArray = R) := by
      show _ = _
      rw [H32D.out, HS0.out, HD.out, hR2]
      exact scells_sign h n (List.replicate 32 0) (tagD master h n) hd rfl
    have HOO : Hid (37 + D.size ≤ S0.size) := by show _ ≤ _; rw [H32D.out, HS69.out]; omega
    have HCr : Hid (∀ (W : World) (g : Nat), W.heap[g]? = some (.cells C 27 (0, 0)) → W.cell? ⟨g, 0, none⟩ = some (.int .i64 r)) := fun W g hh => by
      rw [cell_of_row W g 0 _ _ (0, 0) hh, HC.out, Hr.out]; rfl
    clear HM HC hm hT HR HS0 hb HZ H69 HZY HY32 HK HU HD hR2 ho hrt H32D HS69 H32K Hr
    go_enter Tryz.func36, Tryz.ntmps36
    go_wp2_with (first
      | (show aD 6 _ _ _ _ _ _ _ _ _ _ _; refine wpList_new_var rfl 29 rfl Z HA.out ?_; intro g6 w1 HM6; try simp only [Act.put, pS1, pS2, pS3])
      | (show aD 11 _ _ _ _ _ _ _ _ _ _ _; refine wpList_load_row rfl 27 (.tmp 4) rfl (w.heap.size + 1) rfl 27 C (0, 0) _ ((HM6.out.below.block _ (heap_lt HW0.out.2.2)).trans HW0.out.2.2) Tryz.underlying27 rfl HSC.out ?_; try simp only [Act.put, pS1, pS2, pS3])
      | (show aD 13 _ _ _ _ _ _ _ _ _ _ _; refine wpList_build_two rfl 29 0 1 (.tmp 11) (.tmp 12) rfl S0 (.agg C) (.int .i64 n) rfl rfl HBS.out ?_; try simp only [Act.put, pS1, pS2, pS3])
      | (show aD 8 _ _ _ _ _ _ _ _ _ _ _; refine wpList_new_var rfl 29 rfl Z HA.out ?_; intro g8 w2 HM8; try simp only [Act.put, pS1, pS2, pS3])
      | (refine wpList_set_var rfl 29 (.tmp 8) (.tmp 13) rfl g8 S0 rfl rfl 29 Z HM8.out.row HSS.out HZS.out H1S.out ?_; intro w3 HW8; try simp only [Act.put, pS1, pS2, pS3])
      | (show aD 14 _ _ _ _ _ _ _ _ _ _ _; refine wpList_load_row rfl 29 (.tmp 8) rfl g8 rfl 29 S0 (0, 0) _ HW8.out.row Tryz.underlying29 rfl HSS.out ?_; try simp only [Act.put, pS1, pS2, pS3])
      | fail)
    have HB1 := hidk (HW0.out.1.trans (HM6.out.below.mono HW0.out.1.size))
    have h6 : w.heap.size + 1 < g6 := by rw [HM6.out.new]; exact heap_lt HW0.out.2.2
    have h8 : g6 < g8 := by rw [HM8.out.new]; exact heap_lt HM6.out.row
    have HBa := hidk (HM6.out.below.trans (HM8.out.below.mono HM6.out.below.size))
    have HB3 := hidk (HW8.out.below _ _ (HB1.out.trans (HM8.out.below.mono HB1.out.size)) (by omega))
    have HR6 := hidk ((HW8.out.other g6 (by omega)).trans ((HM8.out.below.block _ (heap_lt HM6.out.row)).trans HM6.out.row))
    have HR8 := hidk HW8.out.row
    have HRM := hidk ((HW8.out.other w.heap.size (by omega)).trans ((HBa.out.block _ (heap_lt HW0.out.2.1)).trans HW0.out.2.1))
    have HRC := hidk ((HW8.out.other (w.heap.size + 1) (by omega)).trans ((HBa.out.block _ (heap_lt HW0.out.2.2)).trans HW0.out.2.2))
    clear HM6 HM8 HW8 HB1 HW0 HBa
    refine (K1.out _).mono ?_
    rintro e w4 ⟨rfl, hb4⟩
    replace HB3 := hidk (HB3.out.trans (hb4.mono HB3.out.size))
    replace HR6 := hidk ((hb4.block _ (heap_lt HR6.out)).trans HR6.out)
    replace HR8 := hidk ((hb4.block _ (heap_lt HR8.out)).trans HR8.out)
    replace HRM := hidk ((hb4.block _ (heap_lt HRM.out)).trans HRM.out)
    replace HRC := hidk ((hb4.block _ (heap_lt HRC.out)).trans HRC.out)
    have hcr := HCr.out w4 _ HRC.out
    clear hb4 K1
    go_wp2_with (first
      | (show aD 19 _ _ _ _ _ _ _ _ _ _ _; refine wpList_load_row rfl 23 (.tmp 3) rfl w.heap.size rfl 23 M (0, 0) _ HRM.out Tryz.underlying23 rfl HSM.out ?_; try simp only [Act.put, pS1, pS2, pS3])
      | fail)
    refine (C1.out _ HB3.out).mono ?_
    rintro e w5 ⟨rfl, hb5⟩
    replace HB3 := hidk (HB3.out.trans (hb5.mono HB3.out.size))
    replace HR6 := hidk ((hb5.block _ (heap_lt HR6.out)).trans HR6.out)
    replace HR8 := hidk ((hb5.block _ (heap_lt HR8.out)).trans HR8.out)
    replace HRC := hidk ((hb5.block _ (heap_lt HRC.out)).trans HRC.out)
    clear hb5 C1 hcr HRM HCr
    go_wp2_with (first
      | (show aD 9 _ _ _ _ _ _ _ _ _ _ _; refine wpList_new_var rfl 23 rfl ZY HAY.out ?_; intro g9 w6 HM9; try simp only [Act.put, pS1, pS2, pS3])
      | (refine wpList_set_var rfl 23 (.tmp 9) (.tmp 24) rfl g9 Ky rfl rfl 23 ZY HM9.out.row HSK.out HZK.out H1K.out ?_; intro w7 HW9; try simp only [Act.put, pS1, pS2, pS3])
      | fail)
    have h9 : g8 < g9 := by rw [HM9.out.new]; exact heap_lt HR8.out
    have HBc : Hid (Below w.heap.size w w7.drew) := (HW9.out.below _ _ (HB3.out.trans (HM9.out.below.mono HB3.out.size)) (by omega)).drew
    replace HR6 := hidk ((HW9.out.other g6 (by omega)).trans ((HM9.out.below.block _ (heap_lt HR6.out)).trans HR6.out))
    replace HR8 := hidk ((HW9.out.other g8 (by omega)).trans ((HM9.out.below.block _ (heap_lt HR8.out)).trans HR8.out))
    replace HRC := hidk ((HW9.out.other (w.heap.size + 1) (by omega)).trans ((HM9.out.below.block _ (heap_lt HRC.out)).trans HRC.out))
    have HR9 := hidk HW9.out.row
    clear HM9 HW9 HB3
    refine wp_region_held_drew (S := (fun W => W.heap[g9]? = some (.cells Ky 23 (0, 0)) ∧ W.heap[w.heap.size + 1]? = some (.cells C 27 (0, 0)))) (by kernel_rfl) ⟨HR9.out, HRC.out⟩ (fun hHeld => ?_)
    refine zW 0 (.agg Ky) rfl (yieldsIf_row (by rfl) 23 (.tmp 9) rfl g9 rfl 23 Ky (0, 0) _ (fun _ h => h.1) Tryz.underlying23 rfl HSK.out) hHeld ?_
    try simp only [Act.put, pS1, pS2, pS3]
    refine zW 1 (.agg C) rfl (yieldsIf_row (by rfl) 27 (.tmp 4) rfl (w.heap.size + 1) rfl 27 C (0, 0) _ (fun _ h => h.2) Tryz.underlying27 rfl HSC.out) hHeld ?_
    try simp only [Act.put, pS1, pS2, pS3]
    refine wpAnyH_ready (rs := [2]) (by kernel_rfl) (by simp) ?_
    refine (AllReadyH.cons (o := { dst := some 28, op := .call { callee := .value (.func 30), args := #[.tmp 27], argTypes := #[27] }, type := 9, pos := "head.go:79", after := #[zD 1], guard := none }) rfl (fun K hK => ?_) AllReadyH.nil)
    go_simp
    refine (T1.out _).mono ?_
    rintro e v2 ⟨rfl, hb2⟩
    replace HBc := hidk (HBc.out.trans (hb2.mono HBc.out.size))
    replace HR6 := hidk ((hb2.block _ (heap_lt HR6.out)).trans HR6.out)
    replace HR8 := hidk ((hb2.block _ (heap_lt HR8.out)).trans HR8.out)
    go_wp2_with fail
    refine hK.out _ _ ⟨(hb2.block _ (heap_lt hHeld.1)).trans hHeld.1, (hb2.block _ (heap_lt hHeld.2)).trans hHeld.2⟩ (fun hHeld => ?_)
    clear hK K
    try simp only [Act.put, pS1, pS2, pS3]
    refine wpAnyH_ready (rs := [3]) (by kernel_rfl) (by simp) ?_
    refine (AllReadyH.cons (o := { dst := some 29, op := .call { callee := .value (.func 51), args := #[.tmp 26, .tmp 28], argTypes := #[23, 9] }, type := 25, pos := "head.go:79", after := #[zD 0, zD 2, zC 2], guard := none }) rfl (fun K hK => ?_) AllReadyH.nil)
    go_simp
    refine (C2.out _ HBc.out).mono ?_
    rintro e v3 ⟨rfl, hb3⟩
    replace HBc := hidk (HBc.out.trans (hb3.mono HBc.out.size))
    replace HR6 := hidk ((hb3.block _ (heap_lt HR6.out)).trans HR6.out)
    replace HR8 := hidk ((hb3.block _ (heap_lt HR8.out)).trans HR8.out)
    go_wp2_with fail
    refine hK.out _ _ ⟨(hb3.block _ (heap_lt hHeld.1)).trans hHeld.1, (hb3.block _ (heap_lt hHeld.2)).trans hHeld.2⟩ (fun hHeld => ?_)
    clear hK K
    try simp only [Act.put, pS1, pS2, pS3]
    refine zX 4 (.pointer (some ⟨g8, 37, none⟩)) rfl hHeld ?_
    try simp only [Act.put, pS1, pS2, pS3]
    refine wpAnyH_ready (rs := [5]) (by kernel_rfl) (by simp) ?_
    refine (AllReadyH.cons (o := { dst := none, op := .store 25 (.tmp 30) (.tmp 29), type := 0, pos := "head.go:79", after := #[zD 4, zD 3, zC 3, zP 0, zP 1, zP 2, zP 3], guard := none }) rfl (fun K hK => ?_) AllReadyH.nil)
    refine step_set_mid (by rfl) 25 (.tmp 30) (.tmp 29) rfl g8 37 D rfl rfl 29 S0 HR8.out HOO.out HSD.out H1D.out ?_
    intro v5 HW8
    refine hK.out _ _ ⟨(HW8.out.other g9 (by omega)).trans hHeld.1, (HW8.out.other (w.heap.size + 1) (by omega)).trans hHeld.2⟩ (fun hHeld => ?_)
    clear hK K
    try simp only [Act.put, pS1, pS2, pS3]
    refine wpAnyH_done (by kernel_rfl) ?_ _
    have HB8 := hidk (HW8.out.below w.heap.size w HBc.out (by omega))
    have HR68 := hidk ((HW8.out.other g6 (by omega)).trans HR6.out)
    have HR88 := hidk HW8.out.row
    rw [HRR.out] at HR88
    clear HW8 HBc HR6 HR8
    go_wp2_with (first
      | (show aD 31 _ _ _ _ _ _ _ _ _ _ _; refine wpList_load_row rfl 29 (.tmp 8) rfl g8 rfl 29 R (0, 0) _ HR88.out Tryz.underlying29 rfl HSR.out ?_; try simp only [Act.put, pS1, pS2, pS3])
      | (refine wpList_set_var rfl 29 (.tmp 6) (.tmp 31) rfl g6 R rfl rfl 29 Z HR68.out HSR.out HZR.out H1R.out ?_; intro w9 HW6; try simp only [Act.put, pS1, pS2, pS3])
      | fail)
    refine bodyPost_ret (v := .tuple #[.agg R, .int .i64 0]) ?_ rfl ⟨rfl, HW6.out.below w.heap.size w HB8.out (by omega)⟩
    exact results_row_tmp (p := 6) (q := 7) (ty := 29) rfl _ _ g6 29 R (0, 0) _ rfl HW6.out.row Tryz.underlying29 rfl HSR.out
def hV (tag : Int) (fs : List (Int × ByteArray)) : HdT := getHO (tkD tag fs).data.toList
def hB (tag : Int) (fs : List (Int × ByteArray)) : Bool := tkB tag fs && (getO (tkD tag fs).data.toList).isSome
end Go.Proofs.YtjalebncfnekiaaGreatDoor
/- What the calls of package entry answer, all together. -/
namespace Go.Proofs.YtjalebncfnekiaaGreatDoor
open Go.RowKit Sums Nums
set_option maxRecDepth 100000
set_option linter.unusedVariables false
theorem entryC : EntryC where
  checkC := fun c hc w C HC => eCheckC_any c w C HC
  check := fun x hx w X HX => eCheck_any x hx.ok w X HX
theorem headC : HeadC where
  check := fun h hh w C HC => hCheck_any h hh.d w C HC
  put := fun h hh w C HC => hPut_any h hh.d w C HC
  sign := fun master h n w M C R HM HC hm hh hn hT HR => hSign_any master h n w M C R HM HC hm hh.d hT HR
  verify := fun master s w M C HM HC hm hs hT => hVerify_any master s w M C HM HC hm hs hT
end Go.Proofs.YtjalebncfnekiaaGreatDoor
