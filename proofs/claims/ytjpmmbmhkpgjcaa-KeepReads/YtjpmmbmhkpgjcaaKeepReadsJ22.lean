/- Texts of our own that the row of KeepReads leans on, part 22. -/
import Derived.Test.YtjpmmbmhkpgjcaaKeepReadsJ15
import Derived.Test.YtjpmmbmhkpgjcaaKeepReadsJ17
import Derived.Test.YtjpmmbmhkpgjcaaKeepReadsJ19
import Derived.Test.YtjpmmbmhkpgjcaaKeepReadsJ20
import Derived.Test.YtjpmmbmhkpgjcaaKeepReadsJ21
import Derived.RangeFuncNested
import Derived.RangeFuncBound
import Derived.RangeFuncCalls
import Derived.RangeFuncLeaves
import Derived.RangeFuncBox
import Derived.Shelf.Abstract
import Derived.Shelf.RegionOpen
import Derived.WalkKit
import Derived.OwnWalkIn
import Derived.TacticsInMore
import Derived.LoopNIn
import Derived.LoopIn
import Derived.Lib.BufferWrite

/- What the calls of package head answer, as the document says (their proofs are of one commit of the code). -/
namespace Go.Proofs.Ytjpmmbmhkpgjcaa
open Go.RowKit Sums Nums
set_option linter.unusedVariables false
set_option linter.unusedSimpArgs false
set_option maxRecDepth 100000
/-- A head that lies in a variable. -/
structure InH (h : HdT) : Prop where
  d : h.d.length = 32
  r : In64 h.r
  e : In64 h.e
  s : In64 h.s
  t : In64 h.t
structure InS (s : SgT) : Prop where
  h : InH s.h
  n : In64 s.n
  g : s.g.length = 32
/-- A row of bytes and an error. -/
def BytesE (bs : List UInt8) (E : Int) (e : Ending) (w' : World) : Prop := ∃ a cap, e = .returned (.tuple #[.slice a bs.length cap, .int .i64 E]) ∧ Reads w' a bs.length cap bs
def putB (h : HdT) : List UInt8 := if rightH h = true then headB h else []
def putE (h : HdT) : Int := if rightH h = true then 0 else 70
def putSB (s : SgT) : List UInt8 := if mayS s = true then signB s else []
def putSE (s : SgT) : Int := if mayS s = true then 0 else 70
theorem right_in {h : HdT} (hr : rightH h = true) (hd : h.d.length = 32) : InH h := by
  have := (rightH_iff h).1 hr
  refine ⟨hd, ?_, ?_, ?_, ?_⟩ <;> unfold In64 <;> omega
theorem zero_in : InH zeroH := ⟨rfl, by unfold In64; decide, by unfold In64; decide, by unfold In64; decide, by unfold In64; decide⟩
theorem may_in {s : SgT} (hm : mayS s = true) (hd : s.h.d.length = 32) (hg : s.g.length = 32) : InS s := by
  have := (mayS_iff s).1 hm
  exact ⟨right_in this.1 hd, by unfold In64; omega, hg⟩
theorem zeroS_in : InS zeroS := ⟨zero_in, by unfold In64; decide, rfl⟩
theorem getSO_in (bs : List UInt8) : InS (getSO bs) := by
  unfold getSO
  cases h : Go.Proofs.Ytjpmmbmhkpgjcaa.getS bs with
  | none => exact zeroS_in
  | some x => exact may_in (getS_some h).1 (getS_some h).2.1 (getS_some h).2.2.1
end Go.Proofs.Ytjpmmbmhkpgjcaa

/- Claims, entries and items in memory, and held against each other by == and !=. -/
namespace Go.Proofs.Ytjpmmbmhkpgjcaa
open Go.RowKit Sums Nums
set_option linter.unusedVariables false
set_option linter.unusedSimpArgs false
set_option maxRecDepth 100000
/-! What lies in memory. -/
def ccells (c : ClT) : List Value := [.int .i64 c.r, .int .i64 c.e, .int .i64 c.n, .int .i64 c.s] ++ cellsOf c.d
theorem ccells_length (c : ClT) (hd : c.d.length = 32) : (ccells c).length = 36 := by simp [ccells, cellsOf_length, hd]
def ecells (x : EnT) : List Value := [.int .i64 x.k, .int .i64 x.c, .int .i64 x.s, .string x.t] ++ scells x.h ++ ccells x.m
theorem ecells_length (x : EnT) (ok : OkE x) : (ecells x).length = 109 := by simp [ecells, scells_length _ ok.h ok.g, ccells_length _ ok.m]
def icells (x : ItT) : List Value := [.int .i64 x.p] ++ ecells x.e
theorem icells_length (x : ItT) (ok : OkE x.e) : (icells x).length = 110 := by simp [icells, ecells_length _ ok]
theorem heldC : Try.prog.stoodInHeld 36 = false := by kernel_rfl
theorem heldE : Try.prog.stoodInHeld 38 = false := by kernel_rfl
theorem heldI : Try.prog.stoodInHeld 40 = false := by kernel_rfl
theorem sizeC : (Try.prog.info? 36).map (·.size) = some 36 := by kernel_rfl
theorem sizeE : (Try.prog.info? 38).map (·.size) = some 109 := by kernel_rfl
theorem sizeI : (Try.prog.info? 40).map (·.size) = some 110 := by kernel_rfl
theorem sizeOf_of {t : TypeId} {n : Nat} (h : (Try.prog.info? t).map (·.size) = some n) (w : World) : (sizeOf t).run Try.prog w = .ok n w := by
  cases hq : Try.prog.info? t with
  | none => simp [hq] at h
  | some i => simp [hq] at h; simp [sizeOf, typeInfo, hq, h]
theorem part_struct {t : TypeId} {fs : Array Field} {n : Nat} (hu : Try.prog.underlying t = some (.struct fs)) (hs : (Try.prog.info? t).map (·.size) = some n) (l : List Value) (off : Nat) (m : List Value) (h : (l.drop off).take n = m) (w : World) : (Go.part t l.toArray off).run Try.prog w = .ok (.agg m.toArray) w := by
  have e := cut_list l off n m h
  simp only [Go.part, isAgg, run_underlying hu, sizeOf_of hs, Sem.run_bind, Sem.run_pure, Result.andThen_ok, if_true, e]
theorem part_kind (l : List Value) (off : Nat) (v : Value) (h : l[off]? = some v) (w : World) : (Go.part 28 l.toArray off).run Try.prog w = .ok v w := by
  simp [Go.part, isAgg, run_underlying Try.underlying28, h]
theorem part_str (l : List Value) (off : Nat) (v : Value) (h : l[off]? = some v) (w : World) : (Go.part 9 l.toArray off).run Try.prog w = .ok v w := by
  simp [Go.part, isAgg, run_underlying Try.underlying9, h]
theorem ccells_d (c : ClT) (hd : c.d.length = 32) : ((ccells c).drop 4).take 32 = cellsOf c.d := by
  show (cellsOf c.d).take 32 = _
  rw [List.take_of_length_le (by rw [cellsOf_length, hd]; omega)]
theorem ecells_h (x : EnT) (ok : OkE x) : ((ecells x).drop 4).take 69 = scells x.h := by
  show (scells x.h ++ ccells x.m).take 69 = _
  rw [List.take_left' (scells_length _ ok.h ok.g)]
theorem ecells_m (x : EnT) (ok : OkE x) : ((ecells x).drop 73).take 36 = ccells x.m := by
  unfold ecells
  rw [List.drop_left' (by simp [scells_length _ ok.h ok.g]), List.take_of_length_le (by rw [ccells_length _ ok.m]; omega)]
theorem icells_e (x : ItT) (ok : OkE x.e) : ((icells x).drop 1).take 109 = ecells x.e := by
  show (ecells x.e).take 109 = _
  rw [List.take_of_length_le (by rw [ecells_length _ ok]; omega)]
theorem equalClaim (d : Nat) (a b : ClT) (ha : a.d.length = 32) (hb : b.d.length = 32) (x : Bool) (hx : x = true ↔ a = b) (w : World) : (Op.equalIn (d + 4) 36 (.agg (ccells a).toArray) (.agg (ccells b).toArray)).run Try.prog w = .ok x w := by
  have hf : Try.prog.fieldsOf 36 = #[{ name := "Region", type := 3, offset := 0, embedded := false, tag := "", pkgPath := "", byteOffset := 0 }, { name := "Epoch", type := 3, offset := 1, embedded := false, tag := "", pkgPath := "", byteOffset := 8 }, { name := "Node", type := 3, offset := 2, embedded := false, tag := "", pkgPath := "", byteOffset := 16 }, { name := "Size", type := 3, offset := 3, embedded := false, tag := "", pkgPath := "", byteOffset := 24 }, { name := "Root", type := 30, offset := 4, embedded := false, tag := "", pkgPath := "", byteOffset := 32 }] := by
    unfold Program.fieldsOf; rw [Try.underlying36]
  have p0a := fun W => part_int (ccells a) 0 (.int .i64 a.r) rfl W
  have p0b := fun W => part_int (ccells b) 0 (.int .i64 b.r) rfl W
  have x0 := fun W => run_equalIn_int (P := Try.prog) W (d + 2) 3 .i64 .i64 a.r b.r Try.underlying3
  obtain ⟨b0, h0⟩ : ∃ x, (a.r == b.r) = x := ⟨_, rfl⟩
  rw [h0] at x0
  have p1a := fun W => part_int (ccells a) 1 (.int .i64 a.e) rfl W
  have p1b := fun W => part_int (ccells b) 1 (.int .i64 b.e) rfl W
  have x1 := fun W => run_equalIn_int (P := Try.prog) W (d + 2) 3 .i64 .i64 a.e b.e Try.underlying3
  obtain ⟨b1, h1⟩ : ∃ x, (a.e == b.e) = x := ⟨_, rfl⟩
  rw [h1] at x1
  have p2a := fun W => part_int (ccells a) 2 (.int .i64 a.n) rfl W
  have p2b := fun W => part_int (ccells b) 2 (.int .i64 b.n) rfl W
  have x2 := fun W => run_equalIn_int (P := Try.prog) W (d + 2) 3 .i64 .i64 a.n b.n Try.underlying3
  obtain ⟨b2, h2⟩ : ∃ x, (a.n == b.n) = x := ⟨_, rfl⟩
  rw [h2] at x2
  have p3a := fun W => part_int (ccells a) 3 (.int .i64 a.s) rfl W
  have p3b := fun W => part_int (ccells b) 3 (.int .i64 b.s) rfl W
  have x3 := fun W => run_equalIn_int (P := Try.prog) W (d + 2) 3 .i64 .i64 a.s b.s Try.underlying3
  obtain ⟨b3, h3⟩ : ∃ x, (a.s == b.s) = x := ⟨_, rfl⟩
  rw [h3] at x3
  have p4a := fun W => part_dig (ccells a) 4 _ (ccells_d a ha) W
  have p4b := fun W => part_dig (ccells b) 4 _ (ccells_d b hb) W
  have x4 : ∀ W, (Op.equalIn (d + 3) 30 (.agg (cellsOf a.d).toArray) (.agg (cellsOf b.d).toArray)).run Try.prog W = .ok (a.d == b.d) W := fun W => run_equalIn_bytes (P := Try.prog) W (d + 1) 30 5 32 Try.underlying30 Try.underlying5 sizeOf5 a.d b.d ha hb
  obtain ⟨b4, h4⟩ : ∃ x, (a.d == b.d) = x := ⟨_, rfl⟩
  rw [h4] at x4
  rw [run_equalIn_struct w (d + 3) 36 _ _ (by rw [hf]; exact Try.underlying36) heldC, hf]
  have hq : x = (b0 && b1 && b2 && b3 && b4) := by
    rw [Bool.eq_iff_iff, hx]
    simp only [Bool.and_eq_true]
    rw [← h0, ← h1, ← h2, ← h3, ← h4]
    simp only [beq_iff_eq]
    constructor
    · rintro rfl; simp
    · rintro ⟨⟨⟨⟨e0, e1⟩, e2⟩, e3⟩, e4⟩
      cases a; cases b
      simp only at e0 e1 e2 e3 e4
      rw [e0, e1, e2, e3, e4]
  rw [hq]
  obtain ⟨A, hA⟩ : ∃ A, (ccells a).toArray = A := ⟨_, rfl⟩
  obtain ⟨B, hB⟩ : ∃ B, (ccells b).toArray = B := ⟨_, rfl⟩
  rw [hA] at p0a p1a p2a p3a p4a
  rw [hB] at p0b p1b p2b p3b p4b
  rw [hA, hB]
  obtain ⟨D4, hD4⟩ : ∃ D, (cellsOf a.d).toArray = D := ⟨_, rfl⟩
  obtain ⟨E4, hE4⟩ : ∃ D, (cellsOf b.d).toArray = D := ⟨_, rfl⟩
  rw [hD4] at p4a x4
  rw [hE4] at p4b x4
  simp [Op.eqFields, p0a, p0b, x0, p1a, p1b, x1, p2a, p2b, x2, p3a, p3b, x3, p4a, p4b, x4]
  cases b0 <;> cases b1 <;> cases b2 <;> cases b3 <;> cases b4 <;> simp
theorem eqClaim (a b : ClT) (ha : a.d.length = 32) (hb : b.d.length = 32) (A B : Array Value) (HA : Hid (A = (ccells a).toArray)) (HB : Hid (B = (ccells b).toArray)) (x : Bool) (hx : x = true ↔ a = b) (w : World) : (binOp .eql 36 (.agg A) (.agg B)).run Try.prog w = .ok (.bool x) w := by
  rw [run_eql_struct, HA.out, HB.out, show (10000 : Nat) = 9996 + 4 from rfl, equalClaim 9996 a b ha hb x hx]; rfl
theorem equalEntry (d : Nat) (a b : EnT) (ha : OkE a) (hb : OkE b) (x : Bool) (hx : x = true ↔ a = b) (w : World) : (Op.equalIn (d + 6) 38 (.agg (ecells a).toArray) (.agg (ecells b).toArray)).run Try.prog w = .ok x w := by
  have hf : Try.prog.fieldsOf 38 = #[{ name := "Kind", type := 28, offset := 0, embedded := false, tag := "", pkgPath := "", byteOffset := 0 }, { name := "Client", type := 3, offset := 1, embedded := false, tag := "", pkgPath := "", byteOffset := 8 }, { name := "Seq", type := 3, offset := 2, embedded := false, tag := "", pkgPath := "", byteOffset := 16 }, { name := "Text", type := 9, offset := 3, embedded := false, tag := "", pkgPath := "", byteOffset := 24 }, { name := "Head", type := 34, offset := 4, embedded := false, tag := "", pkgPath := "", byteOffset := 40 }, { name := "Claim", type := 36, offset := 73, embedded := false, tag := "", pkgPath := "", byteOffset := 144 }] := by
    unfold Program.fieldsOf; rw [Try.underlying38]
  have p0a := fun W => part_kind (ecells a) 0 (.int .i64 a.k) rfl W
  have p0b := fun W => part_kind (ecells b) 0 (.int .i64 b.k) rfl W
  have x0 := fun W => run_equalIn_int (P := Try.prog) W (d + 4) 28 .i64 .i64 a.k b.k Try.underlying28
  obtain ⟨b0, h0⟩ : ∃ x, (a.k == b.k) = x := ⟨_, rfl⟩
  rw [h0] at x0
  have p1a := fun W => part_int (ecells a) 1 (.int .i64 a.c) rfl W
  have p1b := fun W => part_int (ecells b) 1 (.int .i64 b.c) rfl W
  have x1 := fun W => run_equalIn_int (P := Try.prog) W (d + 4) 3 .i64 .i64 a.c b.c Try.underlying3
  obtain ⟨b1, h1⟩ : ∃ x, (a.c == b.c) = x := ⟨_, rfl⟩
  rw [h1] at x1
  have p2a := fun W => part_int (ecells a) 2 (.int .i64 a.s) rfl W
  have p2b := fun W => part_int (ecells b) 2 (.int .i64 b.s) rfl W
  have x2 := fun W => run_equalIn_int (P := Try.prog) W (d + 4) 3 .i64 .i64 a.s b.s Try.underlying3
  obtain ⟨b2, h2⟩ : ∃ x, (a.s == b.s) = x := ⟨_, rfl⟩
  rw [h2] at x2
  have p3a := fun W => part_str (ecells a) 3 (.string a.t) rfl W
  have p3b := fun W => part_str (ecells b) 3 (.string b.t) rfl W
  have x3 := fun W => run_equalIn_string (P := Try.prog) W (d + 4) 9 a.t b.t Try.underlying9
  obtain ⟨b3, h3⟩ : ∃ x, (a.t.toList == b.t.toList) = x := ⟨_, rfl⟩
  rw [h3] at x3
  have p4a := fun W => part_struct Try.underlying34 sizeS (ecells a) 4 _ (ecells_h a ha) W
  have p4b := fun W => part_struct Try.underlying34 sizeS (ecells b) 4 _ (ecells_h b hb) W
  obtain ⟨b4, h4⟩ : ∃ x : Bool, x = true ↔ a.h = b.h := by
    by_cases h : a.h = b.h
    · exact ⟨true, by simp [h]⟩
    · exact ⟨false, by simp [h]⟩
  have x4 : ∀ W, (Op.equalIn (d + 5) 34 (.agg (scells a.h).toArray) (.agg (scells b.h).toArray)).run Try.prog W = .ok b4 W := fun W => equalSigned (d + 0) a.h b.h ha.h hb.h ha.g hb.g b4 h4 W
  have p5a := fun W => part_struct Try.underlying36 sizeC (ecells a) 73 _ (ecells_m a ha) W
  have p5b := fun W => part_struct Try.underlying36 sizeC (ecells b) 73 _ (ecells_m b hb) W
  obtain ⟨b5, h5⟩ : ∃ x : Bool, x = true ↔ a.m = b.m := by
    by_cases h : a.m = b.m
    · exact ⟨true, by simp [h]⟩
    · exact ⟨false, by simp [h]⟩
  have x5 : ∀ W, (Op.equalIn (d + 5) 36 (.agg (ccells a.m).toArray) (.agg (ccells b.m).toArray)).run Try.prog W = .ok b5 W := fun W => equalClaim (d + 1) a.m b.m ha.m hb.m b5 h5 W
  rw [run_equalIn_struct w (d + 5) 38 _ _ (by rw [hf]; exact Try.underlying38) heldE, hf]
  have hq : x = (b0 && b1 && b2 && b3 && b4 && b5) := by
    rw [Bool.eq_iff_iff, hx]
    simp only [Bool.and_eq_true]
    rw [← h0, ← h1, ← h2, ← h3, h4, h5]
    simp only [beq_iff_eq]
    constructor
    · rintro rfl; simp
    · rintro ⟨⟨⟨⟨⟨e0, e1⟩, e2⟩, e3⟩, e4⟩, e5⟩
      have e3' : a.t.data.toList = b.t.data.toList := by rw [ByteArray.toList_eq, ByteArray.toList_eq] at e3; exact e3
      exact enT_ext ⟨e0, e1, e2, e3', e4, e5⟩
  rw [hq]
  obtain ⟨A, hA⟩ : ∃ A, (ecells a).toArray = A := ⟨_, rfl⟩
  obtain ⟨B, hB⟩ : ∃ B, (ecells b).toArray = B := ⟨_, rfl⟩
  rw [hA] at p0a p1a p2a p3a p4a p5a
  rw [hB] at p0b p1b p2b p3b p4b p5b
  rw [hA, hB]
  obtain ⟨D4, hD4⟩ : ∃ D, (scells a.h).toArray = D := ⟨_, rfl⟩
  obtain ⟨E4, hE4⟩ : ∃ D, (scells b.h).toArray = D := ⟨_, rfl⟩
  rw [hD4] at p4a x4
  rw [hE4] at p4b x4
  obtain ⟨D5, hD5⟩ : ∃ D, (ccells a.m).toArray = D := ⟨_, rfl⟩
  obtain ⟨E5, hE5⟩ : ∃ D, (ccells b.m).toArray = D := ⟨_, rfl⟩
  rw [hD5] at p5a x5
  rw [hE5] at p5b x5
  simp [Op.eqFields, p0a, p0b, x0, p1a, p1b, x1, p2a, p2b, x2, p3a, p3b, x3, p4a, p4b, x4, p5a, p5b, x5]
  cases b0 <;> cases b1 <;> cases b2 <;> cases b3 <;> cases b4 <;> cases b5 <;> simp
theorem neqEntry (a b : EnT) (ha : OkE a) (hb : OkE b) (A B : Array Value) (HA : Hid (A = (ecells a).toArray)) (HB : Hid (B = (ecells b).toArray)) (x : Bool) (hx : x = false ↔ a = b) (w : World) : (binOp .neq 38 (.agg A) (.agg B)).run Try.prog w = .ok (.bool x) w := by
  rw [run_neq_struct, HA.out, HB.out, show (10000 : Nat) = 9994 + 6 from rfl, equalEntry 9994 a b ha hb (!x) (by rw [← hx]; simp)]; simp
theorem equalItem (d : Nat) (a b : ItT) (ha : OkE a.e) (hb : OkE b.e) (x : Bool) (hx : x = true ↔ a = b) (w : World) : (Op.equalIn (d + 7) 40 (.agg (icells a).toArray) (.agg (icells b).toArray)).run Try.prog w = .ok x w := by
  have hf : Try.prog.fieldsOf 40 = #[{ name := "Epoch", type := 3, offset := 0, embedded := false, tag := "", pkgPath := "", byteOffset := 0 }, { name := "Entry", type := 38, offset := 1, embedded := false, tag := "", pkgPath := "", byteOffset := 8 }] := by
    unfold Program.fieldsOf; rw [Try.underlying40]
  have p0a := fun W => part_int (icells a) 0 (.int .i64 a.p) rfl W
  have p0b := fun W => part_int (icells b) 0 (.int .i64 b.p) rfl W
  have x0 := fun W => run_equalIn_int (P := Try.prog) W (d + 5) 3 .i64 .i64 a.p b.p Try.underlying3
  obtain ⟨b0, h0⟩ : ∃ x, (a.p == b.p) = x := ⟨_, rfl⟩
  rw [h0] at x0
  have p1a := fun W => part_struct Try.underlying38 sizeE (icells a) 1 _ (icells_e a ha) W
  have p1b := fun W => part_struct Try.underlying38 sizeE (icells b) 1 _ (icells_e b hb) W
  obtain ⟨b1, h1⟩ : ∃ x : Bool, x = true ↔ a.e = b.e := by
    by_cases h : a.e = b.e
    · exact ⟨true, by simp [h]⟩
    · exact ⟨false, by simp [h]⟩
  have x1 : ∀ W, (Op.equalIn (d + 6) 38 (.agg (ecells a.e).toArray) (.agg (ecells b.e).toArray)).run Try.prog W = .ok b1 W := fun W => equalEntry (d + 0) a.e b.e ha hb b1 h1 W
  rw [run_equalIn_struct w (d + 6) 40 _ _ (by rw [hf]; exact Try.underlying40) heldI, hf]
  have hq : x = (b0 && b1) := by
    rw [Bool.eq_iff_iff, hx]
    simp only [Bool.and_eq_true]
    rw [← h0, h1]
    simp only [beq_iff_eq]
    constructor
    · rintro rfl; simp
    · rintro ⟨e0, e1⟩
      cases a; cases b
      simp only at e0 e1
      rw [e0, e1]
  rw [hq]
  obtain ⟨A, hA⟩ : ∃ A, (icells a).toArray = A := ⟨_, rfl⟩
  obtain ⟨B, hB⟩ : ∃ B, (icells b).toArray = B := ⟨_, rfl⟩
  rw [hA] at p0a p1a
  rw [hB] at p0b p1b
  rw [hA, hB]
  obtain ⟨D1, hD1⟩ : ∃ D, (ecells a.e).toArray = D := ⟨_, rfl⟩
  obtain ⟨E1, hE1⟩ : ∃ D, (ecells b.e).toArray = D := ⟨_, rfl⟩
  rw [hD1] at p1a x1
  rw [hE1] at p1b x1
  simp [Op.eqFields, p0a, p0b, x0, p1a, p1b, x1]
  cases b0 <;> cases b1 <;> simp
theorem eqItem (a b : ItT) (ha : OkE a.e) (hb : OkE b.e) (A B : Array Value) (HA : Hid (A = (icells a).toArray)) (HB : Hid (B = (icells b).toArray)) (x : Bool) (hx : x = true ↔ a = b) (w : World) : (binOp .eql 40 (.agg A) (.agg B)).run Try.prog w = .ok (.bool x) w := by
  rw [run_eql_struct, HA.out, HB.out, show (10000 : Nat) = 9993 + 7 from rfl, equalItem 9993 a b ha hb x hx]; rfl
theorem neqItem (a b : ItT) (ha : OkE a.e) (hb : OkE b.e) (A B : Array Value) (HA : Hid (A = (icells a).toArray)) (HB : Hid (B = (icells b).toArray)) (x : Bool) (hx : x = false ↔ a = b) (w : World) : (binOp .neq 40 (.agg A) (.agg B)).run Try.prog w = .ok (.bool x) w := by
  rw [run_neq_struct, HA.out, HB.out, show (10000 : Nat) = 9993 + 7 from rfl, equalItem 9993 a b ha hb (!x) (by rw [← hx]; simp)]; simp
end Go.Proofs.Ytjpmmbmhkpgjcaa

/- What the document's RightClaim, ClaimBytes and PutClaim answer. -/
namespace Go.Proofs.Ytjpmmbmhkpgjcaa
open Go.RowKit Sums Nums
set_option linter.unusedVariables false
set_option linter.unusedSimpArgs false
set_option maxRecDepth 100000
theorem within8_any (n a b : Int) (w : World) : Calls Try.prog 76 #[.int .i64 n, .int .i64 a, .int .i64 b] w fun e w' => e = .returned (.bool (decide (a ≤ n) && decide (n ≤ b))) ∧ w' = w := by
  by_cases h1 : a ≤ n
  · have d1 : decide (a ≤ n) = true := by rw [decide_eq_true_eq]; exact h1
    obtain ⟨x, hx⟩ : ∃ x, decide (n ≤ b) = x := ⟨_, rfl⟩
    rw [d1, hx]
    clear h1
    go_enter Try.func76, Try.ntmps76
    go_wp2
    go_ret
    exact ⟨rfl, rfl⟩
  · have d1 : decide (a ≤ n) = false := by rw [decide_eq_false_iff_not]; exact h1
    rw [d1]
    clear h1
    go_enter Try.func76, Try.ntmps76
    go_wp2
    go_ret
    exact ⟨rfl, rfl⟩
/-- What the parts of a claim's row read as. -/
structure CRow (W : World) (g o : Nat) (c : ClT) : Prop where
  r : W.cell? ⟨g, o, none⟩ = some (.int .i64 c.r)
  e : W.cell? ⟨g, o + 1, none⟩ = some (.int .i64 c.e)
  n : W.cell? ⟨g, o + 2, none⟩ = some (.int .i64 c.n)
  s : W.cell? ⟨g, o + 3, none⟩ = some (.int .i64 c.s)
  d : W.rangeAt g (o + 4) (cellsOf c.d)
theorem CRow.keep {W W' : World} {g o : Nat} {c : ClT} (h : CRow W g o c) (hb : Below W.heap.size W W') : CRow W' g o c := by
  have hg : g < W.heap.size := World.block_lt_of_cell? _ _ h.r
  exact ⟨(hb.cell hg).trans h.r, (hb.cell hg).trans h.e, (hb.cell hg).trans h.n, (hb.cell hg).trans h.s, range_keep hb h.d⟩
theorem crow_of {W : World} {g o : Nat} {c : ClT} (hr : W.rangeAt g o (ccells c)) : CRow W g o c := by
  refine ⟨?_, ?_, ?_, ?_, ?_⟩
  · have := hr 0 (.int .i64 c.r) rfl; simpa using this
  · exact hr 1 (.int .i64 c.e) rfl
  · exact hr 2 (.int .i64 c.n) rfl
  · exact hr 3 (.int .i64 c.s) rfl
  · intro j v hj
    have := hr (4 + j) v (by
      unfold ccells
      rw [List.getElem?_append_right (by simp)]
      simpa using hj)
    rw [Nat.add_assoc]; exact this
theorem crow_new (w : World) (c : ClT) (C : Array Value) (HC : Hid (C = (ccells c).toArray)) (t : TypeId) : CRow (w.alloc (.cells C t)) w.heap.size 0 c := by
  refine crow_of ?_
  intro j v hj
  rw [Nat.zero_add, cell_of_row _ _ j _ t (0, 0) (heap_alloc_new w _), HC.out]
  simpa using hj
set_option maxHeartbeats 2000000 in
theorem refRightC_any (c : ClT) (w : World) (C : Array Value) (HC : Hid (C = (ccells c).toArray)) :
    Calls Try.prog 50 #[.agg C] w fun e w' => e = .returned (.bool (rightC c)) ∧ Below w.heap.size w w' := by
  have HR := crow_new w c C HC 36
  have HB : Hid (Below w.heap.size w (w.alloc (.cells C 36))) := (Below.refl _ _).alloc (Nat.le_refl _) _
  have c0 := HR.r
  have c1 := HR.e
  have c2 := HR.n
  have c3 := HR.s
  simp only [Nat.zero_add] at c1 c2 c3
  have WI : Hid (∀ (n a b : Int) (W : World), Calls Try.prog 76 #[.int .i64 n, .int .i64 a, .int .i64 b] W fun e w' => e = .returned (.bool (decide (a ≤ n) && decide (n ≤ b))) ∧ w' = W) := within8_any
  obtain ⟨b1, hb1⟩ : ∃ b, (decide (1 ≤ c.r) && decide (c.r ≤ 5)) = b := ⟨_, rfl⟩
  obtain ⟨b2, hb2⟩ : ∃ b, (decide (1 ≤ c.e) && decide (c.e ≤ 900000000)) = b := ⟨_, rfl⟩
  obtain ⟨b3, hb3⟩ : ∃ b, (decide (1 ≤ c.n) && decide (c.n ≤ 3)) = b := ⟨_, rfl⟩
  obtain ⟨b4, hb4⟩ : ∃ b, (decide (0 ≤ c.s) && decide (c.s ≤ 100000)) = b := ⟨_, rfl⟩
  have W1 := hidk (WI.out c.r 1 5)
  have W2 := hidk (WI.out c.e 1 900000000)
  have W3 := hidk (WI.out c.n 1 3)
  have W4 := hidk (WI.out c.s 0 100000)
  rw [hb1] at W1
  rw [hb2] at W2
  rw [hb3] at W3
  rw [hb4] at W4
  have hE : rightC c = (b1 && (b2 && (b3 && b4))) := by
    rw [← hb1, ← hb2, ← hb3, ← hb4]
    unfold rightC
    simp only [Bool.and_assoc]
  rw [hE]
  obtain ⟨r, hr⟩ : ∃ r, r = c.r := ⟨_, rfl⟩
  obtain ⟨e, he⟩ : ∃ r, r = c.e := ⟨_, rfl⟩
  obtain ⟨n, hn⟩ : ∃ r, r = c.n := ⟨_, rfl⟩
  obtain ⟨s, hs⟩ : ∃ r, r = c.s := ⟨_, rfl⟩
  rw [← hr] at c0 W1
  rw [← he] at c1 W2
  rw [← hn] at c2 W3
  rw [← hs] at c3 W4
  clear hE hb1 hb2 hb3 hb4 WI HR hr he hn hs HC
  cases b1
  · go_enter Try.func50, Try.ntmps50
    go_wp2_with fail
    refine (W1.out _).mono ?_
    rintro e w1 ⟨rfl, rfl⟩
    go_wp2
    go_ret
    exact ⟨rfl, HB.out⟩
  cases b2
  · go_enter Try.func50, Try.ntmps50
    go_wp2_with fail
    refine (W1.out _).mono ?_
    rintro e w1 ⟨rfl, rfl⟩
    go_wp2_with fail
    refine (W2.out _).mono ?_
    rintro e w1 ⟨rfl, rfl⟩
    go_wp2
    go_ret
    exact ⟨rfl, HB.out⟩
  cases b3
  · go_enter Try.func50, Try.ntmps50
    go_wp2_with fail
    refine (W1.out _).mono ?_
    rintro e w1 ⟨rfl, rfl⟩
    go_wp2_with fail
    refine (W2.out _).mono ?_
    rintro e w1 ⟨rfl, rfl⟩
    go_wp2_with fail
    refine (W3.out _).mono ?_
    rintro e w1 ⟨rfl, rfl⟩
    go_wp2
    go_ret
    exact ⟨rfl, HB.out⟩
  · go_enter Try.func50, Try.ntmps50
    go_wp2_with fail
    refine (W1.out _).mono ?_
    rintro e w1 ⟨rfl, rfl⟩
    go_wp2_with fail
    refine (W2.out _).mono ?_
    rintro e w1 ⟨rfl, rfl⟩
    go_wp2_with fail
    refine (W3.out _).mono ?_
    rintro e w1 ⟨rfl, rfl⟩
    go_wp2_with fail
    refine (W4.out _).mono ?_
    rintro e w1 ⟨rfl, rfl⟩
    go_wp2
    go_ret
    exact ⟨rfl, HB.out⟩
end Go.Proofs.Ytjpmmbmhkpgjcaa

/- What the document's GetClaim answers. -/
namespace Go.Proofs.Ytjpmmbmhkpgjcaa
open Go.RowKit Sums Nums
set_option linter.unusedVariables false
set_option linter.unusedSimpArgs false
set_option maxRecDepth 100000
theorem infoC : (Try.prog.info? 36).map (fun i => (i.zero, i.size)) = some (some (.agg (ccells zeroC).toArray), 36) := by kernel_rfl
theorem builtC0 : Try.prog.built 36 [] = some (ccells zeroC).toArray := by kernel_rfl
theorem one_cellsC (c : ClT) : (ccells c).toArray.all (·.oneCell') = true := by
  rw [List.all_toArray, List.all_eq_true]
  intro v hv
  unfold ccells at hv
  simp only [List.mem_append, List.mem_cons, List.not_mem_nil, or_false] at hv
  rcases hv with (rfl | rfl | rfl | rfl) | hv
  · rfl
  · rfl
  · rfl
  · rfl
  · exact cellsOf_one _ v hv
theorem claim_row5 (c : ClT) (hd : c.d.length = 32) : ∃ C : Array Value, Hid (C = (ccells c).toArray) ∧ Hid ((Try.prog.info? 36).map (·.size) = some C.size) ∧ Hid (C.all (·.oneCell') = true) ∧ Hid (C.size = 36) := by
  refine ⟨(ccells c).toArray, hidk rfl, ?_, one_cellsC c, ?_⟩
  · show _ = _
    rw [sizeC]; simp [ccells_length c hd]
  · show _ = _
    simp [ccells_length c hd]
theorem noughtsC : ∃ Z : Array Value, Hid (Z = (ccells zeroC).toArray) ∧ Hid ((Try.prog.info? 36).map (fun i => (i.zero, i.size)) = some (some (.agg Z), Z.size)) ∧ Hid (Try.prog.built 36 [] = some Z) ∧ Hid (Z.size = 36) :=
  ⟨(ccells zeroC).toArray, hidk rfl, infoC, builtC0, hidk rfl⟩
theorem builtC (c : ClT) (hd : c.d.length = 32) (D R : Array Value) (HD : Hid (D = (cellsOf c.d).toArray)) (HR : Hid (R = (ccells c).toArray)) : Try.prog.built 36 [(0, .int .i64 c.r), (1, .int .i64 c.e), (2, .int .i64 c.n), (3, .int .i64 c.s), (4, .agg D)] = some R := by
  have hi := infoC
  cases hq : Try.prog.info? 36 with
  | none => rw [hq] at hi; cases hi
  | some i =>
    rw [hq] at hi
    simp only [Option.map_some, Option.some.injEq, Prod.mk.injEq] at hi
    have hD := size23
    have h3 : (Try.prog.info? 3).map (·.size) = some 1 := by kernel_rfl
    cases hqD : Try.prog.info? 30 with
    | none => rw [hqD] at hD; cases hD
    | some iD =>
      cases hq3 : Try.prog.info? 3 with
      | none => rw [hq3] at h3; cases h3
      | some i3 =>
        rw [hqD] at hD
        rw [hq3] at h3
        simp only [Option.map_some, Option.some.injEq] at hD h3
        unfold Program.built
        simp only [hq, Try.underlying36, hi.1, List.mapM_cons, List.mapM_nil, hqD, hq3, hD, h3, Option.map_some, Option.bind_eq_bind, Option.bind_some, Option.pure_def]
        show Instr.fill _ (ccells zeroC).toArray _ = some R
        have hd32 : D.size = 32 := by rw [HD.out]; simp [cellsOf_length, hd]
        refine (fill_val _ 0 0 1 (.int .i64 c.r) #[.int .i64 c.r] _ [] [.int .i64 0] ([.int .i64 0, .int .i64 0, .int .i64 0] ++ cellsOf (List.replicate 32 0)) _ rfl rfl rfl (by simp [ccells, zeroC]) rfl rfl).trans ?_
        refine (fill_val _ 1 1 1 (.int .i64 c.e) #[.int .i64 c.e] _ [.int .i64 c.r] [.int .i64 0] ([.int .i64 0, .int .i64 0] ++ cellsOf (List.replicate 32 0)) _ rfl rfl rfl (by simp) rfl rfl).trans ?_
        refine (fill_val _ 2 2 1 (.int .i64 c.n) #[.int .i64 c.n] _ [.int .i64 c.r, .int .i64 c.e] [.int .i64 0] ([.int .i64 0] ++ cellsOf (List.replicate 32 0)) _ rfl rfl rfl (by simp) rfl rfl).trans ?_
        refine (fill_val _ 3 3 1 (.int .i64 c.s) #[.int .i64 c.s] _ [.int .i64 c.r, .int .i64 c.e, .int .i64 c.n] [.int .i64 0] (cellsOf (List.replicate 32 0)) _ rfl rfl rfl (by simp) rfl rfl).trans ?_
        refine (fill_val _ 4 4 32 (.agg D) D _ [.int .i64 c.r, .int .i64 c.e, .int .i64 c.n, .int .i64 c.s] (cellsOf (List.replicate 32 0)) [] _ rfl rfl hd32 (by simp) rfl (by simp [cellsOf_length])).trans ?_
        simp only [Instr.fill, List.append_nil, Option.some.injEq]
        rw [HR.out, HD.out]
        rfl
end Go.Proofs.Ytjpmmbmhkpgjcaa

/- The statements' own example of signing, over what the calls of package head answer. -/
namespace Go.Proofs.Ytjpmmbmhkpgjcaa
open Go.RowKit Sums Nums
set_option linter.unusedVariables false
set_option linter.unusedSimpArgs false
set_option maxRecDepth 100000
theorem wpList_build_none_w {P : Program} {ops : Array Oper} {rest : List Oper} {o : Oper} {a : Act} {w : World} {Q : Exit → Act → World → Prop} (hw : Region.wanted o (yielded ops a.tmps) = true) (t : TypeId) (ho : o.op = .build t #[])
    (cs : Array Value) (hb : P.built t [] = some cs) (h : wpList P ops Q rest (a.put o.dst (.agg cs)) w) : wpList P ops Q (o :: rest) a w :=
  BigFrame.wpList_want hw fun _ hK => by
    have hr := run_build w t #[] cs (by simpa using hb)
    unfold Oper.wp execOp
    simp [ho, hr]
    exact hK _ _ h
end Go.Proofs.Ytjpmmbmhkpgjcaa

/- The statements' own example of a head's bytes, over what the calls of package head answer. -/
namespace Go.Proofs.Ytjpmmbmhkpgjcaa
open Go.RowKit Sums Nums
set_option linter.unusedVariables false
set_option linter.unusedSimpArgs false
set_option maxRecDepth 100000

end Go.Proofs.Ytjpmmbmhkpgjcaa

/- What HeadTurned says of any input, over what the calls of package head answer. -/
namespace Go.Proofs.Ytjpmmbmhkpgjcaa
open Go.RowKit Sums Nums
set_option linter.unusedVariables false
set_option linter.unusedSimpArgs false
set_option maxRecDepth 100000
/-- A row stored in the midst of a variable. -/
theorem wpList_set_mid {P : Program} {ops : Array Oper} {rest : List Oper} {o : Oper} {a : Act} {w : World} {Q : Exit → Act → World → Prop} (hgd : o.guard = none) (ty : TypeId) (x y : Operand) (ho : o.op = .store ty x y)
    (g k : Nat) (D : Array Value) (hx : a.eval x = .pointer (some ⟨g, k, none⟩)) (hy : a.eval y = .agg D) (t' : TypeId) (Z : Array Value) (hg : w.heap[g]? = some (.cells Z t' (0, 0))) (hk : k + D.size ≤ Z.size) (hi : (P.info? ty).map (·.size) = some D.size) (h1 : D.all (·.oneCell') = true)
    (h : ∀ w', Hid (Wrote g (Z.toList.take k ++ D.toList ++ Z.toList.drop (k + D.size)).toArray t' w w') → wpList P ops Q rest (a.put o.dst undef) w') : wpList P ops Q (o :: rest) a w := by
  refine wpList_plain hgd fun K hK => ?_
  have hkk := hK _ _ (h _ (wrote_row hg))
  have h1' : ∀ v ∈ D.toList, v.oneCell' = true := by
    intro v hv
    rw [Array.all_eq_true'] at h1
    exact h1 v (by simpa using hv)
  have hst := run_storeCells_at P g k t' D.toList 0 Z w hg (by simpa using hk) h1'
  cases hq : P.info? ty with
  | none => simp [hq] at hi
  | some i =>
    have hs : i.size = D.size := by simpa [hq] using hi
    unfold Oper.wp execOp
    simp only [ho, hx, hy, Instr.storeAt, Instr.sureAddr, Sem.run_bind, Sem.run_pure, Result.andThen_ok]
    simp only [Nat.add_zero, Nat.zero_add] at hst
    simp [storeVar, sizeOf, typeInfo, hq, Value.cells, hs, hst]
    simp only [List.append_assoc] at hkk ⊢
    exact hkk
theorem wpList_mid_w {P : Program} {ops : Array Oper} {rest : List Oper} {op : Oper} {a : Act} {w : World} {Q : Exit → Act → World → Prop} (hw : Region.wanted op (yielded ops a.tmps) = true) (ty : TypeId) (x : Operand) (ho : op.op = .load ty x)
    (b o : Nat) (hx : a.eval x = .pointer (some ⟨b, o, none⟩)) (D : Array Value) (d : TypeDesc) (hc : w.rangeAt b o D.toList)
    (hu : P.underlying ty = some d) (hd : d.isRow = true) (hi : (P.info? ty).map (·.size) = some D.size)
    (h : wpList P ops Q rest (a.put op.dst (.agg D)) w) : wpList P ops Q (op :: rest) a w := by
  have hy : YieldsIf P ops (fun W => W = w) op (.agg D) a := yieldsIf_mid hw ty x ho b o hx D d (fun W e => by rw [e]; exact hc) hu hd hi
  rcases hy with ⟨_, hv⟩ | ⟨hf, _⟩
  · exact BigFrame.wpList_want hw fun K hK => by
      simp only [Oper.wp, hv w rfl, Oper.upon]
      first | exact .inl (hK _ _ h) | exact hK _ _ h
  · rw [hw] at hf; cases hf
end Go.Proofs.Ytjpmmbmhkpgjcaa

/- What the document's Right answers. -/
namespace Go.Proofs.Ytjpmmbmhkpgjcaa
open Go.RowKit Sums Nums
set_option linter.unusedVariables false
set_option linter.unusedSimpArgs false
set_option maxRecDepth 100000
/-- What the parts of an entry's row read as. -/
structure ERow (W : World) (g o : Nat) (x : EnT) : Prop where
  k : W.cell? ⟨g, o, none⟩ = some (.int .i64 x.k)
  c : W.cell? ⟨g, o + 1, none⟩ = some (.int .i64 x.c)
  s : W.cell? ⟨g, o + 2, none⟩ = some (.int .i64 x.s)
  t : W.cell? ⟨g, o + 3, none⟩ = some (.string x.t)
  h : W.rangeAt g (o + 4) (scells x.h)
  m : W.rangeAt g (o + 73) (ccells x.m)
theorem ERow.keep {W W' : World} {g o : Nat} {x : EnT} (r : ERow W g o x) (hb : Below W.heap.size W W') : ERow W' g o x := by
  have hg : g < W.heap.size := World.block_lt_of_cell? _ _ r.k
  exact ⟨(hb.cell hg).trans r.k, (hb.cell hg).trans r.c, (hb.cell hg).trans r.s, (hb.cell hg).trans r.t, range_keep hb r.h, range_keep hb r.m⟩
theorem erow_of {W : World} {g o : Nat} {x : EnT} (ok : OkE x) (hr : W.rangeAt g o (ecells x)) : ERow W g o x := by
  have hs := scells_length x.h ok.h ok.g
  refine ⟨?_, ?_, ?_, ?_, ?_, ?_⟩
  · have := hr 0 (.int .i64 x.k) rfl; simpa using this
  · exact hr 1 (.int .i64 x.c) rfl
  · exact hr 2 (.int .i64 x.s) rfl
  · exact hr 3 (.string x.t) rfl
  · intro j v hj
    have hlt := (List.getElem?_eq_some_iff.1 hj).1
    have := hr (4 + j) v (by
      unfold ecells
      rw [List.append_assoc, List.getElem?_append_right (by simp), List.getElem?_append_left (by simpa using hlt)]
      simpa using hj)
    rw [Nat.add_assoc]; exact this
  · intro j v hj
    have := hr (73 + j) v (by
      unfold ecells
      rw [List.getElem?_append_right (by simp [hs])]
      simp only [List.length_append, hs, List.length_cons, List.length_nil]
      rw [show 73 + j - (0 + 1 + 1 + 1 + 1 + 69) = j by omega]
      exact hj)
    rw [Nat.add_assoc]; exact this
theorem erow_new (w : World) (x : EnT) (ok : OkE x) (X : Array Value) (HX : Hid (X = (ecells x).toArray)) (t : TypeId) : ERow (w.alloc (.cells X t)) w.heap.size 0 x := by
  refine erow_of ok ?_
  intro j v hj
  rw [Nat.zero_add, cell_of_row _ _ j _ t (0, 0) (heap_alloc_new w _), HX.out]
  simpa using hj
theorem right_user {x : EnT} (h : x.k = 1) : rightE x = ((decide (1 ≤ x.c) && decide (x.c ≤ 3)) && ((decide (1 ≤ x.s) && decide (x.s ≤ 1000000)) && (decide (x.t.size ≤ 200) && (eqSB x.h zeroS && eqCB x.m zeroC)))) := by
  unfold rightE
  rw [if_pos h, Bool.eq_iff_iff]
  simp only [Bool.and_eq_true, decide_eq_true_eq, and_assoc]
theorem right_anchor {x : EnT} (h : x.k = 2) : rightE x = (decide (x.c = 0) && (decide (x.s = 0) && (decide (x.t.size = 0) && (mayS x.h && eqCB x.m zeroC)))) := by
  unfold rightE
  rw [if_neg (by omega), if_pos h, Bool.eq_iff_iff]
  simp only [Bool.and_eq_true, decide_eq_true_eq, and_assoc]
theorem right_claim {x : EnT} (h : x.k = 3) : rightE x = (decide (x.c = 0) && (decide (x.s = 0) && (decide (x.t.size = 0) && (eqSB x.h zeroS && rightC x.m)))) := by
  unfold rightE
  rw [if_neg (by omega), if_neg (by omega), if_pos h, Bool.eq_iff_iff]
  simp only [Bool.and_eq_true, decide_eq_true_eq, and_assoc]
theorem right_none {x : EnT} (h1 : ¬ x.k = 1) (h2 : ¬ x.k = 2) (h3 : ¬ x.k = 3) : rightE x = false := by
  unfold rightE
  rw [if_neg h1, if_neg h2, if_neg h3]
theorem text_zero (t : ByteArray) : t.toList.isEmpty = decide (t.size = 0) := by
  rw [Bool.eq_iff_iff, List.isEmpty_iff, decide_eq_true_eq, ByteArray.toList_eq]
  constructor
  · intro h
    have := congrArg List.length h
    exact this
  · intro h
    exact List.eq_nil_of_length_eq_zero h
set_option maxHeartbeats 8000000 in
theorem refRight_user (x : EnT) (ok : OkE x) (hk : x.k = 1) (w : World) (X : Array Value) (HX : Hid (X = (ecells x).toArray)) :
    Calls Try.prog 77 #[.agg X] w fun e w' => e = .returned (.bool (rightE x)) ∧ Below w.heap.size w w' := by
  have HR := erow_new w x ok X HX 38
  have HB : Hid (Below w.heap.size w (w.alloc (.cells X 38))) := (Below.refl _ _).alloc (Nat.le_refl _) _
  have c0 := HR.k
  have c1 := HR.c
  have c2 := HR.s
  have c3 := HR.t
  have hrh := HR.h
  have hrm := HR.m
  simp only [Nat.zero_add] at c1 c2 c3 hrh hrm
  obtain ⟨Q, HQ, HSQ, H1Q, H69Q⟩ := sign_row x.h ok.h ok.g
  obtain ⟨C, HC, HSC, H1C, H36C⟩ := claim_row5 x.m ok.m
  obtain ⟨ZS, HZS, HAS, HBS, H69S⟩ := noughtsS
  obtain ⟨ZC, HZC, HAC, HBC, H36Z⟩ := noughtsC
  have RQ : Hid (∀ W, Below (w.alloc (.cells X 38)).heap.size (w.alloc (.cells X 38)) W → W.rangeAt w.heap.size 4 Q.toList) := fun W hb => by rw [HQ.out]; exact range_keep hb (by simpa using hrh)
  have RC : Hid (∀ W, Below (w.alloc (.cells X 38)).heap.size (w.alloc (.cells X 38)) W → W.rangeAt w.heap.size 73 C.toList) := fun W hb => by rw [HC.out]; exact range_keep hb (by simpa using hrm)
  have H0 : Hid (Below (w.alloc (.cells X 38)).heap.size (w.alloc (.cells X 38)) (w.alloc (.cells X 38))) := Below.refl _ _
  have WI : Hid (∀ (n a b : Int) (W : World), Calls Try.prog 76 #[.int .i64 n, .int .i64 a, .int .i64 b] W fun e w' => e = .returned (.bool (decide (a ≤ n) && decide (n ≤ b))) ∧ w' = W) := within8_any
  obtain ⟨b1, hb1⟩ : ∃ b, (decide (1 ≤ x.c) && decide (x.c ≤ 3)) = b := ⟨_, rfl⟩
  obtain ⟨b2, hb2⟩ : ∃ b, (decide (1 ≤ x.s) && decide (x.s ≤ 1000000)) = b := ⟨_, rfl⟩
  obtain ⟨b3, hb3⟩ : ∃ b, decide (x.t.size ≤ 200) = b := ⟨_, rfl⟩
  have hb3' : decide ((x.t.size : Int) ≤ 200) = b3 := by rw [← hb3, Bool.eq_iff_iff, decide_eq_true_eq, decide_eq_true_eq]; omega
  obtain ⟨b4, hb4⟩ : ∃ b, eqSB x.h zeroS = b := ⟨_, rfl⟩
  obtain ⟨b5, hb5⟩ : ∃ b, eqCB x.m zeroC = b := ⟨_, rfl⟩
  have EQS : ∀ W, (binOp .eql 34 (.agg Q) (.agg ZS)).run Try.prog W = .ok (.bool b4) W := fun W => eqSigned x.h zeroS ok.h rfl ok.g rfl Q ZS HQ HZS b4 (by rw [← hb4]; exact eqSB_iff _ _) W
  have EQC : ∀ W, (binOp .eql 36 (.agg C) (.agg ZC)).run Try.prog W = .ok (.bool b5) W := fun W => eqClaim x.m zeroC ok.m rfl C ZC HC HZC b5 (by rw [← hb5]; exact eqCB_iff _ _) W
  have W1 := hidk (WI.out x.c 1 3)
  have W2 := hidk (WI.out x.s 1 1000000)
  rw [hb1] at W1
  rw [hb2] at W2
  rw [right_user hk]
  rw [hb1, hb2, hb3, hb4, hb5]
  rw [hk] at c0
  obtain ⟨c, hc⟩ : ∃ c, c = x.c := ⟨_, rfl⟩
  obtain ⟨s, hs⟩ : ∃ c, c = x.s := ⟨_, rfl⟩
  obtain ⟨t, ht⟩ : ∃ c, c = x.t := ⟨_, rfl⟩
  rw [← hc] at c1 W1
  rw [← hs] at c2 W2
  rw [← ht] at c3 hb3 hb3'
  have hml : t.size ≤ 9223372036854775807 ∨ 9223372036854775807 < t.size := by omega
  clear hb1 hb2 hb4 hb5 WI HR hrh hrm HX HQ HC HZS HZC ok hc hs ht hml
  cases b1
  · go_enter Try.func77, Try.ntmps77
    go_wp2_with fail
    refine (W1.out _).mono ?_
    rintro e w1 ⟨rfl, rfl⟩
    go_wp2
    go_ret
    exact ⟨rfl, HB.out⟩
  cases b2
  · go_enter Try.func77, Try.ntmps77
    go_wp2_with fail
    refine (W1.out _).mono ?_
    rintro e w1 ⟨rfl, rfl⟩
    go_wp2_with fail
    refine (W2.out _).mono ?_
    rintro e w1 ⟨rfl, rfl⟩
    go_wp2
    go_ret
    exact ⟨rfl, HB.out⟩
  cases b3
  · go_enter Try.func77, Try.ntmps77
    go_wp2_with fail
    refine (W1.out _).mono ?_
    rintro e w1 ⟨rfl, rfl⟩
    go_wp2_with fail
    refine (W2.out _).mono ?_
    rintro e w1 ⟨rfl, rfl⟩
    go_wp2
    go_ret
    exact ⟨rfl, HB.out⟩
  cases b4
  · go_enter Try.func77, Try.ntmps77
    go_wp2_with fail
    refine (W1.out _).mono ?_
    rintro e w1 ⟨rfl, rfl⟩
    go_wp2_with fail
    refine (W2.out _).mono ?_
    rintro e w1 ⟨rfl, rfl⟩
    go_wp2_with (first
      | (show wpList _ _ _ ({ dst := some 23, op := _, type := _, pos := _, after := _, guard := _ } :: _) _ _; refine wpList_mid_w (by rfl) 34 (.tmp 22) rfl w.heap.size 4 rfl Q _ (RQ.out _ H0.out) Try.underlying34 rfl HSQ.out ?_; try simp only [Act.put, List.setIfInBounds_toArray, List.set_cons_zero, List.set_cons_succ])
      | (show wpList _ _ _ ({ dst := some 24, op := _, type := _, pos := _, after := _, guard := _ } :: _) _ _; refine wpList_build_none_w (by rfl) 34 rfl ZS HBS.out ?_; try simp only [Act.put, List.setIfInBounds_toArray, List.set_cons_zero, List.set_cons_succ])
      | (show wpList _ _ _ ({ dst := some 29, op := _, type := _, pos := _, after := _, guard := _ } :: _) _ _; refine wpList_mid_w (by rfl) 36 (.tmp 28) rfl w.heap.size 73 rfl C _ (RC.out _ H0.out) Try.underlying36 rfl HSC.out ?_; try simp only [Act.put, List.setIfInBounds_toArray, List.set_cons_zero, List.set_cons_succ])
      | (show wpList _ _ _ ({ dst := some 30, op := _, type := _, pos := _, after := _, guard := _ } :: _) _ _; refine wpList_build_none_w (by rfl) 36 rfl ZC HBC.out ?_; try simp only [Act.put, List.setIfInBounds_toArray, List.set_cons_zero, List.set_cons_succ])
      | fail)
    go_ret
    exact ⟨rfl, HB.out⟩
  · go_enter Try.func77, Try.ntmps77
    go_wp2_with fail
    refine (W1.out _).mono ?_
    rintro e w1 ⟨rfl, rfl⟩
    go_wp2_with fail
    refine (W2.out _).mono ?_
    rintro e w1 ⟨rfl, rfl⟩
    go_wp2_with (first
      | (show wpList _ _ _ ({ dst := some 23, op := _, type := _, pos := _, after := _, guard := _ } :: _) _ _; refine wpList_mid_w (by rfl) 34 (.tmp 22) rfl w.heap.size 4 rfl Q _ (RQ.out _ H0.out) Try.underlying34 rfl HSQ.out ?_; try simp only [Act.put, List.setIfInBounds_toArray, List.set_cons_zero, List.set_cons_succ])
      | (show wpList _ _ _ ({ dst := some 24, op := _, type := _, pos := _, after := _, guard := _ } :: _) _ _; refine wpList_build_none_w (by rfl) 34 rfl ZS HBS.out ?_; try simp only [Act.put, List.setIfInBounds_toArray, List.set_cons_zero, List.set_cons_succ])
      | (show wpList _ _ _ ({ dst := some 29, op := _, type := _, pos := _, after := _, guard := _ } :: _) _ _; refine wpList_mid_w (by rfl) 36 (.tmp 28) rfl w.heap.size 73 rfl C _ (RC.out _ H0.out) Try.underlying36 rfl HSC.out ?_; try simp only [Act.put, List.setIfInBounds_toArray, List.set_cons_zero, List.set_cons_succ])
      | (show wpList _ _ _ ({ dst := some 30, op := _, type := _, pos := _, after := _, guard := _ } :: _) _ _; refine wpList_build_none_w (by rfl) 36 rfl ZC HBC.out ?_; try simp only [Act.put, List.setIfInBounds_toArray, List.set_cons_zero, List.set_cons_succ])
      | fail)
    go_ret
    exact ⟨rfl, HB.out⟩
set_option maxHeartbeats 8000000 in
theorem refRight_anchor (x : EnT) (ok : OkE x) (hk : x.k = 2) (w : World) (X : Array Value) (HX : Hid (X = (ecells x).toArray)) :
    Calls Try.prog 77 #[.agg X] w fun e w' => e = .returned (.bool (rightE x)) ∧ Below w.heap.size w w' := by
  have HR := erow_new w x ok X HX 38
  have HB : Hid (Below w.heap.size w (w.alloc (.cells X 38))) := (Below.refl _ _).alloc (Nat.le_refl _) _
  have c0 := HR.k
  have c1 := HR.c
  have c2 := HR.s
  have c3 := HR.t
  have hrh := HR.h
  have hrm := HR.m
  simp only [Nat.zero_add] at c1 c2 c3 hrh hrm
  obtain ⟨Q, HQ, HSQ, H1Q, H69Q⟩ := sign_row x.h ok.h ok.g
  obtain ⟨C, HC, HSC, H1C, H36C⟩ := claim_row5 x.m ok.m
  obtain ⟨ZS, HZS, HAS, HBS, H69S⟩ := noughtsS
  obtain ⟨ZC, HZC, HAC, HBC, H36Z⟩ := noughtsC
  have RQ : Hid (∀ W, Below (w.alloc (.cells X 38)).heap.size (w.alloc (.cells X 38)) W → W.rangeAt w.heap.size 4 Q.toList) := fun W hb => by rw [HQ.out]; exact range_keep hb (by simpa using hrh)
  have RC : Hid (∀ W, Below (w.alloc (.cells X 38)).heap.size (w.alloc (.cells X 38)) W → W.rangeAt w.heap.size 73 C.toList) := fun W hb => by rw [HC.out]; exact range_keep hb (by simpa using hrm)
  have H0 : Hid (Below (w.alloc (.cells X 38)).heap.size (w.alloc (.cells X 38)) (w.alloc (.cells X 38))) := Below.refl _ _
  obtain ⟨b1, hb1⟩ : ∃ b, decide (x.c = 0) = b := ⟨_, rfl⟩
  obtain ⟨b2, hb2⟩ : ∃ b, decide (x.s = 0) = b := ⟨_, rfl⟩
  obtain ⟨b3, hb3⟩ : ∃ b, decide (x.t.size = 0) = b := ⟨_, rfl⟩
  have q1 : (x.c == 0) = b1 := by rw [← hb1, Bool.eq_iff_iff, beq_iff_eq, decide_eq_true_eq]
  have q2 : (x.s == 0) = b2 := by rw [← hb2, Bool.eq_iff_iff, beq_iff_eq, decide_eq_true_eq]
  have q3 : x.t.toList.isEmpty = b3 := by rw [← hb3]; exact text_zero x.t
  have EQ1 : ∀ W, (binOp .eql 3 (.int .i64 x.c) (.int .i64 0)).run Try.prog W = .ok (.bool b1) W := fun W => by rw [← q1]; simp [go_sem]
  have EQ2 : ∀ W, (binOp .eql 3 (.int .i64 x.s) (.int .i64 0)).run Try.prog W = .ok (.bool b2) W := fun W => by rw [← q2]; simp [go_sem]
  obtain ⟨b4, hb4⟩ : ∃ b, mayS x.h = b := ⟨_, rfl⟩
  obtain ⟨b5, hb5⟩ : ∃ b, eqCB x.m zeroC = b := ⟨_, rfl⟩
  have MY : Hid (∀ W, Calls Try.prog 92 #[.agg Q] W fun e w' => e = .returned (.bool b4) ∧ Below W.heap.size W w') := fun W => by rw [← hb4]; exact refMay_any x.h ok.h W Q HQ
  have EQC : ∀ W, (binOp .eql 36 (.agg C) (.agg ZC)).run Try.prog W = .ok (.bool b5) W := fun W => eqClaim x.m zeroC ok.m rfl C ZC HC HZC b5 (by rw [← hb5]; exact eqCB_iff _ _) W
  rw [right_anchor hk]
  rw [hb1, hb2, hb3, hb4, hb5]
  rw [hk] at c0
  obtain ⟨c, hc⟩ : ∃ c, c = x.c := ⟨_, rfl⟩
  obtain ⟨s, hs⟩ : ∃ c, c = x.s := ⟨_, rfl⟩
  obtain ⟨t, ht⟩ : ∃ c, c = x.t := ⟨_, rfl⟩
  rw [← hc] at c1 q1 EQ1
  rw [← hs] at c2 q2 EQ2
  rw [← ht] at c3 q3
  clear hb1 hb2 hb3 hb4 hb5 HR hrh hrm HX HQ HC HZS HZC ok hc hs ht
  cases b1
  · go_enter Try.func77, Try.ntmps77
    go_wp2
    go_ret
    exact ⟨rfl, HB.out⟩
  cases b2
  · go_enter Try.func77, Try.ntmps77
    go_wp2
    go_ret
    exact ⟨rfl, HB.out⟩
  cases b3
  · go_enter Try.func77, Try.ntmps77
    go_wp2
    go_ret
    exact ⟨rfl, HB.out⟩
  cases b4
  · go_enter Try.func77, Try.ntmps77
    go_wp2_with (first
      | (show wpList _ _ _ ({ dst := some 50, op := _, type := _, pos := _, after := _, guard := _ } :: _) _ _; refine wpList_mid_w (by rfl) 34 (.tmp 49) rfl w.heap.size 4 rfl Q _ (RQ.out _ H0.out) Try.underlying34 rfl HSQ.out ?_; try simp only [Act.put, List.setIfInBounds_toArray, List.set_cons_zero, List.set_cons_succ])
      | fail)
    refine (MY.out _).mono ?_
    rintro e w1 ⟨rfl, hb1⟩
    have HB1 := hidk (HB.out.trans (hb1.mono HB.out.size))
    have HRC1 := hidk (RC.out _ hb1)
    clear hb1
    go_wp2_with (first
      | fail)
    go_ret
    exact ⟨rfl, HB1.out⟩
  · go_enter Try.func77, Try.ntmps77
    go_wp2_with (first
      | (show wpList _ _ _ ({ dst := some 50, op := _, type := _, pos := _, after := _, guard := _ } :: _) _ _; refine wpList_mid_w (by rfl) 34 (.tmp 49) rfl w.heap.size 4 rfl Q _ (RQ.out _ H0.out) Try.underlying34 rfl HSQ.out ?_; try simp only [Act.put, List.setIfInBounds_toArray, List.set_cons_zero, List.set_cons_succ])
      | fail)
    refine (MY.out _).mono ?_
    rintro e w1 ⟨rfl, hb1⟩
    have HB1 := hidk (HB.out.trans (hb1.mono HB.out.size))
    have HRC1 := hidk (RC.out _ hb1)
    clear hb1
    go_wp2_with (first
      | (show wpList _ _ _ ({ dst := some 55, op := _, type := _, pos := _, after := _, guard := _ } :: _) _ _; refine wpList_mid_w (by rfl) 36 (.tmp 54) rfl w.heap.size 73 rfl C _ HRC1.out Try.underlying36 rfl HSC.out ?_; try simp only [Act.put, List.setIfInBounds_toArray, List.set_cons_zero, List.set_cons_succ])
      | (show wpList _ _ _ ({ dst := some 56, op := _, type := _, pos := _, after := _, guard := _ } :: _) _ _; refine wpList_build_none_w (by rfl) 36 rfl ZC HBC.out ?_; try simp only [Act.put, List.setIfInBounds_toArray, List.set_cons_zero, List.set_cons_succ])
      | fail)
    go_ret
    exact ⟨rfl, HB1.out⟩
set_option maxHeartbeats 8000000 in
theorem refRight_claim (x : EnT) (ok : OkE x) (hk : x.k = 3) (w : World) (X : Array Value) (HX : Hid (X = (ecells x).toArray)) :
    Calls Try.prog 77 #[.agg X] w fun e w' => e = .returned (.bool (rightE x)) ∧ Below w.heap.size w w' := by
  have HR := erow_new w x ok X HX 38
  have HB : Hid (Below w.heap.size w (w.alloc (.cells X 38))) := (Below.refl _ _).alloc (Nat.le_refl _) _
  have c0 := HR.k
  have c1 := HR.c
  have c2 := HR.s
  have c3 := HR.t
  have hrh := HR.h
  have hrm := HR.m
  simp only [Nat.zero_add] at c1 c2 c3 hrh hrm
  obtain ⟨Q, HQ, HSQ, H1Q, H69Q⟩ := sign_row x.h ok.h ok.g
  obtain ⟨C, HC, HSC, H1C, H36C⟩ := claim_row5 x.m ok.m
  obtain ⟨ZS, HZS, HAS, HBS, H69S⟩ := noughtsS
  obtain ⟨ZC, HZC, HAC, HBC, H36Z⟩ := noughtsC
  have RQ : Hid (∀ W, Below (w.alloc (.cells X 38)).heap.size (w.alloc (.cells X 38)) W → W.rangeAt w.heap.size 4 Q.toList) := fun W hb => by rw [HQ.out]; exact range_keep hb (by simpa using hrh)
  have RC : Hid (∀ W, Below (w.alloc (.cells X 38)).heap.size (w.alloc (.cells X 38)) W → W.rangeAt w.heap.size 73 C.toList) := fun W hb => by rw [HC.out]; exact range_keep hb (by simpa using hrm)
  have H0 : Hid (Below (w.alloc (.cells X 38)).heap.size (w.alloc (.cells X 38)) (w.alloc (.cells X 38))) := Below.refl _ _
  obtain ⟨b1, hb1⟩ : ∃ b, decide (x.c = 0) = b := ⟨_, rfl⟩
  obtain ⟨b2, hb2⟩ : ∃ b, decide (x.s = 0) = b := ⟨_, rfl⟩
  obtain ⟨b3, hb3⟩ : ∃ b, decide (x.t.size = 0) = b := ⟨_, rfl⟩
  have q1 : (x.c == 0) = b1 := by rw [← hb1, Bool.eq_iff_iff, beq_iff_eq, decide_eq_true_eq]
  have q2 : (x.s == 0) = b2 := by rw [← hb2, Bool.eq_iff_iff, beq_iff_eq, decide_eq_true_eq]
  have q3 : x.t.toList.isEmpty = b3 := by rw [← hb3]; exact text_zero x.t
  have EQ1 : ∀ W, (binOp .eql 3 (.int .i64 x.c) (.int .i64 0)).run Try.prog W = .ok (.bool b1) W := fun W => by rw [← q1]; simp [go_sem]
  have EQ2 : ∀ W, (binOp .eql 3 (.int .i64 x.s) (.int .i64 0)).run Try.prog W = .ok (.bool b2) W := fun W => by rw [← q2]; simp [go_sem]
  obtain ⟨b4, hb4⟩ : ∃ b, eqSB x.h zeroS = b := ⟨_, rfl⟩
  obtain ⟨b5, hb5⟩ : ∃ b, rightC x.m = b := ⟨_, rfl⟩
  have EQS : ∀ W, (binOp .eql 34 (.agg Q) (.agg ZS)).run Try.prog W = .ok (.bool b4) W := fun W => eqSigned x.h zeroS ok.h rfl ok.g rfl Q ZS HQ HZS b4 (by rw [← hb4]; exact eqSB_iff _ _) W
  have RR : Hid (∀ W, Calls Try.prog 50 #[.agg C] W fun e w' => e = .returned (.bool b5) ∧ Below W.heap.size W w') := fun W => by rw [← hb5]; exact refRightC_any x.m W C HC
  rw [right_claim hk]
  rw [hb1, hb2, hb3, hb4, hb5]
  rw [hk] at c0
  obtain ⟨c, hc⟩ : ∃ c, c = x.c := ⟨_, rfl⟩
  obtain ⟨s, hs⟩ : ∃ c, c = x.s := ⟨_, rfl⟩
  obtain ⟨t, ht⟩ : ∃ c, c = x.t := ⟨_, rfl⟩
  rw [← hc] at c1 q1 EQ1
  rw [← hs] at c2 q2 EQ2
  rw [← ht] at c3 q3
  clear hb1 hb2 hb3 hb4 hb5 HR hrh hrm HX HQ HC HZS HZC ok hc hs ht
  cases b1
  · go_enter Try.func77, Try.ntmps77
    go_wp2
    go_ret
    exact ⟨rfl, HB.out⟩
  cases b2
  · go_enter Try.func77, Try.ntmps77
    go_wp2
    go_ret
    exact ⟨rfl, HB.out⟩
  cases b3
  · go_enter Try.func77, Try.ntmps77
    go_wp2
    go_ret
    exact ⟨rfl, HB.out⟩
  cases b4
  · go_enter Try.func77, Try.ntmps77
    go_wp2_with (first
      | (show wpList _ _ _ ({ dst := some 76, op := _, type := _, pos := _, after := _, guard := _ } :: _) _ _; refine wpList_mid_w (by rfl) 34 (.tmp 75) rfl w.heap.size 4 rfl Q _ (RQ.out _ H0.out) Try.underlying34 rfl HSQ.out ?_; try simp only [Act.put, List.setIfInBounds_toArray, List.set_cons_zero, List.set_cons_succ])
      | (show wpList _ _ _ ({ dst := some 77, op := _, type := _, pos := _, after := _, guard := _ } :: _) _ _; refine wpList_build_none_w (by rfl) 34 rfl ZS HBS.out ?_; try simp only [Act.put, List.setIfInBounds_toArray, List.set_cons_zero, List.set_cons_succ])
      | (show wpList _ _ _ ({ dst := some 82, op := _, type := _, pos := _, after := _, guard := _ } :: _) _ _; refine wpList_mid_w (by rfl) 36 (.tmp 81) rfl w.heap.size 73 rfl C _ (RC.out _ H0.out) Try.underlying36 rfl HSC.out ?_; try simp only [Act.put, List.setIfInBounds_toArray, List.set_cons_zero, List.set_cons_succ])
      | fail)
    go_ret
    exact ⟨rfl, HB.out⟩
  · go_enter Try.func77, Try.ntmps77
    go_wp2_with (first
      | (show wpList _ _ _ ({ dst := some 76, op := _, type := _, pos := _, after := _, guard := _ } :: _) _ _; refine wpList_mid_w (by rfl) 34 (.tmp 75) rfl w.heap.size 4 rfl Q _ (RQ.out _ H0.out) Try.underlying34 rfl HSQ.out ?_; try simp only [Act.put, List.setIfInBounds_toArray, List.set_cons_zero, List.set_cons_succ])
      | (show wpList _ _ _ ({ dst := some 77, op := _, type := _, pos := _, after := _, guard := _ } :: _) _ _; refine wpList_build_none_w (by rfl) 34 rfl ZS HBS.out ?_; try simp only [Act.put, List.setIfInBounds_toArray, List.set_cons_zero, List.set_cons_succ])
      | (show wpList _ _ _ ({ dst := some 82, op := _, type := _, pos := _, after := _, guard := _ } :: _) _ _; refine wpList_mid_w (by rfl) 36 (.tmp 81) rfl w.heap.size 73 rfl C _ (RC.out _ H0.out) Try.underlying36 rfl HSC.out ?_; try simp only [Act.put, List.setIfInBounds_toArray, List.set_cons_zero, List.set_cons_succ])
      | fail)
    refine (RR.out _).mono ?_
    rintro e w1 ⟨rfl, hb1⟩
    have HB1 := hidk (HB.out.trans (hb1.mono HB.out.size))
    clear hb1
    go_wp2_with fail
    go_ret
    exact ⟨rfl, HB1.out⟩
set_option maxHeartbeats 4000000 in
theorem refRight_none (x : EnT) (ok : OkE x) (h1 : ¬ x.k = 1) (h2 : ¬ x.k = 2) (h3 : ¬ x.k = 3) (w : World) (X : Array Value) (HX : Hid (X = (ecells x).toArray)) :
    Calls Try.prog 77 #[.agg X] w fun e w' => e = .returned (.bool (rightE x)) ∧ Below w.heap.size w w' := by
  rw [right_none h1 h2 h3]
  have HB : Hid (Below w.heap.size w (w.alloc (.cells X 38))) := (Below.refl _ _).alloc (Nat.le_refl _) _
  have c0 := (erow_new w x ok X HX 38).k
  have q1 : (x.k == 1) = false := by rw [beq_eq_false_iff_ne]; exact h1
  have q2 : (x.k == 2) = false := by rw [beq_eq_false_iff_ne]; exact h2
  have q3 : (x.k == 3) = false := by rw [beq_eq_false_iff_ne]; exact h3
  have d1 : decide (x.k = 1) = false := by rw [decide_eq_false_iff_not]; exact h1
  have d2 : decide (x.k = 2) = false := by rw [decide_eq_false_iff_not]; exact h2
  have d3 : decide (x.k = 3) = false := by rw [decide_eq_false_iff_not]; exact h3
  obtain ⟨k, hk⟩ : ∃ k, k = x.k := ⟨_, rfl⟩
  rw [← hk] at c0 q1 q2 q3 d1 d2 d3 h1 h2 h3
  clear HX ok hk
  go_enter Try.func77, Try.ntmps77
  go_wp2
  go_ret
  exact ⟨rfl, HB.out⟩
theorem refRightE_any (x : EnT) (ok : OkE x) (w : World) (X : Array Value) (HX : Hid (X = (ecells x).toArray)) :
    Calls Try.prog 77 #[.agg X] w fun e w' => e = .returned (.bool (rightE x)) ∧ Below w.heap.size w w' := by
  by_cases h1 : x.k = 1
  · exact refRight_user x ok h1 w X HX
  by_cases h2 : x.k = 2
  · exact refRight_anchor x ok h2 w X HX
  by_cases h3 : x.k = 3
  · exact refRight_claim x ok h3 w X HX
  exact refRight_none x ok h1 h2 h3 w X HX
end Go.Proofs.Ytjpmmbmhkpgjcaa

/- What the document's fields, Bytes and Put answer, of right entries. -/
namespace Go.Proofs.Ytjpmmbmhkpgjcaa
open Go.RowKit Sums Nums
set_option linter.unusedVariables false
set_option linter.unusedSimpArgs false
set_option maxRecDepth 100000
theorem ERow.low {W W' : World} {g o B : Nat} {x : EnT} (r : ERow W g o x) (hb : Below B W W') (hg : g < B) : ERow W' g o x :=
  ⟨(hb.cell hg).trans r.k, (hb.cell hg).trans r.c, (hb.cell hg).trans r.s, (hb.cell hg).trans r.t, fun j v hj => (hb.cell hg).trans (r.h j v hj), fun j v hj => (hb.cell hg).trans (r.m j v hj)⟩
/-- The entry, and the fields that were laid behind one another. -/
structure FO (w : World) (x : EnT) (v : Value) (fs : List (Int × ByteArray)) (W : World) : Prop where
  row : ERow W w.heap.size 0 x
  own : W.ownsRow (w.heap.size + 1) 85 2 v fs.length (fcells fs)
  nil : v = .slice none 0 0 ↔ fs = []
  below : Below w.heap.size w W
  size : w.heap.size + 1 ≤ W.heap.size
theorem FO.keep {w W W' : World} {x : EnT} {v : Value} {fs : List (Int × ByteArray)} (h : FO w x v fs W) (hb : Below W.heap.size W W') : FO w x v fs W' :=
  ⟨h.row.keep hb, h.own.kept (row := none) ⟨hb.os, hb.tape, hb.output, hb.size, fun j hj _ => hb.block j hj⟩ (by cases hv : v.ownBlock <;> simp), h.nil, h.below.trans (hb.mono h.below.size), Nat.le_trans h.size hb.size⟩
theorem FO.first {w W : World} {x : EnT} (hr : ERow W w.heap.size 0 x) (hb : Below w.heap.size w W) (hs : w.heap.size + 1 ≤ W.heap.size) (n : ByteArray) : FO w x (.slice (some ⟨W.heap.size, 0, none⟩) 1 1) [(1, n)] (W.alloc (.cells #[.int .i64 1, .string n] 85)) := by
  have h0 : Below W.heap.size W (W.alloc (.cells #[.int .i64 1, .string n] 85)) := (Below.refl _ _).alloc (Nat.le_refl _) _
  refine ⟨hr.keep h0, ⟨rfl, .inr ⟨W.heap.size, 1, #[.int .i64 1, .string n], rfl, hs, heap_alloc_new W _, Nat.le_refl _, by unfold maxLen; decide, rfl, rfl⟩⟩, ?_, hb.trans (h0.mono hb.size), by simp; omega⟩
  constructor
  · intro e; cases e
  · intro e; cases e
theorem FO.app {w W : World} {x : EnT} {v : Value} {fs : List (Int × ByteArray)} (h : FO w x v fs W) (hl : fs.length ≤ 1000) (t : Int) (n : ByteArray) :
    ∃ v' w1, (Builtin.append_ #[88, 88] 88 #[v, .slice (some ⟨W.heap.size, 0, none⟩) 1 1]).run Try.prog (W.alloc (.cells #[.int .i64 t, .string n] 85)) = .ok v' w1 ∧ FO w x v' (fs ++ [(t, n)]) w1 := by
  obtain ⟨v', w1, hr, ho, hb, _, _⟩ := run_append_field W (w.heap.size + 1) v fs (t, n) h.own h.nil h.size (by omega)
  refine ⟨v', w1, hr, h.row.low hb (by omega), by rw [List.length_append]; exact ho, ?_, h.below.trans (hb.mono (by omega)), Nat.le_trans h.size hb.size⟩
  constructor
  · intro e
    subst e
    rcases ho.2 with ⟨_, h0⟩ | ⟨g, cap, cur, e, _⟩
    · omega
    · cases e
  · intro e; simp at e
theorem fieldsE_small {x : EnT} (ok : OkE x) (h : rightE x = true) : (∀ f ∈ fieldsE x, f.2.size ≤ maxLen) ∧ (fieldsE x).length ≤ 400 := by
  have hb : ∀ n : Nat, n ≤ 1000 → n ≤ maxLen := fun n hn => by unfold maxLen; omega
  rcases right_kinds h with ⟨hk, h1⟩ | ⟨hk, h1⟩ | ⟨hk, h1⟩
  · rw [fields_user hk]
    refine ⟨fun f hf => ?_, by simp⟩
    simp only [List.mem_cons, List.not_mem_nil, or_false] at hf
    rcases hf with rfl | rfl | rfl | rfl
    · exact hb (nOf 1).size (Nat.le_trans (nOf_size _) (by omega))
    · exact hb (nOf (x.c)).size (Nat.le_trans (nOf_size _) (by omega))
    · exact hb (nOf (x.s)).size (Nat.le_trans (nOf_size _) (by omega))
    · exact hb _ (by show x.t.size ≤ 1000; omega)
  · rw [fields_anchor hk]
    refine ⟨fun f hf => ?_, by simp⟩
    simp only [List.mem_cons, List.not_mem_nil, or_false] at hf
    rcases hf with rfl | rfl
    · exact hb (nOf 2).size (Nat.le_trans (nOf_size _) (by omega))
    · exact hb _ (by show (bA (signB x.h)).size ≤ 1000; rw [bA_size]; have := signB_length x.h ok.h ok.g; omega)
  · rw [fields_claim hk]
    refine ⟨fun f hf => ?_, by simp⟩
    simp only [List.mem_cons, List.not_mem_nil, or_false] at hf
    rcases hf with rfl | rfl
    · exact hb (nOf 3).size (Nat.le_trans (nOf_size _) (by omega))
    · exact hb _ (by show (bA (claimB x.m)).size ≤ 1000; rw [bA_size]; have := claimB_length x.m ok.m; omega)
end Go.Proofs.Ytjpmmbmhkpgjcaa

/- What the document's Put, RightItem, ItemBytes and PutItem answer. -/
namespace Go.Proofs.Ytjpmmbmhkpgjcaa
open Go.RowKit Sums Nums
set_option linter.unusedVariables false
set_option linter.unusedSimpArgs false
set_option maxRecDepth 100000
/-- What the parts of an item's row read as. -/
theorem irow_new (w : World) (x : ItT) (X : Array Value) (HX : Hid (X = (icells x).toArray)) (t : TypeId) : (w.alloc (.cells X t)).cell? ⟨w.heap.size, 0, none⟩ = some (.int .i64 x.p) ∧ (w.alloc (.cells X t)).rangeAt w.heap.size 1 (ecells x.e) := by
  have each : ∀ j u, (icells x)[j]? = some u → (w.alloc (.cells X t)).cell? ⟨w.heap.size, j, none⟩ = some u := fun j u hj => by
    rw [cell_of_row _ _ j _ t (0, 0) (heap_alloc_new w _), HX.out]
    simpa using hj
  refine ⟨each 0 _ rfl, fun j v hj => each (1 + j) v ?_⟩
  unfold icells
  rw [List.getElem?_append_right (by simp)]
  simpa using hj
set_option maxHeartbeats 2000000 in
theorem refRightI_any (x : ItT) (ok : OkE x.e) (w : World) (X : Array Value) (HX : Hid (X = (icells x).toArray)) :
    Calls Try.prog 49 #[.agg X] w fun e w' => e = .returned (.bool (rightI x)) ∧ Below w.heap.size w w' := by
  have HB : Hid (Below w.heap.size w (w.alloc (.cells X 40))) := (Below.refl _ _).alloc (Nat.le_refl _) _
  obtain ⟨c0, hr⟩ := irow_new w x X HX 40
  obtain ⟨Q, HQ⟩ : ∃ Q : Array Value, Hid (Q = (ecells x.e).toArray) := ⟨_, hidk rfl⟩
  have HSQ : Hid ((Try.prog.info? 38).map (·.size) = some Q.size) := by show _ = _; rw [sizeE, HQ.out]; simp [ecells_length x.e ok]
  have HRQ : Hid ((w.alloc (.cells X 40)).rangeAt w.heap.size 1 Q.toList) := by show World.rangeAt _ _ _ _; rw [HQ.out]; simpa using hr
  obtain ⟨b1, hb1⟩ : ∃ b, (decide (1 ≤ x.p) && decide (x.p ≤ 900000000)) = b := ⟨_, rfl⟩
  obtain ⟨b2, hb2⟩ : ∃ b, rightE x.e = b := ⟨_, rfl⟩
  have W1 : Hid (∀ (W : World), Calls Try.prog 76 #[.int .i64 x.p, .int .i64 1, .int .i64 900000000] W fun e w' => e = .returned (.bool b1) ∧ w' = W) := fun W => by rw [← hb1]; exact within8_any x.p 1 900000000 W
  have R2 : Hid (∀ W, Calls Try.prog 77 #[.agg Q] W fun e w' => e = .returned (.bool b2) ∧ Below W.heap.size W w') := fun W => by rw [← hb2]; exact refRightE_any x.e ok W Q HQ
  have hE : rightI x = (b1 && b2) := by rw [← hb1, ← hb2]; rfl
  rw [hE]
  obtain ⟨p, hp⟩ : ∃ p, p = x.p := ⟨_, rfl⟩
  rw [← hp] at c0 W1
  clear hE hb1 hb2 hp HX HQ hr ok
  cases b1
  · go_enter Try.func49, Try.ntmps49
    go_wp2_with fail
    refine (W1.out _).mono ?_
    rintro e w1 ⟨rfl, rfl⟩
    go_wp2
    go_ret
    exact ⟨rfl, HB.out⟩
  · go_enter Try.func49, Try.ntmps49
    go_wp2_with fail
    refine (W1.out _).mono ?_
    rintro e w1 ⟨rfl, rfl⟩
    go_wp2_with (first
      | (show wpList _ _ _ ({ dst := some 8, op := _, type := _, pos := _, after := _, guard := _ } :: _) _ _; refine wpList_mid_w (by rfl) 38 (.tmp 7) rfl w.heap.size 1 rfl Q _ HRQ.out Try.underlying38 rfl HSQ.out ?_; try simp only [Act.put, List.setIfInBounds_toArray, List.set_cons_zero, List.set_cons_succ])
      | fail)
    refine (R2.out _).mono ?_
    rintro e w1 ⟨rfl, hb1⟩
    have HB1 := hidk (HB.out.trans (hb1.mono HB.out.size))
    clear hb1
    go_wp2
    go_ret
    exact ⟨rfl, HB1.out⟩
end Go.Proofs.Ytjpmmbmhkpgjcaa

/- What the calls of package entry answer, as the document says (their proofs are of one commit of the code). -/
namespace Go.Proofs.Ytjpmmbmhkpgjcaa
open Go.RowKit Sums Nums
set_option linter.unusedVariables false
set_option linter.unusedSimpArgs false
set_option maxRecDepth 100000
/-- A claim, an entry, an item that lies in a variable. -/
structure InC (c : ClT) : Prop where
  d : c.d.length = 32
  r : In64 c.r
  e : In64 c.e
  n : In64 c.n
  s : In64 c.s
structure InE (x : EnT) : Prop where
  k : In64 x.k
  c : In64 x.c
  s : In64 x.s
  t : x.t.size ≤ 100000
  h : InS x.h
  m : InC x.m
theorem InE.ok {x : EnT} (h : InE x) : OkE x := ⟨h.h.h.d, h.h.g, h.m.d⟩
structure InI (x : ItT) : Prop where
  p : In64 x.p
  e : InE x.e
def cB (c : ClT) : List UInt8 := if rightC c = true then claimB c else []
def cE (c : ClT) : Int := if rightC c = true then 0 else 60
def eB (x : EnT) : List UInt8 := if rightE x = true then entryB x else []
def eE (x : EnT) : Int := if rightE x = true then 0 else 60
def iB (x : ItT) : List UInt8 := if rightI x = true then itemB x else []
def iE (x : ItT) : Int := if rightI x = true then 0 else 60
/-- What the calls of package entry answer. -/
structure EntryC : Prop where
  checkC : ∀ (c : ClT) (hc : InC c) (w : World) (C : Array Value) (HC : Hid (C = (ccells c).toArray)),
    Calls Try.prog 61 #[.agg C] w fun e w' => e = .returned (.int .i64 (cE c)) ∧ Below w.heap.size w w'
  putC : ∀ (c : ClT) (hc : InC c) (w : World) (C : Array Value) (HC : Hid (C = (ccells c).toArray)),
    Calls Try.prog 45 #[.agg C] w fun e w' => BytesE (cB c) (cE c) e w' ∧ Below w.heap.size w w'
  getC : ∀ (a : Option Addr) (len cap : Nat) (bs : List UInt8) (w : World) (hR : Reads w a len cap bs) (hl : len ≤ 100000) (R : Array Value) (HR : Hid (R = (ccells (getCO bs)).toArray)),
    Calls Try.prog 80 #[.slice a len cap] w fun e w' => e = .returned (.tuple #[.agg R, .int .i64 (getCE bs)]) ∧ Below w.heap.size w w'
  check : ∀ (x : EnT) (hx : InE x) (w : World) (X : Array Value) (HX : Hid (X = (ecells x).toArray)),
    Calls Try.prog 60 #[.agg X] w fun e w' => e = .returned (.int .i64 (eE x)) ∧ Below w.heap.size w w'
  put : ∀ (x : EnT) (hx : InE x) (w : World) (X : Array Value) (HX : Hid (X = (ecells x).toArray)),
    Calls Try.prog 91 #[.agg X] w fun e w' => BytesE (eB x) (eE x) e w' ∧ Below w.heap.size w w'
  get : ∀ (a : Option Addr) (len cap : Nat) (bs : List UInt8) (w : World) (hR : Reads w a len cap bs) (hl : len ≤ 100000) (R : Array Value) (HR : Hid (R = (ecells (getEO bs)).toArray)),
    Calls Try.prog 125 #[.slice a len cap] w fun e w' => e = .returned (.tuple #[.agg R, .int .i64 (getEE bs)]) ∧ Below w.heap.size w w'
  putI : ∀ (x : ItT) (hx : InI x) (w : World) (X : Array Value) (HX : Hid (X = (icells x).toArray)),
    Calls Try.prog 75 #[.agg X] w fun e w' => BytesE (iB x) (iE x) e w' ∧ Below w.heap.size w w'
  getI : ∀ (a : Option Addr) (len cap : Nat) (bs : List UInt8) (w : World) (hR : Reads w a len cap bs) (hl : len ≤ 100000) (R : Array Value) (HR : Hid (R = (icells (getIO bs)).toArray)),
    Calls Try.prog 94 #[.slice a len cap] w fun e w' => e = .returned (.tuple #[.agg R, .int .i64 (getIE bs)]) ∧ Below w.heap.size w w'
theorem rightC_in {c : ClT} (hr : rightC c = true) (hd : c.d.length = 32) : InC c := by
  have := (rightC_iff c).1 hr
  refine ⟨hd, ?_, ?_, ?_, ?_⟩ <;> unfold In64 <;> omega
theorem zeroC_in : InC zeroC := ⟨rfl, by unfold In64; decide, by unfold In64; decide, by unfold In64; decide, by unfold In64; decide⟩
theorem getCO_in (bs : List UInt8) : InC (getCO bs) := by
  unfold getCO
  cases h : getC bs with
  | none => exact zeroC_in
  | some x => exact rightC_in (getC_some h).1 (getC_some h).2.1
theorem zeroE_in : InE zeroE := ⟨by unfold In64; decide, by unfold In64; decide, by unfold In64; decide, by show 0 ≤ 100000; omega, zeroS_in, zeroC_in⟩
theorem rightE_in {x : EnT} (hr : rightE x = true) (ok : OkE x) : InE x := by
  have z0 : In64 0 := by unfold In64; decide
  by_cases h1 : x.k = 1
  · have hh := right_user h1
    rw [hr] at hh
    have hh := hh.symm
    simp only [Bool.and_eq_true, decide_eq_true_eq] at hh
    obtain ⟨⟨a1, a2⟩, ⟨a3, a4⟩, a5, a6, a7⟩ := hh
    exact ⟨by rw [h1]; unfold In64; decide, by unfold In64; omega, by unfold In64; omega, by omega, by rw [(eqSB_iff _ _).1 a6]; exact zeroS_in, by rw [(eqCB_iff _ _).1 a7]; exact zeroC_in⟩
  by_cases h2 : x.k = 2
  · have hh := right_anchor h2
    rw [hr] at hh
    have hh := hh.symm
    simp only [Bool.and_eq_true, decide_eq_true_eq] at hh
    obtain ⟨a1, a2, a3, a4, a5⟩ := hh
    exact ⟨by rw [h2]; unfold In64; decide, by rw [a1]; exact z0, by rw [a2]; exact z0, by omega, may_in a4 ok.h ok.g, by rw [(eqCB_iff _ _).1 a5]; exact zeroC_in⟩
  by_cases h3 : x.k = 3
  · have hh := right_claim h3
    rw [hr] at hh
    have hh := hh.symm
    simp only [Bool.and_eq_true, decide_eq_true_eq] at hh
    obtain ⟨a1, a2, a3, a4, a5⟩ := hh
    exact ⟨by rw [h3]; unfold In64; decide, by rw [a1]; exact z0, by rw [a2]; exact z0, by omega, by rw [(eqSB_iff _ _).1 a4]; exact zeroS_in, rightC_in a5 ok.m⟩
  rw [right_none h1 h2 h3] at hr
  cases hr
theorem getEO_in (bs : List UInt8) : InE (getEO bs) := by
  unfold getEO
  cases h : getE bs with
  | none => exact zeroE_in
  | some x => exact rightE_in (getE_some h).1 (getE_some h).2.1
theorem getIO_in (bs : List UInt8) : InI (getIO bs) := by
  unfold getIO
  cases h : getI bs with
  | none => exact ⟨by unfold In64; decide, zeroE_in⟩
  | some x =>
    obtain ⟨h1, h2, _⟩ := getI_some h
    have := (rightI_iff x).1 h1
    exact ⟨by show In64 x.p; unfold In64; omega, rightE_in this.2.2 h2⟩
theorem cB_length (c : ClT) (hd : c.d.length = 32) : (cB c).length ≤ 84 := by
  unfold cB
  split
  · exact claimB_length c hd
  · exact Nat.zero_le _
theorem eB_length (x : EnT) (ok : OkE x) : (eB x).length ≤ 240 := by
  unfold eB
  split
  · rename_i h; exact entryB_length h ok
  · exact Nat.zero_le _
theorem iB_length (x : ItT) (ok : OkE x.e) : (iB x).length ≤ 256 := by
  unfold iB
  split
  · rename_i h; exact itemB_length h ok
  · exact Nat.zero_le _
theorem cE_two (c : ClT) : cE c = 0 ∧ rightC c = true ∨ cE c = 60 ∧ rightC c = false := by
  unfold cE
  cases rightC c
  · exact .inr ⟨rfl, rfl⟩
  · exact .inl ⟨rfl, rfl⟩
theorem eE_two (x : EnT) : eE x = 0 ∧ rightE x = true ∨ eE x = 60 ∧ rightE x = false := by
  unfold eE
  cases rightE x
  · exact .inr ⟨rfl, rfl⟩
  · exact .inl ⟨rfl, rfl⟩
theorem iE_two (x : ItT) : iE x = 0 ∧ rightI x = true ∨ iE x = 60 ∧ rightI x = false := by
  unfold iE
  cases rightI x
  · exact .inr ⟨rfl, rfl⟩
  · exact .inl ⟨rfl, rfl⟩
end Go.Proofs.Ytjpmmbmhkpgjcaa

/- What the document's ItemBytes and PutItem answer. -/
namespace Go.Proofs.Ytjpmmbmhkpgjcaa
open Go.RowKit Sums Nums
set_option linter.unusedVariables false
set_option linter.unusedSimpArgs false
set_option maxRecDepth 100000
/-- What the parts of an item's row read as. -/
structure IRow (W : World) (g : Nat) (p : Int) (Q : Array Value) : Prop where
  p : W.cell? ⟨g, 0, none⟩ = some (.int .i64 p)
  e : W.rangeAt g 1 Q.toList
theorem IRow.keep {W W' : World} {g : Nat} {p : Int} {Q : Array Value} (r : IRow W g p Q) (hb : Below W.heap.size W W') : IRow W' g p Q :=
  ⟨(hb.cell (World.block_lt_of_cell? _ _ r.p)).trans r.p, range_keep hb r.e⟩
end Go.Proofs.Ytjpmmbmhkpgjcaa

/- What the document's Leaf of a right item answers. -/
namespace Go.Proofs.Ytjpmmbmhkpgjcaa
open Go.RowKit Sums Nums
set_option linter.unusedVariables false
set_option linter.unusedSimpArgs false
set_option maxRecDepth 100000

end Go.Proofs.Ytjpmmbmhkpgjcaa

/- An entry's fields written one by one. -/
namespace Go.Proofs.Ytjpmmbmhkpgjcaa
open Go.RowKit Sums Nums
set_option linter.unusedVariables false
set_option linter.unusedSimpArgs false
set_option maxRecDepth 100000
theorem eset_h (x : EnT) (ok : OkE x) (v : SgT) (h1 : v.h.d.length = 32) (h2 : v.g.length = 32) : ((ecells x).take 4 ++ scells v ++ (ecells x).drop (4 + 69)).toArray = (ecells { x with h := v }).toArray := by
  congr 1
  have hs := scells_length x.h ok.h ok.g
  show ([Value.int .i64 x.k, .int .i64 x.c, .int .i64 x.s, .string x.t] ++ scells v) ++ (([Value.int .i64 x.k, .int .i64 x.c, .int .i64 x.s, .string x.t] ++ scells x.h) ++ ccells x.m).drop 73 = ([Value.int .i64 x.k, .int .i64 x.c, .int .i64 x.s, .string x.t] ++ scells v) ++ ccells x.m
  rw [List.drop_left' (by simp [hs])]
theorem eset_m (x : EnT) (ok : OkE x) (v : ClT) (h1 : v.d.length = 32) : ((ecells x).take 73 ++ ccells v ++ (ecells x).drop (73 + 36)).toArray = (ecells { x with m := v }).toArray := by
  congr 1
  have hs := scells_length x.h ok.h ok.g
  have hl := ecells_length x ok
  rw [List.drop_of_length_le (by rw [hl]; omega), List.append_nil]
  show (([Value.int .i64 x.k, .int .i64 x.c, .int .i64 x.s, .string x.t] ++ scells x.h) ++ ccells x.m).take 73 ++ ccells v = ([Value.int .i64 x.k, .int .i64 x.c, .int .i64 x.s, .string x.t] ++ scells x.h) ++ ccells v
  rw [List.take_left' (by simp [hs])]
theorem infoE : (Try.prog.info? 38).map (fun i => (i.zero, i.size)) = some (some (.agg (ecells zeroE).toArray), 109) := by kernel_rfl
theorem builtE0 : Try.prog.built 38 [] = some (ecells zeroE).toArray := by kernel_rfl
theorem one_cellsE (x : EnT) : (ecells x).toArray.all (·.oneCell') = true := by
  rw [List.all_toArray, List.all_eq_true]
  intro v hv
  unfold ecells at hv
  simp only [List.mem_append, List.mem_cons, List.not_mem_nil, or_false] at hv
  rcases hv with ((rfl | rfl | rfl | rfl) | hv) | hv
  · rfl
  · rfl
  · rfl
  · rfl
  · have := one_cellsS x.h
    rw [List.all_toArray, List.all_eq_true] at this
    exact this v hv
  · have := one_cellsC x.m
    rw [List.all_toArray, List.all_eq_true] at this
    exact this v hv
end Go.Proofs.Ytjpmmbmhkpgjcaa

/- The statements' own examples of claims and items, over what the calls of package entry answer. -/
namespace Go.Proofs.Ytjpmmbmhkpgjcaa
open Go.RowKit Sums Nums
set_option linter.unusedVariables false
set_option linter.unusedSimpArgs false
set_option maxRecDepth 100000
theorem wpList_build_some {P : Program} {ops : Array Oper} {rest : List Oper} {o : Oper} {a : Act} {w : World} {Q : Exit → Act → World → Prop} (hg : o.guard = none) (t : TypeId) (parts : Array (Nat × Operand)) (ho : o.op = .build t parts) (vals : List (Nat × Value)) (hv : (parts.toList.map fun p => (p.1, a.eval p.2)) = vals)
    (cs : Array Value) (hb : P.built t vals = some cs) (h : wpList P ops Q rest (a.put o.dst (.agg cs)) w) : wpList P ops Q (o :: rest) a w := by
  refine wpList_build_row hg t parts ho cs ?_ h
  rw [← hb, ← hv, Array.toList_map]
theorem infoI : (Try.prog.info? 40).map (fun i => (i.zero, i.size)) = some (some (.agg (icells zeroI).toArray), 110) := by kernel_rfl
theorem builtI0 : Try.prog.built 40 [] = some (icells zeroI).toArray := by kernel_rfl
theorem one_cellsI (x : ItT) : (icells x).toArray.all (·.oneCell') = true := by
  have := one_cellsE x.e
  rw [List.all_toArray, List.all_eq_true] at this ⊢
  intro v hv
  unfold icells at hv
  simp only [List.mem_append, List.mem_cons, List.not_mem_nil, or_false] at hv
  rcases hv with rfl | hv
  · rfl
  · exact this v hv
theorem entry_row (x : EnT) (ok : OkE x) : ∃ C : Array Value, Hid (C = (ecells x).toArray) ∧ Hid ((Try.prog.info? 38).map (·.size) = some C.size) ∧ Hid (C.all (·.oneCell') = true) ∧ Hid (C.size = 109) := by
  refine ⟨(ecells x).toArray, hidk rfl, ?_, one_cellsE x, ?_⟩
  · show _ = _
    rw [sizeE]; simp [ecells_length x ok]
  · show _ = _
    simp [ecells_length x ok]
theorem item_row (x : ItT) (ok : OkE x.e) : ∃ C : Array Value, Hid (C = (icells x).toArray) ∧ Hid ((Try.prog.info? 40).map (·.size) = some C.size) ∧ Hid (C.all (·.oneCell') = true) ∧ Hid (C.size = 110) := by
  refine ⟨(icells x).toArray, hidk rfl, ?_, one_cellsI x, ?_⟩
  · show _ = _
    rw [sizeI]; simp [icells_length x ok]
  · show _ = _
    simp [icells_length x ok]
theorem noughtsE : ∃ Z : Array Value, Hid (Z = (ecells zeroE).toArray) ∧ Hid ((Try.prog.info? 38).map (fun i => (i.zero, i.size)) = some (some (.agg Z), Z.size)) ∧ Hid (Try.prog.built 38 [] = some Z) ∧ Hid (Z.size = 109) :=
  ⟨(ecells zeroE).toArray, hidk rfl, infoE, builtE0, hidk rfl⟩
theorem noughtsI : ∃ Z : Array Value, Hid (Z = (icells zeroI).toArray) ∧ Hid ((Try.prog.info? 40).map (fun i => (i.zero, i.size)) = some (some (.agg Z), Z.size)) ∧ Hid (Try.prog.built 40 [] = some Z) ∧ Hid (Z.size = 110) :=
  ⟨(icells zeroI).toArray, hidk rfl, infoI, builtI0, hidk rfl⟩
end Go.Proofs.Ytjpmmbmhkpgjcaa

/- The statements' own example of items, over what the calls of package entry answer. -/
namespace Go.Proofs.Ytjpmmbmhkpgjcaa
open Go.RowKit Sums Nums
set_option linter.unusedVariables false
set_option linter.unusedSimpArgs false
set_option maxRecDepth 100000

end Go.Proofs.Ytjpmmbmhkpgjcaa

/- What the program takes of a row, and that it is the thing whose bytes these are if it is laid as them. -/
namespace Go.Proofs.Ytjpmmbmhkpgjcaa
open Nums Sums
set_option linter.unusedVariables false
set_option maxRecDepth 100000
/-- The data of the first field of a tag. -/
def fdD (tag : Int) : List (Int × ByteArray) → ByteArray
  | [] => ⟨#[]⟩
  | f :: r => if f.1 = tag then f.2 else fdD tag r
theorem fdD_le (tag : Int) (n : Nat) : ∀ fs : List (Int × ByteArray), (∀ f ∈ fs, f.2.size ≤ n) → (fdD tag fs).size ≤ n
  | [], _ => Nat.zero_le _
  | f :: r, h => by
    show (if f.1 = tag then f.2 else fdD tag r).size ≤ n
    split
    · exact h f (List.mem_cons_self ..)
    · exact fdD_le tag n r fun y hy => h y (List.mem_cons_of_mem _ hy)
def fdN (tag : Int) (fs : List (Int × ByteArray)) : Int := vOf (fdD tag fs).data.toList
def fdG (tag : Int) (fs : List (Int × ByteArray)) : List UInt8 := (fdD tag fs).data.toList.take 32 ++ List.replicate (32 - (fdD tag fs).size) 0
theorem fdG_length (tag : Int) (fs : List (Int × ByteArray)) : (fdG tag fs).length = 32 := by
  unfold fdG
  have e : (fdD tag fs).data.toList.length = (fdD tag fs).size := rfl
  rw [List.length_append, List.length_take, List.length_replicate, e]
  omega
theorem vOf_nOf (n : Int) (h : 0 ≤ n ∧ n ≤ 4611686018427387903) : vOf (nOf n).data.toList = n := by
  have h1 := valO_nOf n h
  unfold valO at h1
  unfold vOf
  split at h1
  · rename_i hh; rw [if_pos hh]; exact h1
  · omega
theorem readF_65 (bs : List UInt8) : ∀ f ∈ readF bs, f.2.size ≤ 65536 := by
  intro f hf
  unfold readF at hf
  by_cases h : readE bs = 0
  · rw [if_pos h] at hf
    unfold toF at hf
    obtain ⟨x, hx, rfl⟩ := List.mem_map.1 hf
    have := parse_small _ _ _ x hx
    show x.d.toArray.size ≤ 65536
    simp
    omega
  · rw [if_neg h] at hf; simp at hf
/-- A claim that is taken of a row. -/
def takeC (fs : List (Int × ByteArray)) : ClT := ⟨fdN 1 fs, fdN 2 fs, fdN 3 fs, fdN 4 fs, fdG 5 fs⟩
theorem takeC_cL (c : ClT) (hr : rightC c = true) (hd : c.d.length = 32) : takeC (fieldsN (cL c)) = c := by
  have hb := (rightC_iff c).1 hr
  have e : fieldsN (cL c) = [(1, nOf c.r), (2, nOf c.e), (3, nOf c.n), (4, nOf c.s), (5, bA c.d)] := rfl
  have e5 : fdG 5 (fieldsN (cL c)) = c.d := by
    have e6 : fdD 5 (fieldsN (cL c)) = bA c.d := rfl
    unfold fdG
    rw [e6, bA_list, bA_size, hd, List.take_of_length_le (by omega)]
    simp
  unfold takeC
  rw [e5]
  show (⟨vOf (nOf c.r).data.toList, vOf (nOf c.e).data.toList, vOf (nOf c.n).data.toList, vOf (nOf c.s).data.toList, c.d⟩ : ClT) = c
  rw [vOf_nOf c.r (by omega), vOf_nOf c.e (by omega), vOf_nOf c.n (by omega), vOf_nOf c.s (by omega)]
theorem getC_take (bs : List UInt8) : getC bs = if rightC (takeC (readF bs)) = true ∧ claimB (takeC (readF bs)) = bs then some (takeC (readF bs)) else none := by
  by_cases h : rightC (takeC (readF bs)) = true ∧ claimB (takeC (readF bs)) = bs
  · rw [if_pos h]
    have := getC_claim (takeC (readF bs)) h.1 (fdG_length 5 _)
    rw [h.2] at this
    exact this
  · rw [if_neg h]
    cases hg : getC bs with
    | none => rfl
    | some c =>
      exfalso
      obtain ⟨hr, hd, hb⟩ := getC_some hg
      have hf : readF bs = fieldsN (cL c) := by rw [← hb]; exact (read_row (layE_cL c hd)).2
      apply h
      rw [hf, takeC_cL c hr hd]
      exact ⟨hr, hb⟩
/-- An entry that is taken of a row. -/
def takeE (fs : List (Int × ByteArray)) : EnT := ⟨fdN 1 fs, fdN 2 fs, fdN 3 fs, fdD 4 fs, getSO (fdD 5 fs).data.toList, getCO (fdD 6 fs).data.toList⟩
theorem takeE_ok (fs : List (Int × ByteArray)) : OkE (takeE fs) := ⟨(getSO_ok _).1, (getSO_ok _).2, getCO_ok _⟩
theorem getSO_none : getSO (⟨#[]⟩ : ByteArray).data.toList = zeroS := by
  have h : (Go.Proofs.Ytjpmmbmhkpgjcaa.getS []).isSome = false := by decide +kernel
  unfold getSO
  cases hq : Go.Proofs.Ytjpmmbmhkpgjcaa.getS (⟨#[]⟩ : ByteArray).data.toList with
  | none => rfl
  | some x =>
    have hq' : Go.Proofs.Ytjpmmbmhkpgjcaa.getS [] = some x := hq
    rw [hq'] at h; cases h
theorem getCO_none : getCO (⟨#[]⟩ : ByteArray).data.toList = zeroC := by
  have h : (getC []).isSome = false := by decide +kernel
  unfold getCO
  cases hq : getC (⟨#[]⟩ : ByteArray).data.toList with
  | none => rfl
  | some x =>
    have hq' : getC [] = some x := hq
    rw [hq'] at h; cases h
theorem takeE_fields {x : EnT} (h : rightE x = true) (ok : OkE x) : takeE (fieldsE x) = x := by
  have v0 : vOf (⟨#[]⟩ : ByteArray).data.toList = 0 := rfl
  rcases right_kinds h with ⟨hk, c1, c2, s1, s2, ht, hh, hm⟩ | ⟨hk, hc, hs, ht, hh, hm⟩ | ⟨hk, hc, hs, ht, hh, hm⟩
  · rw [fields_user hk]
    show (⟨vOf (nOf 1).data.toList, vOf (nOf x.c).data.toList, vOf (nOf x.s).data.toList, x.t, getSO (⟨#[]⟩ : ByteArray).data.toList, getCO (⟨#[]⟩ : ByteArray).data.toList⟩ : EnT) = x
    rw [vOf_nOf 1 (by omega), vOf_nOf x.c (by omega), vOf_nOf x.s (by omega), getSO_none, getCO_none]
    exact enT_ext ⟨hk.symm, rfl, rfl, rfl, hh.symm, hm.symm⟩
  · rw [fields_anchor hk]
    show (⟨vOf (nOf 2).data.toList, vOf (⟨#[]⟩ : ByteArray).data.toList, vOf (⟨#[]⟩ : ByteArray).data.toList, ⟨#[]⟩, getSO (signB x.h), getCO (⟨#[]⟩ : ByteArray).data.toList⟩ : EnT) = x
    have e : getSO (signB x.h) = x.h := by unfold getSO; rw [getS_sign x.h hh ok.h ok.g]; rfl
    rw [vOf_nOf 2 (by omega), e, getCO_none, v0]
    exact enT_ext ⟨hk.symm, hc.symm, hs.symm, by rw [empty_of ht]; rfl, rfl, hm.symm⟩
  · rw [fields_claim hk]
    show (⟨vOf (nOf 3).data.toList, vOf (⟨#[]⟩ : ByteArray).data.toList, vOf (⟨#[]⟩ : ByteArray).data.toList, ⟨#[]⟩, getSO (⟨#[]⟩ : ByteArray).data.toList, getCO (claimB x.m)⟩ : EnT) = x
    have e : getCO (claimB x.m) = x.m := by unfold getCO; rw [getC_claim x.m hm ok.m]; rfl
    rw [vOf_nOf 3 (by omega), e, getSO_none, v0]
    exact enT_ext ⟨hk.symm, hc.symm, hs.symm, by rw [empty_of ht]; rfl, hh.symm, rfl⟩
theorem getE_take (bs : List UInt8) : getE bs = if rightE (takeE (readF bs)) = true ∧ entryB (takeE (readF bs)) = bs then some (takeE (readF bs)) else none := by
  by_cases h : rightE (takeE (readF bs)) = true ∧ entryB (takeE (readF bs)) = bs
  · rw [if_pos h]
    have := getE_entry h.1 (takeE_ok _)
    rw [h.2] at this
    exact this
  · rw [if_neg h]
    cases hg : getE bs with
    | none => rfl
    | some c =>
      exfalso
      obtain ⟨hr, ok, hb⟩ := getE_some hg
      have hf : readF bs = fieldsE c := by rw [← hb]; exact (read_row (layE_entry hr ok)).2
      apply h
      rw [hf, takeE_fields hr ok]
      exact ⟨hr, hb⟩
/-- An item that is taken of a row. -/
def takeI (fs : List (Int × ByteArray)) : ItT := ⟨fdN 1 fs, getEO (fdD 2 fs).data.toList⟩
theorem getEO_okT (bs : List UInt8) : OkE (getEO bs) := by
  unfold getEO
  cases h : getE bs with
  | none => exact zeroE_ok
  | some x => exact (getE_some h).2.1
theorem takeI_ok (fs : List (Int × ByteArray)) : OkE (takeI fs).e := getEO_okT _
theorem takeI_iL {x : ItT} (h : rightI x = true) (ok : OkE x.e) : takeI (fieldsN (iL x)) = x := by
  obtain ⟨h1, h2, h3⟩ := (rightI_iff x).1 h
  show (⟨vOf (nOf x.p).data.toList, getEO (entryB x.e)⟩ : ItT) = x
  have e : getEO (entryB x.e) = x.e := by unfold getEO; rw [getE_entry h3 ok]; rfl
  rw [vOf_nOf x.p (by omega), e]
theorem getI_take (bs : List UInt8) : getI bs = if rightI (takeI (readF bs)) = true ∧ itemB (takeI (readF bs)) = bs then some (takeI (readF bs)) else none := by
  by_cases h : rightI (takeI (readF bs)) = true ∧ itemB (takeI (readF bs)) = bs
  · rw [if_pos h]
    have := getI_item h.1 (takeI_ok _)
    rw [h.2] at this
    exact this
  · rw [if_neg h]
    cases hg : getI bs with
    | none => rfl
    | some c =>
      exfalso
      obtain ⟨hr, ok, hb⟩ := getI_some hg
      have hf : readF bs = fieldsN (iL c) := by rw [← hb]; exact (read_row (layE_iL hr ok)).2
      apply h
      rw [hf, takeI_iL hr ok]
      exact ⟨hr, hb⟩
/-! What a thing that is read answers: the thing, and the error. -/
theorem getCO_yes {bs : List UInt8} (h : rightC (takeC (readF bs)) = true ∧ claimB (takeC (readF bs)) = bs) : getCO bs = takeC (readF bs) ∧ getCE bs = 0 := by
  unfold getCO getCE
  rw [getC_take, if_pos h]
  exact ⟨rfl, rfl⟩
theorem getCO_no {bs : List UInt8} (h : ¬ (rightC (takeC (readF bs)) = true ∧ claimB (takeC (readF bs)) = bs)) : getCO bs = zeroC ∧ getCE bs = 60 := by
  unfold getCO getCE
  rw [getC_take, if_neg h]
  exact ⟨rfl, rfl⟩
theorem getEO_yes {bs : List UInt8} (h : rightE (takeE (readF bs)) = true ∧ entryB (takeE (readF bs)) = bs) : getEO bs = takeE (readF bs) ∧ getEE bs = 0 := by
  unfold getEO getEE
  rw [getE_take, if_pos h]
  exact ⟨rfl, rfl⟩
theorem getEO_no {bs : List UInt8} (h : ¬ (rightE (takeE (readF bs)) = true ∧ entryB (takeE (readF bs)) = bs)) : getEO bs = zeroE ∧ getEE bs = 60 := by
  unfold getEO getEE
  rw [getE_take, if_neg h]
  exact ⟨rfl, rfl⟩
theorem getIO_yes {bs : List UInt8} (h : rightI (takeI (readF bs)) = true ∧ itemB (takeI (readF bs)) = bs) : getIO bs = takeI (readF bs) ∧ getIE bs = 0 := by
  unfold getIO getIE
  rw [getI_take, if_pos h]
  exact ⟨rfl, rfl⟩
theorem getIO_no {bs : List UInt8} (h : ¬ (rightI (takeI (readF bs)) = true ∧ itemB (takeI (readF bs)) = bs)) : getIO bs = zeroI ∧ getIE bs = 60 := by
  unfold getIO getIE
  rw [getI_take, if_neg h]
  exact ⟨rfl, rfl⟩
/-! What is taken can lie in a variable. -/
theorem In64.of_v (l : List UInt8) : In64 (vOf l) := by
  unfold vOf In64
  split
  · rename_i h
    unfold isNum at h
    simp only [decide_eq_true_eq] at h
    omega
  · omega
theorem takeC_in (fs : List (Int × ByteArray)) : InC (takeC fs) := ⟨fdG_length 5 fs, In64.of_v _, In64.of_v _, In64.of_v _, In64.of_v _⟩
theorem takeE_in (fs : List (Int × ByteArray)) (hs : ∀ f ∈ fs, f.2.size ≤ 65536) : InE (takeE fs) :=
  ⟨In64.of_v _, In64.of_v _, In64.of_v _, Nat.le_trans (fdD_le 4 65536 fs hs) (by omega), getSO_in _, getCO_in _⟩
theorem takeI_in (fs : List (Int × ByteArray)) : InI (takeI fs) := ⟨In64.of_v _, getEO_in _⟩
end Go.Proofs.Ytjpmmbmhkpgjcaa

/- A record's text, as lists (chapter 15, as this commit of the code lays it). -/
namespace Go.Proofs.Ytjpmmbmhkpgjcaa
open Nums Sums
set_option linter.unusedVariables false
set_option linter.unusedSimpArgs false
set_option maxRecDepth 100000
def headF (r : ReT) : List (Int × ByteArray) := [(1, nOf r.k), (2, nOf r.e), (3, nOf r.f), (4, bA (iB r.x)), (5, bA (cB r.c))]
def oneF (x : ItT) : Int × ByteArray := (6, bA (iB x))
def tailF (l : List ItT) : List (Int × ByteArray) := l.map oneF
def enR (r : ReT) : List UInt8 := rowB (headF r) ++ rowB (tailF r.l)
/-- The first fields of bytes, one behind the other, up to what is none. -/
def fldsK : Nat → List UInt8 → List (Int × ByteArray)
  | 0, _ => []
  | n + 1, bs => if gE bs = 0 then ((gT bs : Int), ⟨(gD bs).toArray⟩) :: fldsK n (bs.drop (gN bs)) else []
def stepR (r : ReT) (f : Int × ByteArray) : ReT :=
  if f.1 = 1 then { r with k := vOf f.2.data.toList } else if f.1 = 2 then { r with e := vOf f.2.data.toList } else if f.1 = 3 then { r with f := vOf f.2.data.toList }
  else if f.1 = 4 then { r with x := getIO f.2.data.toList } else if f.1 = 5 then { r with c := getCO f.2.data.toList } else if f.1 = 6 then { r with l := r.l ++ [getIO f.2.data.toList] } else r
def takeR (fs : List (Int × ByteArray)) : ReT := fs.foldl stepR zeroR
def deR (bs : List UInt8) : ReT := takeR (fldsK 2005 bs)
theorem flds_row : ∀ (fs : List (Int × ByteArray)) (n : Nat), (∀ f ∈ fs, 1 ≤ f.1 ∧ f.1 ≤ 255 ∧ f.2.size ≤ 65536) → fs.length ≤ n → fldsK n (rowB fs) = fs
  | [], n, _, _ => by
    cases n with
    | zero => rfl
    | succ n => rfl
  | f :: r, n, h, hn => by
    cases n with
    | zero => simp at hn
    | succ n =>
      obtain ⟨h1, h2, h3⟩ := h f (List.mem_cons_self ..)
      have e : rowB (f :: r) = fieldBytes f.1.toNat f.2.data.toList ++ rowB r := by rw [rowB, fieldBytesI_nat _ _ ⟨h1, h2⟩]
      obtain ⟨g1, g2, g3, g4⟩ := got_field f.1.toNat f.2.data.toList (rowB r) (by omega) (by simpa using h3)
      rw [e]
      unfold fldsK
      rw [if_pos g1, g2, g3, g4]
      have e2 : (fieldBytes f.1.toNat f.2.data.toList ++ rowB r).drop (fieldBytes f.1.toNat f.2.data.toList).length = rowB r := by
        rw [List.drop_append_of_le_length (Nat.le_refl _), List.drop_of_length_le (Nat.le_refl _), List.nil_append]
      rw [e2, flds_row r n (fun x hx => h x (List.mem_cons_of_mem _ hx)) (by simp at hn; omega)]
      have e3 : ((f.1.toNat : Nat) : Int) = f.1 := by omega
      rw [e3]
theorem flds_65 : ∀ (n : Nat) (bs : List UInt8), ∀ f ∈ fldsK n bs, f.2.size ≤ 65536
  | 0, _, f, hf => by cases hf
  | n + 1, bs, f, hf => by
    unfold fldsK at hf
    split at hf
    · rcases List.mem_cons.1 hf with e | e
      · subst e; exact gD_le bs
      · exact flds_65 n _ f e
    · cases hf
theorem flds_len : ∀ (n : Nat) (bs : List UInt8), (fldsK n bs).length ≤ n
  | 0, _ => Nat.le_refl _
  | n + 1, bs => by
    unfold fldsK
    split
    · simp only [List.length_cons]; have := flds_len n (bs.drop (gN bs)); omega
    · exact Nat.zero_le _
theorem nbK_le {N k : Nat} (h : N < 256 ^ k) (hk : k ≤ 7) : nb N ≤ k := by
  have hN : N < 2 ^ 64 := Nat.lt_of_lt_of_le h (Nat.le_trans (Nat.pow_le_pow_right (by decide) hk) (by decide))
  have hf := fits_nb N hN
  rcases Nat.lt_or_ge k (nb N) with hlt | hge
  · exfalso
    rcases hf.2 with h0 | h0
    · omega
    · have := Nat.pow_le_pow_right (show 0 < 256 by decide) (show k ≤ nb N - 1 by omega)
      omega
  · exact hge
theorem nOfK_size {n : Int} {k : Nat} (h0 : 0 ≤ n) (h : n.toNat < 256 ^ k) (hk : k ≤ 7) : (nOf n).size ≤ k := by
  have hN : n.toNat < 256 ^ 7 := Nat.lt_of_lt_of_le h (Nat.pow_le_pow_right (by decide) hk)
  unfold nOf
  rw [if_pos ⟨h0, by omega⟩]
  show (num n.toNat).toArray.size ≤ k
  rw [List.size_toArray, num_length]
  exact nbK_le h hk
theorem cBK_length {c : ClT} (hd : c.d.length = 32) : (cB c).length ≤ 61 := by
  unfold cB
  split
  · rename_i h
    obtain ⟨h1, h2, h3, h4, h5, h6, h7, h8⟩ := (rightC_iff c).1 h
    have b1 := nOfK_size (n := c.r) (k := 1) (by omega) (by omega) (by decide)
    have b2 := nOfK_size (n := c.e) (k := 4) (by omega) (by omega) (by decide)
    have b3 := nOfK_size (n := c.n) (k := 1) (by omega) (by omega) (by decide)
    have b4 := nOfK_size (n := c.s) (k := 3) (by omega) (by omega) (by decide)
    have e : (claimB c).length = 4 + (nOf c.r).size + (4 + (nOf c.e).size + (4 + (nOf c.n).size + (4 + (nOf c.s).size + (4 + 32)))) := by
      show (rowB [(1, nOf c.r), (2, nOf c.e), (3, nOf c.n), (4, nOf c.s), (5, bA c.d)]).length = _
      simp only [rowB, List.length_append, fieldBytesI_length, List.append_nil, size_list, bA_size, hd]
    omega
  · exact Nat.zero_le _
theorem iB_zero : iB zeroI = [] := by decide +kernel
theorem cB_zero : cB zeroC = [] := by decide +kernel
theorem getIO_iB {x : ItT} (h : rightI x = true ∨ x = zeroI) (ok : OkE x.e) : getIO (iB x) = x := by
  rcases h with h | rfl
  · unfold iB getIO
    rw [if_pos h, getI_item h ok]; rfl
  · rw [iB_zero]
    have h : (getI []).isSome = false := by decide +kernel
    unfold getIO
    cases hq : getI [] with
    | none => rfl
    | some y => rw [hq] at h; cases h
theorem getCO_cB {c : ClT} (h : rightC c = true ∨ c = zeroC) (hd : c.d.length = 32) : getCO (cB c) = c := by
  rcases h with h | rfl
  · unfold cB getCO
    rw [if_pos h, getC_claim c h hd]; rfl
  · rw [cB_zero]
    exact getCO_none
/-- The parts of a record that may be. -/
theorem mayR_parts {r : ReT} (h : mayR r = true) : 1 ≤ r.k ∧ r.k ≤ 4 ∧ 0 ≤ r.e ∧ r.e ≤ 900000000 ∧ 0 ≤ r.f ∧ r.f ≤ 2000 ∧ ((r.k = 2 ∧ rightI r.x = true) ∨ (r.k ≠ 2 ∧ r.x = zeroI)) ∧ ((r.k = 4 ∧ rightC r.c = true ∧ r.e = 0 ∧ r.f = 0) ∨ r.c = zeroC) ∧ rightL r.l = true := by
  have h0 : ∀ l : List ItT, l.length = 0 → rightL l = true := fun l hl => by rw [List.eq_nil_of_length_eq_zero hl]; decide
  rcases mayR_kinds h with e | e | e | e <;> unfold mayR at h
  · rw [if_pos e] at h
    simp only [Bool.and_eq_true, decide_eq_true_eq, eqIB_iff, eqCB_iff] at h
    exact ⟨by omega, by omega, by omega, h.1.1.1.2, by omega, by omega, .inr ⟨by omega, h.1.2.1⟩, .inr h.1.2.2, h0 _ h.2⟩
  · rw [if_neg (by omega), if_pos e] at h
    simp only [Bool.and_eq_true, decide_eq_true_eq, eqIB_iff, eqCB_iff] at h
    exact ⟨by omega, by omega, by omega, by omega, by omega, by omega, .inl ⟨e, h.1.1.2⟩, .inr h.2, h0 _ h.1.2⟩
  · rw [if_neg (by omega), if_neg (by omega), if_pos e] at h
    simp only [Bool.and_eq_true, decide_eq_true_eq, eqIB_iff, eqCB_iff] at h
    exact ⟨by omega, by omega, by omega, by omega, by omega, by omega, .inr ⟨by omega, h.1.2.1⟩, .inr h.1.2.2, h.2⟩
  · rw [if_neg (by omega), if_neg (by omega), if_neg (by omega), if_pos e] at h
    simp only [Bool.and_eq_true, decide_eq_true_eq, eqIB_iff, eqCB_iff] at h
    exact ⟨by omega, by omega, by omega, by omega, by omega, by omega, .inr ⟨by omega, h.1.1.2⟩, .inl ⟨e, h.2, h.1.1.1.1, h.1.1.1.2⟩, h0 _ h.1.2⟩
theorem foldl_tail : ∀ (l : List ItT) (r : ReT), (∀ x ∈ l, rightI x = true ∧ OkE x.e) → (tailF l).foldl stepR r = { r with l := r.l ++ l }
  | [], r, _ => by simp [tailF]
  | x :: l, r, h => by
    have hx := h x (List.mem_cons_self ..)
    have e : stepR r (oneF x) = { r with l := r.l ++ [x] } := by
      unfold stepR oneF
      rw [if_neg (show ¬ (6 : Int) = 1 by decide), if_neg (show ¬ (6 : Int) = 2 by decide), if_neg (show ¬ (6 : Int) = 3 by decide), if_neg (show ¬ (6 : Int) = 4 by decide), if_neg (show ¬ (6 : Int) = 5 by decide), if_pos rfl]
      show ({ r with l := r.l ++ [getIO (bA (iB x)).data.toList] } : ReT) = _
      rw [bA_list, getIO_iB (.inl hx.1) hx.2]
    show (tailF l).foldl stepR (stepR r (oneF x)) = _
    rw [e, foldl_tail l _ (fun y hy => h y (List.mem_cons_of_mem _ hy))]
    simp
theorem headF_ok (r : ReT) (hx : OkE r.x.e) (hc : r.c.d.length = 32) : ∀ f ∈ headF r, 1 ≤ f.1 ∧ f.1 ≤ 255 ∧ f.2.size ≤ 65536 := by
  intro f hf
  have a1 := nOf_size r.k
  have a2 := nOf_size r.e
  have a3 := nOf_size r.f
  have a4 := iB_length r.x hx
  have a5 := cB_length r.c hc
  simp only [headF, List.mem_cons, List.not_mem_nil, or_false] at hf
  rcases hf with rfl | rfl | rfl | rfl | rfl <;> simp only [bA_size] <;> omega
theorem tailF_ok (l : List ItT) (h : ∀ x ∈ l, OkE x.e) : ∀ f ∈ tailF l, 1 ≤ f.1 ∧ f.1 ≤ 255 ∧ f.2.size ≤ 65536 := by
  intro f hf
  obtain ⟨x, hx, rfl⟩ := List.mem_map.1 hf
  have := iB_length x (h x hx)
  exact ⟨(by decide : (1 : Int) ≤ 6), (by decide : (6 : Int) ≤ 255), by show (bA (iB x)).size ≤ _; rw [bA_size]; omega⟩
theorem de_en {r : ReT} (h : mayR r = true) (hl : ∀ x ∈ r.l, OkE x.e) (hx : OkE r.x.e) (hc : r.c.d.length = 32) : deR (enR r) = r := by
  obtain ⟨h1, h2, h3, h4, h5, h6, h7, h8, h9⟩ := mayR_parts h
  have hlen := ((rightL_iff r.l).1 h9).1
  unfold deR enR
  rw [← rowB_append, flds_row _ _ (fun f hf => by
    rcases List.mem_append.1 hf with q | q
    · exact headF_ok r hx hc f q
    · exact tailF_ok r.l hl f q) (by rw [List.length_append]; show 5 + (tailF r.l).length ≤ 2005; unfold tailF; rw [List.length_map]; omega)]
  unfold takeR
  rw [List.foldl_append]
  have e : (headF r).foldl stepR zeroR = { r with l := [] } := by
    have q1 := vOf_nOf r.k (by omega)
    have q2 := vOf_nOf r.e (by omega)
    have q3 := vOf_nOf r.f (by omega)
    have q4 : getIO (bA (iB r.x)).data.toList = r.x := by rw [bA_list]; exact getIO_iB (by rcases h7 with q | q; exact .inl q.2; exact .inr q.2) hx
    have q5 : getCO (bA (cB r.c)).data.toList = r.c := by rw [bA_list]; exact getCO_cB (by rcases h8 with q | q; exact .inl q.2.1; exact .inr q) hc
    simp [headF, stepR, q1, q2, q3, q4, q5, zeroR]
  rw [e, foldl_tail r.l _ (fun x hx => ⟨right_item h9 hx, hl x hx⟩)]
  simp
theorem en_length {r : ReT} (h : mayR r = true) (hl : ∀ x ∈ r.l, OkE x.e) (hx : OkE r.x.e) (hc : r.c.d.length = 32) : (enR r).length ≤ 100 + 300 * r.l.length + (if r.k = 2 then 300 else 0) := by
  obtain ⟨h1, h2, h3, h4, h5, h6, h7, h8, h9⟩ := mayR_parts h
  have b1 := nOfK_size (n := r.k) (k := 1) (by omega) (by omega) (by decide)
  have b2 := nOfK_size (n := r.e) (k := 4) (by omega) (by omega) (by decide)
  have b3 := nOfK_size (n := r.f) (k := 2) (by omega) (by omega) (by decide)
  have e : (rowB (headF r)).length = 4 + (nOf r.k).size + (4 + (nOf r.e).size + (4 + (nOf r.f).size + (4 + (iB r.x).length + (4 + (cB r.c).length)))) := by
    simp only [headF, rowB, List.length_append, fieldBytesI_length, List.append_nil, size_list, bA_size]
  have et : ∀ l : List ItT, (∀ x ∈ l, OkE x.e) → (rowB (tailF l)).length ≤ 300 * l.length := fun l => by
    induction l with
    | nil => intro _; exact Nat.le_refl _
    | cons x l ih =>
      intro hk
      have h1 := ih fun y hy => hk y (List.mem_cons_of_mem _ hy)
      have h2 := iB_length x (hk x (List.mem_cons_self ..))
      have e : (rowB (tailF (x :: l))).length = 4 + (iB x).length + (rowB (tailF l)).length := by
        show (fieldBytesI 6 (bA (iB x)).data.toList ++ rowB (tailF l)).length = _
        rw [List.length_append, fieldBytesI_length, size_list, bA_size]
      rw [e, List.length_cons]
      omega
  have e2 := et r.l hl
  unfold enR
  rw [List.length_append, e]
  have hi : (iB r.x).length ≤ (if r.k = 2 then 256 else 0) := by
    rcases h7 with q | q
    · rw [if_pos q.1]; exact iB_length r.x hx
    · rw [q.2, iB_zero]; exact Nat.zero_le _
  rcases h8 with q | q
  · have b5 := cBK_length hc
    have z2 : (nOf r.e).size = 0 := by rw [q.2.2.1]; rfl
    have z3 : (nOf r.f).size = 0 := by rw [q.2.2.2]; rfl
    split <;> split at hi <;> omega
  · rw [q, cB_zero]
    split <;> split at hi <;> simp only [List.length_nil] <;> omega
theorem take_ok : ∀ (fs : List (Int × ByteArray)) (r : ReT), (∀ x ∈ r.l, OkE x.e) → OkE r.x.e → r.c.d.length = 32 → (∀ x ∈ (fs.foldl stepR r).l, OkE x.e) ∧ OkE (fs.foldl stepR r).x.e ∧ (fs.foldl stepR r).c.d.length = 32
  | [], r, h1, h2, h3 => ⟨h1, h2, h3⟩
  | f :: fs, r, h1, h2, h3 => by
    refine take_ok fs (stepR r f) ?_ ?_ ?_ <;> unfold stepR <;> split <;> (try assumption) <;> split <;> (try assumption) <;> split <;> (try assumption) <;> split <;> (try assumption) <;> (try exact (getIO_in _).e.ok) <;> split <;> (try assumption) <;> (try exact (getCO_in _).d) <;> split <;> (try assumption)
    intro x hx
    rcases List.mem_append.1 hx with q | q
    · exact h1 x q
    · rw [List.mem_singleton.1 q]; exact (getIO_in _).e.ok
theorem de_ok (bs : List UInt8) : (∀ x ∈ (deR bs).l, OkE x.e) ∧ OkE (deR bs).x.e ∧ (deR bs).c.d.length = 32 := take_ok _ zeroR (fun x hx => by cases hx) zeroE_ok rfl
end Go.Proofs.Ytjpmmbmhkpgjcaa

/- What EntryBytes says of any input, over what the calls of package entry answer. -/
namespace Go.Proofs.Ytjpmmbmhkpgjcaa
open Go.RowKit Sums Nums
set_option linter.unusedVariables false
set_option linter.unusedSimpArgs false
set_option maxRecDepth 100000
/-- An entry, an item that came in: its text may be of any length. -/
structure CmE (x : EnT) : Prop where
  k : In64 x.k
  c : In64 x.c
  s : In64 x.s
  t : x.t.size ≤ maxLen
  h : InS x.h
  m : InC x.m
theorem CmE.ok {x : EnT} (h : CmE x) : OkE x := ⟨h.h.h.d, h.h.g, h.m.d⟩
theorem CmE.in {x : EnT} (h : CmE x) (ht : ¬ 16384 < x.t.size) : InE x := ⟨h.k, h.c, h.s, by omega, h.h, h.m⟩
structure CmI (x : ItT) : Prop where
  p : In64 x.p
  e : CmE x.e
theorem CmI.in {x : ItT} (h : CmI x) (ht : ¬ 16384 < x.e.t.size) : InI x := ⟨h.p, h.e.in ht⟩
end Go.Proofs.Ytjpmmbmhkpgjcaa

/- Variables of many cells within a fence. -/
namespace Go.Proofs.Ytjpmmbmhkpgjcaa
open Go.RowKit Go.Shelf Nums Sums
set_option linter.unusedVariables false
set_option linter.unusedSimpArgs false
set_option maxRecDepth 100000
theorem wpListIn_new_var {F : Fence} {n : Nat} {P : Program} {ops : Array Oper} {rest : List Oper} {o : Oper} {a : Act} {w : World} {Q : Exit → Act → World → Prop} (hg : o.guard = none) (t : TypeId) (ho : o.op = .alloc t)
    (cs : Array Value) (hz : (P.info? t).map (fun i => (i.zero, i.size)) = some (some (.agg cs), cs.size)) (h : ∀ g w', Hid (Made g cs t w w') → wpListIn F n P ops Q rest (a.put o.dst (.pointer (some ⟨g, 0, none⟩))) w') : wpListIn F n P ops Q (o :: rest) a w := by
  refine wpListIn_plain hg fun K hK => ?_
  have hk := hK _ _ (h w.heap.size _ ⟨rfl, heap_alloc_new w _, (Below.refl _ _).alloc (Nat.le_refl _) _⟩)
  refine ⟨fun f hf => (by simp [Oper.about, ho] at hf), ?_⟩
  rw [Oper.semAt_plain F _ _ (by rw [ho]; intro c hc; cases hc)]
  unfold execOp
  cases hq : P.info? t with
  | none => simp [hq] at hz
  | some i =>
    simp [hq] at hz
    simp [ho, Instr.alloc, newVar, zeroValue, typeInfo, hq, hz.1, go_sem]
    exact hk
theorem wpListIn_set_var {F : Fence} {n : Nat} {P : Program} {ops : Array Oper} {rest : List Oper} {o : Oper} {a : Act} {w : World} {Q : Exit → Act → World → Prop} (hgd : o.guard = none) (t : TypeId) (x y : Operand) (ho : o.op = .store t x y)
    (g : Nat) (D : Array Value) (hx : a.eval x = .pointer (some ⟨g, 0, none⟩)) (hy : a.eval y = .agg D) (t' : TypeId) (Z : Array Value) (hg : w.heap[g]? = some (.cells Z t' (0, 0))) (hi : (P.info? t).map (·.size) = some D.size) (hold : Z.size = D.size) (h1 : D.all (·.oneCell') = true)
    (h : ∀ w', Hid (Wrote g D t' w w') → wpListIn F n P ops Q rest (a.put o.dst undef) w') : wpListIn F n P ops Q (o :: rest) a w := by
  refine wpListIn_plain hgd fun K hK => ?_
  have hk := hK _ _ (h _ (wrote_row hg))
  refine ⟨fun f hf => (by simp [Oper.about, ho] at hf), ?_⟩
  rw [Oper.semAt_plain F _ _ (by rw [ho]; intro c hc; cases hc)]
  unfold execOp
  simp [ho, hx, hy, Instr.storeAt, Instr.sureAddr, Sem.run_bind, Result.andThen, run_storeVar_row w g t' t Z D hg hi hold h1]
  exact hk
theorem wpListIn_mid {F : Fence} {n : Nat} {P : Program} {ops : Array Oper} {rest : List Oper} {op : Oper} {a : Act} {w : World} {Q : Exit → Act → World → Prop} (hw : Region.wanted op (yielded ops a.tmps) = true) (ty : TypeId) (x : Operand) (ho : op.op = .load ty x)
    (b o : Nat) (hx : a.eval x = .pointer (some ⟨b, o, none⟩)) (D : Array Value) (d : TypeDesc) (hc : w.rangeAt b o D.toList)
    (hu : P.underlying ty = some d) (hd : d.isRow = true) (hi : (P.info? ty).map (·.size) = some D.size)
    (h : wpListIn F n P ops Q rest (a.put op.dst (.agg D)) w) : wpListIn F n P ops Q (op :: rest) a w := by
  refine BigFrame.wpListIn_want hw fun K hK => ?_
  have hk := hK _ _ h
  refine ⟨fun f hf => (by simp [Oper.about, ho] at hf), ?_⟩
  rw [Oper.semAt_plain F _ _ (by rw [ho]; intro c hc; cases hc)]
  unfold execOp
  simp only [ho, hx, Instr.loadAt, Instr.sureAddr, Sem.run_bind, Sem.run_pure, Result.andThen_ok, run_loadVar_mid w b o ty D.toList d hc hu hd (by simpa using hi)]
  exact hk
end Go.Proofs.Ytjpmmbmhkpgjcaa

/- What the small calls of package entry answer: within, CheckClaim, numberField; bytes.Equal; what a row's data, number and digest answer. -/
namespace Go.Proofs.Ytjpmmbmhkpgjcaa
open Go.RowKit Sums Nums
set_option linter.unusedVariables false
set_option linter.unusedSimpArgs false
set_option maxRecDepth 100000
theorem eWithin_any (n a b : Int) (w : World) : Calls Try.prog 85 #[.int .i64 n, .int .i64 a, .int .i64 b] w fun e w' => e = .returned (.bool (decide (a ≤ n) && decide (n ≤ b))) ∧ w' = w := by
  by_cases h1 : a ≤ n
  · have d1 : decide (a ≤ n) = true := by rw [decide_eq_true_eq]; exact h1
    obtain ⟨x, hx⟩ : ∃ x, decide (n ≤ b) = x := ⟨_, rfl⟩
    rw [d1, hx]
    clear h1
    go_enter Try.func85, Try.ntmps85
    go_wp2
    go_ret
    exact ⟨rfl, rfl⟩
  · have d1 : decide (a ≤ n) = false := by rw [decide_eq_false_iff_not]; exact h1
    rw [d1]
    clear h1
    go_enter Try.func85, Try.ntmps85
    go_wp2
    go_ret
    exact ⟨rfl, rfl⟩
set_option maxHeartbeats 2000000 in
theorem eCheckC_any (c : ClT) (w : World) (C : Array Value) (HC : Hid (C = (ccells c).toArray)) :
    Calls Try.prog 61 #[.agg C] w fun e w' => e = .returned (.int .i64 (cE c)) ∧ Below w.heap.size w w' := by
  have HR := crow_new w c C HC 36
  have HB : Hid (Below w.heap.size w (w.alloc (.cells C 36))) := (Below.refl _ _).alloc (Nat.le_refl _) _
  have hnot : ∀ (x : Bool) (w : World), (Op.unary .not (.bool x)).run Try.prog w = .ok (.bool (!x)) w := fun _ _ => rfl
  have c0 := HR.r
  have c1 := HR.e
  have c2 := HR.n
  have c3 := HR.s
  simp only [Nat.zero_add] at c1 c2 c3
  have WI : Hid (∀ (n a b : Int) (W : World), Calls Try.prog 85 #[.int .i64 n, .int .i64 a, .int .i64 b] W fun e w' => e = .returned (.bool (decide (a ≤ n) && decide (n ≤ b))) ∧ w' = W) := eWithin_any
  obtain ⟨b1, hb1⟩ : ∃ b, (decide (1 ≤ c.r) && decide (c.r ≤ 5)) = b := ⟨_, rfl⟩
  obtain ⟨b2, hb2⟩ : ∃ b, (decide (1 ≤ c.e) && decide (c.e ≤ 900000000)) = b := ⟨_, rfl⟩
  obtain ⟨b3, hb3⟩ : ∃ b, (decide (1 ≤ c.n) && decide (c.n ≤ 3)) = b := ⟨_, rfl⟩
  obtain ⟨b4, hb4⟩ : ∃ b, (decide (0 ≤ c.s) && decide (c.s ≤ 100000)) = b := ⟨_, rfl⟩
  have W1 := hidk (WI.out c.r 1 5)
  have W2 := hidk (WI.out c.e 1 900000000)
  have W3 := hidk (WI.out c.n 1 3)
  have W4 := hidk (WI.out c.s 0 100000)
  rw [hb1] at W1
  rw [hb2] at W2
  rw [hb3] at W3
  rw [hb4] at W4
  have hE : cE c = if (b1 && (b2 && (b3 && b4))) = true then 0 else 60 := by
    rw [← hb1, ← hb2, ← hb3, ← hb4]
    unfold cE rightC
    simp only [Bool.and_assoc]
  rw [hE]
  obtain ⟨r, hr⟩ : ∃ r, r = c.r := ⟨_, rfl⟩
  obtain ⟨e, he⟩ : ∃ r, r = c.e := ⟨_, rfl⟩
  obtain ⟨n, hn⟩ : ∃ r, r = c.n := ⟨_, rfl⟩
  obtain ⟨s, hs⟩ : ∃ r, r = c.s := ⟨_, rfl⟩
  rw [← hr] at c0 W1
  rw [← he] at c1 W2
  rw [← hn] at c2 W3
  rw [← hs] at c3 W4
  clear hE hb1 hb2 hb3 hb4 WI HR hr he hn hs HC
  cases b1
  · go_enter Try.func61, Try.ntmps61
    go_wp2_with fail
    refine (W1.out _).mono ?_
    rintro e w1 ⟨rfl, rfl⟩
    go_wp2
    go_ret
    exact ⟨rfl, HB.out⟩
  cases b2
  · go_enter Try.func61, Try.ntmps61
    go_wp2_with fail
    refine (W1.out _).mono ?_
    rintro e w1 ⟨rfl, rfl⟩
    go_wp2_with fail
    refine (W2.out _).mono ?_
    rintro e w1 ⟨rfl, rfl⟩
    go_wp2
    go_ret
    exact ⟨rfl, HB.out⟩
  cases b3
  · go_enter Try.func61, Try.ntmps61
    go_wp2_with fail
    refine (W1.out _).mono ?_
    rintro e w1 ⟨rfl, rfl⟩
    go_wp2_with fail
    refine (W2.out _).mono ?_
    rintro e w1 ⟨rfl, rfl⟩
    go_wp2_with fail
    refine (W3.out _).mono ?_
    rintro e w1 ⟨rfl, rfl⟩
    go_wp2
    go_ret
    exact ⟨rfl, HB.out⟩
  cases b4
  · go_enter Try.func61, Try.ntmps61
    go_wp2_with fail
    refine (W1.out _).mono ?_
    rintro e w1 ⟨rfl, rfl⟩
    go_wp2_with fail
    refine (W2.out _).mono ?_
    rintro e w1 ⟨rfl, rfl⟩
    go_wp2_with fail
    refine (W3.out _).mono ?_
    rintro e w1 ⟨rfl, rfl⟩
    go_wp2_with fail
    refine (W4.out _).mono ?_
    rintro e w1 ⟨rfl, rfl⟩
    go_wp2
    go_ret
    exact ⟨rfl, HB.out⟩
  · go_enter Try.func61, Try.ntmps61
    go_wp2_with fail
    refine (W1.out _).mono ?_
    rintro e w1 ⟨rfl, rfl⟩
    go_wp2_with fail
    refine (W2.out _).mono ?_
    rintro e w1 ⟨rfl, rfl⟩
    go_wp2_with fail
    refine (W3.out _).mono ?_
    rintro e w1 ⟨rfl, rfl⟩
    go_wp2_with fail
    refine (W4.out _).mono ?_
    rintro e w1 ⟨rfl, rfl⟩
    go_wp2
    go_ret
    exact ⟨rfl, HB.out⟩
set_option maxHeartbeats 2000000 in
theorem eNum_any (t n : Int) (w : World) : Calls Try.prog 71 #[.int .i64 t, .int .i64 n] w fun e w' => e = .returned (.agg #[.int .i64 t, .string (nOf n)]) ∧ Below w.heap.size w w' := by
  obtain ⟨x, Hx⟩ : ∃ x : ByteArray, Hid (x = nOf n) := ⟨nOf n, hidk rfl⟩
  obtain ⟨E, HE⟩ : ∃ E, Hid (E = neOf n) := ⟨_, hidk rfl⟩
  have N1 : Hid (∀ W, Calls Try.prog 74 #[.int .i64 n] W fun e w' => e = .returned (.tuple #[.string x, .int .i64 E]) ∧ Below W.heap.size W w') := fun W => by rw [Hx.out, HE.out]; exact number_any n W
  rw [← Hx.out]
  clear Hx HE
  go_enter Try.func71, Try.ntmps71
  go_wp2_with fail
  refine (N1.out _).mono ?_
  rintro e w1 ⟨rfl, hb1⟩
  have hlt : w.heap.size < w1.heap.size := by have := hb1.size; simp at this; omega
  have hg : w1.heap[w.heap.size]? = some (.cells #[.int .i64 0, .string ⟨#[]⟩] 85 (0, 0)) := (hb1.block _ (by simp)).trans (heap_alloc_new w _)
  have c0 : w1.cell? ⟨w.heap.size, 0, none⟩ = some (.int .i64 0) := by rw [cell_of_row w1 _ 0 _ 85 (0, 0) hg]; rfl
  have c1 : w1.cell? ⟨w.heap.size, 1, none⟩ = some (.string ⟨#[]⟩) := by rw [cell_of_row w1 _ 1 _ 85 (0, 0) hg]; rfl
  have HB : Hid (Below w.heap.size w w1) := ((Below.refl _ _).alloc (Nat.le_refl _) _).trans (hb1.mono (by simp))
  have f0 : w1.frozen? ⟨w.heap.size, 0, none⟩ = false := frozen_of_row w1 _ 0 _ _ hg
  have f1 : w1.frozen? ⟨w.heap.size, 1, none⟩ = false := frozen_of_row w1 _ 1 _ _ hg
  clear hb1
  have HG2 := hidk (Go.heap_setCell_same _ _ 1 _ _ (.string x) (Go.heap_setCell_same w1 _ 0 _ _ (.int .i64 t) hg))
  clear hg
  go_wp2
  refine bodyPost_ret (v := .agg #[.int .i64 t, .string x]) ?_ rfl ⟨rfl, (HB.out.setCell (Nat.le_refl _) _).setCell (Nat.le_refl _) _⟩
  exact results_cell_row (p := 4) (ty := 85) rfl _ _ w.heap.size 85 #[.int .i64 t, .string x] (0, 0) _ rfl HG2.out Try.underlying85 rfl (by kernel_rfl)
theorem eSame_any (a b : Option Addr) (la ca lb cb : Nat) (l r : List UInt8) (w : World) (h1 : Reads w a la ca l) (h2 : Reads w b lb cb r) (x : Bool) (hx : x = true ↔ l = r) :
    Calls Try.prog 113 #[.slice a la ca, .slice b lb cb] w fun e w' => e = .returned (.bool x) ∧ w' = w := by
  have k1 := conv_reads h1
  have k2 := conv_reads h2
  obtain ⟨s, hs⟩ : ∃ s : ByteArray, s = ⟨l.toArray⟩ := ⟨_, rfl⟩
  obtain ⟨t, ht⟩ : ∃ s : ByteArray, s = ⟨r.toArray⟩ := ⟨_, rfl⟩
  have hq : (s.toList == t.toList) = x := by
    cases x
    · have hne : l ≠ r := fun h => by have := hx.2 h; cases this
      exact text_ne fun e => hne (by rw [hs, ht] at e; have := congrArg (fun z : ByteArray => z.data.toList) e; simpa using this)
    · rw [hs, ht, hx.1 rfl]; exact beq_self_eq_true _
  rw [← hs] at k1
  rw [← ht] at k2
  clear h1 h2 hs ht hx
  go_enter Try.func113, Try.ntmps113
  go_wp2
  go_ret
  exact ⟨rfl, rfl⟩
set_option maxHeartbeats 4000000 in
theorem eData_any (n₀ : Nat) (a : Option Addr) (len cap : Nat) (fs : List (Int × ByteArray)) (tag : Int) (w : World) (hR : FReads n₀ w a len cap fs) (hn : n₀ ≤ w.heap.size) :
    Calls Try.prog 126 #[.slice a len cap, .int .i64 tag] w fun e w' => e = .returned (.string (fdD tag fs)) ∧ Below w.heap.size w w' := by
  have hlen := hR.1
  have hmx : len ≤ 9223372036854775807 := by have h2 := hR.2.1; have h3 := hR.2.2.1; omega
  have HR := hidk hR
  have hz : ∀ w, (sizeOf 85).run Try.prog w = .ok 2 w := fun w => sizeOf_of (by kernel_rfl) w
  obtain ⟨x, Hx⟩ : ∃ x, Hid (x = fdD tag fs) := ⟨_, hidk rfl⟩
  rw [← Hx.out]
  clear hR
  go_enter Try.func126, Try.ntmps126
  go_wp2
  go_loopw [9] (fun v wr => ∃ k : Nat, k ≤ len ∧ v = .int .i64 k ∧ Hid (Below w.heap.size w wr ∧ x = fdD tag (fs.drop k))) (fun v _ => len - (intOf v).toNat)
  case atStart => exact ⟨0, by omega, rfl, ⟨Below.refl _ _, by rw [List.drop_zero]; exact Hx.out⟩⟩
  case round =>
    obtain ⟨k, hk, rfl, HK⟩ := hrel
    by_cases hlt : k < len
    · have hdk : decide ((k : Int) < (len : Int)) = true := by rw [decide_eq_true_eq]; omega
      have hw := wrap_int ((k : Int) + 1) (by omega) (by omega)
      have hkf : k < fs.length := by omega
      obtain ⟨b, off, rfl, hbn, hcell⟩ : ∃ b off, a = some ⟨b, off, none⟩ ∧ b < n₀ ∧ ∀ (i : Nat) (h : i < fs.length), w.cell? ⟨b, off + i * 2, none⟩ = some (.int .i64 fs[i].1) ∧ w.cell? ⟨b, off + i * 2 + 1, none⟩ = some (.string fs[i].2) := by
        rcases HR.out.2.2.2.2 with ⟨_, h0⟩ | ⟨_, _, h0⟩ | ⟨b, off, e, hb, hc⟩
        · have := HR.out.2.1; omega
        · omega
        · exact ⟨b, off, e, hb, hc⟩
      have hcc := hcell k hkf
      obtain ⟨⟨tg, dt⟩, hf⟩ : ∃ f, f = fs[k] := ⟨_, rfl⟩
      rw [← hf] at hcc
      have c1 := (HK.out.1.cell (p := ⟨b, off + k * 2, none⟩) (by show b < _; omega)).trans hcc.1
      have c2 := (HK.out.1.cell (p := ⟨b, off + k * 2 + 1, none⟩) (by show b < _; omega)).trans hcc.2
      simp only at c1 c2
      have hx : x = if tg = tag then dt else fdD tag (fs.drop (k + 1)) := by
        rw [HK.out.2, List.drop_eq_getElem_cons hkf, ← hf]
        rfl
      have ix : ∀ W, (Instr.indexAt 149 (.slice (some ⟨b, off, none⟩) len cap) (.int .i64 (k : Int))).run Try.prog W = .ok (.pointer (some ⟨b, off + k * 2, none⟩)) W := fun W => by
        simp [Instr.indexAt, asIntOf, run_underlying Try.underlying149, hz, hlt]
        rw [add_plain]
      have HB := hidk (HK.out.1.alloc HK.out.1.size (.cells #[.int .i64 tg, .string dt] 85))
      clear hcell hcc hf HR
      by_cases ht : tg = tag
      · rw [if_pos ht] at hx
        subst hx ht
        clear HK
        go_wp2
        go_ret
        exact ⟨rfl, HB.out⟩
      · rw [if_neg ht] at hx
        have hb : (tg == tag) = false := by rw [beq_eq_false_iff_ne]; exact ht
        have HX := hidk hx
        clear hx HK
        go_wp2
        go_roundw
        case rel => exact ⟨k + 1, by omega, by go_num, ⟨HB.out, HX.out⟩⟩
        case measure => simp [intOf]; omega
    · obtain rfl : len = k := by omega
      have hx : x = ⟨#[]⟩ := by rw [HK.out.2, List.drop_of_length_le (by omega)]; rfl
      subst hx
      go_wp2
      go_ret
      exact ⟨rfl, HK.out.1⟩
set_option maxHeartbeats 2000000 in
theorem eNumber_any (n₀ : Nat) (a : Option Addr) (len cap : Nat) (fs : List (Int × ByteArray)) (tag : Int) (w : World) (hR : FReads n₀ w a len cap fs) (hn : n₀ ≤ w.heap.size) :
    Calls Try.prog 114 #[.slice a len cap, .int .i64 tag] w fun e w' => e = .returned (.int .i64 (fdN tag fs)) ∧ Below w.heap.size w w' := by
  have D1 := hidk (eData_any n₀ a len cap fs tag w hR hn)
  have hs := fdD_le tag maxLen fs hR.2.2.2.1
  unfold fdN
  obtain ⟨d, hd⟩ : ∃ d, d = fdD tag fs := ⟨_, rfl⟩
  rw [← hd] at D1 hs ⊢
  obtain ⟨n, hn'⟩ : ∃ n, n = vOf d.data.toList := ⟨_, rfl⟩
  obtain ⟨E, hE⟩ : ∃ n, n = eOf d.data.toList := ⟨_, rfl⟩
  have V1 : Hid (∀ W, Calls Try.prog 93 #[.string d] W fun e w' => e = .returned (.tuple #[.int .i64 n, .int .i64 E]) ∧ W = w') := fun W => by rw [hn', hE]; exact value_any d W hs
  rw [← hn']
  clear hd hn' hE hs hR
  go_enter Try.func114, Try.ntmps114
  go_wp2_with fail
  refine D1.out.mono ?_
  rintro e w1 ⟨rfl, hb1⟩
  have HB := hidk hb1
  clear hb1
  go_wp2_with fail
  refine (V1.out _).mono ?_
  rintro e w2 ⟨rfl, rfl⟩
  go_wp2
  go_ret
  exact ⟨rfl, HB.out⟩
/-! A digest's bytes copied out of a text of any length. -/
theorem run_copy_upto {P : Program} (w : World) (dT sT ty elem : TypeId) (g : Nat) (s : ByteArray) (cur : Array Value) (t : TypeId) (k : Nat)
    (hu : P.underlying dT = some (.slice elem)) (hs : (P.info? elem).map (·.size) = some 1) (hg : w.heap[g]? = some (.cells cur t (0, 0))) (hc : cur.size = 32) (hk : k = Nat.min s.size 32) :
    (Builtin.copy_ #[dT, sT] ty #[.slice (some ⟨g, 0, none⟩) 32 32, .string s]).run P w =
      .ok (goInt k) (w.setRow g (Lib.byteCells (s.data.toList.take k) ++ cur.toList.drop k).toArray) := by
  have hk2 : k ≤ s.size := by rw [hk]; exact Nat.min_le_left _ _
  have hk3 : k ≤ 32 := by rw [hk]; exact Nat.min_le_right _ _
  have hsz : s.data.toList.length = s.size := rfl
  have hlen : (Lib.byteCells (s.data.toList.take k)).length = k := by rw [Lib.byteCells_length, List.length_take, hsz]; omega
  have hst := run_storeCells_at P g 0 t (Lib.byteCells (s.data.toList.take k)) 0 cur w hg (by rw [hlen]; omega) (Lib.byteCells_one _)
  have hmin : Nat.min s.size 32 = k := hk.symm
  have htk : List.take k (List.map (fun b : UInt8 => Value.int IntKind.u8 (b.toNat : Int)) s.data.toList) = Lib.byteCells (s.data.toList.take k) := by
    rw [← List.map_take]
    rfl
  rw [hlen] at hst
  simp only [Nat.add_zero, List.take_zero, List.nil_append, Nat.zero_add] at hst
  clear hk
  cases hq : P.info? elem with
  | none => simp [hq] at hs
  | some i =>
    simp [Builtin.copy_, run_underlying hu, Builtin.lenOf, Builtin.firstCells, sizeOf, typeInfo, hq, hmin]
    rw [htk, hst]
    simp [Result.andThen]
theorem step_copy_text {ops : Array Oper} {o : Oper} {a : Act} {w : World} {K : Act → World → Prop} {Q : Exit → Act → World → Prop} {E : Prop} (hw : Region.wanted o (yielded ops a.tmps) = true) (s x : Operand) (hop : o.op = Op.call { callee := Callee.builtin Builtin.copy, args := #[s, x], argTypes := #[61, 9] })
    (g : Nat) (t : TypeId) (hs : a.eval s = .slice (some ⟨g, 0, none⟩) 32 32) (u : ByteArray) (hx : a.eval x = .string u) (Z D : Array Value) (HZ : Hid (Z = (cellsOf (List.replicate 32 0)).toArray)) (HD : Hid (D = (cellsOf (u.data.toList.take 32 ++ List.replicate (32 - u.size) 0)).toArray))
    (hg : w.heap[g]? = some (.cells Z t (0, 0))) (k : Nat) (hk : k = Nat.min u.size 32)
    (h : ∀ w', Hid (Wrote g D t w w') → K (a.put o.dst (.int .i64 k)) w') : if Region.wanted o (yielded ops a.tmps) = true then Oper.wp Try.prog o a w K Q else E := by
  rw [if_pos hw]
  have hz : Z.size = 32 := by rw [HZ.out]; simp [cellsOf_length]
  have hrun := run_copy_upto (P := Try.prog) w 61 9 o.type 5 g u Z t k Try.underlying61 (by kernel_rfl) hg hz hk
  have hsz : u.data.toList.length = u.size := rfl
  have e : (Lib.byteCells (u.data.toList.take k) ++ Z.toList.drop k).toArray = D := by
    rw [HD.out, HZ.out]
    congr 1
    have e1 : u.data.toList.take k = u.data.toList.take 32 := by
      rw [hk]
      by_cases h32 : u.size ≤ 32
      · rw [show Nat.min u.size 32 = u.size from Nat.min_eq_left h32, List.take_of_length_le (by omega), List.take_of_length_le (by omega)]
      · rw [show Nat.min u.size 32 = 32 from Nat.min_eq_right (by omega)]
    rw [e1]
    show List.map _ _ ++ List.drop k (List.map _ _) = List.map _ (_ ++ _)
    rw [List.map_append, ← List.map_drop, List.drop_replicate]
    congr 3
    rw [hk]
    by_cases h32 : u.size ≤ 32
    · rw [show Nat.min u.size 32 = u.size from Nat.min_eq_left h32]
    · rw [show Nat.min u.size 32 = 32 from Nat.min_eq_right (by omega)]; omega
  rw [e] at hrun
  unfold Oper.wp
  simp [execOp, hop, resolve, invoke, builtin, hs, hx, hrun, Result.andThen, goInt]
  exact h _ (wrote_row hg)
set_option maxHeartbeats 4000000 in
theorem eDigest_any (n₀ : Nat) (a : Option Addr) (len cap : Nat) (fs : List (Int × ByteArray)) (tag : Int) (w : World) (hR : FReads n₀ w a len cap fs) (hn : n₀ ≤ w.heap.size) (D : Array Value) (HD : Hid (D = (cellsOf (fdG tag fs)).toArray)) :
    Calls Try.prog 115 #[.slice a len cap, .int .i64 tag] w fun e w' => e = .returned (.agg D) ∧ Below w.heap.size w w' := by
  obtain ⟨Z, HZ, HA, HS, H1, H32⟩ := noughts27
  have D1 : Hid (∀ W, Below w.heap.size w W → Calls Try.prog 126 #[.slice a len cap, .int .i64 tag] W fun e w' => e = .returned (.string (fdD tag fs)) ∧ Below W.heap.size W w') := fun W hb => eData_any n₀ a len cap fs tag W ((hR.below (hb.mono hn))) (Nat.le_trans hn hb.size)
  have HSD : Hid ((Try.prog.info? 30).map (·.size) = some D.size) := by show _ = _; rw [size23, HD.out]; simp [cellsOf_length, fdG_length]
  have H1D : Hid (D.all (·.oneCell') = true) := by show _ = _; rw [HD.out]; exact cellsOf_all _
  have HZD : Hid (Z.size = D.size) := by show _ = _; rw [H32.out, HD.out]; simp [cellsOf_length, fdG_length]
  have HDD : Hid (D = (cellsOf ((fdD tag fs).data.toList.take 32 ++ List.replicate (32 - (fdD tag fs).size) 0)).toArray) := HD
  obtain ⟨u, hu⟩ : ∃ u, u = fdD tag fs := ⟨_, rfl⟩
  rw [← hu] at D1 HDD
  obtain ⟨k, Hk⟩ : ∃ k, Hid (k = Nat.min u.size 32) := ⟨_, hidk rfl⟩
  have hsl := slice_at
  clear hR HD hu
  go_enter Try.func115, Try.ntmps115
  go_wp2_with (first
    | (show wpList _ _ _ ({ dst := some 4, op := _, type := _, pos := _, after := _, guard := _ } :: _) _ _; refine wpList_new_var rfl 30 rfl Z HA.out ?_; intro g4 w1 HM4; try simp only [Act.put, List.setIfInBounds_toArray, List.set_cons_zero, List.set_cons_succ])
    | (show wpList _ _ _ ({ dst := some 5, op := _, type := _, pos := _, after := _, guard := _ } :: _) _ _; refine wpList_new_var rfl 30 rfl Z HA.out ?_; intro g5 w2 HM5; try simp only [Act.put, List.setIfInBounds_toArray, List.set_cons_zero, List.set_cons_succ])
    | fail)
  have HB2 : Hid (Below w.heap.size w w2) := HM4.out.below.trans (HM5.out.below.mono HM4.out.below.size)
  have h4 : w.heap.size ≤ g4 := Nat.le_of_eq HM4.out.new.symm
  have h5 : g4 < g5 := by have e1 := HM5.out.new; have := heap_lt HM4.out.row; omega
  have HR4 : Hid (w2.heap[g4]? = some (.cells Z 30 (0, 0))) := (HM5.out.below.block _ (heap_lt HM4.out.row)).trans HM4.out.row
  have HR5 : Hid (w2.heap[g5]? = some (.cells Z 30 (0, 0))) := HM5.out.row
  clear HM4 HM5
  refine wp_region_held_drew (S := (fun W => W.heap[g4]? = some (.cells Z 30 (0, 0)))) (by kernel_rfl) HR4.out (fun hHeld => ?_)
  refine wpAnyH_take (i := 0) (oi := { dst := some 6, op := Op.slice 30 (Operand.tmp 5) none none none, type := 61, pos := "row.go:71", after := #[], guard := none }) (v := .slice (some ⟨g5, 0, none⟩) 32 32) rfl (by kernel_rfl) (by kernel_rfl) (by kernel_rfl) (fun _ _ _ h => h) (Or.inl ⟨by rfl, by intro W hSw; have := hsl W g5 0; go_simp⟩) hHeld ?_
  try simp only [Act.put, List.setIfInBounds_toArray, List.set_cons_zero, List.set_cons_succ]
  refine wpAnyH_take (i := 1) (oi := { dst := some 7, op := Op.move (Operand.tmp 0), type := 149, pos := "row.go:71", after := #[], guard := none }) (v := .slice a len cap) rfl (by kernel_rfl) (by kernel_rfl) (by kernel_rfl) (fun _ _ _ h => h) (Or.inl ⟨by rfl, by intro W hSw; go_simp⟩) hHeld ?_
  try simp only [Act.put, List.setIfInBounds_toArray, List.set_cons_zero, List.set_cons_succ]
  refine wpAnyH_take (i := 2) (oi := { dst := some 8, op := Op.move (Operand.tmp 1), type := 3, pos := "row.go:71", after := #[], guard := none }) (v := .int .i64 tag) rfl (by kernel_rfl) (by kernel_rfl) (by kernel_rfl) (fun _ _ _ h => h) (Or.inl ⟨by rfl, by intro W hSw; go_simp⟩) hHeld ?_
  try simp only [Act.put, List.setIfInBounds_toArray, List.set_cons_zero, List.set_cons_succ]
  refine wpAnyH_ready (rs := [3]) (by kernel_rfl) (by simp) ?_
  refine (AllReadyH.cons (o := { dst := some 9, op := Op.call { callee := Callee.value (Operand.func 126), args := #[Operand.tmp 7, Operand.tmp 8], argTypes := #[149, 3] }, type := 9, pos := "row.go:71", after := #[{ on := 1, ground := Ground.data }, { on := 2, ground := Ground.data }], guard := none }) rfl (fun K hK => ?_) AllReadyH.nil)
  go_simp
  refine (D1.out _ HB2.out.drew).mono ?_
  rintro e w3 ⟨rfl, hb3⟩
  have HB3 := hidk (HB2.out.drew.trans (hb3.mono HB2.out.size))
  have HR53 := hidk ((hb3.block g5 (heap_lt HR5.out)).trans HR5.out)
  go_wp2_with fail
  refine hK.out _ _ ((hb3.block g4 (heap_lt HR4.out)).trans HR4.out) (fun hHeld => ?_)
  clear hK K
  try simp only [Act.put, List.setIfInBounds_toArray, List.set_cons_zero, List.set_cons_succ]
  refine wpAnyH_ready (rs := [4]) (by kernel_rfl) (by simp) ?_
  refine (AllReadyH.cons (o := { dst := some 10, op := Op.call { callee := Callee.builtin Builtin.copy, args := #[Operand.tmp 6, Operand.tmp 9], argTypes := #[61, 9] }, type := 3, pos := "row.go:71", after := #[{ on := 0, ground := Ground.data }, { on := 3, ground := Ground.data }, { on := 3, ground := Ground.chain }], guard := none }) rfl (fun K hK => ?_) AllReadyH.nil)
  refine step_copy_text (by rfl) (.tmp 6) (.tmp 9) rfl g5 30 rfl u rfl Z D HZ HDD HR53.out k Hk.out ?_
  intro wz HW5
  refine hK.out _ _ ((HW5.out.other _ (by omega)).trans hHeld) (fun hHeld => ?_)
  clear hK K
  try simp only [Act.put, List.setIfInBounds_toArray, List.set_cons_zero, List.set_cons_succ]
  refine wpAnyH_done (by kernel_rfl) ?_ _
  go_wp2_with (first
    | (show wpList _ _ _ ({ dst := some 11, op := _, type := _, pos := _, after := _, guard := _ } :: _) _ _; refine wpList_load_row rfl 30 (.tmp 5) rfl g5 rfl 30 D (0, 0) _ HW5.out.row Try.underlying30 rfl HSD.out ?_; try simp only [Act.put, List.setIfInBounds_toArray, List.set_cons_zero, List.set_cons_succ])
    | (refine wpList_set_var rfl 30 (.tmp 4) (.tmp 11) rfl g4 D rfl rfl 30 Z hHeld HSD.out HZD.out H1D.out ?_; intro w5 HW4; try simp only [Act.put, List.setIfInBounds_toArray, List.set_cons_zero, List.set_cons_succ])
    | fail)
  refine bodyPost_ret (v := .agg D) ?_ rfl ⟨rfl, HW4.out.below _ _ (HW5.out.below _ _ HB3.out (by omega)) h4⟩
  exact results_cell_row (p := 4) (ty := 30) rfl _ _ g4 30 D (0, 0) _ rfl HW4.out.row Try.underlying30 rfl HSD.out
end Go.Proofs.Ytjpmmbmhkpgjcaa

/- What entry.PutClaim answers. -/
namespace Go.Proofs.Ytjpmmbmhkpgjcaa
open Go.RowKit Sums Nums
set_option linter.unusedVariables false
set_option linter.unusedSimpArgs false
set_option maxRecDepth 100000
theorem eReads_no (w : World) : Reads w none 0 0 [] := ⟨rfl, Nat.le_refl _, by decide, .inl ⟨rfl, rfl⟩⟩
theorem eBytes_no (w : World) (E : Int) : BytesE [] E (.returned (.tuple #[.slice none 0 0, .int .i64 E])) w := ⟨none, 0, rfl, eReads_no w⟩
theorem eRow_ok {fs : List (Int × ByteArray)} (h : layE 0 fs = 0) : rowOf fs = rowB fs := by unfold rowOf; rw [if_pos h]
/-- A literal row of fields is laid. -/
theorem eLay_lit (W : World) (cs : Array Value) (fs : List (Int × ByteArray)) (n : Nat) (l : List UInt8) (hcs : cs.toList = fcells fs) (hn : fs.length = n) (h4 : n ≤ 400) (hm : ∀ f ∈ fs, f.2.size ≤ maxLen) (hk : layE 0 fs = 0) (hl : rowB fs = l) :
    Calls Try.prog 46 #[.slice (some ⟨W.heap.size, 0, none⟩) n n] (W.alloc (.cells cs 85)) fun e w' => ∃ a c, e = .returned (.tuple #[.slice a l.length c, .int .i64 0]) ∧ Reads w' a l.length c l ∧ Below W.heap.size W w' := by
  subst hn
  have hF := freads_lit W cs (0, 0) fs hcs (by omega) hm
  rw [← alloc_size W (.cells cs 85)] at hF
  refine (lay_reads (some ⟨W.heap.size, 0, none⟩) fs.length fs.length fs _ hF h4 (k := 0) (l := l) hk (by rw [eRow_ok hk, hl])).mono ?_
  rintro e w' ⟨a, c, he, hrd, hb⟩
  exact ⟨a, c, he, hrd, ((Below.refl _ _).alloc (Nat.le_refl _) _).trans (hb.mono (by simp))⟩
set_option maxHeartbeats 2000000 in
theorem ePutC_no (c : ClT) (hd : c.d.length = 32) (hr : rightC c = false) (w : World) (C : Array Value) (HC : Hid (C = (ccells c).toArray)) :
    Calls Try.prog 45 #[.agg C] w fun e w' => BytesE [] 60 e w' ∧ Below w.heap.size w w' := by
  have HSC : Hid ((Try.prog.info? 36).map (·.size) = some C.size) := by show _ = _; rw [sizeC, HC.out]; simp [ccells_length c hd]
  have HR : Hid ((w.alloc (.cells C 36)).heap[w.heap.size]? = some (.cells C 36 (0, 0))) := heap_alloc_new w _
  have HB : Hid (Below w.heap.size w (w.alloc (.cells C 36))) := (Below.refl _ _).alloc (Nat.le_refl _) _
  have K1 : Hid (∀ W, Calls Try.prog 61 #[.agg C] W fun e w' => e = .returned (.int .i64 60) ∧ Below W.heap.size W w') := fun W => by
    have := eCheckC_any c W C HC
    rwa [show cE c = 60 by unfold cE; rw [hr]; rfl] at this
  clear HC hr
  go_enter Try.func45, Try.ntmps45
  go_wp2_with (first
    | (show wpList _ _ _ ({ dst := some 5, op := _, type := _, pos := _, after := _, guard := _ } :: _) _ _; refine wpList_load_row rfl 36 (.tmp 1) rfl w.heap.size rfl 36 C (0, 0) _ HR.out Try.underlying36 rfl HSC.out ?_; try simp only [Act.put, List.setIfInBounds_toArray, List.set_cons_zero, List.set_cons_succ])
    | fail)
  refine (K1.out _).mono ?_
  rintro e w1 ⟨rfl, hb1⟩
  have HB1 := hidk (HB.out.trans (hb1.mono HB.out.size))
  clear hb1
  go_wp2
  go_ret2
  exact ⟨eBytes_no _ _, HB1.out⟩
set_option maxHeartbeats 8000000 in
theorem ePutC_yes (c : ClT) (hd : c.d.length = 32) (hr : rightC c = true) (w : World) (C : Array Value) (HC : Hid (C = (ccells c).toArray)) :
    Calls Try.prog 45 #[.agg C] w fun e w' => BytesE (claimB c) 0 e w' ∧ Below w.heap.size w w' := by
  have HSC : Hid ((Try.prog.info? 36).map (·.size) = some C.size) := by show _ = _; rw [sizeC, HC.out]; simp [ccells_length c hd]
  have HRW : Hid ((w.alloc (.cells C 36)).heap[w.heap.size]? = some (.cells C 36 (0, 0))) := heap_alloc_new w _
  have K1 : Hid (∀ W, Calls Try.prog 61 #[.agg C] W fun e w' => e = .returned (.int .i64 0) ∧ Below W.heap.size W w') := fun W => by
    have := eCheckC_any c W C HC
    rwa [show cE c = 0 by unfold cE; rw [hr]; rfl] at this
  obtain ⟨r, Hr⟩ : ∃ r, Hid (r = c.r) := ⟨c.r, hidk rfl⟩
  obtain ⟨e, He⟩ : ∃ r, Hid (r = c.e) := ⟨c.e, hidk rfl⟩
  obtain ⟨n, Hn⟩ : ∃ r, Hid (r = c.n) := ⟨c.n, hidk rfl⟩
  obtain ⟨s, Hs⟩ : ∃ r, Hid (r = c.s) := ⟨c.s, hidk rfl⟩
  obtain ⟨n1, Hn1⟩ : ∃ s : ByteArray, Hid (s = nOf r) := ⟨nOf r, hidk rfl⟩
  obtain ⟨n2, Hn2⟩ : ∃ s : ByteArray, Hid (s = nOf e) := ⟨nOf e, hidk rfl⟩
  obtain ⟨n3, Hn3⟩ : ∃ x : ByteArray, Hid (x = nOf n) := ⟨nOf n, hidk rfl⟩
  obtain ⟨n4, Hn4⟩ : ∃ x : ByteArray, Hid (x = nOf s) := ⟨nOf s, hidk rfl⟩
  obtain ⟨x5, HX⟩ : ∃ x : ByteArray, Hid (x = bA c.d) := ⟨bA c.d, hidk rfl⟩
  obtain ⟨l, Hl⟩ : ∃ l, Hid (l = claimB c) := ⟨claimB c, hidk rfl⟩
  have N1 : Hid (∀ W, Calls Try.prog 71 #[.int .i64 1, .int .i64 r] W fun e w' => e = .returned (.agg #[.int .i64 1, .string n1]) ∧ Below W.heap.size W w') := fun W => by rw [Hn1.out]; exact eNum_any 1 r W
  have N2 : Hid (∀ W, Calls Try.prog 71 #[.int .i64 2, .int .i64 e] W fun e w' => e = .returned (.agg #[.int .i64 2, .string n2]) ∧ Below W.heap.size W w') := fun W => by rw [Hn2.out]; exact eNum_any 2 e W
  have N3 : Hid (∀ W, Calls Try.prog 71 #[.int .i64 3, .int .i64 n] W fun e w' => e = .returned (.agg #[.int .i64 3, .string n3]) ∧ Below W.heap.size W w') := fun W => by rw [Hn3.out]; exact eNum_any 3 n W
  have N4 : Hid (∀ W, Calls Try.prog 71 #[.int .i64 4, .int .i64 s] W fun e w' => e = .returned (.agg #[.int .i64 4, .string n4]) ∧ Below W.heap.size W w') := fun W => by rw [Hn4.out]; exact eNum_any 4 s W
  have hL5 : fieldsN (cL c) = [(1, n1), (2, n2), (3, n3), (4, n4), (5, x5)] := by rw [Hn1.out, Hn2.out, Hn3.out, Hn4.out, HX.out, Hr.out, He.out, Hn.out, Hs.out]; rfl
  have LY : Hid (∀ W, Calls Try.prog 46 #[.slice (some ⟨W.heap.size, 0, none⟩) 5 5] (W.alloc (.cells #[.int .i64 1, .string n1, .int .i64 2, .string n2, .int .i64 3, .string n3, .int .i64 4, .string n4, .int .i64 5, .string x5] 85)) fun e w' => ∃ a c, e = .returned (.tuple #[.slice a l.length c, .int .i64 0]) ∧ Reads w' a l.length c l ∧ Below W.heap.size W w') := fun W => by
    have hk := layE_cL c hd
    rw [hL5] at hk
    refine eLay_lit W _ [((1 : Int), n1), (2, n2), (3, n3), (4, n4), (5, x5)] 5 l rfl rfl (by omega) (fun y hy => ?_) hk (by rw [Hl.out, ← hL5]; rfl)
    simp only [List.mem_cons, List.not_mem_nil, or_false] at hy
    unfold maxLen
    rcases hy with rfl | rfl | rfl | rfl | rfl
    · have := nOf_size r; rw [← Hn1.out] at this; show n1.size ≤ _; omega
    · have := nOf_size e; rw [← Hn2.out] at this; show n2.size ≤ _; omega
    · have := nOf_size n; rw [← Hn3.out] at this; show n3.size ≤ _; omega
    · have := nOf_size s; rw [← Hn4.out] at this; show n4.size ≤ _; omega
    · have := bA_size c.d; rw [← HX.out] at this; show x5.size ≤ _; omega
  have CV : Hid (∀ W, CRow W w.heap.size 0 c → Sem.run Try.prog (convert 61 9 (.slice (some ⟨w.heap.size, 4, none⟩) 32 32)) W = .ok (.string x5) W) := fun W h => by
    rw [HX.out]
    exact conv_at W w.heap.size 4 c.d hd (by have := h.d; rwa [Nat.zero_add] at this)
  have HR := hidk (crow_new w c C HC 36)
  have HB : Hid (Below w.heap.size w (w.alloc (.cells C 36))) := (Below.refl _ _).alloc (Nat.le_refl _) _
  have hsl := slice_at
  rw [← Hl.out]
  clear HC HX hL5 Hn1 Hn2 Hn3 Hn4 Hl hr
  go_enter Try.func45, Try.ntmps45
  go_wp2_with (first
    | (show wpList _ _ _ ({ dst := some 5, op := _, type := _, pos := _, after := _, guard := _ } :: _) _ _; refine wpList_load_row rfl 36 (.tmp 1) rfl w.heap.size rfl 36 C (0, 0) _ HRW.out Try.underlying36 rfl HSC.out ?_; try simp only [Act.put, List.setIfInBounds_toArray, List.set_cons_zero, List.set_cons_succ])
    | fail)
  refine (K1.out _).mono ?_
  rintro e w0 ⟨rfl, hb0⟩
  have HB0 := hidk (HB.out.trans (hb0.mono HB.out.size))
  have HR0 := hidk (HR.out.keep hb0)
  clear hb0 HB HR HRW K1
  go_wp2
  refine wp_region_held_drew (S := (fun W => CRow W w.heap.size 0 c)) (by kernel_rfl) (show CRow w0.drew w.heap.size 0 c from HR0.out.keep (Below.refl _ _).drew) (fun hHeld => ?_)
  refine wpAnyH_take (i := 0) (oi := { dst := some 10, op := Op.fieldAddr 36 (Operand.tmp 1) 0, type := 0, pos := "entry.go:53", after := #[], guard := none }) (v := .pointer (some ⟨w.heap.size, 0, none⟩)) rfl (by kernel_rfl) (by kernel_rfl) (by kernel_rfl) (fun _ _ _ h => h) (Or.inl ⟨by rfl, by intro W hSw; go_simp⟩) hHeld ?_
  try simp only [Act.put, List.setIfInBounds_toArray, List.set_cons_zero, List.set_cons_succ]
  refine wpAnyH_take (i := 1) (oi := { dst := some 11, op := Op.load 3 (Operand.tmp 10), type := 3, pos := "entry.go:53", after := #[{ on := 0, ground := Ground.data }], guard := none }) (v := .int .i64 r) rfl (by kernel_rfl) (by kernel_rfl) (by kernel_rfl) (fun _ _ _ h => h) (Or.inl ⟨by rfl, by intro W hSw; have h1 := hSw.r; rw [← Hr.out] at h1; go_simp⟩) hHeld ?_
  try simp only [Act.put, List.setIfInBounds_toArray, List.set_cons_zero, List.set_cons_succ]
  refine wpAnyH_take (i := 3) (oi := { dst := some 13, op := Op.fieldAddr 36 (Operand.tmp 1) 1, type := 0, pos := "entry.go:53", after := #[], guard := none }) (v := .pointer (some ⟨w.heap.size, 1, none⟩)) rfl (by kernel_rfl) (by kernel_rfl) (by kernel_rfl) (fun _ _ _ h => h) (Or.inl ⟨by rfl, by intro W hSw; go_simp⟩) hHeld ?_
  try simp only [Act.put, List.setIfInBounds_toArray, List.set_cons_zero, List.set_cons_succ]
  refine wpAnyH_take (i := 4) (oi := { dst := some 14, op := Op.load 3 (Operand.tmp 13), type := 3, pos := "entry.go:53", after := #[{ on := 3, ground := Ground.data }], guard := none }) (v := .int .i64 e) rfl (by kernel_rfl) (by kernel_rfl) (by kernel_rfl) (fun _ _ _ h => h) (Or.inl ⟨by rfl, by intro W hSw; have h1 := hSw.e; rw [← He.out, Nat.zero_add] at h1; go_simp⟩) hHeld ?_
  try simp only [Act.put, List.setIfInBounds_toArray, List.set_cons_zero, List.set_cons_succ]
  refine wpAnyH_take (i := 6) (oi := { dst := some 16, op := Op.fieldAddr 36 (Operand.tmp 1) 2, type := 0, pos := "entry.go:53", after := #[], guard := none }) (v := .pointer (some ⟨w.heap.size, 2, none⟩)) rfl (by kernel_rfl) (by kernel_rfl) (by kernel_rfl) (fun _ _ _ h => h) (Or.inl ⟨by rfl, by intro W hSw; go_simp⟩) hHeld ?_
  try simp only [Act.put, List.setIfInBounds_toArray, List.set_cons_zero, List.set_cons_succ]
  refine wpAnyH_take (i := 7) (oi := { dst := some 17, op := Op.load 3 (Operand.tmp 16), type := 3, pos := "entry.go:53", after := #[{ on := 6, ground := Ground.data }], guard := none }) (v := .int .i64 n) rfl (by kernel_rfl) (by kernel_rfl) (by kernel_rfl) (fun _ _ _ h => h) (Or.inl ⟨by rfl, by intro W hSw; have h1 := hSw.n; rw [← Hn.out, Nat.zero_add] at h1; go_simp⟩) hHeld ?_
  try simp only [Act.put, List.setIfInBounds_toArray, List.set_cons_zero, List.set_cons_succ]
  refine wpAnyH_take (i := 9) (oi := { dst := some 19, op := Op.fieldAddr 36 (Operand.tmp 1) 3, type := 0, pos := "entry.go:53", after := #[], guard := none }) (v := .pointer (some ⟨w.heap.size, 3, none⟩)) rfl (by kernel_rfl) (by kernel_rfl) (by kernel_rfl) (fun _ _ _ h => h) (Or.inl ⟨by rfl, by intro W hSw; go_simp⟩) hHeld ?_
  try simp only [Act.put, List.setIfInBounds_toArray, List.set_cons_zero, List.set_cons_succ]
  refine wpAnyH_take (i := 10) (oi := { dst := some 20, op := Op.load 3 (Operand.tmp 19), type := 3, pos := "entry.go:53", after := #[{ on := 9, ground := Ground.data }], guard := none }) (v := .int .i64 s) rfl (by kernel_rfl) (by kernel_rfl) (by kernel_rfl) (fun _ _ _ h => h) (Or.inl ⟨by rfl, by intro W hSw; have h1 := hSw.s; rw [← Hs.out, Nat.zero_add] at h1; go_simp⟩) hHeld ?_
  try simp only [Act.put, List.setIfInBounds_toArray, List.set_cons_zero, List.set_cons_succ]
  refine wpAnyH_take (i := 12) (oi := { dst := some 22, op := Op.fieldAddr 36 (Operand.tmp 1) 4, type := 0, pos := "entry.go:53", after := #[], guard := none }) (v := .pointer (some ⟨w.heap.size, 4, none⟩)) rfl (by kernel_rfl) (by kernel_rfl) (by kernel_rfl) (fun _ _ _ h => h) (Or.inl ⟨by rfl, by intro W hSw; go_simp⟩) hHeld ?_
  try simp only [Act.put, List.setIfInBounds_toArray, List.set_cons_zero, List.set_cons_succ]
  refine wpAnyH_take (i := 13) (oi := { dst := some 23, op := Op.slice 30 (Operand.tmp 22) none none none, type := 61, pos := "entry.go:53", after := #[{ on := 12, ground := Ground.data }], guard := none }) (v := .slice (some ⟨w.heap.size, 4, none⟩) 32 32) rfl (by kernel_rfl) (by kernel_rfl) (by kernel_rfl) (fun _ _ _ h => h) (Or.inl ⟨by rfl, by intro W hSw; have := hsl W w.heap.size 4; go_simp⟩) hHeld ?_
  try simp only [Act.put, List.setIfInBounds_toArray, List.set_cons_zero, List.set_cons_succ]
  refine wpAnyH_take (i := 14) (oi := { dst := some 24, op := Op.convert 61 9 (Operand.tmp 23), type := 9, pos := "entry.go:53", after := #[{ on := 13, ground := Ground.data }], guard := none }) (v := .string x5) rfl (by kernel_rfl) (by kernel_rfl) (by kernel_rfl) (fun _ _ _ h => h) (Or.inl ⟨by rfl, by intro W hSw; have := CV.out W hSw; go_simp⟩) hHeld ?_
  try simp only [Act.put, List.setIfInBounds_toArray, List.set_cons_zero, List.set_cons_succ]
  refine wpAnyH_take (i := 15) (oi := { dst := some 25, op := Op.build 85 #[(0, Operand.const (Value.int IntKind.i64 5)), (1, Operand.tmp 24)], type := 85, pos := "entry.go:53", after := #[{ on := 14, ground := Ground.data }], guard := none }) (v := .agg #[.int .i64 5, .string x5]) rfl (by kernel_rfl) (by kernel_rfl) (by kernel_rfl) (fun _ _ _ h => h) (Or.inl ⟨by rfl, by intro W hSw; go_simp⟩) hHeld ?_
  try simp only [Act.put, List.setIfInBounds_toArray, List.set_cons_zero, List.set_cons_succ]
  refine wpAnyH_ready (rs := [2]) (by kernel_rfl) (by simp) ?_
  refine (AllReadyH.cons (o := { dst := some 12, op := Op.call { callee := Callee.value (Operand.func 71), args := #[Operand.const (Value.int IntKind.i64 1), Operand.tmp 11], argTypes := #[3, 3] }, type := 85, pos := "entry.go:54", after := #[{ on := 1, ground := Ground.data }], guard := none }) rfl (fun K hK => ?_) AllReadyH.nil)
  go_simp
  refine (N1.out _).mono ?_
  rintro e w2 ⟨rfl, hb1⟩
  have HB1 := hidk (HB0.out.drew.trans (hb1.mono HB0.out.size))
  go_wp2_with fail
  refine hK.out _ _ (hHeld.keep hb1) (fun hHeld => ?_)
  clear hK K
  try simp only [Act.put, List.setIfInBounds_toArray, List.set_cons_zero, List.set_cons_succ]
  refine wpAnyH_ready (rs := [5]) (by kernel_rfl) (by simp) ?_
  refine (AllReadyH.cons (o := { dst := some 15, op := Op.call { callee := Callee.value (Operand.func 71), args := #[Operand.const (Value.int IntKind.i64 2), Operand.tmp 14], argTypes := #[3, 3] }, type := 85, pos := "entry.go:55", after := #[{ on := 4, ground := Ground.data }, { on := 2, ground := Ground.chain }], guard := none }) rfl (fun K hK => ?_) AllReadyH.nil)
  go_simp
  refine (N2.out _).mono ?_
  rintro e w5 ⟨rfl, hb2⟩
  have HB2 := hidk (HB1.out.trans (hb2.mono HB1.out.size))
  go_wp2_with fail
  refine hK.out _ _ (hHeld.keep hb2) (fun hHeld => ?_)
  clear hK K
  try simp only [Act.put, List.setIfInBounds_toArray, List.set_cons_zero, List.set_cons_succ]
  refine wpAnyH_ready (rs := [8]) (by kernel_rfl) (by simp) ?_
  refine (AllReadyH.cons (o := { dst := some 18, op := Op.call { callee := Callee.value (Operand.func 71), args := #[Operand.const (Value.int IntKind.i64 3), Operand.tmp 17], argTypes := #[3, 3] }, type := 85, pos := "entry.go:56", after := #[{ on := 7, ground := Ground.data }, { on := 5, ground := Ground.chain }], guard := none }) rfl (fun K hK => ?_) AllReadyH.nil)
  go_simp
  refine (N3.out _).mono ?_
  rintro e w8 ⟨rfl, hb3⟩
  have HB3 := hidk (HB2.out.trans (hb3.mono HB2.out.size))
  go_wp2_with fail
  refine hK.out _ _ (hHeld.keep hb3) (fun hHeld => ?_)
  clear hK K
  try simp only [Act.put, List.setIfInBounds_toArray, List.set_cons_zero, List.set_cons_succ]
  refine wpAnyH_ready (rs := [11]) (by kernel_rfl) (by simp) ?_
  refine (AllReadyH.cons (o := { dst := some 21, op := Op.call { callee := Callee.value (Operand.func 71), args := #[Operand.const (Value.int IntKind.i64 4), Operand.tmp 20], argTypes := #[3, 3] }, type := 85, pos := "entry.go:57", after := #[{ on := 10, ground := Ground.data }, { on := 8, ground := Ground.chain }], guard := none }) rfl (fun K hK => ?_) AllReadyH.nil)
  go_simp
  refine (N4.out _).mono ?_
  rintro e w11 ⟨rfl, hb4⟩
  have HB4 := hidk (HB3.out.trans (hb4.mono HB3.out.size))
  go_wp2_with fail
  refine hK.out _ _ (hHeld.keep hb4) (fun hHeld => ?_)
  clear hK K
  try simp only [Act.put, List.setIfInBounds_toArray, List.set_cons_zero, List.set_cons_succ]
  refine wpAnyH_ready (rs := [16]) (by kernel_rfl) (by simp) ?_
  refine (AllReadyH.cons (o := { dst := some 26, op := Op.buildSlice 88 5 #[(0, Operand.tmp 12), (1, Operand.tmp 15), (2, Operand.tmp 18), (3, Operand.tmp 21), (4, Operand.tmp 25)], type := 88, pos := "entry.go:53", after := #[{ on := 2, ground := Ground.data }, { on := 5, ground := Ground.data }, { on := 8, ground := Ground.data }, { on := 11, ground := Ground.data }, { on := 15, ground := Ground.data }], guard := none }) rfl (fun K hK => ?_) AllReadyH.nil)
  have HR14 := hidk hHeld
  go_simp
  refine hK.out _ _ (hHeld.keep ((Below.refl _ _).alloc (Nat.le_refl _) _)) (fun hHeld => ?_)
  clear hK K
  try simp only [Act.put, List.setIfInBounds_toArray, List.set_cons_zero, List.set_cons_succ]
  refine wpAnyH_ready (rs := [17]) (by kernel_rfl) (by simp) ?_
  refine (AllReadyH.cons (o := { dst := some 27, op := Op.call { callee := Callee.value (Operand.func 46), args := #[Operand.tmp 26], argTypes := #[88] }, type := 81, pos := "entry.go:53", after := #[{ on := 16, ground := Ground.data }, { on := 11, ground := Ground.chain }], guard := none }) rfl (fun K hK => ?_) AllReadyH.nil)
  go_simp
  refine (LY.out _).mono ?_
  rintro e w17 ⟨a17, c17, rfl, hrd, hb6⟩
  have HRD := hidk hrd
  have HBF := hidk (HB4.out.trans (hb6.mono HB4.out.size))
  go_wp2_with fail
  refine hK.out _ _ (HR14.out.keep hb6) (fun hHeld => ?_)
  clear hK K
  try simp only [Act.put, List.setIfInBounds_toArray, List.set_cons_zero, List.set_cons_succ]
  refine wpAnyH_take (i := 18) (oi := { dst := some 28, op := Op.extract (Operand.tmp 27) 0, type := 61, pos := "entry.go:53", after := #[{ on := 17, ground := Ground.data }], guard := none }) (v := .slice a17 l.length c17) rfl (by kernel_rfl) (by kernel_rfl) (by kernel_rfl) (fun _ _ _ h => h) (Or.inl ⟨by rfl, by intro W hSw; go_simp⟩) hHeld ?_
  try simp only [Act.put, List.setIfInBounds_toArray, List.set_cons_zero, List.set_cons_succ]
  refine wpAnyH_take (i := 19) (oi := { dst := some 29, op := Op.extract (Operand.tmp 27) 1, type := 44, pos := "entry.go:53", after := #[{ on := 17, ground := Ground.data }], guard := none }) (v := .int .i64 0) rfl (by kernel_rfl) (by kernel_rfl) (by kernel_rfl) (fun _ _ _ h => h) (Or.inl ⟨by rfl, by intro W hSw; go_simp⟩) hHeld ?_
  try simp only [Act.put, List.setIfInBounds_toArray, List.set_cons_zero, List.set_cons_succ]
  refine wpAnyH_take (i := 20) (oi := { dst := some 2, op := Op.assign (Operand.tmp 28), type := 61, pos := "entry.go:53", after := #[{ on := 18, ground := Ground.data }, { on := 17, ground := Ground.chain }, { on := 0, ground := Ground.phase }, { on := 1, ground := Ground.phase }, { on := 2, ground := Ground.phase }, { on := 3, ground := Ground.phase }, { on := 4, ground := Ground.phase }, { on := 5, ground := Ground.phase }, { on := 6, ground := Ground.phase }, { on := 7, ground := Ground.phase }, { on := 8, ground := Ground.phase }, { on := 9, ground := Ground.phase }, { on := 10, ground := Ground.phase }, { on := 11, ground := Ground.phase }, { on := 12, ground := Ground.phase }, { on := 13, ground := Ground.phase }, { on := 14, ground := Ground.phase }, { on := 15, ground := Ground.phase }, { on := 16, ground := Ground.phase }, { on := 17, ground := Ground.phase }, { on := 18, ground := Ground.phase }, { on := 19, ground := Ground.phase }], guard := none }) (v := .slice a17 l.length c17) rfl (by kernel_rfl) (by kernel_rfl) (by kernel_rfl) (fun _ _ _ h => h) (Or.inl ⟨by rfl, by intro W hSw; go_simp⟩) hHeld ?_
  try simp only [Act.put, List.setIfInBounds_toArray, List.set_cons_zero, List.set_cons_succ]
  refine wpAnyH_take (i := 21) (oi := { dst := some 3, op := Op.assign (Operand.tmp 29), type := 44, pos := "entry.go:53", after := #[{ on := 19, ground := Ground.data }, { on := 20, ground := Ground.chain }, { on := 0, ground := Ground.phase }, { on := 1, ground := Ground.phase }, { on := 2, ground := Ground.phase }, { on := 3, ground := Ground.phase }, { on := 4, ground := Ground.phase }, { on := 5, ground := Ground.phase }, { on := 6, ground := Ground.phase }, { on := 7, ground := Ground.phase }, { on := 8, ground := Ground.phase }, { on := 9, ground := Ground.phase }, { on := 10, ground := Ground.phase }, { on := 11, ground := Ground.phase }, { on := 12, ground := Ground.phase }, { on := 13, ground := Ground.phase }, { on := 14, ground := Ground.phase }, { on := 15, ground := Ground.phase }, { on := 16, ground := Ground.phase }, { on := 17, ground := Ground.phase }, { on := 18, ground := Ground.phase }, { on := 19, ground := Ground.phase }, { on := 20, ground := Ground.phase }], guard := none }) (v := .int .i64 0) rfl (by kernel_rfl) (by kernel_rfl) (by kernel_rfl) (fun _ _ _ h => h) (Or.inl ⟨by rfl, by intro W hSw; go_simp⟩) hHeld ?_
  try simp only [Act.put, List.setIfInBounds_toArray, List.set_cons_zero, List.set_cons_succ]
  refine wpAnyH_done (by kernel_rfl) ?_ _
  go_wp2
  go_ret2
  exact ⟨⟨_, _, rfl, HRD.out⟩, HBF.out⟩
theorem ePutC_any (c : ClT) (hd : c.d.length = 32) (w : World) (C : Array Value) (HC : Hid (C = (ccells c).toArray)) :
    Calls Try.prog 45 #[.agg C] w fun e w' => BytesE (cB c) (cE c) e w' ∧ Below w.heap.size w w' := by
  unfold cB cE
  cases hr : rightC c
  · exact ePutC_no c hd hr w C HC
  · exact ePutC_yes c hd hr w C HC
end Go.Proofs.Ytjpmmbmhkpgjcaa

/- What entry.GetClaim answers. -/
namespace Go.Proofs.Ytjpmmbmhkpgjcaa
open Go.RowKit Sums Nums
set_option linter.unusedVariables false
set_option linter.unusedSimpArgs false
set_option maxRecDepth 100000
set_option maxHeartbeats 8000000 in
theorem eTakeC_any (n₀ : Nat) (a : Option Addr) (len cap : Nat) (fs : List (Int × ByteArray)) (w : World) (hR : FReads n₀ w a len cap fs) (hn : n₀ ≤ w.heap.size) (X : Array Value) (HX : Hid (X = (ccells (takeC fs)).toArray)) :
    Calls Try.prog 96 #[.slice a len cap] w fun e w' => e = .returned (.agg X) ∧ Below w.heap.size w w' := by
  obtain ⟨Z, HZ, HA, HBZ, HNZ⟩ := noughtsC
  have hd : (takeC fs).d.length = 32 := fdG_length 5 fs
  have HSX : Hid ((Try.prog.info? 36).map (·.size) = some X.size) := by show _ = _; rw [sizeC, HX.out]; simp [ccells_length _ hd]
  have H1X : Hid (X.all (·.oneCell') = true) := by show _ = _; rw [HX.out]; exact one_cellsC _
  have HZX : Hid (Z.size = X.size) := by show _ = _; rw [HNZ.out, HX.out]; simp [ccells_length _ hd]
  obtain ⟨v1, Hv1⟩ : ∃ v, Hid (v = fdN 1 fs) := ⟨_, hidk rfl⟩
  have N1 : Hid (∀ W, Below w.heap.size w W → Calls Try.prog 114 #[.slice a len cap, .int .i64 1] W fun e w' => e = .returned (.int .i64 v1) ∧ Below W.heap.size W w') := fun W hb => by rw [Hv1.out]; exact eNumber_any n₀ a len cap fs 1 W (hR.below (hb.mono hn)) (Nat.le_trans hn hb.size)
  obtain ⟨v2, Hv2⟩ : ∃ v, Hid (v = fdN 2 fs) := ⟨_, hidk rfl⟩
  have N2 : Hid (∀ W, Below w.heap.size w W → Calls Try.prog 114 #[.slice a len cap, .int .i64 2] W fun e w' => e = .returned (.int .i64 v2) ∧ Below W.heap.size W w') := fun W hb => by rw [Hv2.out]; exact eNumber_any n₀ a len cap fs 2 W (hR.below (hb.mono hn)) (Nat.le_trans hn hb.size)
  obtain ⟨v3, Hv3⟩ : ∃ v, Hid (v = fdN 3 fs) := ⟨_, hidk rfl⟩
  have N3 : Hid (∀ W, Below w.heap.size w W → Calls Try.prog 114 #[.slice a len cap, .int .i64 3] W fun e w' => e = .returned (.int .i64 v3) ∧ Below W.heap.size W w') := fun W hb => by rw [Hv3.out]; exact eNumber_any n₀ a len cap fs 3 W (hR.below (hb.mono hn)) (Nat.le_trans hn hb.size)
  obtain ⟨v4, Hv4⟩ : ∃ v, Hid (v = fdN 4 fs) := ⟨_, hidk rfl⟩
  have N4 : Hid (∀ W, Below w.heap.size w W → Calls Try.prog 114 #[.slice a len cap, .int .i64 4] W fun e w' => e = .returned (.int .i64 v4) ∧ Below W.heap.size W w') := fun W hb => by rw [Hv4.out]; exact eNumber_any n₀ a len cap fs 4 W (hR.below (hb.mono hn)) (Nat.le_trans hn hb.size)
  obtain ⟨D, HD⟩ : ∃ D : Array Value, Hid (D = (cellsOf (fdG 5 fs)).toArray) := ⟨_, hidk rfl⟩
  have N5 : Hid (∀ W, Below w.heap.size w W → Calls Try.prog 115 #[.slice a len cap, .int .i64 5] W fun e w' => e = .returned (.agg D) ∧ Below W.heap.size W w') := fun W hb => eDigest_any n₀ a len cap fs 5 W (hR.below (hb.mono hn)) (Nat.le_trans hn hb.size) D HD
  have HBO : Hid (Try.prog.built 36 [(0, .int .i64 v1), (1, .int .i64 v2), (2, .int .i64 v3), (3, .int .i64 v4), (4, .agg D)] = some X) := by
    show _ = _
    rw [Hv1.out, Hv2.out, Hv3.out, Hv4.out]
    exact builtC (takeC fs) hd D X HD HX
  clear hR HX HZ HBZ HNZ hd Hv1 Hv2 Hv3 Hv4 HD
  go_enter Try.func96, Try.ntmps96
  go_wp2_with (first
    | (show wpList _ _ _ ({ dst := some 2, op := _, type := _, pos := _, after := _, guard := _ } :: _) _ _; refine wpList_new_var rfl 36 rfl Z HA.out ?_; intro g2 w1 HM2; try simp only [Act.put, List.setIfInBounds_toArray, List.set_cons_zero, List.set_cons_succ])
    | fail)
  have h2 : w.heap.size ≤ g2 := Nat.le_of_eq HM2.out.new.symm
  have HBc := hidk HM2.out.below
  have HR2 := hidk HM2.out.row
  clear HM2
  refine (N1.out _ HBc.out).mono ?_
  rintro e w2 ⟨rfl, hb2⟩
  replace HR2 := hidk ((hb2.block _ (heap_lt HR2.out)).trans HR2.out)
  replace HBc := hidk (HBc.out.trans (hb2.mono HBc.out.size))
  clear hb2 N1
  go_wp2_with fail
  refine (N2.out _ HBc.out).mono ?_
  rintro e w3 ⟨rfl, hb3⟩
  replace HR2 := hidk ((hb3.block _ (heap_lt HR2.out)).trans HR2.out)
  replace HBc := hidk (HBc.out.trans (hb3.mono HBc.out.size))
  clear hb3 N2
  go_wp2_with fail
  refine (N3.out _ HBc.out).mono ?_
  rintro e w4 ⟨rfl, hb4⟩
  replace HR2 := hidk ((hb4.block _ (heap_lt HR2.out)).trans HR2.out)
  replace HBc := hidk (HBc.out.trans (hb4.mono HBc.out.size))
  clear hb4 N3
  go_wp2_with fail
  refine (N4.out _ HBc.out).mono ?_
  rintro e w5 ⟨rfl, hb5⟩
  replace HR2 := hidk ((hb5.block _ (heap_lt HR2.out)).trans HR2.out)
  replace HBc := hidk (HBc.out.trans (hb5.mono HBc.out.size))
  clear hb5 N4
  go_wp2_with fail
  refine (N5.out _ HBc.out).mono ?_
  rintro e w6 ⟨rfl, hb6⟩
  replace HR2 := hidk ((hb6.block _ (heap_lt HR2.out)).trans HR2.out)
  replace HBc := hidk (HBc.out.trans (hb6.mono HBc.out.size))
  clear hb6 N5
  go_wp2_with (first
    | (show wpList _ _ _ ({ dst := some 13, op := _, type := _, pos := _, after := _, guard := _ } :: _) _ _; refine wpList_build_some rfl 36 _ rfl _ rfl X HBO.out ?_; try simp only [Act.put, List.setIfInBounds_toArray, List.set_cons_zero, List.set_cons_succ])
    | (refine wpList_set_var rfl 36 (.tmp 2) (.tmp 13) rfl g2 X rfl rfl 36 Z HR2.out HSX.out HZX.out H1X.out ?_; intro wz HW2; try simp only [Act.put, List.setIfInBounds_toArray, List.set_cons_zero, List.set_cons_succ])
    | fail)
  refine bodyPost_ret (v := .agg X) ?_ rfl ⟨rfl, HW2.out.below _ _ HBc.out h2⟩
  exact results_cell_row (p := 2) (ty := 36) rfl _ _ g2 36 X (0, 0) _ rfl HW2.out.row Try.underlying36 rfl HSX.out
set_option maxHeartbeats 8000000 in
theorem eReadC_any (a : Option Addr) (len cap : Nat) (bs : List UInt8) (w : World) (hR : Reads w a len cap bs) (hl : len ≤ 1000000) (R : Array Value) (HR : Hid (R = (ccells (getCO bs)).toArray)) :
    Calls Try.prog 95 #[.slice a len cap, .func (.func 96) #[] #[], .func (.func 45) #[] #[]] w fun e w' => e = .returned (.tuple #[.agg R, .int .i64 (getCE bs)]) ∧ Below w.heap.size w w' := by
  have hnot : ∀ (x : Bool) (w : World), (Op.unary .not (.bool x)).run Try.prog w = .ok (.bool (!x)) w := fun _ _ => rfl
  obtain ⟨Z, HZ, HA, HBZ, HNZ⟩ := noughtsC
  obtain ⟨fs, hfs⟩ : ∃ f, f = readF bs := ⟨_, rfl⟩
  have hfz : ∀ f ∈ fs, f.2.size ≤ 65536 := by rw [hfs]; exact readF_65 bs
  obtain ⟨x, hx⟩ : ∃ x, x = takeC fs := ⟨_, rfl⟩
  have hok : x.d.length = 32 := by rw [hx]; exact fdG_length 5 fs
  have hin : InC x := by rw [hx]; exact takeC_in fs
  obtain ⟨X, HX, HSX, H1X, HNX⟩ := claim_row5 x hok
  have HZX : Hid (Z.size = X.size) := by show _ = _; rw [HNZ.out, HNX.out]
  have HSZ : Hid ((Try.prog.info? 36).map (·.size) = some Z.size) := by show _ = _; rw [sizeC, HNZ.out]
  have H1Z : Hid (Z.all (·.oneCell') = true) := by show _ = _; rw [HZ.out]; exact one_cellsC _
  obtain ⟨L, hL⟩ : ∃ L, L = cB x := ⟨_, rfl⟩
  obtain ⟨E, hE⟩ : ∃ E, E = cE x := ⟨_, rfl⟩
  obtain ⟨q, hq⟩ : ∃ q : Bool, q = true ↔ L = bs := by
    by_cases h : L = bs
    · exact ⟨true, by simp [h]⟩
    · exact ⟨false, by simp [h]⟩
  obtain ⟨K, hK⟩ : ∃ K, K = getCE bs := ⟨_, rfl⟩
  have hE2 : E = 0 ∧ rightC x = true ∨ E = 60 ∧ rightC x = false := by rw [hE]; exact cE_two x
  have HT : Hid (E = 0 → q = true → R = X ∧ K = 0) := fun h0 hqt => by
    have hr : rightC x = true := by
      rcases hE2 with h | h
      · exact h.2
      · omega
    have hb : claimB x = bs := by
      have := hq.1 hqt
      rw [hL] at this
      unfold cB at this
      rw [if_pos hr] at this
      exact this
    have hh := getCO_yes (bs := bs) (by rw [← hfs, ← hx]; exact ⟨hr, hb⟩)
    rw [HR.out, HX.out, hK, hh.1, hh.2, ← hfs, ← hx]
    exact ⟨rfl, rfl⟩
  have HF : Hid (E = 60 ∨ q = false → R = Z ∧ K = 60) := fun h0 => by
    have hh := getCO_no (bs := bs) (by
      rw [← hfs, ← hx]
      rintro ⟨hr, hb⟩
      rcases h0 with h0 | h0
      · rcases hE2 with h | h
        · omega
        · rw [hr] at h; cases h.2
      · have : q = true := hq.2 (by rw [hL]; unfold cB; rw [if_pos hr]; exact hb)
        rw [h0] at this; cases this)
    rw [HR.out, HZ.out, hK, hh.1, hh.2]
    exact ⟨rfl, rfl⟩
  rw [← hK]
  have HRD : Hid (∀ W, Below w.heap.size w W → Reads W a len cap bs) := fun W hb => hR.below hb
  obtain ⟨ke, hke⟩ : ∃ k : Nat, k = readE bs := ⟨_, rfl⟩
  have R1 : Hid (∀ W, Below w.heap.size w W → Calls Try.prog 112 #[.slice a len cap] W fun e W' => ∃ a' c', e = .returned (.tuple #[.slice a' fs.length c', .int .i64 ke]) ∧ FReads W'.heap.size W' a' fs.length c' fs ∧ Below W.heap.size W W') := fun W hb => read_reads a len cap bs W (hR.below hb) hl hke.symm hfs.symm
  have T1 : Hid (∀ W a' c', FReads W.heap.size W a' fs.length c' fs → Calls Try.prog 96 #[.slice a' fs.length c'] W fun e w' => e = .returned (.agg X) ∧ Below W.heap.size W w') := fun W a' c' h => eTakeC_any W.heap.size a' fs.length c' fs W h (Nat.le_refl _) X (by rw [← hx]; exact HX)
  have P1 : Hid (∀ W, Calls Try.prog 45 #[.agg X] W fun e w' => (∃ a' c', e = .returned (.tuple #[.slice a' L.length c', .int .i64 E]) ∧ Reads w' a' L.length c' L) ∧ Below W.heap.size W w') := fun W => by
    rw [hL, hE]
    exact ePutC_any x hok W X HX
  have Q1 : Hid (∀ W a' c', Reads W a' L.length c' L → Reads W a len cap bs → Calls Try.prog 113 #[.slice a' L.length c', .slice a len cap] W fun e w' => e = .returned (.bool q) ∧ w' = W) := fun W a' c' h1 h2 => eSame_any a' a L.length c' len cap L bs W h1 h2 q hq
  have hE3 : E = 0 ∨ E = 60 := by omega
  clear hR HR hfs hfz hx hok hin HX HZ HBZ HNZ HNX hL hE hq hK hE2 hke
  rcases hE3 with rfl | rfl
  all_goals
    cases q
    all_goals
      first
        | have HQ : Hid (R = Z ∧ K = 60) := HF.out (.inl rfl)
        | have HQ : Hid (R = Z ∧ K = 60) := HF.out (.inr rfl)
        | have HQ : Hid (R = X ∧ K = 0) := HT.out rfl rfl
      clear HF HT
      go_enter Try.func95, Try.ntmps95
      go_wp2_with (first
        | (show wpList _ _ _ ({ dst := some 6, op := _, type := _, pos := _, after := _, guard := _ } :: _) _ _; refine wpList_new_var rfl 36 rfl Z HA.out ?_; intro g6 w1 HM6; try simp only [Act.put, List.setIfInBounds_toArray, List.set_cons_zero, List.set_cons_succ])
        | (show wpList _ _ _ ({ dst := some 8, op := _, type := _, pos := _, after := _, guard := _ } :: _) _ _; refine wpList_new_var rfl 36 rfl Z HA.out ?_; intro g8 w2 HM8; try simp only [Act.put, List.setIfInBounds_toArray, List.set_cons_zero, List.set_cons_succ])
        | fail)
      have h6 : w.heap.size ≤ g6 := Nat.le_of_eq HM6.out.new.symm
      have h8 : g6 < g8 := by have e1 := HM8.out.new; have := heap_lt HM6.out.row; omega
      have HB2 : Hid (Below w.heap.size w w2) := HM6.out.below.trans (HM8.out.below.mono HM6.out.below.size)
      have HR6 := hidk ((HM8.out.below.block _ (heap_lt HM6.out.row)).trans HM6.out.row)
      have HR8 := hidk HM8.out.row
      clear HM6 HM8
      refine (R1.out w2 HB2.out).mono ?_
      rintro e w3 ⟨a3, c3, rfl, hf3, hb3⟩
      have HF3 := hidk hf3
      have HB3 := hidk (HB2.out.trans (hb3.mono HB2.out.size))
      replace HR6 := hidk ((hb3.block _ (heap_lt HR6.out)).trans HR6.out)
      replace HR8 := hidk ((hb3.block _ (heap_lt HR8.out)).trans HR8.out)
      clear hf3 hb3 HB2 R1
      go_wp2_with fail
      refine (T1.out w3 a3 c3 HF3.out).mono ?_
      rintro e w4 ⟨rfl, hb4⟩
      have HB4 := hidk (HB3.out.trans (hb4.mono HB3.out.size))
      replace HR6 := hidk ((hb4.block _ (heap_lt HR6.out)).trans HR6.out)
      replace HR8 := hidk ((hb4.block _ (heap_lt HR8.out)).trans HR8.out)
      clear hb4 HB3 HF3 T1
      go_wp2_with (first
        | (show wpList _ _ _ ({ dst := some 11, op := _, type := _, pos := _, after := _, guard := _ } :: _) _ _; refine wpList_new_var rfl 36 rfl Z HA.out ?_; intro g11 w5 HM11; try simp only [Act.put, List.setIfInBounds_toArray, List.set_cons_zero, List.set_cons_succ])
        | (refine wpList_set_var rfl 36 (.tmp 11) (.tmp 21) rfl g11 X rfl rfl 36 Z HM11.out.row HSX.out HZX.out H1X.out ?_; intro w6 HW11; try simp only [Act.put, List.setIfInBounds_toArray, List.set_cons_zero, List.set_cons_succ])
        | (show wpList _ _ _ ({ dst := some 24, op := _, type := _, pos := _, after := _, guard := _ } :: _) _ _; refine wpList_load_row rfl 36 (.tmp 11) rfl g11 rfl 36 X (0, 0) _ HW11.out.row Try.underlying36 rfl HSX.out ?_; try simp only [Act.put, List.setIfInBounds_toArray, List.set_cons_zero, List.set_cons_succ])
        | fail)
      have h11 : w4.heap.size ≤ g11 := Nat.le_of_eq HM11.out.new.symm
      have g68 := heap_lt HR8.out
      have HB6 := hidk (HW11.out.below _ _ (HB4.out.trans (HM11.out.below.mono HB4.out.size)) (Nat.le_trans HB4.out.size h11))
      replace HR6 := hidk ((HW11.out.other _ (by omega)).trans ((HM11.out.below.block _ (heap_lt HR6.out)).trans HR6.out))
      replace HR8 := hidk ((HW11.out.other _ (by omega)).trans ((HM11.out.below.block _ (heap_lt HR8.out)).trans HR8.out))
      have HR11 := hidk HW11.out.row
      clear HM11 HW11 HB4
      refine (P1.out w6).mono ?_
      rintro e w7 ⟨⟨a7, c7, rfl, hr7⟩, hb7⟩
      have HL7 := hidk hr7
      have HB7 := hidk (HB6.out.trans (hb7.mono HB6.out.size))
      replace HR6 := hidk ((hb7.block _ (heap_lt HR6.out)).trans HR6.out)
      replace HR8 := hidk ((hb7.block _ (heap_lt HR8.out)).trans HR8.out)
      replace HR11 := hidk ((hb7.block _ (heap_lt HR11.out)).trans HR11.out)
      have HRB := hidk (HRD.out w7 HB7.out)
      clear hr7 hb7 HB6 P1 HRD
      go_wp2_with (first
        | (show wpList _ _ _ ({ dst := some 36, op := _, type := _, pos := _, after := _, guard := _ } :: _) _ _; refine wpList_load_row rfl 36 (.tmp 8) rfl g8 rfl 36 Z (0, 0) _ HR8.out Try.underlying36 rfl HSZ.out ?_; try simp only [Act.put, List.setIfInBounds_toArray, List.set_cons_zero, List.set_cons_succ])
        | (refine wpList_set_var rfl 36 (.tmp 6) (.tmp 36) rfl g6 Z rfl rfl 36 Z HR6.out HSZ.out rfl H1Z.out ?_; intro wz HW6; try simp only [Act.put, List.setIfInBounds_toArray, List.set_cons_zero, List.set_cons_succ])
        | fail)
      first
        | (obtain ⟨rfl, rfl⟩ := HQ.out
           refine bodyPost_ret (v := .tuple #[.agg R, .int .i64 60]) ?_ rfl ⟨rfl, HW6.out.below _ _ HB7.out h6⟩
           exact results_row_tmp (p := 6) (q := 7) (ty := 36) rfl _ _ g6 36 R (0, 0) _ rfl HW6.out.row Try.underlying36 rfl HSZ.out)
        | (refine (Q1.out _ _ _ HL7.out HRB.out).mono ?_
           rintro e w8 ⟨rfl, rfl⟩
           go_wp2_with (first
             | (show wpList _ _ _ ({ dst := some 36, op := _, type := _, pos := _, after := _, guard := _ } :: _) _ _; refine wpList_load_row rfl 36 (.tmp 8) rfl g8 rfl 36 Z (0, 0) _ HR8.out Try.underlying36 rfl HSZ.out ?_; try simp only [Act.put, List.setIfInBounds_toArray, List.set_cons_zero, List.set_cons_succ])
             | (show wpList _ _ _ ({ dst := some 37, op := _, type := _, pos := _, after := _, guard := _ } :: _) _ _; refine wpList_load_row rfl 36 (.tmp 11) rfl g11 rfl 36 X (0, 0) _ HR11.out Try.underlying36 rfl HSX.out ?_; try simp only [Act.put, List.setIfInBounds_toArray, List.set_cons_zero, List.set_cons_succ])
             | (refine wpList_set_var rfl 36 (.tmp 6) (.tmp 36) rfl g6 Z rfl rfl 36 Z HR6.out HSZ.out rfl H1Z.out ?_; intro wz HW6; try simp only [Act.put, List.setIfInBounds_toArray, List.set_cons_zero, List.set_cons_succ])
             | (refine wpList_set_var rfl 36 (.tmp 6) (.tmp 37) rfl g6 X rfl rfl 36 Z HR6.out HSX.out HZX.out H1X.out ?_; intro wz HW6; try simp only [Act.put, List.setIfInBounds_toArray, List.set_cons_zero, List.set_cons_succ])
             | fail)
           first
             | (obtain ⟨rfl, rfl⟩ := HQ.out
                refine bodyPost_ret (v := .tuple #[.agg R, .int .i64 60]) ?_ rfl ⟨rfl, HW6.out.below _ _ HB7.out h6⟩
                exact results_row_tmp (p := 6) (q := 7) (ty := 36) rfl _ _ g6 36 R (0, 0) _ rfl HW6.out.row Try.underlying36 rfl HSZ.out)
             | (obtain ⟨rfl, rfl⟩ := HQ.out
                refine bodyPost_ret (v := .tuple #[.agg R, .int .i64 0]) ?_ rfl ⟨rfl, HW6.out.below _ _ HB7.out h6⟩
                exact results_row_tmp (p := 6) (q := 7) (ty := 36) rfl _ _ g6 36 R (0, 0) _ rfl HW6.out.row Try.underlying36 rfl HSX.out))
set_option maxHeartbeats 2000000 in
theorem eGetC_any (a : Option Addr) (len cap : Nat) (bs : List UInt8) (w : World) (hR : Reads w a len cap bs) (hl : len ≤ 1000000) (R : Array Value) (HR : Hid (R = (ccells (getCO bs)).toArray)) :
    Calls Try.prog 80 #[.slice a len cap] w fun e w' => e = .returned (.tuple #[.agg R, .int .i64 (getCE bs)]) ∧ Below w.heap.size w w' := by
  obtain ⟨Z, HZ, HA, HBZ, HNZ⟩ := noughtsC
  obtain ⟨X, HX, HSX, H1X, HNX⟩ := claim_row5 (getCO bs) (getCO_ok bs)
  obtain rfl : X = R := by rw [HX.out, HR.out]
  have HZX : Hid (Z.size = X.size) := by show _ = _; rw [HNZ.out, HNX.out]
  obtain ⟨K, hK⟩ : ∃ K, K = getCE bs := ⟨_, rfl⟩
  have R1 : Hid (∀ W, Below w.heap.size w W → Calls Try.prog 95 #[.slice a len cap, .func (.func 96) #[] #[], .func (.func 45) #[] #[]] W fun e w' => e = .returned (.tuple #[.agg X, .int .i64 K]) ∧ Below W.heap.size W w') := fun W hb => by rw [hK]; exact eReadC_any a len cap bs W (hR.below hb) hl X HR
  rw [← hK]
  clear hR HR HX HZ HBZ HNZ HNX hK
  go_enter Try.func80, Try.ntmps80
  go_wp2_with (first
    | (show wpList _ _ _ ({ dst := some 2, op := _, type := _, pos := _, after := _, guard := _ } :: _) _ _; refine wpList_new_var rfl 36 rfl Z HA.out ?_; intro g2 w1 HM2; try simp only [Act.put, List.setIfInBounds_toArray, List.set_cons_zero, List.set_cons_succ])
    | fail)
  have h2 : w.heap.size ≤ g2 := Nat.le_of_eq HM2.out.new.symm
  refine (R1.out w1 HM2.out.below).mono ?_
  rintro e w2 ⟨rfl, hb2⟩
  have HB2 := hidk (HM2.out.below.trans (hb2.mono HM2.out.below.size))
  have HR2 := hidk ((hb2.block _ (heap_lt HM2.out.row)).trans HM2.out.row)
  clear hb2 HM2 R1
  go_wp2_with (first
    | (refine wpList_set_var rfl 36 (.tmp 2) (.tmp 6) rfl g2 X rfl rfl 36 Z HR2.out HSX.out HZX.out H1X.out ?_; intro wz HW2; try simp only [Act.put, List.setIfInBounds_toArray, List.set_cons_zero, List.set_cons_succ])
    | fail)
  refine bodyPost_ret (v := .tuple #[.agg X, .int .i64 K]) ?_ rfl ⟨rfl, HW2.out.below _ _ HB2.out h2⟩
  exact results_row_tmp (p := 2) (q := 3) (ty := 36) rfl _ _ g2 36 X (0, 0) _ rfl HW2.out.row Try.underlying36 rfl HSX.out
end Go.Proofs.Ytjpmmbmhkpgjcaa

/- What the small calls of package head answer: within, Check, mayBe, numberField, digestField. -/
namespace Go.Proofs.Ytjpmmbmhkpgjcaa
open Go.RowKit Sums Nums
set_option linter.unusedVariables false
set_option linter.unusedSimpArgs false
set_option maxRecDepth 100000
theorem hWithin_any (n a b : Int) (w : World) : Calls Try.prog 128 #[.int .i64 n, .int .i64 a, .int .i64 b] w fun e w' => e = .returned (.bool (decide (a ≤ n) && decide (n ≤ b))) ∧ w' = w := by
  by_cases h1 : a ≤ n
  · have d1 : decide (a ≤ n) = true := by rw [decide_eq_true_eq]; exact h1
    obtain ⟨x, hx⟩ : ∃ x, decide (n ≤ b) = x := ⟨_, rfl⟩
    rw [d1, hx]
    clear h1
    go_enter Try.func128, Try.ntmps128
    go_wp2
    go_ret
    exact ⟨rfl, rfl⟩
  · have d1 : decide (a ≤ n) = false := by rw [decide_eq_false_iff_not]; exact h1
    rw [d1]
    clear h1
    go_enter Try.func128, Try.ntmps128
    go_wp2
    go_ret
    exact ⟨rfl, rfl⟩
set_option maxHeartbeats 2000000 in
theorem hCheck_any (h : HdT) (hd : h.d.length = 32) (w : World) (C : Array Value) (HC : Hid (C = (hcells h).toArray)) :
    Calls Try.prog 117 #[.agg C] w fun e w' => e = .returned (.int .i64 (putE h)) ∧ Below w.heap.size w w' := by
  have HR := hrow_new w h hd C HC 32
  have HB : Hid (Below w.heap.size w (w.alloc (.cells C 32))) := (Below.refl _ _).alloc (Nat.le_refl _) _
  have c0 := HR.r
  have c1 := HR.e
  have c2 := HR.s
  have c4 := HR.t
  simp only [Nat.zero_add] at c1 c2 c4
  have hnot : ∀ (x : Bool) (w : World), (Op.unary .not (.bool x)).run Try.prog w = .ok (.bool (!x)) w := fun _ _ => rfl
  have WI : Hid (∀ (n a b : Int) (W : World), Calls Try.prog 128 #[.int .i64 n, .int .i64 a, .int .i64 b] W fun e w' => e = .returned (.bool (decide (a ≤ n) && decide (n ≤ b))) ∧ w' = W) := hWithin_any
  obtain ⟨b1, hb1⟩ : ∃ b, (decide (1 ≤ h.r) && decide (h.r ≤ 5)) = b := ⟨_, rfl⟩
  obtain ⟨b2, hb2⟩ : ∃ b, (decide (1 ≤ h.e) && decide (h.e ≤ 900000000)) = b := ⟨_, rfl⟩
  obtain ⟨b3, hb3⟩ : ∃ b, (decide (0 ≤ h.s) && decide (h.s ≤ 100000)) = b := ⟨_, rfl⟩
  obtain ⟨b4, hb4⟩ : ∃ b, (decide (0 ≤ h.t) && decide (h.t ≤ 900000000)) = b := ⟨_, rfl⟩
  have W1 := hidk (WI.out h.r 1 5)
  have W2 := hidk (WI.out h.e 1 900000000)
  have W3 := hidk (WI.out h.s 0 100000)
  have W4 := hidk (WI.out h.t 0 900000000)
  rw [hb1] at W1
  rw [hb2] at W2
  rw [hb3] at W3
  rw [hb4] at W4
  have hE : putE h = if (b1 && (b2 && (b3 && b4))) = true then 0 else 70 := by
    rw [← hb1, ← hb2, ← hb3, ← hb4]
    unfold putE rightH
    simp only [Bool.and_assoc]
  rw [hE]
  obtain ⟨r, hr⟩ : ∃ r, r = h.r := ⟨_, rfl⟩
  obtain ⟨e, he⟩ : ∃ r, r = h.e := ⟨_, rfl⟩
  obtain ⟨s, hs⟩ : ∃ r, r = h.s := ⟨_, rfl⟩
  obtain ⟨t, ht⟩ : ∃ r, r = h.t := ⟨_, rfl⟩
  rw [← hr] at c0 W1
  rw [← he] at c1 W2
  rw [← hs] at c2 W3
  rw [← ht] at c4 W4
  clear hE hb1 hb2 hb3 hb4 WI HR hr he hs ht HC
  cases b1
  · go_enter Try.func117, Try.ntmps117
    go_wp2_with fail
    refine (W1.out _).mono ?_
    rintro e w1 ⟨rfl, rfl⟩
    go_wp2
    go_ret
    exact ⟨rfl, HB.out⟩
  cases b2
  · go_enter Try.func117, Try.ntmps117
    go_wp2_with fail
    refine (W1.out _).mono ?_
    rintro e w1 ⟨rfl, rfl⟩
    go_wp2_with fail
    refine (W2.out _).mono ?_
    rintro e w1 ⟨rfl, rfl⟩
    go_wp2
    go_ret
    exact ⟨rfl, HB.out⟩
  cases b3
  · go_enter Try.func117, Try.ntmps117
    go_wp2_with fail
    refine (W1.out _).mono ?_
    rintro e w1 ⟨rfl, rfl⟩
    go_wp2_with fail
    refine (W2.out _).mono ?_
    rintro e w1 ⟨rfl, rfl⟩
    go_wp2_with fail
    refine (W3.out _).mono ?_
    rintro e w1 ⟨rfl, rfl⟩
    go_wp2
    go_ret
    exact ⟨rfl, HB.out⟩
  cases b4
  · go_enter Try.func117, Try.ntmps117
    go_wp2_with fail
    refine (W1.out _).mono ?_
    rintro e w1 ⟨rfl, rfl⟩
    go_wp2_with fail
    refine (W2.out _).mono ?_
    rintro e w1 ⟨rfl, rfl⟩
    go_wp2_with fail
    refine (W3.out _).mono ?_
    rintro e w1 ⟨rfl, rfl⟩
    go_wp2_with fail
    refine (W4.out _).mono ?_
    rintro e w1 ⟨rfl, rfl⟩
    go_wp2
    go_ret
    exact ⟨rfl, HB.out⟩
  · go_enter Try.func117, Try.ntmps117
    go_wp2_with fail
    refine (W1.out _).mono ?_
    rintro e w1 ⟨rfl, rfl⟩
    go_wp2_with fail
    refine (W2.out _).mono ?_
    rintro e w1 ⟨rfl, rfl⟩
    go_wp2_with fail
    refine (W3.out _).mono ?_
    rintro e w1 ⟨rfl, rfl⟩
    go_wp2_with fail
    refine (W4.out _).mono ?_
    rintro e w1 ⟨rfl, rfl⟩
    go_wp2
    go_ret
    exact ⟨rfl, HB.out⟩
theorem putE_ok (h : HdT) : putE h = 0 ∧ rightH h = true ∨ putE h = 70 ∧ rightH h = false := by
  unfold putE
  cases rightH h
  · exact .inr ⟨rfl, rfl⟩
  · exact .inl ⟨rfl, rfl⟩
set_option maxHeartbeats 2000000 in
theorem hMay_any (s : SgT) (hd : s.h.d.length = 32) (w : World) (C : Array Value) (HC : Hid (C = (scells s).toArray)) :
    Calls Try.prog 132 #[.agg C] w fun e w' => e = .returned (.bool (mayS s)) ∧ Below w.heap.size w w' := by
  have HR := hidk (srow_new w s hd C HC 34)
  have HB : Hid (Below w.heap.size w (w.alloc (.cells C 34))) := (Below.refl _ _).alloc (Nat.le_refl _) _
  obtain ⟨HCs, HHC, HSH, H36⟩ := head_row s.h hd
  have HRH : Hid ((w.alloc (.cells C 34)).rangeAt w.heap.size 0 HCs.toList) := by rw [HHC.out]; exact HR.out.h
  obtain ⟨n, Hn⟩ : ∃ n, Hid (n = s.n) := ⟨s.n, hidk rfl⟩
  obtain ⟨b2, hb2⟩ : ∃ b, (decide (1 ≤ n) && decide (n ≤ 3)) = b := ⟨_, rfl⟩
  obtain ⟨E, hE0⟩ : ∃ E, E = putE s.h := ⟨_, rfl⟩
  have R1 : Hid (∀ W, Calls Try.prog 117 #[.agg HCs] W fun e w' => e = .returned (.int .i64 E) ∧ Below W.heap.size W w') := fun W => by rw [hE0]; exact hCheck_any s.h hd W HCs HHC
  have W2 : Hid (∀ W, Calls Try.prog 128 #[.int .i64 n, .int .i64 1, .int .i64 3] W fun e w' => e = .returned (.bool b2) ∧ w' = W) := fun W => by rw [← hb2]; exact hWithin_any n 1 3 W
  have hM : mayS s = (rightH s.h && b2) := by
    rw [← hb2, Hn.out]
    unfold mayS
    rw [Bool.and_assoc]
  rw [hM]
  have hp := putE_ok s.h
  rw [← hE0] at hp
  clear hM hb2 HC hE0
  rcases hp with ⟨rfl, hr⟩ | ⟨rfl, hr⟩
  · rw [hr]
    clear hr
    go_enter Try.func132, Try.ntmps132
    go_wp2_with (first
      | (show wpList _ _ _ ({ dst := some 4, op := _, type := _, pos := _, after := _, guard := _ } :: _) _ _; refine wpList_mid rfl 32 (.tmp 3) rfl w.heap.size 0 rfl HCs _ HRH.out Try.underlying32 rfl HSH.out ?_; try simp only [Act.put, List.setIfInBounds_toArray, List.set_cons_zero, List.set_cons_succ])
      | fail)
    refine (R1.out _).mono ?_
    rintro e w1 ⟨rfl, hb⟩
    have HB1 := hidk (HB.out.trans (hb.mono HB.out.size))
    have hc := (HR.out.keep hb).n
    rw [← Hn.out, Nat.zero_add] at hc
    clear hb
    go_wp2_with fail
    refine (W2.out _).mono ?_
    rintro e w2 ⟨rfl, rfl⟩
    go_wp2
    go_ret
    exact ⟨rfl, HB1.out⟩
  · rw [hr]
    clear hr
    go_enter Try.func132, Try.ntmps132
    go_wp2_with (first
      | (show wpList _ _ _ ({ dst := some 4, op := _, type := _, pos := _, after := _, guard := _ } :: _) _ _; refine wpList_mid rfl 32 (.tmp 3) rfl w.heap.size 0 rfl HCs _ HRH.out Try.underlying32 rfl HSH.out ?_; try simp only [Act.put, List.setIfInBounds_toArray, List.set_cons_zero, List.set_cons_succ])
      | fail)
    refine (R1.out _).mono ?_
    rintro e w1 ⟨rfl, hb⟩
    have HB1 := hidk (HB.out.trans (hb.mono HB.out.size))
    clear hb
    go_wp2
    go_ret
    exact ⟨rfl, HB1.out⟩
set_option maxHeartbeats 2000000 in
theorem hNum_any (t n : Int) (w : World) : Calls Try.prog 134 #[.int .i64 t, .int .i64 n] w fun e w' => e = .returned (.agg #[.int .i64 t, .string (nOf n)]) ∧ Below w.heap.size w w' := by
  obtain ⟨x, Hx⟩ : ∃ x : ByteArray, Hid (x = nOf n) := ⟨nOf n, hidk rfl⟩
  obtain ⟨E, HE⟩ : ∃ E, Hid (E = neOf n) := ⟨_, hidk rfl⟩
  have N1 : Hid (∀ W, Calls Try.prog 74 #[.int .i64 n] W fun e w' => e = .returned (.tuple #[.string x, .int .i64 E]) ∧ Below W.heap.size W w') := fun W => by rw [Hx.out, HE.out]; exact number_any n W
  rw [← Hx.out]
  clear Hx HE
  go_enter Try.func134, Try.ntmps134
  go_wp2_with fail
  refine (N1.out _).mono ?_
  rintro e w1 ⟨rfl, hb1⟩
  have hlt : w.heap.size < w1.heap.size := by have := hb1.size; simp at this; omega
  have hg : w1.heap[w.heap.size]? = some (.cells #[.int .i64 0, .string ⟨#[]⟩] 85 (0, 0)) := (hb1.block _ (by simp)).trans (heap_alloc_new w _)
  have c0 : w1.cell? ⟨w.heap.size, 0, none⟩ = some (.int .i64 0) := by rw [cell_of_row w1 _ 0 _ 85 (0, 0) hg]; rfl
  have c1 : w1.cell? ⟨w.heap.size, 1, none⟩ = some (.string ⟨#[]⟩) := by rw [cell_of_row w1 _ 1 _ 85 (0, 0) hg]; rfl
  have HB : Hid (Below w.heap.size w w1) := ((Below.refl _ _).alloc (Nat.le_refl _) _).trans (hb1.mono (by simp))
  have f0 : w1.frozen? ⟨w.heap.size, 0, none⟩ = false := frozen_of_row w1 _ 0 _ _ hg
  have f1 : w1.frozen? ⟨w.heap.size, 1, none⟩ = false := frozen_of_row w1 _ 1 _ _ hg
  clear hb1
  have HG2 := hidk (Go.heap_setCell_same _ _ 1 _ _ (.string x) (Go.heap_setCell_same w1 _ 0 _ _ (.int .i64 t) hg))
  clear hg
  go_wp2
  refine bodyPost_ret (v := .agg #[.int .i64 t, .string x]) ?_ rfl ⟨rfl, (HB.out.setCell (Nat.le_refl _) _).setCell (Nat.le_refl _) _⟩
  exact results_cell_row (p := 4) (ty := 85) rfl _ _ w.heap.size 85 #[.int .i64 t, .string x] (0, 0) _ rfl HG2.out Try.underlying85 rfl (by kernel_rfl)
set_option maxHeartbeats 2000000 in
theorem hDig_any (t : Int) (d : List UInt8) (hd : d.length = 32) (w : World) (D : Array Value) (HD : Hid (D = (cellsOf d).toArray)) : Calls Try.prog 135 #[.int .i64 t, .agg D] w fun e w' => e = .returned (.agg #[.int .i64 t, .string (bA d)]) ∧ Below w.heap.size w w' := by
  obtain ⟨x, Hx⟩ : ∃ x : ByteArray, Hid (x = bA d) := ⟨bA d, hidk rfl⟩
  have HCV : Hid (∀ (W : World) (g : Nat), W.heap[g]? = some (.cells D 30 (0, 0)) → Sem.run Try.prog (convert 61 9 (.slice (some ⟨g, 0, none⟩) 32 32)) W = .ok (.string x) W) := fun W g h => by
    rw [Hx.out]
    refine conv_at W g 0 d hd fun j v hj => ?_
    rw [Nat.zero_add, cell_of_row W g j _ _ (0, 0) h, HD.out]
    simpa using hj
  have HSL := hidk slice_at
  rw [← Hx.out]
  clear Hx HD
  have hn0 : (w.alloc (.cells D 30)).heap[w.heap.size]? = some (.cells D 30 (0, 0)) := heap_alloc_new w _
  have hcv := HCV.out ((w.alloc (.cells D 30)).alloc (.cells #[.int .i64 0, .string ⟨#[]⟩] 85)) w.heap.size (heap_keep hn0)
  have hsl := HSL.out ((w.alloc (.cells D 30)).alloc (.cells #[.int .i64 0, .string ⟨#[]⟩] 85)) w.heap.size 0
  have hg := heap_alloc_new (w.alloc (.cells D 30)) (.cells #[.int .i64 0, .string ⟨#[]⟩] 85)
  rw [alloc_size] at hg
  have hg2 := heap_alloc_new (w.alloc (.cells D 30)) (.cells #[.int .i64 t, .string x] 85)
  rw [alloc_size] at hg2
  have HG2 := hidk hg2
  have HB : Hid (Below w.heap.size w ((w.alloc (.cells D 30)).alloc (.cells #[.int .i64 t, .string x] 85))) := ((Below.refl _ _).alloc (Nat.le_refl _) _).alloc (by simp) _
  clear HCV HSL hn0 hg hg2
  go_enter Try.func135, Try.ntmps135
  go_wp2
  refine bodyPost_ret (v := .agg #[.int .i64 t, .string x]) ?_ rfl ⟨rfl, HB.out⟩
  exact results_cell_row (p := 4) (ty := 85) rfl _ _ (w.heap.size + 1) 85 #[.int .i64 t, .string x] (0, 0) _ rfl HG2.out Try.underlying85 rfl (by kernel_rfl)
end Go.Proofs.Ytjpmmbmhkpgjcaa

/- What entry.Check answers. -/
namespace Go.Proofs.Ytjpmmbmhkpgjcaa
open Go.RowKit Sums Nums
set_option linter.unusedVariables false
set_option linter.unusedSimpArgs false
set_option maxRecDepth 100000
theorem erow_row {W : World} {g : Nat} {x : EnT} (ok : OkE x) {X : Array Value} (HX : Hid (X = (ecells x).toArray)) {t : TypeId} (h : W.heap[g]? = some (.cells X t (0, 0))) : ERow W g 0 x := by
  refine erow_of ok fun j v hj => ?_
  rw [Nat.zero_add, cell_of_row _ _ j _ t (0, 0) h, HX.out]
  simpa using hj
def userR (x : EnT) : Bool := (decide (1 ≤ x.c) && decide (x.c ≤ 3)) && ((decide (1 ≤ x.s) && decide (x.s ≤ 1000000)) && decide (x.t.size ≤ 200))
def toldB (x : EnT) : Bool := if x.k = 1 then userR x else if x.k = 2 then mayS x.h else if x.k = 3 then rightC x.m else false
def bareE (x : EnT) : EnT := if x.k = 1 then ⟨x.k, x.c, x.s, x.t, zeroS, zeroC⟩ else if x.k = 2 then ⟨x.k, 0, 0, ⟨#[]⟩, x.h, zeroC⟩ else if x.k = 3 then ⟨x.k, 0, 0, ⟨#[]⟩, zeroS, x.m⟩ else zeroE
theorem bareE_ok {x : EnT} (ok : OkE x) : OkE (bareE x) := by
  unfold bareE
  split
  · exact ⟨rfl, rfl, rfl⟩
  split
  · exact ⟨ok.h, ok.g, rfl⟩
  split
  · exact ⟨rfl, rfl, ok.m⟩
  exact zeroE_ok
theorem size_none {t : ByteArray} : t.size = 0 ↔ t = ⟨#[]⟩ :=
  ⟨fun h => empty_of h, fun h => by rw [h]; rfl⟩
theorem told_right (x : EnT) : rightE x = true ↔ (toldB x = true ∧ bareE x = x) := by
  by_cases h1 : x.k = 1
  · rw [right_user h1]
    unfold toldB bareE userR
    rw [if_pos h1, if_pos h1]
    cases x
    simp only [Bool.and_eq_true, decide_eq_true_eq, eqSB_iff, eqCB_iff, EnT.mk.injEq, true_and]
    constructor
    · rintro ⟨a, b, c, d, e⟩; exact ⟨⟨a, b, c⟩, d.symm, e.symm⟩
    · rintro ⟨⟨a, b, c⟩, d, e⟩; exact ⟨a, b, c, d.symm, e.symm⟩
  by_cases h2 : x.k = 2
  · rw [right_anchor h2]
    unfold toldB bareE
    rw [if_neg h1, if_neg h1, if_pos h2, if_pos h2]
    cases x
    simp only [Bool.and_eq_true, decide_eq_true_eq, eqSB_iff, eqCB_iff, EnT.mk.injEq, true_and, size_none]
    constructor
    · rintro ⟨a, b, c, d, e⟩; exact ⟨d, a.symm, b.symm, c.symm, e.symm⟩
    · rintro ⟨d, a, b, c, e⟩; exact ⟨a.symm, b.symm, c.symm, d, e.symm⟩
  by_cases h3 : x.k = 3
  · rw [right_claim h3]
    unfold toldB bareE
    rw [if_neg h1, if_neg h1, if_neg h2, if_neg h2, if_pos h3, if_pos h3]
    cases x
    simp only [Bool.and_eq_true, decide_eq_true_eq, eqSB_iff, eqCB_iff, EnT.mk.injEq, true_and, and_true, size_none]
    constructor
    · rintro ⟨a, b, c, d, e⟩; exact ⟨e, a.symm, b.symm, c.symm, d.symm⟩
    · rintro ⟨e, a, b, c, d⟩; exact ⟨a.symm, b.symm, c.symm, d.symm, e⟩
  rw [right_none h1 h2 h3]
  unfold toldB
  rw [if_neg h1, if_neg h2, if_neg h3]
  simp
set_option maxHeartbeats 2000000 in
theorem eUser_any (x : EnT) (ok : OkE x) (w : World) (X : Array Value) (HX : Hid (X = (ecells x).toArray)) :
    Calls Try.prog 100 #[.agg X] w fun e w' => e = .returned (.bool (userR x)) ∧ Below w.heap.size w w' := by
  have HR := erow_new w x ok X HX 38
  have HB : Hid (Below w.heap.size w (w.alloc (.cells X 38))) := (Below.refl _ _).alloc (Nat.le_refl _) _
  have c1 := HR.c
  have c2 := HR.s
  have c3 := HR.t
  simp only [Nat.zero_add] at c1 c2 c3
  unfold userR
  obtain ⟨b1, hb1⟩ : ∃ b, (decide (1 ≤ x.c) && decide (x.c ≤ 3)) = b := ⟨_, rfl⟩
  obtain ⟨b2, hb2⟩ : ∃ b, (decide (1 ≤ x.s) && decide (x.s ≤ 1000000)) = b := ⟨_, rfl⟩
  obtain ⟨b3, hb3⟩ : ∃ b, decide (x.t.size ≤ 200) = b := ⟨_, rfl⟩
  have hb3' : decide ((x.t.size : Int) ≤ 200) = b3 := by rw [← hb3, Bool.eq_iff_iff, decide_eq_true_eq, decide_eq_true_eq]; omega
  have W1 := hidk (eWithin_any x.c 1 3)
  have W2 := hidk (eWithin_any x.s 1 1000000)
  rw [hb1] at W1
  rw [hb2] at W2
  rw [hb1, hb2, hb3]
  obtain ⟨c, hc⟩ : ∃ c, c = x.c := ⟨_, rfl⟩
  obtain ⟨s, hs⟩ : ∃ c, c = x.s := ⟨_, rfl⟩
  obtain ⟨t, ht⟩ : ∃ c, c = x.t := ⟨_, rfl⟩
  rw [← hc] at c1 W1
  rw [← hs] at c2 W2
  rw [← ht] at c3 hb3 hb3'
  clear hb1 hb2 HR HX ok hc hs ht
  cases b1
  · go_enter Try.func100, Try.ntmps100
    go_wp2_with fail
    refine (W1.out _).mono ?_
    rintro e w1 ⟨rfl, rfl⟩
    go_wp2
    go_ret
    exact ⟨rfl, HB.out⟩
  cases b2
  · go_enter Try.func100, Try.ntmps100
    go_wp2_with fail
    refine (W1.out _).mono ?_
    rintro e w1 ⟨rfl, rfl⟩
    go_wp2_with fail
    refine (W2.out _).mono ?_
    rintro e w1 ⟨rfl, rfl⟩
    go_wp2
    go_ret
    exact ⟨rfl, HB.out⟩
  · go_enter Try.func100, Try.ntmps100
    go_wp2_with fail
    refine (W1.out _).mono ?_
    rintro e w1 ⟨rfl, rfl⟩
    go_wp2_with fail
    refine (W2.out _).mono ?_
    rintro e w1 ⟨rfl, rfl⟩
    go_wp2
    go_ret
    exact ⟨rfl, HB.out⟩
set_option maxHeartbeats 2000000 in
theorem eMay_any (s : SgT) (hd : s.h.d.length = 32) (w : World) (C : Array Value) (HC : Hid (C = (scells s).toArray)) :
    Calls Try.prog 101 #[.agg C] w fun e w' => e = .returned (.bool (mayS s)) ∧ Below w.heap.size w w' := by
  have HR := hidk (srow_new w s hd C HC 34)
  have HB : Hid (Below w.heap.size w (w.alloc (.cells C 34))) := (Below.refl _ _).alloc (Nat.le_refl _) _
  obtain ⟨HCs, HHC, HSH, H36⟩ := head_row s.h hd
  have HRH : Hid ((w.alloc (.cells C 34)).rangeAt w.heap.size 0 HCs.toList) := by rw [HHC.out]; exact HR.out.h
  obtain ⟨n, Hn⟩ : ∃ n, Hid (n = s.n) := ⟨s.n, hidk rfl⟩
  obtain ⟨b2, hb2⟩ : ∃ b, (decide (1 ≤ n) && decide (n ≤ 3)) = b := ⟨_, rfl⟩
  obtain ⟨E, hE0⟩ : ∃ E, E = putE s.h := ⟨_, rfl⟩
  have R1 : Hid (∀ W, Calls Try.prog 117 #[.agg HCs] W fun e w' => e = .returned (.int .i64 E) ∧ Below W.heap.size W w') := fun W => by rw [hE0]; exact hCheck_any s.h hd W HCs HHC
  have W2 : Hid (∀ W, Calls Try.prog 85 #[.int .i64 n, .int .i64 1, .int .i64 3] W fun e w' => e = .returned (.bool b2) ∧ w' = W) := fun W => by rw [← hb2]; exact eWithin_any n 1 3 W
  have hM : mayS s = (rightH s.h && b2) := by
    rw [← hb2, Hn.out]
    unfold mayS
    rw [Bool.and_assoc]
  rw [hM]
  have hp := putE_ok s.h
  rw [← hE0] at hp
  clear hM hb2 HC hE0
  rcases hp with ⟨rfl, hr⟩ | ⟨rfl, hr⟩
  · rw [hr]
    clear hr
    go_enter Try.func101, Try.ntmps101
    go_wp2_with (first
      | (show wpList _ _ _ ({ dst := some 4, op := _, type := _, pos := _, after := _, guard := _ } :: _) _ _; refine wpList_mid rfl 32 (.tmp 3) rfl w.heap.size 0 rfl HCs _ HRH.out Try.underlying32 rfl HSH.out ?_; try simp only [Act.put, List.setIfInBounds_toArray, List.set_cons_zero, List.set_cons_succ])
      | fail)
    refine (R1.out _).mono ?_
    rintro e w1 ⟨rfl, hb⟩
    have HB1 := hidk (HB.out.trans (hb.mono HB.out.size))
    have hc := (HR.out.keep hb).n
    rw [← Hn.out, Nat.zero_add] at hc
    clear hb
    go_wp2_with fail
    refine (W2.out _).mono ?_
    rintro e w2 ⟨rfl, rfl⟩
    go_wp2
    go_ret
    exact ⟨rfl, HB1.out⟩
  · rw [hr]
    clear hr
    go_enter Try.func101, Try.ntmps101
    go_wp2_with (first
      | (show wpList _ _ _ ({ dst := some 4, op := _, type := _, pos := _, after := _, guard := _ } :: _) _ _; refine wpList_mid rfl 32 (.tmp 3) rfl w.heap.size 0 rfl HCs _ HRH.out Try.underlying32 rfl HSH.out ?_; try simp only [Act.put, List.setIfInBounds_toArray, List.set_cons_zero, List.set_cons_succ])
      | fail)
    refine (R1.out _).mono ?_
    rintro e w1 ⟨rfl, hb⟩
    have HB1 := hidk (HB.out.trans (hb.mono HB.out.size))
    clear hb
    go_wp2
    go_ret
    exact ⟨rfl, HB1.out⟩
theorem builtE4 (k c s : Int) (t : ByteArray) (R : Array Value) (HR : Hid (R = (ecells ⟨k, c, s, t, zeroS, zeroC⟩).toArray)) : Try.prog.built 38 [(0, .int .i64 k), (1, .int .i64 c), (2, .int .i64 s), (3, .string t)] = some R := by
  have hi := infoE
  cases hq : Try.prog.info? 38 with
  | none => rw [hq] at hi; cases hi
  | some i =>
    rw [hq] at hi
    simp only [Option.map_some, Option.some.injEq, Prod.mk.injEq] at hi
    have hH : (Try.prog.info? 28).map (·.size) = some 1 := by kernel_rfl
    have h9 : (Try.prog.info? 9).map (·.size) = some 1 := by kernel_rfl
    have h3 : (Try.prog.info? 3).map (·.size) = some 1 := by kernel_rfl
    have hS := sizeS
    have hC := sizeC
    cases hqH : Try.prog.info? 28 with
    | none => rw [hqH] at hH; cases hH
    | some iH =>
    cases hq9 : Try.prog.info? 9 with
    | none => rw [hq9] at h9; cases h9
    | some i9 =>
    cases hq3 : Try.prog.info? 3 with
    | none => rw [hq3] at h3; cases h3
    | some i3 =>
    cases hqS : Try.prog.info? 34 with
    | none => rw [hqS] at hS; cases hS
    | some iS =>
    cases hqC : Try.prog.info? 36 with
    | none => rw [hqC] at hC; cases hC
    | some iC =>
    rw [hqH] at hH
    rw [hq9] at h9
    rw [hq3] at h3
    rw [hqS] at hS
    rw [hqC] at hC
    simp only [Option.map_some, Option.some.injEq] at hH h9 h3 hS hC
    unfold Program.built
    simp only [hq, Try.underlying38, hi.1, List.mapM_cons, List.mapM_nil, hqH, hq9, hq3, hqS, hqC, hH, h9, h3, hS, hC, Option.map_some, Option.bind_eq_bind, Option.bind_some, Option.pure_def]
    show Instr.fill _ (ecells zeroE).toArray _ = some R
    refine (fill_val _ 0 0 1 (.int .i64 k) #[.int .i64 k] _ [] [.int .i64 0] ([.int .i64 0, .int .i64 0, .string ByteArray.empty] ++ scells zeroS ++ ccells zeroC) _ rfl rfl rfl (by simp [ecells, zeroE]) rfl rfl).trans ?_
    refine (fill_val _ 1 1 1 (.int .i64 c) #[.int .i64 c] _ [.int .i64 k] [.int .i64 0] ([.int .i64 0, .string ByteArray.empty] ++ scells zeroS ++ ccells zeroC) _ rfl rfl rfl (by simp) rfl rfl).trans ?_
    refine (fill_val _ 2 2 1 (.int .i64 s) #[.int .i64 s] _ [.int .i64 k, .int .i64 c] [.int .i64 0] ([.string ByteArray.empty] ++ scells zeroS ++ ccells zeroC) _ rfl rfl rfl (by simp) rfl rfl).trans ?_
    refine (fill_val _ 3 3 1 (.string t) #[.string t] _ [.int .i64 k, .int .i64 c, .int .i64 s] [.string ByteArray.empty] (scells zeroS ++ ccells zeroC) _ rfl rfl rfl (by simp) rfl rfl).trans ?_
    simp only [Instr.fill, List.append_nil, Option.some.injEq]
    rw [HR.out]
    rfl
theorem builtEh (k : Int) (h : SgT) (hd : h.h.d.length = 32) (hg : h.g.length = 32) (Q R : Array Value) (HQ : Hid (Q = (scells h).toArray)) (HR : Hid (R = (ecells ⟨k, 0, 0, ⟨#[]⟩, h, zeroC⟩).toArray)) : Try.prog.built 38 [(0, .int .i64 k), (4, .agg Q)] = some R := by
  have hi := infoE
  cases hq : Try.prog.info? 38 with
  | none => rw [hq] at hi; cases hi
  | some i =>
    rw [hq] at hi
    simp only [Option.map_some, Option.some.injEq, Prod.mk.injEq] at hi
    have hH : (Try.prog.info? 28).map (·.size) = some 1 := by kernel_rfl
    have h9 : (Try.prog.info? 9).map (·.size) = some 1 := by kernel_rfl
    have h3 : (Try.prog.info? 3).map (·.size) = some 1 := by kernel_rfl
    have hS := sizeS
    have hC := sizeC
    cases hqH : Try.prog.info? 28 with
    | none => rw [hqH] at hH; cases hH
    | some iH =>
    cases hq9 : Try.prog.info? 9 with
    | none => rw [hq9] at h9; cases h9
    | some i9 =>
    cases hq3 : Try.prog.info? 3 with
    | none => rw [hq3] at h3; cases h3
    | some i3 =>
    cases hqS : Try.prog.info? 34 with
    | none => rw [hqS] at hS; cases hS
    | some iS =>
    cases hqC : Try.prog.info? 36 with
    | none => rw [hqC] at hC; cases hC
    | some iC =>
    rw [hqH] at hH
    rw [hq9] at h9
    rw [hq3] at h3
    rw [hqS] at hS
    rw [hqC] at hC
    simp only [Option.map_some, Option.some.injEq] at hH h9 h3 hS hC
    unfold Program.built
    simp only [hq, Try.underlying38, hi.1, List.mapM_cons, List.mapM_nil, hqH, hq9, hq3, hqS, hqC, hH, h9, h3, hS, hC, Option.map_some, Option.bind_eq_bind, Option.bind_some, Option.pure_def]
    show Instr.fill _ (ecells zeroE).toArray _ = some R
    refine (fill_val _ 0 0 1 (.int .i64 k) #[.int .i64 k] _ [] [.int .i64 0] ([.int .i64 0, .int .i64 0, .string ByteArray.empty] ++ scells zeroS ++ ccells zeroC) _ rfl rfl rfl (by simp [ecells, zeroE]) rfl rfl).trans ?_
    refine (fill_val _ 4 4 69 (.agg Q) Q _ [.int .i64 k, .int .i64 0, .int .i64 0, .string ByteArray.empty] (scells zeroS) (ccells zeroC) _ rfl rfl (by rw [HQ.out]; simp [scells_length h hd hg]) (by simp) rfl (scells_length zeroS rfl rfl)).trans ?_
    simp only [Instr.fill, List.append_nil, Option.some.injEq]
    rw [HR.out, HQ.out]
    rfl
theorem builtEm (k : Int) (m : ClT) (hd : m.d.length = 32) (Q R : Array Value) (HQ : Hid (Q = (ccells m).toArray)) (HR : Hid (R = (ecells ⟨k, 0, 0, ⟨#[]⟩, zeroS, m⟩).toArray)) : Try.prog.built 38 [(0, .int .i64 k), (5, .agg Q)] = some R := by
  have hi := infoE
  cases hq : Try.prog.info? 38 with
  | none => rw [hq] at hi; cases hi
  | some i =>
    rw [hq] at hi
    simp only [Option.map_some, Option.some.injEq, Prod.mk.injEq] at hi
    have hH : (Try.prog.info? 28).map (·.size) = some 1 := by kernel_rfl
    have h9 : (Try.prog.info? 9).map (·.size) = some 1 := by kernel_rfl
    have h3 : (Try.prog.info? 3).map (·.size) = some 1 := by kernel_rfl
    have hS := sizeS
    have hC := sizeC
    cases hqH : Try.prog.info? 28 with
    | none => rw [hqH] at hH; cases hH
    | some iH =>
    cases hq9 : Try.prog.info? 9 with
    | none => rw [hq9] at h9; cases h9
    | some i9 =>
    cases hq3 : Try.prog.info? 3 with
    | none => rw [hq3] at h3; cases h3
    | some i3 =>
    cases hqS : Try.prog.info? 34 with
    | none => rw [hqS] at hS; cases hS
    | some iS =>
    cases hqC : Try.prog.info? 36 with
    | none => rw [hqC] at hC; cases hC
    | some iC =>
    rw [hqH] at hH
    rw [hq9] at h9
    rw [hq3] at h3
    rw [hqS] at hS
    rw [hqC] at hC
    simp only [Option.map_some, Option.some.injEq] at hH h9 h3 hS hC
    unfold Program.built
    simp only [hq, Try.underlying38, hi.1, List.mapM_cons, List.mapM_nil, hqH, hq9, hq3, hqS, hqC, hH, h9, h3, hS, hC, Option.map_some, Option.bind_eq_bind, Option.bind_some, Option.pure_def]
    show Instr.fill _ (ecells zeroE).toArray _ = some R
    refine (fill_val _ 0 0 1 (.int .i64 k) #[.int .i64 k] _ [] [.int .i64 0] ([.int .i64 0, .int .i64 0, .string ByteArray.empty] ++ scells zeroS ++ ccells zeroC) _ rfl rfl rfl (by simp [ecells, zeroE]) rfl rfl).trans ?_
    refine (fill_val _ 5 73 36 (.agg Q) Q _ ([.int .i64 k, .int .i64 0, .int .i64 0, .string ByteArray.empty] ++ scells zeroS) (ccells zeroC) [] _ rfl rfl (by rw [HQ.out]; simp [ccells_length m hd]) (by simp) (by simp [scells_length zeroS rfl rfl]) (ccells_length zeroC rfl)).trans ?_
    simp only [Instr.fill, List.append_nil, Option.some.injEq]
    rw [HR.out, HQ.out]
    rfl
set_option maxHeartbeats 8000000 in
theorem eTold_user (x : EnT) (ok : OkE x) (hk : x.k = 1) (w : World) (X B : Array Value) (HX : Hid (X = (ecells x).toArray)) (HB : Hid (B = (ecells (bareE x)).toArray)) :
    Calls Try.prog 84 #[.agg X] w fun e w' => e = .returned (.tuple #[.agg B, .bool (toldB x)]) ∧ Below w.heap.size w w' := by
  obtain ⟨Z, HZ, HA, HBZ, HNZ⟩ := noughtsE
  have HSX : Hid ((Try.prog.info? 38).map (·.size) = some X.size) := by show _ = _; rw [sizeE, HX.out]; simp [ecells_length _ ok]
  have HSB : Hid ((Try.prog.info? 38).map (·.size) = some B.size) := by show _ = _; rw [sizeE, HB.out]; simp [ecells_length _ (bareE_ok ok)]
  have H1B : Hid (B.all (·.oneCell') = true) := by show _ = _; rw [HB.out]; exact one_cellsE _
  have HZB : Hid (Z.size = B.size) := by show _ = _; rw [HNZ.out, HB.out]; simp [ecells_length _ (bareE_ok ok)]
  have HX0 : Hid ((w.alloc (.cells X 38)).heap[w.heap.size]? = some (.cells X 38 (0, 0))) := heap_alloc_new w _
  have HW0 : Hid (Below w.heap.size w (w.alloc (.cells X 38))) := (Below.refl _ _).alloc (Nat.le_refl _) _
  have ER : Hid (∀ W : World, W.heap[w.heap.size]? = some (.cells X 38 (0, 0)) → ERow W w.heap.size 0 x) := fun W h => erow_row ok HX h
  have K0 : Hid (∀ W : World, W.heap[w.heap.size]? = some (.cells X 38 (0, 0)) → W.cell? ⟨w.heap.size, 0, none⟩ = some (.int .i64 1)) := fun W h => by have := (ER.out W h).k; rwa [hk] at this
  obtain ⟨c, Hc⟩ : ∃ c, Hid (c = x.c) := ⟨_, hidk rfl⟩
  obtain ⟨s, Hs⟩ : ∃ c, Hid (c = x.s) := ⟨_, hidk rfl⟩
  obtain ⟨t, Ht⟩ : ∃ c, Hid (c = x.t) := ⟨_, hidk rfl⟩
  have K1 : Hid (∀ W : World, W.heap[w.heap.size]? = some (.cells X 38 (0, 0)) → W.cell? ⟨w.heap.size, 1, none⟩ = some (.int .i64 c)) := fun W h => by have := (ER.out W h).c; rwa [← Hc.out, Nat.zero_add] at this
  have K2 : Hid (∀ W : World, W.heap[w.heap.size]? = some (.cells X 38 (0, 0)) → W.cell? ⟨w.heap.size, 2, none⟩ = some (.int .i64 s)) := fun W h => by have := (ER.out W h).s; rwa [← Hs.out, Nat.zero_add] at this
  have K3 : Hid (∀ W : World, W.heap[w.heap.size]? = some (.cells X 38 (0, 0)) → W.cell? ⟨w.heap.size, 3, none⟩ = some (.string t)) := fun W h => by have := (ER.out W h).t; rwa [← Ht.out, Nat.zero_add] at this
  have BH : Hid (∀ W, (Instr.build 38 #[(0, .int .i64 1), (1, .int .i64 c), (2, .int .i64 s), (3, .string t)]).run Try.prog W = .ok (.agg B) W) := fun W => by
    refine run_build W 38 _ B (builtE4 1 c s t B ?_)
    show _ = _
    rw [HB.out, Hc.out, Hs.out, Ht.out]
    unfold bareE
    rw [if_pos hk, hk]
  obtain ⟨u, hu⟩ : ∃ u, u = userR x := ⟨_, rfl⟩
  have U1 : Hid (∀ W, Calls Try.prog 100 #[.agg X] W fun e w' => e = .returned (.bool u) ∧ Below W.heap.size W w') := fun W => by rw [hu]; exact eUser_any x ok W X HX
  rw [show toldB x = u by unfold toldB; rw [if_pos hk, hu]]
  clear HX HB HZ HBZ HNZ ok hk hu ER Hc Hs Ht
  go_enter Try.func84, Try.ntmps84
  go_wp2_with (first
    | (show wpList _ _ _ ({ dst := some 2, op := _, type := _, pos := _, after := _, guard := _ } :: _) _ _; refine wpList_new_var rfl 38 rfl Z HA.out ?_; intro g2 w1 HM2; have c0 := K0.out w1 ((HM2.out.below.block _ (heap_lt HX0.out)).trans HX0.out); try simp only [Act.put, List.setIfInBounds_toArray, List.set_cons_zero, List.set_cons_succ])
    | fail)
  have hg2 : w.heap.size < g2 := by rw [HM2.out.new]; exact heap_lt HX0.out
  have HX1 := hidk ((HM2.out.below.block _ (heap_lt HX0.out)).trans HX0.out)
  have HR2 := hidk HM2.out.row
  have HB1 := hidk (HW0.out.trans (HM2.out.below.mono HW0.out.size))
  clear HM2 HX0 HW0 c0
  refine wp_region_held_drew (S := (fun W => W.heap[w.heap.size]? = some (.cells X 38 (0, 0)))) (by kernel_rfl) HX1.out (fun hHeld => ?_)
  refine wpAnyH_take (i := 0) (oi := { dst := some 8, op := Op.fieldAddr 38 (Operand.tmp 1) 0, type := 0, pos := "entry.go:120", after := #[], guard := none }) (v := .pointer (some ⟨w.heap.size, 0, none⟩)) rfl (by kernel_rfl) (by kernel_rfl) (by kernel_rfl) (fun _ _ _ h => h) (Or.inl ⟨by rfl, by intro W hSw; go_simp⟩) hHeld ?_
  try simp only [Act.put, List.setIfInBounds_toArray, List.set_cons_zero, List.set_cons_succ]
  refine wpAnyH_take (i := 1) (oi := { dst := some 9, op := Op.load 28 (Operand.tmp 8), type := 28, pos := "entry.go:120", after := #[{ on := 0, ground := Ground.data }], guard := none }) (v := .int .i64 1) rfl (by kernel_rfl) (by kernel_rfl) (by kernel_rfl) (fun _ _ _ h => h) (Or.inl ⟨by rfl, by intro W hSw; have h1 := K0.out W hSw; go_simp⟩) hHeld ?_
  try simp only [Act.put, List.setIfInBounds_toArray, List.set_cons_zero, List.set_cons_succ]
  refine wpAnyH_take (i := 2) (oi := { dst := some 10, op := Op.fieldAddr 38 (Operand.tmp 1) 1, type := 0, pos := "entry.go:120", after := #[], guard := none }) (v := .pointer (some ⟨w.heap.size, 1, none⟩)) rfl (by kernel_rfl) (by kernel_rfl) (by kernel_rfl) (fun _ _ _ h => h) (Or.inl ⟨by rfl, by intro W hSw; go_simp⟩) hHeld ?_
  try simp only [Act.put, List.setIfInBounds_toArray, List.set_cons_zero, List.set_cons_succ]
  refine wpAnyH_take (i := 3) (oi := { dst := some 11, op := Op.load 3 (Operand.tmp 10), type := 3, pos := "entry.go:120", after := #[{ on := 2, ground := Ground.data }], guard := none }) (v := .int .i64 c) rfl (by kernel_rfl) (by kernel_rfl) (by kernel_rfl) (fun _ _ _ h => h) (Or.inl ⟨by rfl, by intro W hSw; have h1 := K1.out W hSw; go_simp⟩) hHeld ?_
  try simp only [Act.put, List.setIfInBounds_toArray, List.set_cons_zero, List.set_cons_succ]
  refine wpAnyH_take (i := 4) (oi := { dst := some 12, op := Op.fieldAddr 38 (Operand.tmp 1) 2, type := 0, pos := "entry.go:120", after := #[], guard := none }) (v := .pointer (some ⟨w.heap.size, 2, none⟩)) rfl (by kernel_rfl) (by kernel_rfl) (by kernel_rfl) (fun _ _ _ h => h) (Or.inl ⟨by rfl, by intro W hSw; go_simp⟩) hHeld ?_
  try simp only [Act.put, List.setIfInBounds_toArray, List.set_cons_zero, List.set_cons_succ]
  refine wpAnyH_take (i := 5) (oi := { dst := some 13, op := Op.load 3 (Operand.tmp 12), type := 3, pos := "entry.go:120", after := #[{ on := 4, ground := Ground.data }], guard := none }) (v := .int .i64 s) rfl (by kernel_rfl) (by kernel_rfl) (by kernel_rfl) (fun _ _ _ h => h) (Or.inl ⟨by rfl, by intro W hSw; have h1 := K2.out W hSw; go_simp⟩) hHeld ?_
  try simp only [Act.put, List.setIfInBounds_toArray, List.set_cons_zero, List.set_cons_succ]
  refine wpAnyH_take (i := 6) (oi := { dst := some 14, op := Op.fieldAddr 38 (Operand.tmp 1) 3, type := 0, pos := "entry.go:120", after := #[], guard := none }) (v := .pointer (some ⟨w.heap.size, 3, none⟩)) rfl (by kernel_rfl) (by kernel_rfl) (by kernel_rfl) (fun _ _ _ h => h) (Or.inl ⟨by rfl, by intro W hSw; go_simp⟩) hHeld ?_
  try simp only [Act.put, List.setIfInBounds_toArray, List.set_cons_zero, List.set_cons_succ]
  refine wpAnyH_take (i := 7) (oi := { dst := some 15, op := Op.load 9 (Operand.tmp 14), type := 9, pos := "entry.go:120", after := #[{ on := 6, ground := Ground.data }], guard := none }) (v := .string t) rfl (by kernel_rfl) (by kernel_rfl) (by kernel_rfl) (fun _ _ _ h => h) (Or.inl ⟨by rfl, by intro W hSw; have h1 := K3.out W hSw; go_simp⟩) hHeld ?_
  try simp only [Act.put, List.setIfInBounds_toArray, List.set_cons_zero, List.set_cons_succ]
  refine wpAnyH_take (i := 8) (oi := { dst := some 16, op := Op.build 38 #[(0, Operand.tmp 9), (1, Operand.tmp 11), (2, Operand.tmp 13), (3, Operand.tmp 15)], type := 38, pos := "entry.go:120", after := #[{ on := 1, ground := Ground.data }, { on := 3, ground := Ground.data }, { on := 5, ground := Ground.data }, { on := 7, ground := Ground.data }], guard := none }) (v := .agg B) rfl (by kernel_rfl) (by kernel_rfl) (by kernel_rfl) (fun _ _ _ h => h) (yieldsIf_build (by rfl) 38 _ rfl #[(0, .int .i64 1), (1, .int .i64 c), (2, .int .i64 s), (3, .string t)] rfl (.agg B) BH.out) hHeld ?_
  try simp only [Act.put, List.setIfInBounds_toArray, List.set_cons_zero, List.set_cons_succ]
  refine wpAnyH_take (i := 9) (oi := { dst := some 17, op := Op.load 38 (Operand.tmp 1), type := 38, pos := "entry.go:120", after := #[], guard := none }) (v := .agg X) rfl (by kernel_rfl) (by kernel_rfl) (by kernel_rfl) (fun _ _ _ h => h) (yieldsIf_row (by rfl) 38 (.tmp 1) rfl w.heap.size rfl 38 X (0, 0) _ (fun _ h => h) Try.underlying38 rfl HSX.out) hHeld ?_
  try simp only [Act.put, List.setIfInBounds_toArray, List.set_cons_zero, List.set_cons_succ]
  refine wpAnyH_ready (rs := [10]) (by kernel_rfl) (by simp) ?_
  refine (AllReadyH.cons (o := { dst := some 18, op := Op.call { callee := Callee.value (Operand.func 100), args := #[Operand.tmp 17], argTypes := #[38] }, type := 4, pos := "entry.go:120", after := #[{ on := 9, ground := Ground.data }], guard := none }) rfl (fun K hK => ?_) AllReadyH.nil)
  go_simp
  refine (U1.out _).mono ?_
  rintro e w10 ⟨rfl, hbc⟩
  have HBc := hidk (HB1.out.drew.trans (hbc.mono HB1.out.size))
  have HR2c := hidk ((hbc.block g2 (heap_lt HR2.out)).trans HR2.out)
  go_wp2_with fail
  refine hK.out _ _ ((hbc.block _ (heap_lt HX1.out)).trans HX1.out) (fun hHeld => ?_)
  clear hK K
  try simp only [Act.put, List.setIfInBounds_toArray, List.set_cons_zero, List.set_cons_succ]
  refine wpAnyH_ready (rs := [11]) (by kernel_rfl) (by simp) ?_
  refine (AllReadyH.cons (o := { dst := none, op := Op.store 38 (Operand.tmp 2) (Operand.tmp 16), type := 0, pos := "entry.go:120", after := #[{ on := 8, ground := Ground.data }, { on := 10, ground := Ground.chain }, { on := 0, ground := Ground.phase }, { on := 1, ground := Ground.phase }, { on := 2, ground := Ground.phase }, { on := 3, ground := Ground.phase }, { on := 4, ground := Ground.phase }, { on := 5, ground := Ground.phase }, { on := 6, ground := Ground.phase }, { on := 7, ground := Ground.phase }, { on := 8, ground := Ground.phase }, { on := 9, ground := Ground.textOnly Departure.lateStores }, { on := 10, ground := Ground.textOnly Departure.lateStoresUnsure }], guard := none }) rfl (fun K hK => ?_) AllReadyH.nil)
  refine step_set_var (by rfl) 38 (.tmp 2) (.tmp 16) rfl g2 B rfl rfl 38 Z HR2c.out HSB.out HZB.out H1B.out ?_
  intro wz HW2
  refine hK.out _ _ ((HW2.out.other _ (by omega)).trans hHeld) (fun hHeld => ?_)
  clear hK K
  try simp only [Act.put, List.setIfInBounds_toArray, List.set_cons_zero, List.set_cons_succ]
  refine wpAnyH_take (i := 12) (oi := { dst := some 3, op := Op.assign (Operand.tmp 18), type := 4, pos := "entry.go:120", after := #[{ on := 10, ground := Ground.data }, { on := 11, ground := Ground.chain }, { on := 0, ground := Ground.phase }, { on := 1, ground := Ground.phase }, { on := 2, ground := Ground.phase }, { on := 3, ground := Ground.phase }, { on := 4, ground := Ground.phase }, { on := 5, ground := Ground.phase }, { on := 6, ground := Ground.phase }, { on := 7, ground := Ground.phase }, { on := 8, ground := Ground.phase }, { on := 9, ground := Ground.phase }, { on := 10, ground := Ground.phase }, { on := 11, ground := Ground.phase }], guard := none }) (v := .bool u) rfl (by kernel_rfl) (by kernel_rfl) (by kernel_rfl) (fun _ _ _ h => h) (Or.inl ⟨by rfl, by intro W hSw; go_simp⟩) hHeld ?_
  try simp only [Act.put, List.setIfInBounds_toArray, List.set_cons_zero, List.set_cons_succ]
  refine wpAnyH_done (by kernel_rfl) ?_ _
  go_wp2_with fail
  refine bodyPost_ret (v := .tuple #[.agg B, .bool u]) ?_ rfl ⟨rfl, HW2.out.below _ _ HBc.out (by omega)⟩
  exact results_row_tmp (p := 2) (q := 3) (ty := 38) rfl _ _ g2 38 B (0, 0) _ rfl HW2.out.row Try.underlying38 rfl HSB.out
set_option maxHeartbeats 8000000 in
theorem eTold_anchor (x : EnT) (ok : OkE x) (hk : x.k = 2) (w : World) (X B : Array Value) (HX : Hid (X = (ecells x).toArray)) (HB : Hid (B = (ecells (bareE x)).toArray)) :
    Calls Try.prog 84 #[.agg X] w fun e w' => e = .returned (.tuple #[.agg B, .bool (toldB x)]) ∧ Below w.heap.size w w' := by
  obtain ⟨Z, HZ, HA, HBZ, HNZ⟩ := noughtsE
  have HSX : Hid ((Try.prog.info? 38).map (·.size) = some X.size) := by show _ = _; rw [sizeE, HX.out]; simp [ecells_length _ ok]
  have HSB : Hid ((Try.prog.info? 38).map (·.size) = some B.size) := by show _ = _; rw [sizeE, HB.out]; simp [ecells_length _ (bareE_ok ok)]
  have H1B : Hid (B.all (·.oneCell') = true) := by show _ = _; rw [HB.out]; exact one_cellsE _
  have HZB : Hid (Z.size = B.size) := by show _ = _; rw [HNZ.out, HB.out]; simp [ecells_length _ (bareE_ok ok)]
  have HX0 : Hid ((w.alloc (.cells X 38)).heap[w.heap.size]? = some (.cells X 38 (0, 0))) := heap_alloc_new w _
  have HW0 : Hid (Below w.heap.size w (w.alloc (.cells X 38))) := (Below.refl _ _).alloc (Nat.le_refl _) _
  have ER : Hid (∀ W : World, W.heap[w.heap.size]? = some (.cells X 38 (0, 0)) → ERow W w.heap.size 0 x) := fun W h => erow_row ok HX h
  have K0 : Hid (∀ W : World, W.heap[w.heap.size]? = some (.cells X 38 (0, 0)) → W.cell? ⟨w.heap.size, 0, none⟩ = some (.int .i64 2)) := fun W h => by have := (ER.out W h).k; rwa [hk] at this
  obtain ⟨Q, HQ, HSQ, H1Q, H69Q⟩ := sign_row x.h ok.h ok.g
  have KQ : Hid (∀ W : World, W.heap[w.heap.size]? = some (.cells X 38 (0, 0)) → W.rangeAt w.heap.size 4 Q.toList) := fun W h => by have := (ER.out W h).h; rw [HQ.out]; simpa using this
  have BH : Hid (∀ W, (Instr.build 38 #[(0, .int .i64 2), (4, .agg Q)]).run Try.prog W = .ok (.agg B) W) := fun W => by
    refine run_build W 38 _ B (builtEh 2 x.h ok.h ok.g Q B HQ ?_)
    show _ = _
    rw [HB.out]
    unfold bareE
    rw [if_neg (by omega), if_pos hk, hk]
  obtain ⟨u, hu⟩ : ∃ u, u = mayS x.h := ⟨_, rfl⟩
  have U1 : Hid (∀ W, Calls Try.prog 101 #[.agg Q] W fun e w' => e = .returned (.bool u) ∧ Below W.heap.size W w') := fun W => by rw [hu]; exact eMay_any x.h ok.h W Q HQ
  rw [show toldB x = u by unfold toldB; rw [if_neg (by omega), if_pos hk, hu]]
  clear HX HB HZ HBZ HNZ ok hk hu ER HQ
  go_enter Try.func84, Try.ntmps84
  go_wp2_with (first
    | (show wpList _ _ _ ({ dst := some 2, op := _, type := _, pos := _, after := _, guard := _ } :: _) _ _; refine wpList_new_var rfl 38 rfl Z HA.out ?_; intro g2 w1 HM2; have c0 := K0.out w1 ((HM2.out.below.block _ (heap_lt HX0.out)).trans HX0.out); try simp only [Act.put, List.setIfInBounds_toArray, List.set_cons_zero, List.set_cons_succ])
    | fail)
  have hg2 : w.heap.size < g2 := by rw [HM2.out.new]; exact heap_lt HX0.out
  have HX1 := hidk ((HM2.out.below.block _ (heap_lt HX0.out)).trans HX0.out)
  have HR2 := hidk HM2.out.row
  have HB1 := hidk (HW0.out.trans (HM2.out.below.mono HW0.out.size))
  clear HM2 HX0 HW0 c0
  refine wp_region_held_drew (S := (fun W => W.heap[w.heap.size]? = some (.cells X 38 (0, 0)))) (by kernel_rfl) HX1.out (fun hHeld => ?_)
  refine wpAnyH_take (i := 0) (oi := { dst := some 21, op := Op.fieldAddr 38 (Operand.tmp 1) 0, type := 0, pos := "entry.go:122", after := #[], guard := none }) (v := .pointer (some ⟨w.heap.size, 0, none⟩)) rfl (by kernel_rfl) (by kernel_rfl) (by kernel_rfl) (fun _ _ _ h => h) (Or.inl ⟨by rfl, by intro W hSw; go_simp⟩) hHeld ?_
  try simp only [Act.put, List.setIfInBounds_toArray, List.set_cons_zero, List.set_cons_succ]
  refine wpAnyH_take (i := 1) (oi := { dst := some 22, op := Op.load 28 (Operand.tmp 21), type := 28, pos := "entry.go:122", after := #[{ on := 0, ground := Ground.data }], guard := none }) (v := .int .i64 2) rfl (by kernel_rfl) (by kernel_rfl) (by kernel_rfl) (fun _ _ _ h => h) (Or.inl ⟨by rfl, by intro W hSw; have h1 := K0.out W hSw; go_simp⟩) hHeld ?_
  try simp only [Act.put, List.setIfInBounds_toArray, List.set_cons_zero, List.set_cons_succ]
  refine wpAnyH_take (i := 2) (oi := { dst := some 23, op := Op.fieldAddr 38 (Operand.tmp 1) 4, type := 0, pos := "entry.go:122", after := #[], guard := none }) (v := .pointer (some ⟨w.heap.size, 4, none⟩)) rfl (by kernel_rfl) (by kernel_rfl) (by kernel_rfl) (fun _ _ _ h => h) (Or.inl ⟨by rfl, by intro W hSw; go_simp⟩) hHeld ?_
  try simp only [Act.put, List.setIfInBounds_toArray, List.set_cons_zero, List.set_cons_succ]
  refine wpAnyH_take (i := 3) (oi := { dst := some 24, op := Op.load 34 (Operand.tmp 23), type := 34, pos := "entry.go:122", after := #[{ on := 2, ground := Ground.data }], guard := none }) (v := .agg Q) rfl (by kernel_rfl) (by kernel_rfl) (by kernel_rfl) (fun _ _ _ h => h) (yieldsIf_mid (by rfl) 34 (.tmp 23) rfl w.heap.size 4 rfl Q _ (fun W h => KQ.out W h) Try.underlying34 rfl HSQ.out) hHeld ?_
  try simp only [Act.put, List.setIfInBounds_toArray, List.set_cons_zero, List.set_cons_succ]
  refine wpAnyH_take (i := 4) (oi := { dst := some 25, op := Op.build 38 #[(0, Operand.tmp 22), (4, Operand.tmp 24)], type := 38, pos := "entry.go:122", after := #[{ on := 1, ground := Ground.data }, { on := 3, ground := Ground.data }], guard := none }) (v := .agg B) rfl (by kernel_rfl) (by kernel_rfl) (by kernel_rfl) (fun _ _ _ h => h) (yieldsIf_build (by rfl) 38 _ rfl #[(0, .int .i64 2), (4, .agg Q)] rfl (.agg B) BH.out) hHeld ?_
  try simp only [Act.put, List.setIfInBounds_toArray, List.set_cons_zero, List.set_cons_succ]
  refine wpAnyH_take (i := 5) (oi := { dst := some 26, op := Op.fieldAddr 38 (Operand.tmp 1) 4, type := 0, pos := "entry.go:122", after := #[], guard := none }) (v := .pointer (some ⟨w.heap.size, 4, none⟩)) rfl (by kernel_rfl) (by kernel_rfl) (by kernel_rfl) (fun _ _ _ h => h) (Or.inl ⟨by rfl, by intro W hSw; go_simp⟩) hHeld ?_
  try simp only [Act.put, List.setIfInBounds_toArray, List.set_cons_zero, List.set_cons_succ]
  refine wpAnyH_take (i := 6) (oi := { dst := some 27, op := Op.load 34 (Operand.tmp 26), type := 34, pos := "entry.go:122", after := #[{ on := 5, ground := Ground.data }], guard := none }) (v := .agg Q) rfl (by kernel_rfl) (by kernel_rfl) (by kernel_rfl) (fun _ _ _ h => h) (yieldsIf_mid (by rfl) 34 (.tmp 26) rfl w.heap.size 4 rfl Q _ (fun W h => KQ.out W h) Try.underlying34 rfl HSQ.out) hHeld ?_
  try simp only [Act.put, List.setIfInBounds_toArray, List.set_cons_zero, List.set_cons_succ]
  refine wpAnyH_ready (rs := [7]) (by kernel_rfl) (by simp) ?_
  refine (AllReadyH.cons (o := { dst := some 28, op := Op.call { callee := Callee.value (Operand.func 101), args := #[Operand.tmp 27], argTypes := #[34] }, type := 4, pos := "entry.go:122", after := #[{ on := 6, ground := Ground.data }], guard := none }) rfl (fun K hK => ?_) AllReadyH.nil)
  go_simp
  refine (U1.out _).mono ?_
  rintro e w7 ⟨rfl, hbc⟩
  have HBc := hidk (HB1.out.drew.trans (hbc.mono HB1.out.size))
  have HR2c := hidk ((hbc.block g2 (heap_lt HR2.out)).trans HR2.out)
  go_wp2_with fail
  refine hK.out _ _ ((hbc.block _ (heap_lt HX1.out)).trans HX1.out) (fun hHeld => ?_)
  clear hK K
  try simp only [Act.put, List.setIfInBounds_toArray, List.set_cons_zero, List.set_cons_succ]
  refine wpAnyH_ready (rs := [8]) (by kernel_rfl) (by simp) ?_
  refine (AllReadyH.cons (o := { dst := none, op := Op.store 38 (Operand.tmp 2) (Operand.tmp 25), type := 0, pos := "entry.go:122", after := #[{ on := 4, ground := Ground.data }, { on := 7, ground := Ground.chain }, { on := 0, ground := Ground.phase }, { on := 1, ground := Ground.phase }, { on := 2, ground := Ground.phase }, { on := 3, ground := Ground.phase }, { on := 4, ground := Ground.phase }, { on := 5, ground := Ground.textOnly Departure.lateStores }, { on := 6, ground := Ground.textOnly Departure.lateStores }, { on := 7, ground := Ground.textOnly Departure.lateStoresUnsure }], guard := none }) rfl (fun K hK => ?_) AllReadyH.nil)
  refine step_set_var (by rfl) 38 (.tmp 2) (.tmp 25) rfl g2 B rfl rfl 38 Z HR2c.out HSB.out HZB.out H1B.out ?_
  intro wz HW2
  refine hK.out _ _ ((HW2.out.other _ (by omega)).trans hHeld) (fun hHeld => ?_)
  clear hK K
  try simp only [Act.put, List.setIfInBounds_toArray, List.set_cons_zero, List.set_cons_succ]
  refine wpAnyH_take (i := 9) (oi := { dst := some 3, op := Op.assign (Operand.tmp 28), type := 4, pos := "entry.go:122", after := #[{ on := 7, ground := Ground.data }, { on := 8, ground := Ground.chain }, { on := 0, ground := Ground.phase }, { on := 1, ground := Ground.phase }, { on := 2, ground := Ground.phase }, { on := 3, ground := Ground.phase }, { on := 4, ground := Ground.phase }, { on := 5, ground := Ground.phase }, { on := 6, ground := Ground.phase }, { on := 7, ground := Ground.phase }, { on := 8, ground := Ground.phase }], guard := none }) (v := .bool u) rfl (by kernel_rfl) (by kernel_rfl) (by kernel_rfl) (fun _ _ _ h => h) (Or.inl ⟨by rfl, by intro W hSw; go_simp⟩) hHeld ?_
  try simp only [Act.put, List.setIfInBounds_toArray, List.set_cons_zero, List.set_cons_succ]
  refine wpAnyH_done (by kernel_rfl) ?_ _
  go_wp2_with fail
  refine bodyPost_ret (v := .tuple #[.agg B, .bool u]) ?_ rfl ⟨rfl, HW2.out.below _ _ HBc.out (by omega)⟩
  exact results_row_tmp (p := 2) (q := 3) (ty := 38) rfl _ _ g2 38 B (0, 0) _ rfl HW2.out.row Try.underlying38 rfl HSB.out
set_option maxHeartbeats 8000000 in
theorem eTold_claim (x : EnT) (ok : OkE x) (hk : x.k = 3) (w : World) (X B : Array Value) (HX : Hid (X = (ecells x).toArray)) (HB : Hid (B = (ecells (bareE x)).toArray)) :
    Calls Try.prog 84 #[.agg X] w fun e w' => e = .returned (.tuple #[.agg B, .bool (toldB x)]) ∧ Below w.heap.size w w' := by
  obtain ⟨Z, HZ, HA, HBZ, HNZ⟩ := noughtsE
  have HSX : Hid ((Try.prog.info? 38).map (·.size) = some X.size) := by show _ = _; rw [sizeE, HX.out]; simp [ecells_length _ ok]
  have HSB : Hid ((Try.prog.info? 38).map (·.size) = some B.size) := by show _ = _; rw [sizeE, HB.out]; simp [ecells_length _ (bareE_ok ok)]
  have H1B : Hid (B.all (·.oneCell') = true) := by show _ = _; rw [HB.out]; exact one_cellsE _
  have HZB : Hid (Z.size = B.size) := by show _ = _; rw [HNZ.out, HB.out]; simp [ecells_length _ (bareE_ok ok)]
  have HX0 : Hid ((w.alloc (.cells X 38)).heap[w.heap.size]? = some (.cells X 38 (0, 0))) := heap_alloc_new w _
  have HW0 : Hid (Below w.heap.size w (w.alloc (.cells X 38))) := (Below.refl _ _).alloc (Nat.le_refl _) _
  have ER : Hid (∀ W : World, W.heap[w.heap.size]? = some (.cells X 38 (0, 0)) → ERow W w.heap.size 0 x) := fun W h => erow_row ok HX h
  have K0 : Hid (∀ W : World, W.heap[w.heap.size]? = some (.cells X 38 (0, 0)) → W.cell? ⟨w.heap.size, 0, none⟩ = some (.int .i64 3)) := fun W h => by have := (ER.out W h).k; rwa [hk] at this
  obtain ⟨Q, HQ, HSQ, H1Q, H36Q⟩ := claim_row5 x.m ok.m
  have KQ : Hid (∀ W : World, W.heap[w.heap.size]? = some (.cells X 38 (0, 0)) → W.rangeAt w.heap.size 73 Q.toList) := fun W h => by have := (ER.out W h).m; rw [HQ.out]; simpa using this
  have BH : Hid (∀ W, (Instr.build 38 #[(0, .int .i64 3), (5, .agg Q)]).run Try.prog W = .ok (.agg B) W) := fun W => by
    refine run_build W 38 _ B (builtEm 3 x.m ok.m Q B HQ ?_)
    show _ = _
    rw [HB.out]
    unfold bareE
    rw [if_neg (by omega), if_neg (by omega), if_pos hk, hk]
  obtain ⟨E, hE⟩ : ∃ u, u = cE x.m := ⟨_, rfl⟩
  have U1 : Hid (∀ W, Calls Try.prog 61 #[.agg Q] W fun e w' => e = .returned (.int .i64 E) ∧ Below W.heap.size W w') := fun W => by rw [hE]; exact eCheckC_any x.m W Q HQ
  obtain ⟨u, hu, huE⟩ : ∃ u, u = rightC x.m ∧ (E == 0) = u := ⟨_, rfl, by rw [hE]; unfold cE; cases rightC x.m <;> rfl⟩
  rw [show toldB x = u by unfold toldB; rw [if_neg (by omega), if_neg (by omega), if_pos hk, hu]]
  have HUE := hidk huE
  clear HX HB HZ HBZ HNZ ok hk hu ER HQ hE huE
  go_enter Try.func84, Try.ntmps84
  go_wp2_with (first
    | (show wpList _ _ _ ({ dst := some 2, op := _, type := _, pos := _, after := _, guard := _ } :: _) _ _; refine wpList_new_var rfl 38 rfl Z HA.out ?_; intro g2 w1 HM2; have c0 := K0.out w1 ((HM2.out.below.block _ (heap_lt HX0.out)).trans HX0.out); try simp only [Act.put, List.setIfInBounds_toArray, List.set_cons_zero, List.set_cons_succ])
    | fail)
  have hg2 : w.heap.size < g2 := by rw [HM2.out.new]; exact heap_lt HX0.out
  have HX1 := hidk ((HM2.out.below.block _ (heap_lt HX0.out)).trans HX0.out)
  have HR2 := hidk HM2.out.row
  have HB1 := hidk (HW0.out.trans (HM2.out.below.mono HW0.out.size))
  clear HM2 HX0 HW0 c0
  refine wp_region_held_drew (S := (fun W => W.heap[w.heap.size]? = some (.cells X 38 (0, 0)))) (by kernel_rfl) HX1.out (fun hHeld => ?_)
  refine wpAnyH_take (i := 0) (oi := { dst := some 31, op := Op.fieldAddr 38 (Operand.tmp 1) 0, type := 0, pos := "entry.go:124", after := #[], guard := none }) (v := .pointer (some ⟨w.heap.size, 0, none⟩)) rfl (by kernel_rfl) (by kernel_rfl) (by kernel_rfl) (fun _ _ _ h => h) (Or.inl ⟨by rfl, by intro W hSw; go_simp⟩) hHeld ?_
  try simp only [Act.put, List.setIfInBounds_toArray, List.set_cons_zero, List.set_cons_succ]
  refine wpAnyH_take (i := 1) (oi := { dst := some 32, op := Op.load 28 (Operand.tmp 31), type := 28, pos := "entry.go:124", after := #[{ on := 0, ground := Ground.data }], guard := none }) (v := .int .i64 3) rfl (by kernel_rfl) (by kernel_rfl) (by kernel_rfl) (fun _ _ _ h => h) (Or.inl ⟨by rfl, by intro W hSw; have h1 := K0.out W hSw; go_simp⟩) hHeld ?_
  try simp only [Act.put, List.setIfInBounds_toArray, List.set_cons_zero, List.set_cons_succ]
  refine wpAnyH_take (i := 2) (oi := { dst := some 33, op := Op.fieldAddr 38 (Operand.tmp 1) 5, type := 0, pos := "entry.go:124", after := #[], guard := none }) (v := .pointer (some ⟨w.heap.size, 73, none⟩)) rfl (by kernel_rfl) (by kernel_rfl) (by kernel_rfl) (fun _ _ _ h => h) (Or.inl ⟨by rfl, by intro W hSw; go_simp⟩) hHeld ?_
  try simp only [Act.put, List.setIfInBounds_toArray, List.set_cons_zero, List.set_cons_succ]
  refine wpAnyH_take (i := 3) (oi := { dst := some 34, op := Op.load 36 (Operand.tmp 33), type := 36, pos := "entry.go:124", after := #[{ on := 2, ground := Ground.data }], guard := none }) (v := .agg Q) rfl (by kernel_rfl) (by kernel_rfl) (by kernel_rfl) (fun _ _ _ h => h) (yieldsIf_mid (by rfl) 36 (.tmp 33) rfl w.heap.size 73 rfl Q _ (fun W h => KQ.out W h) Try.underlying36 rfl HSQ.out) hHeld ?_
  try simp only [Act.put, List.setIfInBounds_toArray, List.set_cons_zero, List.set_cons_succ]
  refine wpAnyH_take (i := 4) (oi := { dst := some 35, op := Op.build 38 #[(0, Operand.tmp 32), (5, Operand.tmp 34)], type := 38, pos := "entry.go:124", after := #[{ on := 1, ground := Ground.data }, { on := 3, ground := Ground.data }], guard := none }) (v := .agg B) rfl (by kernel_rfl) (by kernel_rfl) (by kernel_rfl) (fun _ _ _ h => h) (yieldsIf_build (by rfl) 38 _ rfl #[(0, .int .i64 3), (5, .agg Q)] rfl (.agg B) BH.out) hHeld ?_
  try simp only [Act.put, List.setIfInBounds_toArray, List.set_cons_zero, List.set_cons_succ]
  refine wpAnyH_take (i := 5) (oi := { dst := some 36, op := Op.fieldAddr 38 (Operand.tmp 1) 5, type := 0, pos := "entry.go:124", after := #[], guard := none }) (v := .pointer (some ⟨w.heap.size, 73, none⟩)) rfl (by kernel_rfl) (by kernel_rfl) (by kernel_rfl) (fun _ _ _ h => h) (Or.inl ⟨by rfl, by intro W hSw; go_simp⟩) hHeld ?_
  try simp only [Act.put, List.setIfInBounds_toArray, List.set_cons_zero, List.set_cons_succ]
  refine wpAnyH_take (i := 6) (oi := { dst := some 37, op := Op.load 36 (Operand.tmp 36), type := 36, pos := "entry.go:124", after := #[{ on := 5, ground := Ground.data }], guard := none }) (v := .agg Q) rfl (by kernel_rfl) (by kernel_rfl) (by kernel_rfl) (fun _ _ _ h => h) (yieldsIf_mid (by rfl) 36 (.tmp 36) rfl w.heap.size 73 rfl Q _ (fun W h => KQ.out W h) Try.underlying36 rfl HSQ.out) hHeld ?_
  try simp only [Act.put, List.setIfInBounds_toArray, List.set_cons_zero, List.set_cons_succ]
  refine wpAnyH_ready (rs := [7]) (by kernel_rfl) (by simp) ?_
  refine (AllReadyH.cons (o := { dst := some 38, op := Op.call { callee := Callee.value (Operand.func 61), args := #[Operand.tmp 37], argTypes := #[36] }, type := 44, pos := "entry.go:124", after := #[{ on := 6, ground := Ground.data }], guard := none }) rfl (fun K hK => ?_) AllReadyH.nil)
  go_simp
  refine (U1.out _).mono ?_
  rintro e w7 ⟨rfl, hbc⟩
  have HBc := hidk (HB1.out.drew.trans (hbc.mono HB1.out.size))
  have HR2c := hidk ((hbc.block g2 (heap_lt HR2.out)).trans HR2.out)
  go_wp2_with fail
  refine hK.out _ _ ((hbc.block _ (heap_lt HX1.out)).trans HX1.out) (fun hHeld => ?_)
  clear hK K
  try simp only [Act.put, List.setIfInBounds_toArray, List.set_cons_zero, List.set_cons_succ]
  refine wpAnyH_take (i := 8) (oi := { dst := some 39, op := Op.binOp BinOp.eql 44 (Operand.tmp 38) (Operand.const (Value.int IntKind.i64 0)) 44, type := 4, pos := "entry.go:124", after := #[{ on := 7, ground := Ground.data }, { on := 9, ground := Ground.gcOnly Departure.lateStores }], guard := none }) (v := .bool u) rfl (by kernel_rfl) (by kernel_rfl) (by kernel_rfl) (fun _ _ _ h => h) (Or.inl ⟨by rfl, by intro W hSw; have h1 := HUE.out; go_simp⟩) hHeld ?_
  try simp only [Act.put, List.setIfInBounds_toArray, List.set_cons_zero, List.set_cons_succ]
  refine wpAnyH_ready (rs := [9]) (by kernel_rfl) (by simp) ?_
  refine (AllReadyH.cons (o := { dst := none, op := Op.store 38 (Operand.tmp 2) (Operand.tmp 35), type := 0, pos := "entry.go:124", after := #[{ on := 4, ground := Ground.data }, { on := 7, ground := Ground.chain }, { on := 0, ground := Ground.phase }, { on := 1, ground := Ground.phase }, { on := 2, ground := Ground.phase }, { on := 3, ground := Ground.phase }, { on := 4, ground := Ground.phase }, { on := 5, ground := Ground.textOnly Departure.lateStores }, { on := 6, ground := Ground.textOnly Departure.lateStores }, { on := 7, ground := Ground.textOnly Departure.lateStoresUnsure }, { on := 8, ground := Ground.textOnly Departure.lateStores }], guard := none }) rfl (fun K hK => ?_) AllReadyH.nil)
  refine step_set_var (by rfl) 38 (.tmp 2) (.tmp 35) rfl g2 B rfl rfl 38 Z HR2c.out HSB.out HZB.out H1B.out ?_
  intro wz HW2
  refine hK.out _ _ ((HW2.out.other _ (by omega)).trans hHeld) (fun hHeld => ?_)
  clear hK K
  try simp only [Act.put, List.setIfInBounds_toArray, List.set_cons_zero, List.set_cons_succ]
  refine wpAnyH_take (i := 10) (oi := { dst := some 3, op := Op.assign (Operand.tmp 39), type := 4, pos := "entry.go:124", after := #[{ on := 8, ground := Ground.data }, { on := 9, ground := Ground.chain }, { on := 0, ground := Ground.phase }, { on := 1, ground := Ground.phase }, { on := 2, ground := Ground.phase }, { on := 3, ground := Ground.phase }, { on := 4, ground := Ground.phase }, { on := 5, ground := Ground.phase }, { on := 6, ground := Ground.phase }, { on := 7, ground := Ground.phase }, { on := 8, ground := Ground.phase }, { on := 9, ground := Ground.phase }], guard := none }) (v := .bool u) rfl (by kernel_rfl) (by kernel_rfl) (by kernel_rfl) (fun _ _ _ h => h) (Or.inl ⟨by rfl, by intro W hSw; go_simp⟩) hHeld ?_
  try simp only [Act.put, List.setIfInBounds_toArray, List.set_cons_zero, List.set_cons_succ]
  refine wpAnyH_done (by kernel_rfl) ?_ _
  go_wp2_with fail
  refine bodyPost_ret (v := .tuple #[.agg B, .bool u]) ?_ rfl ⟨rfl, HW2.out.below _ _ HBc.out (by omega)⟩
  exact results_row_tmp (p := 2) (q := 3) (ty := 38) rfl _ _ g2 38 B (0, 0) _ rfl HW2.out.row Try.underlying38 rfl HSB.out
set_option maxHeartbeats 8000000 in
theorem eTold_none (x : EnT) (ok : OkE x) (hk : ¬ x.k = 1 ∧ ¬ x.k = 2 ∧ ¬ x.k = 3) (w : World) (X B : Array Value) (HX : Hid (X = (ecells x).toArray)) (HB : Hid (B = (ecells (bareE x)).toArray)) :
    Calls Try.prog 84 #[.agg X] w fun e w' => e = .returned (.tuple #[.agg B, .bool (toldB x)]) ∧ Below w.heap.size w w' := by
  obtain ⟨Z, HZ, HA, HBZ, HNZ⟩ := noughtsE
  have HSX : Hid ((Try.prog.info? 38).map (·.size) = some X.size) := by show _ = _; rw [sizeE, HX.out]; simp [ecells_length _ ok]
  have HSB : Hid ((Try.prog.info? 38).map (·.size) = some B.size) := by show _ = _; rw [sizeE, HB.out]; simp [ecells_length _ (bareE_ok ok)]
  have H1B : Hid (B.all (·.oneCell') = true) := by show _ = _; rw [HB.out]; exact one_cellsE _
  have HZB : Hid (Z.size = B.size) := by show _ = _; rw [HNZ.out, HB.out]; simp [ecells_length _ (bareE_ok ok)]
  have HX0 : Hid ((w.alloc (.cells X 38)).heap[w.heap.size]? = some (.cells X 38 (0, 0))) := heap_alloc_new w _
  have HW0 : Hid (Below w.heap.size w (w.alloc (.cells X 38))) := (Below.refl _ _).alloc (Nat.le_refl _) _
  have ER : Hid (∀ W : World, W.heap[w.heap.size]? = some (.cells X 38 (0, 0)) → ERow W w.heap.size 0 x) := fun W h => erow_row ok HX h
  obtain ⟨h1, h2, h3⟩ := hk
  obtain rfl : B = Z := by rw [HB.out, HZ.out]; unfold bareE; rw [if_neg h1, if_neg h2, if_neg h3]
  rw [show toldB x = false by unfold toldB; rw [if_neg h1, if_neg h2, if_neg h3]]
  have q1 : (x.k == 1) = false := by rw [beq_eq_false_iff_ne]; exact h1
  have q2 : (x.k == 2) = false := by rw [beq_eq_false_iff_ne]; exact h2
  have q3 : (x.k == 3) = false := by rw [beq_eq_false_iff_ne]; exact h3
  have d1 : decide (x.k = 1) = false := by rw [decide_eq_false_iff_not]; exact h1
  have d2 : decide (x.k = 2) = false := by rw [decide_eq_false_iff_not]; exact h2
  have d3 : decide (x.k = 3) = false := by rw [decide_eq_false_iff_not]; exact h3
  obtain ⟨k, hk⟩ : ∃ k, k = x.k := ⟨_, rfl⟩
  rw [← hk] at q1 q2 q3 d1 d2 d3 h1 h2 h3
  have K0 : Hid (∀ W : World, W.heap[w.heap.size]? = some (.cells X 38 (0, 0)) → W.cell? ⟨w.heap.size, 0, none⟩ = some (.int .i64 k)) := fun W h => by have := (ER.out W h).k; rwa [← hk] at this
  clear HX HB HZ HNZ ok hk ER
  go_enter Try.func84, Try.ntmps84
  go_wp2_with (first
    | (show wpList _ _ _ ({ dst := some 2, op := _, type := _, pos := _, after := _, guard := _ } :: _) _ _; refine wpList_new_var rfl 38 rfl B HA.out ?_; intro g2 w1 HM2; have c0 := K0.out w1 ((HM2.out.below.block _ (heap_lt HX0.out)).trans HX0.out); try simp only [Act.put, List.setIfInBounds_toArray, List.set_cons_zero, List.set_cons_succ])
    | (show wpList _ _ _ ({ dst := some 40, op := _, type := _, pos := _, after := _, guard := _ } :: _) _ _; refine wpList_build_none rfl 38 rfl B HBZ.out ?_; try simp only [Act.put, List.setIfInBounds_toArray, List.set_cons_zero, List.set_cons_succ])
    | (refine wpList_set_var rfl 38 (.tmp 2) (.tmp 40) rfl g2 B rfl rfl 38 B HM2.out.row HSB.out rfl H1B.out ?_; intro wz HW2; try simp only [Act.put, List.setIfInBounds_toArray, List.set_cons_zero, List.set_cons_succ])
    | fail)
  have hg2 : w.heap.size < g2 := by rw [HM2.out.new]; exact heap_lt HX0.out
  have HB1 := hidk (HW0.out.trans (HM2.out.below.mono HW0.out.size))
  refine bodyPost_ret (v := .tuple #[.agg B, .bool false]) ?_ rfl ⟨rfl, HW2.out.below _ _ HB1.out (by omega)⟩
  exact results_row_tmp (p := 2) (q := 3) (ty := 38) rfl _ _ g2 38 B (0, 0) _ rfl HW2.out.row Try.underlying38 rfl HSB.out
theorem eTold_any (x : EnT) (ok : OkE x) (w : World) (X B : Array Value) (HX : Hid (X = (ecells x).toArray)) (HB : Hid (B = (ecells (bareE x)).toArray)) :
    Calls Try.prog 84 #[.agg X] w fun e w' => e = .returned (.tuple #[.agg B, .bool (toldB x)]) ∧ Below w.heap.size w w' := by
  by_cases h1 : x.k = 1
  · exact eTold_user x ok h1 w X B HX HB
  by_cases h2 : x.k = 2
  · exact eTold_anchor x ok h2 w X B HX HB
  by_cases h3 : x.k = 3
  · exact eTold_claim x ok h3 w X B HX HB
  exact eTold_none x ok ⟨h1, h2, h3⟩ w X B HX HB
set_option maxHeartbeats 4000000 in
theorem eCheck_any (x : EnT) (ok : OkE x) (w : World) (X : Array Value) (HX : Hid (X = (ecells x).toArray)) :
    Calls Try.prog 60 #[.agg X] w fun e w' => e = .returned (.int .i64 (eE x)) ∧ Below w.heap.size w w' := by
  have hnot : ∀ (x : Bool) (w : World), (Op.unary .not (.bool x)).run Try.prog w = .ok (.bool (!x)) w := fun _ _ => rfl
  obtain ⟨Z, HZ, HA, HBZ, HNZ⟩ := noughtsE
  obtain ⟨B, HB, HSB, H1B, HNB⟩ := entry_row (bareE x) (bareE_ok ok)
  have HSX : Hid ((Try.prog.info? 38).map (·.size) = some X.size) := by show _ = _; rw [sizeE, HX.out]; simp [ecells_length _ ok]
  have HZB : Hid (Z.size = B.size) := by show _ = _; rw [HNZ.out, HNB.out]
  have HX0 : Hid ((w.alloc (.cells X 38)).heap[w.heap.size]? = some (.cells X 38 (0, 0))) := heap_alloc_new w _
  have HW0 : Hid (Below w.heap.size w (w.alloc (.cells X 38))) := (Below.refl _ _).alloc (Nat.le_refl _) _
  obtain ⟨u, hu⟩ : ∃ u, u = toldB x := ⟨_, rfl⟩
  obtain ⟨q, hq⟩ : ∃ q : Bool, q = false ↔ bareE x = x := by
    by_cases h : bareE x = x
    · exact ⟨false, by simp [h]⟩
    · exact ⟨true, by simp [h]⟩
  have T1 : Hid (∀ W, Calls Try.prog 84 #[.agg X] W fun e w' => e = .returned (.tuple #[.agg B, .bool u]) ∧ Below W.heap.size W w') := fun W => by rw [hu]; exact eTold_any x ok W X B HX HB
  have NQ : ∀ W, (binOp .neq 38 (.agg B) (.agg X)).run Try.prog W = .ok (.bool q) W := fun W => neqEntry (bareE x) x (bareE_ok ok) ok B X HB HX q hq W
  have hE : eE x = if (u && !q) = true then 0 else 60 := by
    unfold eE
    congr 1
    rw [eq_iff_iff, told_right, hu, Bool.and_eq_true, ← hq]
    cases q <;> simp
  rw [hE]
  clear HX HB hE hu hq HZ HBZ HNZ HNB ok
  cases u
  · go_enter Try.func60, Try.ntmps60
    go_wp2_with (first
      | (show wpList _ _ _ ({ dst := some 6, op := _, type := _, pos := _, after := _, guard := _ } :: _) _ _; refine wpList_load_row rfl 38 (.tmp 1) rfl w.heap.size rfl 38 X (0, 0) _ HX0.out Try.underlying38 rfl HSX.out ?_; try simp only [Act.put, List.setIfInBounds_toArray, List.set_cons_zero, List.set_cons_succ])
      | fail)
    refine (T1.out _).mono ?_
    rintro e w1 ⟨rfl, hb1⟩
    have HB1 := hidk (HW0.out.trans (hb1.mono HW0.out.size))
    clear hb1 T1
    go_wp2_with (first
      | (show wpList _ _ _ ({ dst := some 3, op := _, type := _, pos := _, after := _, guard := _ } :: _) _ _; refine wpList_new_var rfl 38 rfl Z HA.out ?_; intro g3 w2 HM3; try simp only [Act.put, List.setIfInBounds_toArray, List.set_cons_zero, List.set_cons_succ])
      | (refine wpList_set_var rfl 38 (.tmp 3) (.tmp 8) rfl g3 B rfl rfl 38 Z HM3.out.row HSB.out HZB.out H1B.out ?_; intro w3 HW3; try simp only [Act.put, List.setIfInBounds_toArray, List.set_cons_zero, List.set_cons_succ])
      | fail)
    have h3 : w.heap.size ≤ g3 := by rw [HM3.out.new]; exact HB1.out.size
    go_ret
    exact ⟨rfl, HW3.out.below _ _ (HB1.out.trans (HM3.out.below.mono HB1.out.size)) h3⟩
  · go_enter Try.func60, Try.ntmps60
    go_wp2_with (first
      | (show wpList _ _ _ ({ dst := some 6, op := _, type := _, pos := _, after := _, guard := _ } :: _) _ _; refine wpList_load_row rfl 38 (.tmp 1) rfl w.heap.size rfl 38 X (0, 0) _ HX0.out Try.underlying38 rfl HSX.out ?_; try simp only [Act.put, List.setIfInBounds_toArray, List.set_cons_zero, List.set_cons_succ])
      | fail)
    refine (T1.out _).mono ?_
    rintro e w1 ⟨rfl, hb1⟩
    have HB1 := hidk (HW0.out.trans (hb1.mono HW0.out.size))
    have HX1 := hidk ((hb1.block _ (heap_lt HX0.out)).trans HX0.out)
    have hx1 := heap_lt HX1.out
    clear hb1 T1
    cases q
    all_goals
      go_wp2_with (first
        | (show wpList _ _ _ ({ dst := some 3, op := _, type := _, pos := _, after := _, guard := _ } :: _) _ _; refine wpList_new_var rfl 38 rfl Z HA.out ?_; intro g3 w2 HM3; try simp only [Act.put, List.setIfInBounds_toArray, List.set_cons_zero, List.set_cons_succ])
        | (refine wpList_set_var rfl 38 (.tmp 3) (.tmp 8) rfl g3 B rfl rfl 38 Z HM3.out.row HSB.out HZB.out H1B.out ?_; intro w3 HW3; try simp only [Act.put, List.setIfInBounds_toArray, List.set_cons_zero, List.set_cons_succ])
        | (show wpList _ _ _ ({ dst := some 13, op := _, type := _, pos := _, after := _, guard := _ } :: _) _ _; refine wpList_load_row_w (by rfl) 38 (.tmp 3) rfl g3 rfl 38 B (0, 0) _ HW3.out.row Try.underlying38 rfl HSB.out ?_; try simp only [Act.put, List.setIfInBounds_toArray, List.set_cons_zero, List.set_cons_succ])
        | (show wpList _ _ _ ({ dst := some 14, op := _, type := _, pos := _, after := _, guard := _ } :: _) _ _; refine wpList_load_row_w (by rfl) 38 (.tmp 1) rfl w.heap.size rfl 38 X (0, 0) _ ((HW3.out.other _ (by have e1 := HM3.out.new; omega)).trans ((HM3.out.below.block _ hx1).trans HX1.out)) Try.underlying38 rfl HSX.out ?_; try simp only [Act.put, List.setIfInBounds_toArray, List.set_cons_zero, List.set_cons_succ])
        | fail)
      have h3 : w.heap.size ≤ g3 := by rw [HM3.out.new]; exact HB1.out.size
      go_ret
      exact ⟨rfl, HW3.out.below _ _ (HB1.out.trans (HM3.out.below.mono HB1.out.size)) h3⟩
end Go.Proofs.Ytjpmmbmhkpgjcaa

/- What a reader's own calls answer: what is left of a row, field by field. -/
namespace Go.Proofs.Ytjpmmbmhkpgjcaa
open Go.RowKit Sums Nums
set_option linter.unusedVariables false
set_option linter.unusedSimpArgs false
set_option maxRecDepth 100000
theorem grownBy_set0 (W : World) (b : Nat) (v : Value) : W.grownBy (W.setCell ⟨b, 0, none⟩ v) (some b) :=
  ⟨rfl, rfl, rfl, by simp [World.setCell], fun k _ hk => Below.heap_setCell W ⟨b, 0, none⟩ v k (fun e => hk (by rw [e]))⟩
/-- The fields that are left of a row, by a reader's variable g; they lie in a block from lo on, below g. -/
def Rd (W : World) (lo g : Nat) (fs : List (Int × ByteArray)) : Prop :=
  ∃ a cap, W.heap[g]? = some (.cells #[.slice a fs.length cap] 176 (0, 0)) ∧ lo ≤ g ∧ fs.length ≤ cap ∧ cap ≤ 9223372036854775807 ∧ (∀ f ∈ fs, f.2.size ≤ maxLen) ∧
    (fs = [] ∨ ∃ b off, a = some ⟨b, off, none⟩ ∧ lo ≤ b ∧ b < g ∧ ∀ (i : Nat) (h : i < fs.length), W.cell? ⟨b, off + i * 2, none⟩ = some (.int .i64 fs[i].1) ∧ W.cell? ⟨b, off + i * 2 + 1, none⟩ = some (.string fs[i].2))
theorem Rd.keep {W W' : World} {lo g : Nat} {fs : List (Int × ByteArray)} (h : Rd W lo g fs) (hb : ∀ k, lo ≤ k → k ≤ g → W'.heap[k]? = W.heap[k]?) : Rd W' lo g fs := by
  obtain ⟨a, cap, h1, h2, h3, h4, h5, h6⟩ := h
  refine ⟨a, cap, (hb g h2 (Nat.le_refl _)).trans h1, h2, h3, h4, h5, ?_⟩
  rcases h6 with h6 | ⟨b, off, e, hl, hg, hc⟩
  · exact .inl h6
  · have hk := hb b hl (by omega)
    exact .inr ⟨b, off, e, hl, hg, fun i hi => ⟨(World.cell?_of_block (a := ⟨b, off + i * 2, none⟩) hk).trans (hc i hi).1, (World.cell?_of_block (a := ⟨b, off + i * 2 + 1, none⟩) hk).trans (hc i hi).2⟩⟩
theorem Rd.lt {W : World} {lo g : Nat} {fs : List (Int × ByteArray)} (h : Rd W lo g fs) : g < W.heap.size := by
  obtain ⟨a, cap, h1, _⟩ := h
  exact heap_lt h1
theorem Rd.below {W W' : World} {lo g : Nat} {fs : List (Int × ByteArray)} (h : Rd W lo g fs) (hb : Below W.heap.size W W') : Rd W' lo g fs :=
  h.keep fun k _ hk => hb.block k (Nat.lt_of_le_of_lt hk h.lt)
theorem Rd.wrote {W W' : World} {lo g k : Nat} {D : Array Value} {t : TypeId} {fs : List (Int × ByteArray)} (h : Rd W lo g fs) (hw : Wrote k D t W W') (hk : k < lo ∨ g < k) : Rd W' lo g fs :=
  h.keep fun i hi hg => hw.other i (by omega)
def tkD (tag : Int) (fs : List (Int × ByteArray)) : ByteArray := match fs with
  | f :: _ => if f.1 = tag then f.2 else ⟨#[]⟩
  | [] => ⟨#[]⟩
def tkB (tag : Int) (fs : List (Int × ByteArray)) : Bool := match fs with
  | f :: _ => decide (f.1 = tag)
  | [] => false
def tkR (tag : Int) (fs : List (Int × ByteArray)) : List (Int × ByteArray) := match fs with
  | f :: r => if f.1 = tag then r else f :: r
  | [] => []
theorem ended_any (W : World) (lo g : Nat) (fs : List (Int × ByteArray)) (h : Rd W lo g fs) (x : Bool) (hx : x = decide (fs.length = 0)) :
    Calls Try.prog 148 #[.pointer (some ⟨g, 0, none⟩)] W fun e w' => e = .returned (.bool x) ∧ w' = W := by
  obtain ⟨a, cap, h1, h2, h3, h4, h5, h6⟩ := h
  have hc : W.cell? ⟨g, 0, none⟩ = some (.slice a fs.length cap) := by rw [cell_of_row W g 0 _ _ (0, 0) h1]; rfl
  have hm : fs.length ≤ 9223372036854775807 := by omega
  subst hx
  cases fs with
  | nil =>
    clear h1 h2 h3 h5 h6
    simp only [List.length_nil] at hc
    go_enter Try.func148, Try.ntmps148
    go_wp2
    go_ret
    exact ⟨rfl, rfl⟩
  | cons f r =>
    clear h1 h2 h3 h5 h6
    simp only [List.length_cons] at hc hm
    go_enter Try.func148, Try.ntmps148
    go_wp2
    go_ret
    exact ⟨by simp; omega, rfl⟩
set_option maxHeartbeats 2000000 in
theorem data_any (W : World) (lo g : Nat) (fs : List (Int × ByteArray)) (tag : Int) (h : Rd W lo g fs) :
    Calls Try.prog 149 #[.pointer (some ⟨g, 0, none⟩), .int .i64 tag] W fun e w' => e = .returned (.tuple #[.string (tkD tag fs), .bool (tkB tag fs)]) ∧ W.grownBy w' (some g) ∧ Rd w' lo g (tkR tag fs) := by
  obtain ⟨x, hx⟩ : ∃ x, x = decide (fs.length = 0) := ⟨_, rfl⟩
  have E1 : Hid (Calls Try.prog 148 #[.pointer (some ⟨g, 0, none⟩)] W fun e w' => e = .returned (.bool x) ∧ w' = W) := ended_any W lo g fs h x hx
  have HR := hidk h
  obtain ⟨a, cap, h1, h2, h3, h4, h5, h6⟩ := h
  have hc : W.cell? ⟨g, 0, none⟩ = some (.slice a fs.length cap) := by rw [cell_of_row W g 0 _ _ (0, 0) h1]; rfl
  have hm : fs.length ≤ 9223372036854775807 := by omega
  cases fs with
  | nil =>
    obtain rfl : x = true := by rw [hx]; rfl
    clear h1 h2 h3 h5 h6 hx hc hm
    go_enter Try.func149, Try.ntmps149
    go_wp2_with fail
    refine E1.out.mono ?_
    rintro e w1 ⟨rfl, rfl⟩
    go_wp2
    go_ret2
    exact ⟨rfl, World.grownBy.refl _ _, HR.out⟩
  | cons f r =>
    obtain rfl : x = false := by rw [hx]; simp
    rcases h6 with h6 | ⟨b, off, rfl, hl, hg, hcs⟩
    · cases h6
    have c0 := (hcs 0 (by simp)).1
    have c1 := (hcs 0 (by simp)).2
    simp only [Nat.zero_mul, Nat.add_zero, List.getElem_cons_zero] at c0 c1
    simp only [List.length_cons] at hc hm h3
    have hfz : W.frozen? ⟨g, 0, none⟩ = false := frozen_of_row W g 0 _ _ h1
    by_cases ht : f.1 = tag
    · have HE : Hid (tkD tag (f :: r) = f.2 ∧ tkB tag (f :: r) = true ∧ tkR tag (f :: r) = r) := ⟨if_pos ht, by show decide _ = true; simpa using ht, if_pos ht⟩
      rw [HE.out.1, HE.out.2.1, HE.out.2.2]
      obtain ⟨d, hd⟩ : ∃ d, d = f.2 := ⟨_, rfl⟩
      rw [ht] at c0
      rw [← hd] at c1 ⊢
      clear HE ht hd
      by_cases hcap : cap = 1
      · obtain rfl : r = [] := List.eq_nil_of_length_eq_zero (by omega)
        subst hcap
        have HG := hidk (grownBy_set0 W g (.slice (some ⟨b, off, none⟩) 0 0))
        have HN : Hid (Rd (W.setCell ⟨g, 0, none⟩ (.slice (some ⟨b, off, none⟩) 0 0)) lo g []) :=
          ⟨some ⟨b, off, none⟩, 0, Go.heap_setCell_same W g 0 _ _ _ h1, h2, Nat.le_refl _, by omega, fun y hy => by simp at hy, .inl rfl⟩
        simp only [List.length_nil, Nat.zero_add] at hc
        clear h1 h2 h5 hx HR hcs h3 hm
        go_enter Try.func149, Try.ntmps149
        go_wp2_with fail
        refine E1.out.mono ?_
        rintro e w1 ⟨rfl, rfl⟩
        go_wp2
        go_ret2
        exact ⟨rfl, HG.out, HN.out⟩
      · have HG := hidk (grownBy_set0 W g (.slice (some ⟨b, off + 2, none⟩) r.length (cap - 1)))
        have HN : Hid (Rd (W.setCell ⟨g, 0, none⟩ (.slice (some ⟨b, off + 2, none⟩) r.length (cap - 1))) lo g r) := by
          refine ⟨some ⟨b, off + 2, none⟩, cap - 1, ?_, h2, by omega, by omega, fun y hy => h5 y (List.mem_cons_of_mem _ hy), .inr ⟨b, off + 2, rfl, hl, hg, fun i hi => ?_⟩⟩
          · exact Go.heap_setCell_same W g 0 _ _ _ h1
          · have hk := Below.heap_setCell W ⟨g, 0, none⟩ (.slice (some ⟨b, off + 2, none⟩) r.length (cap - 1)) b (by show b ≠ g; omega)
            have hh := hcs (i + 1) (by simpa using hi)
            rw [show off + (i + 1) * 2 = off + 2 + i * 2 by omega] at hh
            exact ⟨(World.cell?_of_block (a := ⟨b, off + 2 + i * 2, none⟩) hk).trans hh.1, (World.cell?_of_block (a := ⟨b, off + 2 + i * 2 + 1, none⟩) hk).trans hh.2⟩
        have hcap' : ¬ cap - 1 = 0 := by omega
        clear h1 h2 h5 hx HR hcs
        go_enter Try.func149, Try.ntmps149
        go_wp2_with fail
        refine E1.out.mono ?_
        rintro e w1 ⟨rfl, rfl⟩
        go_wp2
        go_ret2
        exact ⟨rfl, HG.out, HN.out⟩
    · have HE : Hid (tkD tag (f :: r) = ⟨#[]⟩ ∧ tkB tag (f :: r) = false ∧ tkR tag (f :: r) = f :: r) := ⟨if_neg ht, by show decide _ = false; simpa using ht, if_neg ht⟩
      rw [HE.out.1, HE.out.2.1, HE.out.2.2]
      obtain ⟨t, hd⟩ : ∃ d, d = f.1 := ⟨_, rfl⟩
      rw [← hd] at c0 ht
      clear h1 h2 h5 hx hcs HE hd c1
      go_enter Try.func149, Try.ntmps149
      go_wp2_with fail
      refine E1.out.mono ?_
      rintro e w1 ⟨rfl, rfl⟩
      go_wp2
      go_ret2
      exact ⟨rfl, World.grownBy.refl _ _, HR.out⟩
end Go.Proofs.Ytjpmmbmhkpgjcaa
