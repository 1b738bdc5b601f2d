/- Texts of our own that the row of PathMakes leans on, part 22. -/
import Derived.Test.YtkmedlfbkddmoaaGreatDoorPathMakesJ1
import Derived.Test.YtkmedlfbkddmoaaGreatDoorPathMakesJ11
import Derived.Test.YtkmedlfbkddmoaaGreatDoorPathMakesJ14
import Derived.Test.YtkmedlfbkddmoaaGreatDoorPathMakesJ20
import Derived.Test.YtkmedlfbkddmoaaGreatDoorPathMakesJ21
/- What the document's Verify and Parts answer. -/
namespace Go.Proofs.YtkmedlfbkddmoaaGreatDoor
open Go.RowKit Sums Nums
set_option linter.unusedVariables false
set_option linter.unusedSimpArgs false
set_option maxRecDepth 100000
theorem builtH (h : HdT) (hd : h.d.length = 32) (D R : Array Value) (HD : Hid (D = (cellsOf h.d).toArray)) (HR : Hid (R = (hcells h).toArray)) : Tryz.prog.built 26 [(0, .int .i64 h.r), (1, .int .i64 h.e), (2, .int .i64 h.s), (3, .agg D), (4, .int .i64 h.t)] = some R := by
  have hi := infoH
  cases hq : Tryz.prog.info? 26 with
  | none => rw [hq] at hi; cases hi
  | some i =>
    rw [hq] at hi
    simp only [Option.map_some, Option.some.injEq, Prod.mk.injEq] at hi
    have hD := size23
    have h3 : (Tryz.prog.info? 3).map (·.size) = some 1 := by kernel_rfl
    cases hqD : Tryz.prog.info? 24 with
    | none => rw [hqD] at hD; cases hD
    | some iD =>
      cases hq3 : Tryz.prog.info? 3 with
      | none => rw [hq3] at h3; cases h3
      | some i3 =>
        rw [hqD] at hD
        rw [hq3] at h3
        simp only [Option.map_some, Option.some.injEq] at hD h3
        unfold Program.built
        simp only [hq, Tryz.underlying26, hi.1, List.mapM_cons, List.mapM_nil, hqD, hq3, hD, h3, Option.map_some, Option.bind_eq_bind, Option.bind_some, Option.pure_def]
        show Instr.fill _ (hcells zeroH).toArray _ = some R
        have hd32 : D.size = 32 := by rw [HD.out]; simp [cellsOf_length, hd]
        refine (fill_val _ 0 0 1 (.int .i64 h.r) #[.int .i64 h.r] _ [] [.int .i64 0] ([.int .i64 0, .int .i64 0] ++ cellsOf (List.replicate 32 0) ++ [.int .i64 0]) _ rfl rfl rfl (by simp [hcells, zeroH]) rfl rfl).trans ?_
        refine (fill_val _ 1 1 1 (.int .i64 h.e) #[.int .i64 h.e] _ [.int .i64 h.r] [.int .i64 0] ([.int .i64 0] ++ cellsOf (List.replicate 32 0) ++ [.int .i64 0]) _ rfl rfl rfl (by simp) rfl rfl).trans ?_
        refine (fill_val _ 2 2 1 (.int .i64 h.s) #[.int .i64 h.s] _ [.int .i64 h.r, .int .i64 h.e] [.int .i64 0] (cellsOf (List.replicate 32 0) ++ [.int .i64 0]) _ rfl rfl rfl (by simp) rfl rfl).trans ?_
        refine (fill_val _ 3 3 32 (.agg D) D _ [.int .i64 h.r, .int .i64 h.e, .int .i64 h.s] (cellsOf (List.replicate 32 0)) [.int .i64 0] _ rfl rfl hd32 (by simp) rfl (by simp [cellsOf_length])).trans ?_
        refine (fill_val _ 4 35 1 (.int .i64 h.t) #[.int .i64 h.t] _ ([.int .i64 h.r, .int .i64 h.e, .int .i64 h.s] ++ D.toList) [.int .i64 0] [] _ rfl rfl rfl (by simp) (by simp [hd32]) rfl).trans ?_
        simp only [Instr.fill, List.append_nil, Option.some.injEq]
        rw [HR.out, HD.out]
        rfl
def getHO (bs : List UInt8) : HdT := (getO bs).getD zeroH
theorem sizeOfDD (w : World) : (sizeOf 24).run Tryz.prog w = .ok 32 w := by
  cases hq : Tryz.prog.info? 24 with
  | none => have := size23; simp [hq] at this
  | some i => have := size23; simp [hq] at this; simp [sizeOf, typeInfo, hq, this]
theorem sizeOfHH (w : World) : (sizeOf 26).run Tryz.prog w = .ok 36 w := by
  cases hq : Tryz.prog.info? 26 with
  | none => have := sizeH; simp [hq] at this
  | some i => have := sizeH; simp [hq] at this; simp [sizeOf, typeInfo, hq, this]
theorem cut_list (l : List Value) (off n : Nat) (m : List Value) (h : (l.drop off).take n = m) : l.toArray.extract off (off + n) = m.toArray := by
  rw [← h, List.extract_toArray, List.extract_eq_take_drop, Nat.add_sub_cancel_left]
theorem part_dig (l : List Value) (off : Nat) (m : List Value) (h : (l.drop off).take 32 = m) (w : World) : (Go.part 24 l.toArray off).run Tryz.prog w = .ok (.agg m.toArray) w := by
  have e := cut_list l off 32 m h
  simp only [Go.part, isAgg, run_underlying Tryz.underlying24, sizeOfDD, Sem.run_bind, Sem.run_pure, Result.andThen_ok, if_true, e]
theorem part_head (l : List Value) (off : Nat) (m : List Value) (h : (l.drop off).take 36 = m) (w : World) : (Go.part 26 l.toArray off).run Tryz.prog w = .ok (.agg m.toArray) w := by
  have e := cut_list l off 36 m h
  simp only [Go.part, isAgg, run_underlying Tryz.underlying26, sizeOfHH, Sem.run_bind, Sem.run_pure, Result.andThen_ok, if_true, e]
theorem part_int (l : List Value) (off : Nat) (v : Value) (h : l[off]? = some v) (w : World) : (Go.part 3 l.toArray off).run Tryz.prog w = .ok v w := by
  simp [Go.part, isAgg, run_underlying Tryz.underlying3, h]
theorem heldH : Tryz.prog.stoodInHeld 26 = false := by kernel_rfl
theorem heldS : Tryz.prog.stoodInHeld 28 = false := by kernel_rfl
theorem hcells_d (h : HdT) (hd : h.d.length = 32) : ((hcells h).drop 3).take 32 = cellsOf h.d := by
  show (cellsOf h.d ++ [Value.int .i64 h.t]).take 32 = _
  rw [List.take_left' (by rw [cellsOf_length, hd])]
theorem hcells_t (h : HdT) (hd : h.d.length = 32) : (hcells h)[35]? = some (.int .i64 h.t) := by
  unfold hcells
  rw [List.getElem?_append_right (by simp [cellsOf_length, hd])]
  simp [cellsOf_length, hd]
theorem scells_h (s : SgT) (hd : s.h.d.length = 32) : ((scells s).drop 0).take 36 = hcells s.h := by
  unfold scells
  rw [List.drop_zero, List.append_assoc, List.take_left' (hcells_length _ hd)]
theorem scells_n (s : SgT) (hd : s.h.d.length = 32) : (scells s)[36]? = some (.int .i64 s.n) := by
  unfold scells
  rw [List.append_assoc, List.getElem?_append_right (by rw [hcells_length _ hd]; omega), hcells_length _ hd]
  rfl
theorem scells_g (s : SgT) (hd : s.h.d.length = 32) (hg : s.g.length = 32) : ((scells s).drop 37).take 32 = cellsOf s.g := by
  unfold scells
  rw [List.drop_left' (by simp [hcells_length _ hd]), List.take_of_length_le (by rw [cellsOf_length, hg]; omega)]
theorem equalHead (d : Nat) (a b : HdT) (ha : a.d.length = 32) (hb : b.d.length = 32) (x : Bool) (hx : x = true ↔ a = b) (w : World) : (Op.equalIn (d + 4) 26 (.agg (hcells a).toArray) (.agg (hcells b).toArray)).run Tryz.prog w = .ok x w := by
  have hf : Tryz.prog.fieldsOf 26 = #[{ name := "Region", type := 3, offset := 0, embedded := false, tag := "", pkgPath := "", byteOffset := 0 }, { name := "Epoch", type := 3, offset := 1, embedded := false, tag := "", pkgPath := "", byteOffset := 8 }, { name := "Size", type := 3, offset := 2, embedded := false, tag := "", pkgPath := "", byteOffset := 16 }, { name := "Root", type := 24, offset := 3, embedded := false, tag := "", pkgPath := "", byteOffset := 24 }, { name := "Tick", type := 3, offset := 35, embedded := false, tag := "", pkgPath := "", byteOffset := 56 }] := by
    unfold Program.fieldsOf; rw [Tryz.underlying26]
  have p0 := fun (h : HdT) W => part_int (hcells h) 0 (.int .i64 h.r) rfl W
  have p1 := fun (h : HdT) W => part_int (hcells h) 1 (.int .i64 h.e) rfl W
  have p2 := fun (h : HdT) W => part_int (hcells h) 2 (.int .i64 h.s) rfl W
  have p3a := fun W => part_dig (hcells a) 3 _ (hcells_d a ha) W
  have p3b := fun W => part_dig (hcells b) 3 _ (hcells_d b hb) W
  have p4a := fun W => part_int (hcells a) 35 _ (hcells_t a ha) W
  have p4b := fun W => part_int (hcells b) 35 _ (hcells_t b hb) W
  have ei := fun (x y : Int) W => run_equalIn_int (P := Tryz.prog) W (d + 2) 3 .i64 .i64 x y Tryz.underlying3
  have ed : ∀ W, (Op.equalIn (d + 3) 24 (.agg (cellsOf a.d).toArray) (.agg (cellsOf b.d).toArray)).run Tryz.prog W = .ok (a.d == b.d) W := fun W => run_equalIn_bytes (P := Tryz.prog) W (d + 1) 24 5 32 Tryz.underlying24 Tryz.underlying5 sizeOf5 a.d b.d ha hb
  rw [run_equalIn_struct w (d + 3) 26 _ _ (by rw [hf]; exact Tryz.underlying26) heldH, hf]
  obtain ⟨b0, h0⟩ : ∃ x, (a.r == b.r) = x := ⟨_, rfl⟩
  obtain ⟨b1, h1⟩ : ∃ x, (a.e == b.e) = x := ⟨_, rfl⟩
  obtain ⟨b2, h2⟩ : ∃ x, (a.s == b.s) = x := ⟨_, rfl⟩
  obtain ⟨b3, h3⟩ : ∃ x, (a.d == b.d) = x := ⟨_, rfl⟩
  obtain ⟨b4, h4⟩ : ∃ x, (a.t == b.t) = x := ⟨_, rfl⟩
  have hq : x = (b0 && b1 && b2 && b3 && b4) := by
    rw [← h0, ← h1, ← h2, ← h3, ← h4, Bool.eq_iff_iff]
    rw [hx]
    simp only [Bool.and_eq_true, beq_iff_eq]
    constructor
    · rintro rfl; simp
    · rintro ⟨⟨⟨⟨e0, e1⟩, e2⟩, e3⟩, e4⟩
      cases a; cases b
      simp only at e0 e1 e2 e3 e4
      rw [e0, e1, e2, e3, e4]
  have x0 := ei a.r b.r
  have x1 := ei a.e b.e
  have x2 := ei a.s b.s
  have x4 := ei a.t b.t
  rw [h0] at x0
  rw [h1] at x1
  rw [h2] at x2
  rw [h3] at ed
  rw [h4] at x4
  rw [hq]
  obtain ⟨A, hA⟩ : ∃ A, (hcells a).toArray = A := ⟨_, rfl⟩
  obtain ⟨B, hB⟩ : ∃ B, (hcells b).toArray = B := ⟨_, rfl⟩
  have p0a := p0 a
  have p0b := p0 b
  have p1a := p1 a
  have p1b := p1 b
  have p2a := p2 a
  have p2b := p2 b
  rw [hA] at p0a p1a p2a p3a p4a
  rw [hB] at p0b p1b p2b p3b p4b
  rw [hA, hB]
  obtain ⟨DA, hDA⟩ : ∃ D, (cellsOf a.d).toArray = D := ⟨_, rfl⟩
  obtain ⟨DB, hDB⟩ : ∃ D, (cellsOf b.d).toArray = D := ⟨_, rfl⟩
  rw [hDA] at p3a ed
  rw [hDB] at p3b ed
  simp [Op.eqFields, p0a, p0b, p1a, p1b, p2a, p2b, p3a, p3b, p4a, p4b, x0, x1, x2, x4, ed]
  cases b0 <;> cases b1 <;> cases b2 <;> cases b3 <;> cases b4 <;> simp
theorem equalSigned (d : Nat) (a b : SgT) (ha : a.h.d.length = 32) (hb : b.h.d.length = 32) (ga : a.g.length = 32) (gb : b.g.length = 32) (x : Bool) (hx : x = true ↔ a = b) (w : World) : (Op.equalIn (d + 5) 28 (.agg (scells a).toArray) (.agg (scells b).toArray)).run Tryz.prog w = .ok x w := by
  have hf : Tryz.prog.fieldsOf 28 = #[{ name := "Head", type := 26, offset := 0, embedded := false, tag := "", pkgPath := "", byteOffset := 0 }, { name := "Node", type := 3, offset := 36, embedded := false, tag := "", pkgPath := "", byteOffset := 64 }, { name := "Tag", type := 24, offset := 37, embedded := false, tag := "", pkgPath := "", byteOffset := 72 }] := by
    unfold Program.fieldsOf; rw [Tryz.underlying28]
  obtain ⟨b0, hb0⟩ : ∃ x : Bool, x = true ↔ a.h = b.h := by
    by_cases h : a.h = b.h
    · exact ⟨true, by simp [h]⟩
    · exact ⟨false, by simp [h]⟩
  have p0a := fun W => part_head (scells a) 0 _ (scells_h a ha) W
  have p0b := fun W => part_head (scells b) 0 _ (scells_h b hb) W
  have p1a := fun W => part_int (scells a) 36 _ (scells_n a ha) W
  have p1b := fun W => part_int (scells b) 36 _ (scells_n b hb) W
  have p2a := fun W => part_dig (scells a) 37 _ (scells_g a ha ga) W
  have p2b := fun W => part_dig (scells b) 37 _ (scells_g b hb gb) W
  have x0 : ∀ W, (Op.equalIn (d + 4) 26 (.agg (hcells a.h).toArray) (.agg (hcells b.h).toArray)).run Tryz.prog W = .ok b0 W := fun W => equalHead d a.h b.h ha hb b0 hb0 W
  have x1 := fun W => run_equalIn_int (P := Tryz.prog) W (d + 3) 3 .i64 .i64 a.n b.n Tryz.underlying3
  have x2 : ∀ W, (Op.equalIn (d + 4) 24 (.agg (cellsOf a.g).toArray) (.agg (cellsOf b.g).toArray)).run Tryz.prog W = .ok (a.g == b.g) W := fun W => run_equalIn_bytes (P := Tryz.prog) W (d + 2) 24 5 32 Tryz.underlying24 Tryz.underlying5 sizeOf5 a.g b.g ga gb
  rw [run_equalIn_struct w (d + 4) 28 _ _ (by rw [hf]; exact Tryz.underlying28) heldS, hf]
  obtain ⟨b1, h1⟩ : ∃ x, (a.n == b.n) = x := ⟨_, rfl⟩
  obtain ⟨b2, h2⟩ : ∃ x, (a.g == b.g) = x := ⟨_, rfl⟩
  have hq : x = (b0 && b1 && b2) := by
    rw [← h1, ← h2, Bool.eq_iff_iff]
    rw [hx]
    simp only [Bool.and_eq_true, beq_iff_eq, hb0]
    constructor
    · rintro rfl; simp
    · rintro ⟨⟨e0, e1⟩, e2⟩
      cases a; cases b
      simp only at e0 e1 e2
      rw [e0, e1, e2]
  rw [h1] at x1
  rw [h2] at x2
  rw [hq]
  obtain ⟨A, hA⟩ : ∃ A, (scells a).toArray = A := ⟨_, rfl⟩
  obtain ⟨B, hB⟩ : ∃ B, (scells b).toArray = B := ⟨_, rfl⟩
  rw [hA] at p0a p1a p2a
  rw [hB] at p0b p1b p2b
  rw [hA, hB]
  obtain ⟨DA, hDA⟩ : ∃ D, (cellsOf a.g).toArray = D := ⟨_, rfl⟩
  obtain ⟨DB, hDB⟩ : ∃ D, (cellsOf b.g).toArray = D := ⟨_, rfl⟩
  rw [hDA] at p2a x2
  rw [hDB] at p2b x2
  obtain ⟨EA, hEA⟩ : ∃ D, (hcells a.h).toArray = D := ⟨_, rfl⟩
  obtain ⟨EB, hEB⟩ : ∃ D, (hcells b.h).toArray = D := ⟨_, rfl⟩
  rw [hEA] at p0a x0
  rw [hEB] at p0b x0
  simp [Op.eqFields, p0a, p0b, p1a, p1b, p2a, p2b, x0, x1, x2]
  cases b0 <;> cases b1 <;> cases b2 <;> simp
theorem eqSigned (a b : SgT) (ha : a.h.d.length = 32) (hb : b.h.d.length = 32) (ga : a.g.length = 32) (gb : b.g.length = 32) (A B : Array Value) (HA : Hid (A = (scells a).toArray)) (HB : Hid (B = (scells b).toArray)) (x : Bool) (hx : x = true ↔ a = b) (w : World) : (binOp .eql 28 (.agg A) (.agg B)).run Tryz.prog w = .ok (.bool x) w := by
  rw [run_eql_struct, HA.out, HB.out, show (10000 : Nat) = 9995 + 5 from rfl, equalSigned 9995 a b ha hb ga gb x hx]; rfl
end Go.Proofs.YtkmedlfbkddmoaaGreatDoor
/- Claims, entries and items as bytes, as the document defines them. -/
namespace Go.Proofs.YtkmedlfbkddmoaaGreatDoor
open Nums Sums
set_option linter.unusedVariables false
set_option maxRecDepth 100000
structure ClT where
  r : Int
  e : Int
  n : Int
  s : Int
  d : List UInt8
def zeroC : ClT := ⟨0, 0, 0, 0, List.replicate 32 0⟩
def eqHB (a b : HdT) : Bool := decide (a.r = b.r) && decide (a.e = b.e) && decide (a.s = b.s) && decide (a.d = b.d) && decide (a.t = b.t)
theorem eqHB_iff (a b : HdT) : eqHB a b = true ↔ a = b := by
  cases a; cases b
  unfold eqHB
  simp only [Bool.and_eq_true, decide_eq_true_eq, HdT.mk.injEq]
  constructor
  · rintro ⟨⟨⟨⟨h1, h2⟩, h3⟩, h4⟩, h5⟩; exact ⟨h1, h2, h3, h4, h5⟩
  · rintro ⟨h1, h2, h3, h4, h5⟩; exact ⟨⟨⟨⟨h1, h2⟩, h3⟩, h4⟩, h5⟩
def eqSB (a b : SgT) : Bool := eqHB a.h b.h && decide (a.n = b.n) && decide (a.g = b.g)
theorem eqSB_iff (a b : SgT) : eqSB a b = true ↔ a = b := by
  cases a; cases b
  unfold eqSB
  simp only [Bool.and_eq_true, decide_eq_true_eq, SgT.mk.injEq, eqHB_iff]
  constructor
  · rintro ⟨⟨h1, h2⟩, h3⟩; exact ⟨h1, h2, h3⟩
  · rintro ⟨h1, h2, h3⟩; exact ⟨⟨h1, h2⟩, h3⟩
def eqCB (a b : ClT) : Bool := decide (a.r = b.r) && decide (a.e = b.e) && decide (a.n = b.n) && decide (a.s = b.s) && decide (a.d = b.d)
theorem eqCB_iff (a b : ClT) : eqCB a b = true ↔ a = b := by
  cases a; cases b
  unfold eqCB
  simp only [Bool.and_eq_true, decide_eq_true_eq, ClT.mk.injEq]
  constructor
  · rintro ⟨⟨⟨⟨h1, h2⟩, h3⟩, h4⟩, h5⟩; exact ⟨h1, h2, h3, h4, h5⟩
  · rintro ⟨h1, h2, h3, h4, h5⟩; exact ⟨⟨⟨⟨h1, h2⟩, h3⟩, h4⟩, h5⟩
def rightC (c : ClT) : Bool := decide (1 ≤ c.r) && decide (c.r ≤ 5) && decide (1 ≤ c.e) && decide (c.e ≤ 900000000) && decide (1 ≤ c.n) && decide (c.n ≤ 3) && decide (0 ≤ c.s) && decide (c.s ≤ 100000)
def cL (c : ClT) : List ByteArray := [nOf c.r, nOf c.e, nOf c.n, nOf c.s, bA c.d]
def claimB (c : ClT) : List UInt8 := rowB (fieldsN (cL c))
theorem layE_cL (c : ClT) (hd : c.d.length = 32) : layE 0 (fieldsN (cL c)) = 0 := by
  have e : fieldsN (cL c) = [(1, nOf c.r), (2, nOf c.e), (3, nOf c.n), (4, nOf c.s), (5, bA c.d)] := rfl
  have b1 := nOf_size c.r
  have b2 := nOf_size c.e
  have b3 := nOf_size c.n
  have b4 := nOf_size c.s
  have b5 : (bA c.d).size = 32 := by rw [bA_size]; exact hd
  rw [e]
  simp only [layE]
  rw [if_pos (fault_none _ _ _ (by omega) (by omega)), if_pos (fault_none _ _ _ (by omega) (by omega)), if_pos (fault_none _ _ _ (by omega) (by omega)), if_pos (fault_none _ _ _ (by omega) (by omega)), if_pos (fault_none _ _ _ (by omega) (by omega))]
theorem claimB_length (c : ClT) (hd : c.d.length = 32) : (claimB c).length ≤ 84 := by
  have b1 := nOf_size c.r
  have b2 := nOf_size c.e
  have b3 := nOf_size c.n
  have b4 := nOf_size c.s
  have b5 : (bA c.d).size = 32 := by rw [bA_size]; exact hd
  unfold claimB
  rw [rowB_length]
  show 4 * 5 + ((nOf c.r).size + ((nOf c.e).size + ((nOf c.n).size + ((nOf c.s).size + ((bA c.d).size + 0))))) ≤ 84
  omega
structure EnT where
  k : Int
  c : Int
  s : Int
  t : ByteArray
  h : SgT
  m : ClT
def zeroE : EnT := ⟨0, 0, 0, ByteArray.empty, zeroS, zeroC⟩
theorem byte_ext {a b : ByteArray} (h : a.data.toList = b.data.toList) : a = b := by
  rw [← bA_of a, ← bA_of b, h]
theorem enT_ext {a b : EnT} (h : a.k = b.k ∧ a.c = b.c ∧ a.s = b.s ∧ a.t.data.toList = b.t.data.toList ∧ a.h = b.h ∧ a.m = b.m) : a = b := by
  obtain ⟨h1, h2, h3, h4, h5, h6⟩ := h
  cases a; cases b
  simp only at h1 h2 h3 h4 h5 h6
  rw [h1, h2, h3, byte_ext h4, h5, h6]
theorem empty_of {t : ByteArray} (h : t.size = 0) : t = ByteArray.empty := by
  apply byte_ext
  have : t.data.toList.length = 0 := h
  rw [List.eq_nil_of_length_eq_zero this]
  rfl
def rightE (x : EnT) : Bool :=
  if x.k = 1 then decide (1 ≤ x.c ∧ x.c ≤ 3 ∧ 1 ≤ x.s ∧ x.s ≤ 1000000 ∧ x.t.size ≤ 200) && eqSB x.h zeroS && eqCB x.m zeroC
  else if x.k = 2 then decide (x.c = 0 ∧ x.s = 0 ∧ x.t.size = 0) && mayS x.h && eqCB x.m zeroC
  else if x.k = 3 then decide (x.c = 0 ∧ x.s = 0 ∧ x.t.size = 0) && eqSB x.h zeroS && rightC x.m
  else false
structure OkE (x : EnT) : Prop where
  h : x.h.h.d.length = 32
  g : x.h.g.length = 32
  m : x.m.d.length = 32
def fieldsE (x : EnT) : List (Int × ByteArray) :=
  (1, nOf x.k) :: (if x.k = 1 then [(2, nOf x.c), (3, nOf x.s), (4, x.t)] else if x.k = 2 then [(5, bA (signB x.h))] else if x.k = 3 then [(6, bA (claimB x.m))] else [])
def entryB (x : EnT) : List UInt8 := rowB (fieldsE x)
theorem right_kinds {x : EnT} (h : rightE x = true) :
    (x.k = 1 ∧ 1 ≤ x.c ∧ x.c ≤ 3 ∧ 1 ≤ x.s ∧ x.s ≤ 1000000 ∧ x.t.size ≤ 200 ∧ x.h = zeroS ∧ x.m = zeroC) ∨ (x.k = 2 ∧ x.c = 0 ∧ x.s = 0 ∧ x.t.size = 0 ∧ mayS x.h = true ∧ x.m = zeroC) ∨ (x.k = 3 ∧ x.c = 0 ∧ x.s = 0 ∧ x.t.size = 0 ∧ x.h = zeroS ∧ rightC x.m = true) := by
  unfold rightE at h
  by_cases h1 : x.k = 1
  · rw [if_pos h1] at h
    simp only [Bool.and_eq_true, decide_eq_true_eq, eqSB_iff, eqCB_iff] at h
    exact .inl ⟨h1, h.1.1.1, h.1.1.2.1, h.1.1.2.2.1, h.1.1.2.2.2.1, h.1.1.2.2.2.2, h.1.2, h.2⟩
  · rw [if_neg h1] at h
    by_cases h2 : x.k = 2
    · rw [if_pos h2] at h
      simp only [Bool.and_eq_true, decide_eq_true_eq, eqCB_iff] at h
      exact .inr (.inl ⟨h2, h.1.1.1, h.1.1.2.1, h.1.1.2.2, h.1.2, h.2⟩)
    · rw [if_neg h2] at h
      by_cases h3 : x.k = 3
      · rw [if_pos h3] at h
        simp only [Bool.and_eq_true, decide_eq_true_eq, eqSB_iff] at h
        exact .inr (.inr ⟨h3, h.1.1.1, h.1.1.2.1, h.1.1.2.2, h.1.2, h.2⟩)
      · rw [if_neg h3] at h
        cases h
theorem fields_user {x : EnT} (h : x.k = 1) : fieldsE x = [(1, nOf 1), (2, nOf x.c), (3, nOf x.s), (4, x.t)] := by unfold fieldsE; rw [if_pos h, h]
theorem fields_anchor {x : EnT} (h : x.k = 2) : fieldsE x = [(1, nOf 2), (5, bA (signB x.h))] := by unfold fieldsE; rw [if_neg (by omega), if_pos h, h]
theorem fields_claim {x : EnT} (h : x.k = 3) : fieldsE x = [(1, nOf 3), (6, bA (claimB x.m))] := by unfold fieldsE; rw [if_neg (by omega), if_neg (by omega), if_pos h, h]
theorem layE_entry {x : EnT} (h : rightE x = true) (ok : OkE x) : layE 0 (fieldsE x) = 0 := by
  rcases right_kinds h with ⟨hk, h1⟩ | ⟨hk, h1⟩ | ⟨hk, h1⟩
  · have b1 := nOf_size 1
    have b2 := nOf_size x.c
    have b3 := nOf_size x.s
    rw [fields_user hk]
    simp only [layE]
    rw [if_pos (fault_none _ _ _ (by omega) (by omega)), if_pos (fault_none _ _ _ (by omega) (by omega)), if_pos (fault_none _ _ _ (by omega) (by omega)), if_pos (fault_none _ _ _ (by omega) (by omega))]
  · have b1 := nOf_size 2
    have b2 : (bA (signB x.h)).size ≤ 136 := by rw [bA_size]; exact signB_length x.h ok.h ok.g
    rw [fields_anchor hk]
    simp only [layE]
    rw [if_pos (fault_none _ _ _ (by omega) (by omega)), if_pos (fault_none _ _ _ (by omega) (by omega))]
  · have b1 := nOf_size 3
    have b2 : (bA (claimB x.m)).size ≤ 84 := by rw [bA_size]; exact claimB_length x.m ok.m
    rw [fields_claim hk]
    simp only [layE]
    rw [if_pos (fault_none _ _ _ (by omega) (by omega)), if_pos (fault_none _ _ _ (by omega) (by omega))]
theorem entryB_length {x : EnT} (h : rightE x = true) (ok : OkE x) : (entryB x).length ≤ 240 := by
  unfold entryB
  rw [rowB_length]
  rcases right_kinds h with ⟨hk, h1⟩ | ⟨hk, h1⟩ | ⟨hk, h1⟩
  · have b1 := nOf_size 1
    have b2 := nOf_size x.c
    have b3 := nOf_size x.s
    rw [fields_user hk]
    show 4 * 4 + ((nOf 1).size + ((nOf x.c).size + ((nOf x.s).size + (x.t.size + 0)))) ≤ 240
    omega
  · have b1 := nOf_size 2
    have b2 : (bA (signB x.h)).size ≤ 136 := by rw [bA_size]; exact signB_length x.h ok.h ok.g
    rw [fields_anchor hk]
    show 4 * 2 + ((nOf 2).size + ((bA (signB x.h)).size + 0)) ≤ 240
    omega
  · have b1 := nOf_size 3
    have b2 : (bA (claimB x.m)).size ≤ 84 := by rw [bA_size]; exact claimB_length x.m ok.m
    rw [fields_claim hk]
    show 4 * 2 + ((nOf 3).size + ((bA (claimB x.m)).size + 0)) ≤ 240
    omega
theorem zeroE_ok : OkE zeroE := ⟨rfl, rfl, rfl⟩
structure ItT where
  p : Int
  e : EnT
def zeroI : ItT := ⟨0, zeroE⟩
def rightI (x : ItT) : Bool := decide (1 ≤ x.p) && decide (x.p ≤ 900000000) && rightE x.e
theorem rightI_iff (x : ItT) : rightI x = true ↔ (1 ≤ x.p ∧ x.p ≤ 900000000 ∧ rightE x.e = true) := by
  unfold rightI
  simp only [Bool.and_eq_true, decide_eq_true_eq]
  constructor
  · rintro ⟨⟨a, b⟩, c⟩; exact ⟨a, b, c⟩
  · rintro ⟨a, b, c⟩; exact ⟨⟨a, b⟩, c⟩
def iL (x : ItT) : List ByteArray := [nOf x.p, bA (entryB x.e)]
def itemB (x : ItT) : List UInt8 := rowB (fieldsN (iL x))
theorem layE_iL {x : ItT} (h : rightI x = true) (ok : OkE x.e) : layE 0 (fieldsN (iL x)) = 0 := by
  have e : fieldsN (iL x) = [(1, nOf x.p), (2, bA (entryB x.e))] := rfl
  have b1 := nOf_size x.p
  have b2 : (bA (entryB x.e)).size ≤ 240 := by rw [bA_size]; exact entryB_length ((rightI_iff x).1 h).2.2 ok
  rw [e]
  simp only [layE]
  rw [if_pos (fault_none _ _ _ (by omega) (by omega)), if_pos (fault_none _ _ _ (by omega) (by omega))]
theorem itemB_length {x : ItT} (h : rightI x = true) (ok : OkE x.e) : (itemB x).length ≤ 256 := by
  have b1 := nOf_size x.p
  have b2 : (bA (entryB x.e)).size ≤ 240 := by rw [bA_size]; exact entryB_length ((rightI_iff x).1 h).2.2 ok
  unfold itemB
  rw [rowB_length]
  show 4 * 2 + ((nOf x.p).size + ((bA (entryB x.e)).size + 0)) ≤ 256
  omega
def leafI (x : ItT) : List UInt8 := sumD (0 :: itemB x)
def okAt (l : List ItT) (i : Nat) : Bool :=
  match l[i]? with
  | none => true
  | some x => rightI x && (decide (i = 0) || (match l[i - 1]? with | none => true | some y => decide (y.p ≤ x.p)))
def rightK (l : List ItT) (k : Nat) : Bool := (List.range k).all (okAt l)
def rightL (l : List ItT) : Bool := decide (l.length ≤ 2000) && rightK l l.length
theorem rightK_succ (l : List ItT) (k : Nat) : rightK l (k + 1) = (rightK l k && okAt l k) := by
  unfold rightK
  rw [List.range_succ, List.all_append]
  simp
theorem rightK_iff (l : List ItT) (k : Nat) : rightK l k = true ↔ ∀ i, i < k → okAt l i = true := by
  unfold rightK
  rw [List.all_eq_true]
  constructor
  · intro h i hi; exact h i (List.mem_range.2 hi)
  · intro h i hi; exact h i (List.mem_range.1 hi)
theorem okAt_iff {l : List ItT} {i : Nat} {x : ItT} (h : l[i]? = some x) : okAt l i = true ↔ rightI x = true ∧ (i ≠ 0 → ∀ y, l[i - 1]? = some y → y.p ≤ x.p) := by
  unfold okAt
  rw [h]
  simp only [Bool.and_eq_true, Bool.or_eq_true, decide_eq_true_eq]
  constructor
  · rintro ⟨h1, h2⟩
    refine ⟨h1, fun h0 y hy => ?_⟩
    rcases h2 with h2 | h2
    · exact absurd h2 h0
    · rw [hy] at h2; simpa using h2
  · rintro ⟨h1, h2⟩
    refine ⟨h1, ?_⟩
    by_cases h0 : i = 0
    · exact .inl h0
    · right
      cases hy : l[i - 1]? with
      | none => rfl
      | some y => simpa using h2 h0 y hy
theorem okAt_take {l : List ItT} {n i : Nat} (hi : i < n) : okAt (l.take n) i = okAt l i := by
  unfold okAt
  rw [List.getElem?_take_of_lt hi, List.getElem?_take_of_lt (by omega)]
theorem rightL_iff (l : List ItT) : rightL l = true ↔ l.length ≤ 2000 ∧ ∀ i, i < l.length → okAt l i = true := by
  unfold rightL
  rw [Bool.and_eq_true, decide_eq_true_eq, rightK_iff]
theorem right_take {l : List ItT} (h : rightL l = true) (n : Nat) : rightL (l.take n) = true := by
  rw [rightL_iff] at h ⊢
  refine ⟨by rw [List.length_take]; omega, fun i hi => ?_⟩
  rw [List.length_take] at hi
  rw [okAt_take (by omega)]
  exact h.2 i (by omega)
theorem right_item {l : List ItT} (h : rightL l = true) {x : ItT} (hx : x ∈ l) : rightI x = true := by
  obtain ⟨i, hi, rfl⟩ := List.getElem_of_mem hx
  exact ((okAt_iff (List.getElem?_eq_getElem hi)).1 ((rightL_iff l).1 h |>.2 i hi)).1
def lowB (l : List ItT) (p : Int) : Bool := match l.getLast? with | none => false | some y => decide (p < y.p)
def sizeX (l : List ItT) (n : Int) : Int := if rightL l = false then 100 else if n < 0 ∨ (l.length : Int) < n then 21 else 0
def leavesL (l : List ItT) : List (List UInt8) := l.map leafI
def rootO (l : List ItT) (n : Int) : List UInt8 := if sizeX l n = 0 then root (leavesL (l.take n.toNat)) else List.replicate 32 0
def headX (l : List ItT) (n r e t : Int) : HdT := ⟨r, e, n, root (leavesL (l.take n.toNat)), t⟩
def hdE (l : List ItT) (n r e t : Int) : Int := if sizeX l n = 0 then (if rightH (headX l n r e t) = true then 0 else 100) else sizeX l n
def hdO (l : List ItT) (n r e t : Int) : HdT := if hdE l n r e t = 0 then headX l n r e t else zeroH
def incE11 (l : List ItT) (n i : Int) : Int := if sizeX l n = 0 then (if 0 ≤ i ∧ i < n then 0 else 20) else sizeX l n
def incL11 (l : List ItT) (n i : Int) : List (List UInt8) := if incE11 l n i = 0 then incl (leavesL (l.take n.toNat)) i.toNat else []
def isAn (x : ItT) (r : Int) : Bool := decide (x.e.k = 2) && decide (x.e.h.h.r = r)
def latA (l : List ItT) (r : Int) : Option SgT := l.foldl (fun s x => if isAn x r = true then some x.e.h else s) none
def lastH (o : Option SgT) : HdT := match o with | some s => s.h | none => ⟨0, 0, 0, sumD [], 0⟩
def lastE (l : List ItT) (k : Nat) : Int := if k = 0 then 0 else match l[k - 1]? with | none => 0 | some y => y.p
theorem okAt_last {l : List ItT} {k : Nat} {x : ItT} (h : l[k]? = some x) : okAt l k = (rightI x && decide (lastE l k ≤ x.p)) := by
  have hk : k < l.length := (List.getElem?_eq_some_iff.1 h).1
  unfold okAt lastE
  rw [h]
  by_cases h0 : k = 0
  · subst h0
    simp only [decide_true, Bool.true_or, Bool.and_true, if_true]
    cases hr : rightI x
    · rfl
    · have := ((rightI_iff x).1 hr).1
      rw [decide_eq_true (show (0 : Int) ≤ x.p by omega)]
      rfl
  · rw [if_neg h0, List.getElem?_eq_getElem (show k - 1 < l.length by omega)]
    simp [h0]
theorem lastE_succ {l : List ItT} {k : Nat} {x : ItT} (h : l[k]? = some x) : lastE l (k + 1) = x.p := by
  unfold lastE
  rw [if_neg (by omega), Nat.add_sub_cancel, h]
end Go.Proofs.YtkmedlfbkddmoaaGreatDoor
