/- Texts of our own that the row of PathCrosses leans on, part 2. -/
import Derived.Test.YtkmedlfbkddmoaaDoorPathCrossesJ1
import Derived.WalkKit
/- Rows, fields and numbers as bytes, as plain functions: what is laid, what is read, and back. No program is spoken of. -/
namespace Go.Proofs.YtkmedlfbkddmoaaDoor
open Go.RowKit Nums
set_option maxRecDepth 100000
set_option linter.unusedVariables false
def isNum (l : List UInt8) : Bool := decide (l.length ≤ 8 ∧ l[0]? ≠ some 0 ∧ val l < 4611686018427387904)
def nOf (n : Int) : ByteArray := if 0 ≤ n ∧ n ≤ 4611686018427387903 then ⟨(num n.toNat).toArray⟩ else ByteArray.empty
def neOf (n : Int) : Int := if 0 ≤ n ∧ n ≤ 4611686018427387903 then 0 else 1
def faultOf (last tag : Int) (size : Nat) : Int := if tag ≤ last ∨ 255 < tag then 1 else if 65536 < size then 2 else 0
theorem byte_mod (n : Nat) : ((UInt8.ofNat (n % 256)).toNat : Int) = (n : Int) % 256 := by rw [UInt8.toNat_ofNat']; omega
def fieldBytesI (tag : Int) (d : List UInt8) : List UInt8 :=
  UInt8.ofNat (tag % 256).toNat :: UInt8.ofNat (d.length / 65536 % 256) :: UInt8.ofNat (d.length / 256 % 256) :: UInt8.ofNat (d.length % 256) :: d
theorem fieldBytesI_length (tag : Int) (l : List UInt8) : (fieldBytesI tag l).length = 4 + l.length := by simp [fieldBytesI]; omega
def size3 (l : List UInt8) : Nat := 65536 * (l.getD 1 0).toNat + 256 * (l.getD 2 0).toNat + (l.getD 3 0).toNat
def gE (l : List UInt8) : Nat := if l.length < 4 then 10 else if (l.getD 0 0).toNat = 0 ∨ 65536 < size3 l then 11 else if l.length < 4 + size3 l then 10 else 0
def gT (l : List UInt8) : Nat := if gE l = 0 then (l.getD 0 0).toNat else 0
def gD (l : List UInt8) : List UInt8 := if gE l = 0 then (l.drop 4).take (size3 l) else []
def gN (l : List UInt8) : Nat := if gE l = 0 then 4 + size3 l else 0
structure Jd where
  tag : Int
  d : ByteArray
  e : Int
  ok : e = 0 → d.size ≤ 65536
theorem fault_ok (last tag : Int) (d : ByteArray) (h : faultOf last tag d.size = 0) : d.size ≤ 65536 := by
  unfold faultOf at h
  by_cases h1 : tag ≤ last ∨ 255 < tag
  · rw [if_pos h1] at h; omega
  · rw [if_neg h1] at h
    by_cases h2 : 65536 < d.size
    · rw [if_pos h2] at h; omega
    · omega
def judge (last : Int) : List (Int × ByteArray) → List Jd
  | [] => []
  | f :: r => ⟨f.1, f.2, faultOf last f.1 f.2.size, fault_ok last f.1 f.2⟩ :: judge f.1 r
structure Pd where
  tag : Nat
  d : List UInt8
  e : Nat
def pE (last : Nat) (l : List UInt8) : Nat := if gE l = 0 then (if faultOf last (gT l) (gD l).length = 0 then 0 else 11) else gE l
def pX (last : Nat) (l : List UInt8) : Pd := ⟨gT l, gD l, pE last l⟩
def parse : Nat → Nat → List UInt8 → List Pd
  | 0, _, _ => []
  | k + 1, last, l => if l = [] then [] else pX last l :: if pE last l = 0 then parse k (gT l) (l.drop (gN l)) else []
def fcells : List (Int × ByteArray) → List Value
  | [] => []
  | f :: r => .int .i64 f.1 :: .string f.2 :: fcells r
theorem fcells_length : ∀ fs, (fcells fs).length = fs.length * 2
  | [] => rfl
  | f :: r => by simp [fcells, fcells_length r]; omega
theorem fcells_append : ∀ a b, fcells (a ++ b) = fcells a ++ fcells b
  | [], _ => rfl
  | f :: r, b => by simp [fcells, fcells_append r b]
def toF (ps : List Pd) : List (Int × ByteArray) := ps.map fun x => ((x.tag : Int), ⟨x.d.toArray⟩)
def layE : Int → List (Int × ByteArray) → Int
  | _, [] => 0
  | last, f :: r => if faultOf last f.1 f.2.size = 0 then layE f.1 r else faultOf last f.1 f.2.size
def rowB : List (Int × ByteArray) → List UInt8
  | [] => []
  | f :: r => fieldBytesI f.1 f.2.data.toList ++ rowB r
def rowOf (fs : List (Int × ByteArray)) : List UInt8 := if layE 0 fs = 0 then rowB fs else []
theorem layE_all : ∀ (last : Int) (fs : List (Int × ByteArray)), (∀ x ∈ judge last fs, x.e = 0) → layE last fs = 0
  | _, [], _ => rfl
  | last, f :: r, h => by
    have h1 : faultOf last f.1 f.2.size = 0 := h _ List.mem_cons_self
    rw [layE, if_pos h1]
    exact layE_all f.1 r (fun x hx => h x (List.mem_cons_of_mem _ hx))
theorem layE_first : ∀ (pre : List Jd) (last : Int) (fs : List (Int × ByteArray)) (x : Jd), (pre ++ [x]) <+: judge last fs → (∀ y ∈ pre, y.e = 0) → x.e ≠ 0 → layE last fs = x.e
  | [], last, [], x, h, _, _ => by simp [judge] at h
  | [], last, f :: r, x, h, _, hx => by
    rw [judge, List.nil_append, List.cons_prefix_cons] at h
    obtain ⟨rfl, _⟩ := h
    rw [layE, if_neg hx]
  | y :: pre, last, [], x, h, _, _ => by simp [judge] at h
  | y :: pre, last, f :: r, x, h, hz, hx => by
    rw [judge, List.cons_append, List.cons_prefix_cons] at h
    obtain ⟨rfl, h2⟩ := h
    have h1 : faultOf last f.1 f.2.size = 0 := hz _ List.mem_cons_self
    rw [layE, if_pos h1]
    exact layE_first pre f.1 r x h2 (fun z hz' => hz z (List.mem_cons_of_mem _ hz')) hx
def firstE : List Pd → Nat
  | [] => 0
  | x :: r => if x.e = 0 then firstE r else x.e
def readE (bs : List UInt8) : Nat := firstE (parse (bs.length + 1) 0 bs)
def readF (bs : List UInt8) : List (Int × ByteArray) := if readE bs = 0 then toF (parse (bs.length + 1) 0 bs) else []
end Go.Proofs.YtkmedlfbkddmoaaDoor
