/- Texts of our own that the row of KeepClaims leans on, part 3. -/
import Derived.Test.YtjpmmbmhkpgjcabKeepClaimsJ2
import Derived.WalkKit

/- Rows, fields and numbers as bytes, as plain functions: what is laid, what is read, and back. No program is spoken of. -/
namespace Go.Proofs.Ytjpmmbmhkpgjcab
open Go.RowKit Nums
set_option maxRecDepth 100000
set_option linter.unusedVariables false
/-- Are these bytes a number's? -/
def isNum (l : List UInt8) : Bool := decide (l.length ≤ 8 ∧ l[0]? ≠ some 0 ∧ val l < 4611686018427387904)
/-- What Number answers. -/
def nOf (n : Int) : ByteArray := if 0 ≤ n ∧ n ≤ 4611686018427387903 then ⟨(num n.toNat).toArray⟩ else ByteArray.empty
def faultOf (last tag : Int) (size : Nat) : Int := if tag ≤ last ∨ 255 < tag then 1 else if 65536 < size then 2 else 0
def fieldBytesI (tag : Int) (d : List UInt8) : List UInt8 :=
  UInt8.ofNat (tag % 256).toNat :: UInt8.ofNat (d.length / 65536 % 256) :: UInt8.ofNat (d.length / 256 % 256) :: UInt8.ofNat (d.length % 256) :: d
def size3 (l : List UInt8) : Nat := 65536 * (l.getD 1 0).toNat + 256 * (l.getD 2 0).toNat + (l.getD 3 0).toNat
def gE (l : List UInt8) : Nat := if l.length < 4 then 10 else if (l.getD 0 0).toNat = 0 ∨ 65536 < size3 l then 11 else if l.length < 4 + size3 l then 10 else 0
def gT (l : List UInt8) : Nat := if gE l = 0 then (l.getD 0 0).toNat else 0
def gD (l : List UInt8) : List UInt8 := if gE l = 0 then (l.drop 4).take (size3 l) else []
def gN (l : List UInt8) : Nat := if gE l = 0 then 4 + size3 l else 0
/-- A field that was read, with what is wrong with it. -/
structure Pd where
  tag : Nat
  d : List UInt8
  e : Nat
/-- What is wrong with the first field of bytes, behind a tag. -/
def pE (last : Nat) (l : List UInt8) : Nat := if gE l = 0 then (if faultOf last (gT l) (gD l).length = 0 then 0 else 11) else gE l
def pX (last : Nat) (l : List UInt8) : Pd := ⟨gT l, gD l, pE last l⟩
def parse : Nat → Nat → List UInt8 → List Pd
  | 0, _, _ => []
  | k + 1, last, l => if l = [] then [] else pX last l :: if pE last l = 0 then parse k (gT l) (l.drop (gN l)) else []
def toF (ps : List Pd) : List (Int × ByteArray) := ps.map fun x => ((x.tag : Int), ⟨x.d.toArray⟩)
def rowB : List (Int × ByteArray) → List UInt8
  | [] => []
  | f :: r => fieldBytesI f.1 f.2.data.toList ++ rowB r
def firstE : List Pd → Nat
  | [] => 0
  | x :: r => if x.e = 0 then firstE r else x.e
def readE (bs : List UInt8) : Nat := firstE (parse (bs.length + 1) 0 bs)
def readF (bs : List UInt8) : List (Int × ByteArray) := if readE bs = 0 then toF (parse (bs.length + 1) 0 bs) else []
end Go.Proofs.Ytjpmmbmhkpgjcab
