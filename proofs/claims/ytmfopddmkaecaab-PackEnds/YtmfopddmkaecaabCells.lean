/- Bytes as cells of a row that the call itself owns. -/
import Derived.Test.YtmfopddmkaecaabProg
import Derived.Test.YtmfopddmkaecaabNums
import Derived.WalkKit
import Derived.WalkSpells
import Derived.WalkLawsBesides
namespace Go.Proofs.Ytmfopddmkaecaab
open Go.RowKit Nums

theorem info5 : (Try.prog.info? 5).map (fun i => (i.zero, i.size, i.bytes)) = some (some (.int .u8 0), 1, 1) := by kernel_rfl

/-- Bytes as cells. -/
def cellsOf (l : List UInt8) : List Value := l.map fun b => .int .u8 b.toNat

theorem be_row (j m N : Nat) : ((List.replicate (j + 1) (0 : UInt8)) ++ be m N).set j (UInt8.ofNat (N / 256 ^ m % 256)) = List.replicate j 0 ++ be (m + 1) N := by
  rw [List.replicate_succ', List.append_assoc, List.set_append, if_neg (by simp)]
  simp [be]

theorem cellsOf_set (l : List UInt8) (j : Nat) (b : UInt8) : (cellsOf l).set j (.int .u8 b.toNat) = cellsOf (l.set j b) := by
  simp [cellsOf, List.map_set]

theorem cells_made (n N : Nat) : (madeCells #[Value.int .u8 0] n).toList = cellsOf (List.replicate n 0 ++ be 0 N) := by
  rw [toList_madeCells_one]; simp [cellsOf, be]

theorem cell_at {w : World} {B g n c : Nat} {l : List UInt8} (h : w.ownsRow B 5 1 (.slice (some ⟨g, 0, none⟩) n c) n (cellsOf l)) (hl : l.length = n) (j : Nat) (hj : j < n) :
    w.cell? ⟨g, j, none⟩ = some (.int .u8 (l.getD j 0).toNat) := by
  rw [h.cellAt j (by omega)]
  simp [cellsOf, List.getElem?_eq_getElem (show j < l.length by omega), List.getD]

theorem add_plain (b o j : Nat) : (⟨b, o, none⟩ : Addr).add j = ⟨b, o + j, none⟩ := by unfold Addr.add; split <;> simp_all

theorem cells_at {w : World} {B g n c : Nat} {l : List UInt8} (h : w.ownsRow B 5 1 (.slice (some ⟨g, 0, none⟩) n c) n (cellsOf l)) (hl : l.length = n) :
    ∀ (j : Nat) (hj : j < l.length), w.cell? ((⟨g, 0, none⟩ : Addr).add j) = some (.int .u8 l[j].toNat) := by
  intro j hj
  rw [add_plain, Nat.zero_add, cell_at h hl j (by omega)]
  simp [List.getD, List.getElem?_eq_getElem hj]

end Go.Proofs.Ytmfopddmkaecaab
