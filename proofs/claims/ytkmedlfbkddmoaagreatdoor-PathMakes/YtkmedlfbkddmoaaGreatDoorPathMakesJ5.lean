/- Texts of our own that the row of PathMakes leans on, part 5. -/
import Derived.Test.YtkmedlfbkddmoaaGreatDoorPathMakesJ4
import Derived.BigQuiet
import Derived.BigRegion
/- What sha.word answers, and what sha.putWord does: four bytes as a word, the highest first. -/
namespace Go.Proofs.YtkmedlfbkddmoaaGreatDoor
open Go.RowKit Sums
set_option maxRecDepth 100000
set_option linter.unusedVariables false
set_option linter.unusedSimpArgs false
theorem or_add (a b k : Nat) (hb : b < 2 ^ k) : a * 2 ^ k ||| b = a * 2 ^ k + b := by
  have := Nat.shiftLeft_add_eq_or_of_lt hb a
  rw [Nat.shiftLeft_eq] at this
  exact this.symm
theorem or32_add (a b k p : Nat) (hp : p = 2 ^ k) (A B : Int) (hA : A = ((a * p : Nat) : Int)) (hB : B = (b : Int)) (hb : b < p) (ha : a * p + b < 4294967296) : bits .or .u32 A B = A + B := by
  subst hA hB hp
  rw [u32_or_nat _ _ (by omega) (by omega), or_add a b k hb]
  rfl
set_option maxHeartbeats 1000000 in
theorem word_any (b off len cap : Nat) (w : World) (c0 c1 c2 c3 : Nat) (h4 : 4 ≤ len) (g0 : c0 ≤ 255) (g1 : c1 ≤ 255) (g2 : c2 ≤ 255) (g3 : c3 ≤ 255)
    (h0 : w.cell? ⟨b, off, none⟩ = some (.int .u8 c0)) (h1 : w.cell? ⟨b, off + 1, none⟩ = some (.int .u8 c1))
    (h2 : w.cell? ⟨b, off + 2, none⟩ = some (.int .u8 c2)) (h3 : w.cell? ⟨b, off + 3, none⟩ = some (.int .u8 c3)) :
    Calls Tryz.prog 138 #[.slice (some ⟨b, off, none⟩) len cap] w fun e w' => e = .returned (.int .u32 ((c0 : Int) * 16777216 + (c1 : Int) * 65536 + (c2 : Int) * 256 + (c3 : Int))) ∧ ∃ n, w' = w.drewN n := by
  have l0 : (0 : Int) < (len : Int) := by omega
  have l1 : (1 : Int) < (len : Int) := by omega
  have l2 : (2 : Int) < (len : Int) := by omega
  have l3 : (3 : Int) < (len : Int) := by omega
  have o1 := or32_add c0 (c1 * 65536) 24 16777216 (by decide) ((c0 : Int) * 16777216) ((c1 : Int) * 65536) (by omega) (by omega) (by omega) (by omega)
  have o2 := or32_add (c0 * 256 + c1) (c2 * 256) 16 65536 (by decide) ((c0 : Int) * 16777216 + (c1 : Int) * 65536) ((c2 : Int) * 256) (by omega) (by omega) (by omega) (by omega)
  have o3 := or32_add (c0 * 65536 + c1 * 256 + c2) c3 8 256 (by decide) ((c0 : Int) * 16777216 + (c1 : Int) * 65536 + (c2 : Int) * 256) (c3 : Int) (by omega) (by omega) (by omega) (by omega)
  go_enter Tryz.func138, Tryz.ntmps138
  go_wp2
  go_quiet (fail)
  go_wp2
  go_ret
  exact ⟨rfl, _, rfl⟩
def put4 (l : List UInt8) (off : Nat) (z : Int) : List UInt8 := l.take off ++ bytes4 z ++ l.drop (off + 4)
theorem put4_length (l : List UInt8) (off : Nat) (z : Int) (h : off + 4 ≤ l.length) : (put4 l off z).length = l.length := by
  simp [put4, bytes4]; omega
theorem put4_sets (l : List UInt8) (off : Nat) (z : Int) (h : off + 4 ≤ l.length) (a b c d : UInt8) (hz : bytes4 z = [a, b, c, d]) :
    (((l.set off a).set (off + 1) b).set (off + 2) c).set (off + 3) d = put4 l off z := by
  unfold put4
  rw [hz]
  apply List.ext_getElem
  · simp; omega
  · intro i h1 h2
    simp only [List.length_set] at h1
    by_cases e0 : i < off
    · simp only [List.getElem_set, show off + 3 ≠ i by omega, show off + 2 ≠ i by omega, show off + 1 ≠ i by omega, show off ≠ i by omega, if_false]
      rw [List.getElem_append_left (by simp; omega), List.getElem_append_left (by simp; omega), List.getElem_take]
    · by_cases e4 : i < off + 4
      · have hi : i = off ∨ i = off + 1 ∨ i = off + 2 ∨ i = off + 3 := by omega
        rw [List.getElem_append_left (by simp; omega), List.getElem_append_right (by simp; omega)]
        rcases hi with rfl | rfl | rfl | rfl
        · simp [List.getElem_set, show min i l.length = i by omega]
        · simp [List.getElem_set, show min off l.length = off by omega]
        · simp [List.getElem_set, show min off l.length = off by omega]
        · simp [List.getElem_set, show min off l.length = off by omega]
      · simp only [List.getElem_set, show off + 3 ≠ i by omega, show off + 2 ≠ i by omega, show off + 1 ≠ i by omega, show off ≠ i by omega, if_false]
        rw [List.getElem_append_right (by simp; omega), List.getElem_drop]
        congr 1
        simp; omega
theorem row_set {w : World} {b t : Nat} {l : List UInt8} (hg : w.heap[b]? = some (.cells (cellsOf l).toArray t (0, 0))) (j : Nat) (x : UInt8) :
    w.setCell ⟨b, j, none⟩ (.int .u8 x.toNat) = w.setRow b (cellsOf (l.set j x)).toArray := by
  rw [setCell_eq_setRow w b j _ t (0, 0) _ hg, ← cellsOf_set]
  congr 1
  simp
set_option maxHeartbeats 1000000 in
theorem putWord_any (b off len cap t : Nat) (l : List UInt8) (z : Int) (w : World) (h4 : 4 ≤ len) (hl : off + 4 ≤ l.length) (z0 : 0 ≤ z) (z1 : z ≤ 4294967295) (hg : w.heap[b]? = some (.cells (cellsOf l).toArray t (0, 0))) :
    Calls Tryz.prog 119 #[.slice (some ⟨b, off, none⟩) len cap, .int .u32 z] w fun e w' => e = .returned (.tuple #[]) ∧ w' = w.setRow b (cellsOf (put4 l off z)).toArray := by
  have l0 : (0 : Int) < (len : Int) := by omega
  have l1 : (1 : Int) < (len : Int) := by omega
  have l2 : (2 : Int) < (len : Int) := by omega
  have l3 : (3 : Int) < (len : Int) := by omega
  have c0 : w.cell? ⟨b, off, none⟩ = some (.int .u8 (l[off]'(by omega)).toNat) := by rw [cell_of_row w b _ _ t (0, 0) hg]; simp [cellsOf_at l off (by omega)]
  have c1 : w.cell? ⟨b, off + 1, none⟩ = some (.int .u8 (l[off + 1]'(by omega)).toNat) := by rw [cell_of_row w b _ _ t (0, 0) hg]; simp [cellsOf_at l (off + 1) (by omega)]
  have c2 : w.cell? ⟨b, off + 2, none⟩ = some (.int .u8 (l[off + 2]'(by omega)).toNat) := by rw [cell_of_row w b _ _ t (0, 0) hg]; simp [cellsOf_at l (off + 2) (by omega)]
  have c3 : w.cell? ⟨b, off + 3, none⟩ = some (.int .u8 (l[off + 3]'(by omega)).toNat) := by rw [cell_of_row w b _ _ t (0, 0) hg]; simp [cellsOf_at l (off + 3) (by omega)]
  have f0 : w.frozen? ⟨b, off, none⟩ = false := frozen_of_row w _ _ _ t hg
  have f1 : w.frozen? ⟨b, off + 1, none⟩ = false := frozen_of_row w _ _ _ t hg
  have f2 : w.frozen? ⟨b, off + 2, none⟩ = false := frozen_of_row w _ _ _ t hg
  have f3 : w.frozen? ⟨b, off + 3, none⟩ = false := frozen_of_row w _ _ _ t hg
  have HG : Hid _ := hg
  clear hg
  go_enter Tryz.func119, Tryz.ntmps119
  go_wp2
  refine bodyPost_end (v := .tuple #[]) (by simp [results, Tryz.results119, go_sem]) rfl ⟨rfl, ?_⟩
  have e0 : (z / 16777216 : Int) = ((UInt8.ofNat (z / 16777216).toNat).toNat : Int) := by rw [UInt8.toNat_ofNat']; omega
  have e1 : (z / 65536 % 256 : Int) = ((UInt8.ofNat (z / 65536).toNat).toNat : Int) := by rw [UInt8.toNat_ofNat']; omega
  have e2 : (z / 256 % 256 : Int) = ((UInt8.ofNat (z / 256).toNat).toNat : Int) := by rw [UInt8.toNat_ofNat']; omega
  have e3 : (z % 256 : Int) = ((UInt8.ofNat z.toNat).toNat : Int) := by rw [UInt8.toNat_ofNat']; omega
  rw [e0, e1, e2, e3, row_set HG.out]
  have G1 := setRow_heap w b _ (cellsOf (l.set off (UInt8.ofNat (z / 16777216).toNat))).toArray t _ HG.out
  rw [row_set G1, setRow_setRow]
  have G2 := setRow_heap w b _ (cellsOf ((l.set off (UInt8.ofNat (z / 16777216).toNat)).set (off + 1) (UInt8.ofNat (z / 65536).toNat))).toArray t _ HG.out
  rw [row_set G2, setRow_setRow]
  have G3 := setRow_heap w b _ (cellsOf (((l.set off (UInt8.ofNat (z / 16777216).toNat)).set (off + 1) (UInt8.ofNat (z / 65536).toNat)).set (off + 2) (UInt8.ofNat (z / 256).toNat))).toArray t _ HG.out
  rw [row_set G3, setRow_setRow, put4_sets l off z hl _ _ _ _ rfl]
end Go.Proofs.YtkmedlfbkddmoaaGreatDoor
/- What the document's turn answers: a word turned round to the right. -/
namespace Go.Proofs.YtkmedlfbkddmoaaGreatDoor
open Go.RowKit Sums
set_option maxRecDepth 100000
set_option linter.unusedVariables false
theorem or32_comm (x y : Int) (x0 : 0 ≤ x) (x1 : x ≤ 4294967295) (y0 : 0 ≤ y) (y1 : y ≤ 4294967295) : bits .or .u32 x y = bits .or .u32 y x := by
  obtain ⟨a, rfl⟩ := Int.eq_ofNat_of_zero_le x0
  obtain ⟨b, rfl⟩ := Int.eq_ofNat_of_zero_le y0
  rw [u32_or_nat _ _ (by omega) (by omega), u32_or_nat _ _ (by omega) (by omega), Nat.or_comm]
theorem rot_comm (x p q : Int) (h0 : 0 ≤ x) (h1 : x ≤ 4294967295) (hp : 0 < p) : bits .or .u32 (x / p) (x * q % 4294967296) = rot x p q := by
  unfold rot or32
  have h2 : 0 ≤ x / p := Int.ediv_nonneg h0 (by omega)
  have h3 : x / p ≤ 4294967295 := Int.le_trans (Int.ediv_le_self _ h0) h1
  exact or32_comm _ _ h2 h3 (by omega) (by omega)
set_option maxHeartbeats 1000000 in
theorem refTurn_any (x n p q : Int) (w : World) (h0 : 0 ≤ x) (h1 : x ≤ 4294967295) (hk : Turn n p q) :
    Calls Tryz.prog 116 #[.int .u32 x, .int .i64 n] w fun e w' => e = .returned (.int .u32 (rot x p q)) ∧ ∃ n, w' = w.drewN n := by
  rcases hk with ⟨rfl, rfl, rfl⟩ | ⟨rfl, rfl, rfl⟩ | ⟨rfl, rfl, rfl⟩ | ⟨rfl, rfl, rfl⟩ | ⟨rfl, rfl, rfl⟩ | ⟨rfl, rfl, rfl⟩ | ⟨rfl, rfl, rfl⟩ | ⟨rfl, rfl, rfl⟩ | ⟨rfl, rfl, rfl⟩ | ⟨rfl, rfl, rfl⟩
  · have hc := rot_comm x 4 1073741824 h0 h1 (by omega)
    go_enter Tryz.func116, Tryz.ntmps116
    go_wp2
    go_quiet (fail)
    go_wp2
    go_ret
    exact ⟨rfl, _, rfl⟩
  · have hc := rot_comm x 64 67108864 h0 h1 (by omega)
    go_enter Tryz.func116, Tryz.ntmps116
    go_wp2
    go_quiet (fail)
    go_wp2
    go_ret
    exact ⟨rfl, _, rfl⟩
  · have hc := rot_comm x 128 33554432 h0 h1 (by omega)
    go_enter Tryz.func116, Tryz.ntmps116
    go_wp2
    go_quiet (fail)
    go_wp2
    go_ret
    exact ⟨rfl, _, rfl⟩
  · have hc := rot_comm x 2048 2097152 h0 h1 (by omega)
    go_enter Tryz.func116, Tryz.ntmps116
    go_wp2
    go_quiet (fail)
    go_wp2
    go_ret
    exact ⟨rfl, _, rfl⟩
  · have hc := rot_comm x 8192 524288 h0 h1 (by omega)
    go_enter Tryz.func116, Tryz.ntmps116
    go_wp2
    go_quiet (fail)
    go_wp2
    go_ret
    exact ⟨rfl, _, rfl⟩
  · have hc := rot_comm x 131072 32768 h0 h1 (by omega)
    go_enter Tryz.func116, Tryz.ntmps116
    go_wp2
    go_quiet (fail)
    go_wp2
    go_ret
    exact ⟨rfl, _, rfl⟩
  · have hc := rot_comm x 262144 16384 h0 h1 (by omega)
    go_enter Tryz.func116, Tryz.ntmps116
    go_wp2
    go_quiet (fail)
    go_wp2
    go_ret
    exact ⟨rfl, _, rfl⟩
  · have hc := rot_comm x 524288 8192 h0 h1 (by omega)
    go_enter Tryz.func116, Tryz.ntmps116
    go_wp2
    go_quiet (fail)
    go_wp2
    go_ret
    exact ⟨rfl, _, rfl⟩
  · have hc := rot_comm x 4194304 1024 h0 h1 (by omega)
    go_enter Tryz.func116, Tryz.ntmps116
    go_wp2
    go_quiet (fail)
    go_wp2
    go_ret
    exact ⟨rfl, _, rfl⟩
  · have hc := rot_comm x 33554432 128 h0 h1 (by omega)
    go_enter Tryz.func116, Tryz.ntmps116
    go_wp2
    go_quiet (fail)
    go_wp2
    go_ret
    exact ⟨rfl, _, rfl⟩
end Go.Proofs.YtkmedlfbkddmoaaGreatDoor
