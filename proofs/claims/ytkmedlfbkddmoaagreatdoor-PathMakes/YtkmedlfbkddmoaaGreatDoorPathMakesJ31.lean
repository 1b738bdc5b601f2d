/- Texts of our own that the row of PathMakes leans on, part 31. -/
import Derived.Test.YtkmedlfbkddmoaaGreatDoorPathMakesJ6
import Derived.Test.YtkmedlfbkddmoaaGreatDoorPathMakesJ9
import Derived.Test.YtkmedlfbkddmoaaGreatDoorRows
import Derived.ProofKit
import Derived.OpenShut
import Derived.LaidMore
import Derived.Lay
/- A table of constants that is laid as the program's text lays it can be read; a digest that came in is 32 bytes. -/
namespace Go.Proofs.YtkmedlfbkddmoaaGreatDoor
open Go.RowKit Sums
set_option maxRecDepth 100000
theorem table_reads {H : Type} {enc : TypeId × Value → H} {W : World} {sp : Nat → Bool} {held : Bool} {n : String} {g fuel base : Nat} {cs : Array Value} {p : List MemPlace} (hg : Tryz.prog.globalNamed n = some g) (hv : W.var? Tryz.prog n = some cs)
    (hd : DataW.trod enc Tryz.prog W base sp held fuel 160 cs.toList = some (.agg (kT.map fun z => .lit (.int .u32 z)), p)) : Table g W := by
  obtain ⟨xs, m, rfl, hx, hl, hxl, hall⟩ := DataW.trod_array Tryz.underlying160 hd
  have h1 : Tryz.prog.cellsOf 131 = 1 := by kernel_rfl
  have h64 : Tryz.prog.cellsOf 160 = 64 := by kernel_rfl
  rw [h64] at hl
  rw [h1] at hall
  simp only [Nat.mul_one] at hall
  simp only [Prod.mk.injEq, DataW.agg.injEq] at hx
  have cell : ∀ k, k < 64 → W.cell? ⟨g, k, none⟩ = some (.int .u32 (kT.getD k 0)) := by
    intro k hk
    have hkT : k < kT.length := hk
    have hk' := hall k hk
    rw [List.getElem?_eq_getElem (by omega)] at hk'
    obtain ⟨z, hz, he, _⟩ := DataW.trod_int Tryz.underlying131 hk'
    have e : (cs.toList.drop k).take 1 = [cs.toList[k]'(by omega)] := by
      rw [List.drop_eq_getElem_cons (by omega)]; rfl
    rw [e] at hz
    simp only [List.cons.injEq, and_true] at hz
    have hk2 : (kT.map fun z => (DataW.lit (.int .u32 z) : DataW H))[k]? = (xs.map (·.1))[k]? := by rw [hx.1]
    rw [List.getElem?_map, List.getElem?_map, List.getElem?_eq_getElem (show k < xs.length by omega), List.getElem?_eq_getElem hkT] at hk2
    simp only [Option.map_some, Option.some.injEq] at hk2
    rw [he] at hk2
    have hzk : kT[k]'hkT = z := (Lit.int.inj (DataW.lit.inj hk2)).2
    rw [World.var?_cell hg hv k]
    have : cs[k]? = some (cs.toList[k]'(by omega)) := by
      rw [← Array.getElem?_toList, List.getElem?_eq_getElem (by omega)]
    rw [this, hz, ← hzk]
    simp [List.getD, List.getElem?_eq_getElem hkT]
  refine ⟨World.block_lt_of_cell? _ _ (cell 0 (by decide)), cell⟩
end Go.Proofs.YtkmedlfbkddmoaaGreatDoor
