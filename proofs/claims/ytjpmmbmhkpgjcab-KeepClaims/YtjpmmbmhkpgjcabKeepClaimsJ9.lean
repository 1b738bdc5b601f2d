/- Texts of our own that the row of KeepClaims leans on, part 9. -/
import Derived.Test.YtjpmmbmhkpgjcabKeepClaimsJ2
import Derived.Test.YtjpmmbmhkpgjcabKeepClaimsJ3
import Derived.Test.YtjpmmbmhkpgjcabKeepClaimsJ8
import Derived.Test.YtjpmmbmhkpgjcabProg
import Derived.WalkKit
import Derived.WalkSpells
import Derived.WalkLawsBesides
import Derived.Lib.AppendStr

/- Bytes as cells of a row that the call itself owns. -/
namespace Go.Proofs.Ytjpmmbmhkpgjcab
open Go.RowKit Nums
set_option maxRecDepth 100000

end Go.Proofs.Ytjpmmbmhkpgjcab

/- What pack's fault and appendField do: the fault of a field; a field's bytes behind bytes that are owned. -/
namespace Go.Proofs.Ytjpmmbmhkpgjcab
open Go.RowKit Nums
set_option maxRecDepth 100000

end Go.Proofs.Ytjpmmbmhkpgjcab

/- pack.appendField at whatever tag: its lowest byte. -/
namespace Go.Proofs.Ytjpmmbmhkpgjcab
open Go.RowKit Nums
set_option maxRecDepth 100000
/-- Whatever is no row of elements of type T lies as it lay. -/
def Spares (T : TypeId) (w w' : World) : Prop := ∀ (b : Nat) (o : Obj), w.heap[b]? = some o → (∀ c m, o ≠ Obj.cells c T m) → w'.heap[b]? = some o
theorem Spares.refl (T : TypeId) (w : World) : Spares T w w := fun _ _ h _ => h
theorem Spares.trans {T : TypeId} {a b c : World} (h : Spares T a b) (k : Spares T b c) : Spares T a c := fun i o hi ho => k i o (h i o hi ho) ho
theorem Spares.below {T : TypeId} {a b : World} (h : Below a.heap.size a b) : Spares T a b := fun i _ hi _ => (h.block i (Array.getElem?_eq_some_iff.1 hi).1).trans hi
theorem Spares.alloc (T : TypeId) (w : World) (o : Obj) : Spares T w (w.alloc o) := Spares.below ((Below.refl _ _).alloc (Nat.le_refl _) _)
theorem Spares.drew (T : TypeId) (w : World) : Spares T w w.drew := fun _ _ h _ => h
theorem Spares.grown {T : TypeId} {w w' : World} {B size n : Nat} {v : Value} {xs : List Value} (hown : w.ownsRow B T size v n xs) (hg : w.grownBy w' v.ownBlock) : Spares T w w' := by
  intro i o hi ho
  refine (hg.block i (Array.getElem?_eq_some_iff.1 hi).1 ?_).trans hi
  intro e
  rcases hown.2 with ⟨rfl, _⟩ | ⟨g, cap, cur, rfl, _, hgb, _⟩
  · simp [Value.ownBlock] at e
  · obtain rfl : i = g := by simpa [Value.ownBlock] using e
    rw [hgb] at hi
    cases hi
    exact ho _ _ rfl
end Go.Proofs.Ytjpmmbmhkpgjcab
