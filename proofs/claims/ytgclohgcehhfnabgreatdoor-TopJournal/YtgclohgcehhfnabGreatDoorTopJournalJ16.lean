/- Texts of our own that the row of TopJournal leans on, part 16. -/
import Derived.Test.YtgclohgcehhfnabGreatDoorTopJournalJ1
import Derived.Test.YtgclohgcehhfnabGreatDoorTopJournalJ14
import Derived.Test.YtgclohgcehhfnabGreatDoorTopJournalJ15
/- The document's Batch, Cost and Same. -/
namespace Go.Proofs.YtgclohgcehhfnabGreatDoor
open Go.RowKit Nums
set_option linter.unusedVariables false
set_option linter.unusedSimpArgs false
set_option maxRecDepth 100000
def Small (n m : Nat) (l : List ByteArray) : Prop := l.length ≤ n ∧ ∀ s ∈ l, s.size ≤ m
theorem Small.mono {n m n' m' : Nat} {l : List ByteArray} (h : Small n m l) (hn : n ≤ n') (hm : m ≤ m') : Small n' m' l := ⟨Nat.le_trans h.1 hn, fun s hs => Nat.le_trans (h.2 s hs) hm⟩
theorem costN_take (l : List ByteArray) (k : Nat) (h : k < l.length) : costN (l.take (k + 1)) = costN (l.take k) + 8 + l[k].size := by
  induction l generalizing k with
  | nil => simp at h
  | cons s r ih =>
    cases k with
    | zero => simp [costN]
    | succ k =>
      have h' : k < r.length := by simpa using h
      simp only [List.take_succ_cons, costN, List.getElem_cons_succ]
      rw [ih k h']
      omega
theorem costN_le {m : Nat} {l : List ByteArray} (h : ∀ s ∈ l, s.size ≤ m) : costN l ≤ 16 + l.length * (8 + m) := by
  induction l with
  | nil => simp [costN]
  | cons s r ih =>
    have h1 := ih fun x hx => h x (List.mem_cons_of_mem _ hx)
    have h2 := h s (List.mem_cons_self ..)
    simp only [costN, List.length_cons, Nat.add_mul]
    omega
theorem costN_pos (l : List ByteArray) : 16 ≤ costN l := by
  induction l with
  | nil => simp [costN]
  | cons s r ih => simp only [costN]; omega
end Go.Proofs.YtgclohgcehhfnabGreatDoor
