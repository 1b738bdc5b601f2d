/- The examples of the document for rows hold, whatever the world. -/
import Derived.Test.YtmfopddmkaecaabSame
namespace Go.Proofs.Ytmfopddmkaecaab
open Go.RowKit Nums

theorem parse_small : ∀ (k last : Nat) (l : List UInt8), ∀ x ∈ parse k last l, x.d.length ≤ 65536
  | 0, _, _, x, h => by simp [parse] at h
  | k + 1, last, l, x, h => by
    rw [parse] at h
    by_cases hl : l = []
    · rw [if_pos hl] at h; simp at h
    · rw [if_neg hl] at h
      rcases List.mem_cons.1 h with rfl | h
      · exact gD_le l
      · by_cases he : pE last l = 0
        · rw [if_pos he] at h; exact parse_small k _ _ x h
        · rw [if_neg he] at h; simp at h

theorem readF_small (bs : List UInt8) : ∀ f ∈ readF bs, f.2.size ≤ maxLen := by
  intro f hf
  unfold readF at hf
  by_cases h : readE bs = 0
  · rw [if_pos h] at hf
    unfold toF at hf
    obtain ⟨x, hx, rfl⟩ := List.mem_map.1 hf
    have := parse_small _ _ _ x hx
    show x.d.toArray.size ≤ maxLen
    unfold maxLen
    simp
    omega
  · rw [if_neg h] at hf; simp at hf

theorem lay_reads (a : Option Addr) (len cap : Nat) (fs : List (Int × ByteArray)) (w : World) (hR : FReads w.heap.size w a len cap fs) (hl : len ≤ 400) {k : Int} {l : List UInt8} (hk : layE 0 fs = k) (hr : rowOf fs = l) :
    Calls Try.prog 8 #[.slice a len cap] w fun e W' => ∃ a' c', e = .returned (.tuple #[.slice a' l.length c', .int .i64 k]) ∧ Reads W' a' l.length c' l ∧ Below w.heap.size w W' := by
  refine (lay_any a len cap fs w hR hl).mono ?_
  rintro e W' ⟨v, rfl, hown, hb⟩
  rw [hr] at hown
  obtain ⟨a', c', rfl, hrd⟩ := reads_own hown
  exact ⟨a', c', by rw [hk], hrd, hb⟩

theorem read_reads (a : Option Addr) (len cap : Nat) (bs : List UInt8) (w : World) (hR : Reads w a len cap bs) (hl : len ≤ 1000000) {k : Nat} {fs : List (Int × ByteArray)} (hk : readE bs = k) (hf : readF bs = fs) :
    Calls Try.prog 11 #[.slice a len cap] w fun e W' => ∃ a' c', e = .returned (.tuple #[.slice a' fs.length c', .int .i64 k]) ∧ FReads W'.heap.size W' a' fs.length c' fs ∧ Below w.heap.size w W' := by
  refine (read_any a len cap bs w hR hl).mono ?_
  rintro e W' ⟨v, rfl, hown, hb⟩
  have hs := readF_small bs
  rw [hf] at hown hs
  obtain ⟨a', c', rfl, hrd⟩ := freads_own hown hs
  exact ⟨a', c', by rw [hk], hrd, hb⟩

/-- A literal slice of fields can be read. -/
theorem freads_lit (w : World) (cs : Array Value) (m : Nat × Nat) (fs : List (Int × ByteArray)) (h : cs.toList = fcells fs) (hl : fs.length ≤ 1048576) (hm : ∀ f ∈ fs, f.2.size ≤ maxLen) :
    FReads (w.heap.size + 1) (w.alloc (.cells cs 37 m)) (some ⟨w.heap.size, 0, none⟩) fs.length fs.length fs := by
  have hcell : ∀ (fs : List (Int × ByteArray)) (i : Nat) (hi : i < fs.length), (fcells fs)[i * 2]? = some (.int .i64 fs[i].1) ∧ (fcells fs)[i * 2 + 1]? = some (.string fs[i].2) := by
    intro fs
    induction fs with
    | nil => intro i hi; simp at hi
    | cons f r ih =>
      intro i hi
      cases i with
      | zero => simp [fcells]
      | succ i =>
        have := ih i (by simpa using hi)
        have e1 : (i + 1) * 2 = i * 2 + 1 + 1 := by omega
        rw [e1]
        simpa [fcells] using this
  refine ⟨rfl, Nat.le_refl _, by omega, hm, .inr (.inr ⟨w.heap.size, 0, rfl, by omega, fun i hi => ?_⟩)⟩
  have e : ∀ j, (w.alloc (.cells cs 37 m)).cell? ⟨w.heap.size, j, none⟩ = (fcells fs)[j]? := fun j => by
    rw [World.cell?_alloc_mark w cs 37 m j, ← Array.getElem?_toList, h]
  rw [Nat.zero_add, e, e]
  exact hcell fs i hi

def ex1 : List (Int × ByteArray) := [(1, ⟨#[97]⟩), (9, ⟨#[]⟩)]
def ex2 : List (Int × ByteArray) := [(2, ⟨#[]⟩), (2, ⟨#[]⟩)]
theorem ex1_e : layE 0 ex1 = 0 := by rfl
theorem ex1_r : rowOf ex1 = [1, 0, 0, 1, 97, 9, 0, 0, 0] := by rfl
theorem ex2_e : layE 0 ex2 = 1 := by rfl
theorem ex2_r : rowOf ex2 = [] := by rfl
theorem ex3_e : readE [1, 0, 0, 1, 97, 9, 0, 0, 0] = 0 := by decide +kernel
theorem ex3_f : readF [1, 0, 0, 1, 97, 9, 0, 0, 0] = ex1 := by rfl
theorem ex4_e : readE [7, 0, 0, 0, 7, 0, 0, 0] = 11 := by decide +kernel
theorem ex4_f : readF [7, 0, 0, 0, 7, 0, 0, 0] = [] := by rfl
theorem ex_same : sameB ex1 ex1 = true := by unfold sameB; simp
theorem ex_small (fs : List (Int × ByteArray)) (h : ∀ f ∈ fs, f.2.size ≤ 8) : ∀ f ∈ fs, f.2.size ≤ maxLen := fun f hf => by have := h f hf; unfold maxLen; omega

end Go.Proofs.Ytmfopddmkaecaab
