/- What Lay and Read answer, as plain functions; pack.Lay and pack.Read answer so. -/
import Derived.Test.YtmfopddmkaecaabRead
namespace Go.Proofs.Ytmfopddmkaecaab
open Go.RowKit Go.Shelf Nums

def layE : Int → List (Int × ByteArray) → Int
  | _, [] => 0
  | last, f :: r => if faultOf last f.1 f.2.size = 0 then layE f.1 r else faultOf last f.1 f.2.size
def rowB : List (Int × ByteArray) → List UInt8
  | [] => []
  | f :: r => fieldBytesI f.1 f.2.data.toList ++ rowB r
def rowOf (fs : List (Int × ByteArray)) : List UInt8 := if layE 0 fs = 0 then rowB fs else []

theorem rowB_append : ∀ a b, rowB (a ++ b) = rowB a ++ rowB b
  | [], _ => rfl
  | f :: r, b => by simp [rowB, rowB_append r b]

theorem outB_judge : ∀ (last : Int) (fs : List (Int × ByteArray)), outB (judge last fs) = rowB fs
  | _, [] => rfl
  | last, f :: r => by
    have := outB_judge f.1 r
    simp only [judge, rowB]
    rw [← this]
    simp [outB]

theorem layE_all : ∀ (last : Int) (fs : List (Int × ByteArray)), (∀ x ∈ judge last fs, x.e = 0) → layE last fs = 0
  | _, [], _ => rfl
  | last, f :: r, h => by
    have h1 : faultOf last f.1 f.2.size = 0 := h _ List.mem_cons_self
    rw [layE, if_pos h1]
    exact layE_all f.1 r (fun x hx => h x (List.mem_cons_of_mem _ hx))

theorem layE_first : ∀ (pre : List Jd) (last : Int) (fs : List (Int × ByteArray)) (x : Jd), (pre ++ [x]) <+: judge last fs → (∀ y ∈ pre, y.e = 0) → x.e ≠ 0 → layE last fs = x.e
  | [], last, [], x, h, _, _ => by simp [judge] at h
  | [], last, f :: r, x, h, _, hx => by
    rw [judge, List.nil_append, List.cons_prefix_cons] at h
    obtain ⟨rfl, _⟩ := h
    rw [layE, if_neg hx]
  | y :: pre, last, [], x, h, _, _ => by simp [judge] at h
  | y :: pre, last, f :: r, x, h, hz, hx => by
    rw [judge, List.cons_append, List.cons_prefix_cons] at h
    obtain ⟨rfl, h2⟩ := h
    have h1 : faultOf last f.1 f.2.size = 0 := hz _ List.mem_cons_self
    rw [layE, if_pos h1]
    exact layE_first pre f.1 r x h2 (fun z hz' => hz z (List.mem_cons_of_mem _ hz')) hx

theorem lay_any (a : Option Addr) (len cap : Nat) (fs : List (Int × ByteArray)) (w : World) (hR : FReads w.heap.size w a len cap fs) (hl : len ≤ 400) :
    Calls Try.prog 8 #[.slice a len cap] w fun e W' => ∃ v, e = .returned (.tuple #[v, .int .i64 (layE 0 fs)]) ∧ W'.ownsRow w.heap.size 5 1 v (rowOf fs).length (cellsOf (rowOf fs)) ∧ Below w.heap.size w W' := by
  refine ((callsIn_wide (n := 3)).1 (lay_in 3 (by decide) a len cap fs w hR hl)).mono ?_
  rintro e W' (⟨hz, v, rfl, hown, hb⟩ | ⟨pre, x, hp, hz, hx, rfl, hb⟩)
  · have h0 := layE_all 0 fs hz
    refine ⟨v, by rw [h0], ?_, hb⟩
    rw [rowOf, if_pos h0, ← outB_judge 0 fs]
    exact hown
  · have h0 := layE_first pre 0 fs x hp hz hx
    refine ⟨_, by rw [h0], ?_, hb⟩
    rw [rowOf, if_neg (by rw [h0]; exact hx)]
    exact World.ownsRow_nil _ _ _ _

def firstE : List Pd → Nat
  | [] => 0
  | x :: r => if x.e = 0 then firstE r else x.e
def readE (bs : List UInt8) : Nat := firstE (parse (bs.length + 1) 0 bs)
def readF (bs : List UInt8) : List (Int × ByteArray) := if readE bs = 0 then toF (parse (bs.length + 1) 0 bs) else []

theorem firstE_all : ∀ ps : List Pd, (∀ x ∈ ps, x.e = 0) → firstE ps = 0
  | [], _ => rfl
  | x :: r, h => by rw [firstE, if_pos (h x List.mem_cons_self)]; exact firstE_all r (fun y hy => h y (List.mem_cons_of_mem _ hy))

theorem firstE_first : ∀ (pre ps : List Pd) (x : Pd), (pre ++ [x]) <+: ps → (∀ y ∈ pre, y.e = 0) → x.e ≠ 0 → firstE ps = x.e
  | [], [], x, h, _, _ => by simp at h
  | [], p :: r, x, h, _, hx => by
    rw [List.nil_append, List.cons_prefix_cons] at h
    obtain ⟨rfl, _⟩ := h
    rw [firstE, if_neg hx]
  | y :: pre, [], x, h, _, _ => by simp at h
  | y :: pre, p :: r, x, h, hz, hx => by
    rw [List.cons_append, List.cons_prefix_cons] at h
    obtain ⟨rfl, h2⟩ := h
    rw [firstE, if_pos (hz _ List.mem_cons_self)]
    exact firstE_first pre r x h2 (fun z hz' => hz z (List.mem_cons_of_mem _ hz')) hx

theorem read_any (a : Option Addr) (len cap : Nat) (bs : List UInt8) (w : World) (hR : Reads w a len cap bs) (hl : len ≤ 1000000) :
    Calls Try.prog 11 #[.slice a len cap] w fun e W' => ∃ v, e = .returned (.tuple #[v, .int .i64 (readE bs)]) ∧ W'.ownsRow w.heap.size 37 2 v (readF bs).length (fcells (readF bs)) ∧ Below w.heap.size w W' := by
  refine ((callsIn_wide (n := 3)).1 (read_in 3 (by decide) a len cap bs w hR hl)).mono ?_
  have hlen : bs.length = len := hR.1
  rintro e W' (⟨hz, v, rfl, hown, hb⟩ | ⟨pre, x, hp, hz, hx, rfl, hb⟩)
  · have h0 : readE bs = 0 := by rw [readE, hlen]; exact firstE_all _ hz
    refine ⟨v, by rw [h0]; rfl, ?_, hb⟩
    rw [readF, if_pos h0, hlen]
    exact hown
  · have h0 : readE bs = x.e := by rw [readE, hlen]; exact firstE_first pre _ x hp hz hx
    refine ⟨_, by rw [h0], ?_, hb⟩
    rw [readF, if_neg (by rw [h0]; exact hx)]
    exact World.ownsRow_nil _ _ _ _

/-- A row of fields that is owned can be read. -/
theorem freads_own {w : World} {B : Nat} {v : Value} {fs : List (Int × ByteArray)} (h : w.ownsRow B 37 2 v fs.length (fcells fs)) (hm : ∀ f ∈ fs, f.2.size ≤ maxLen) : ∃ a cap, v = .slice a fs.length cap ∧ FReads w.heap.size w a fs.length cap fs := by
  have hcell : ∀ (fs : List (Int × ByteArray)) (i : Nat) (hi : i < fs.length), (fcells fs)[i * 2]? = some (.int .i64 fs[i].1) ∧ (fcells fs)[i * 2 + 1]? = some (.string fs[i].2) := by
    intro fs
    induction fs with
    | nil => intro i hi; simp at hi
    | cons f r ih =>
      intro i hi
      cases i with
      | zero => simp [fcells]
      | succ i =>
        have := ih i (by simpa using hi)
        have e1 : (i + 1) * 2 = i * 2 + 1 + 1 := by omega
        rw [e1]
        simpa [fcells] using this
  rcases h.2 with ⟨rfl, h0⟩ | ⟨g, cap, cur, rfl, hb, hg, hn, hcm, hs, ht⟩
  · exact ⟨none, 0, by rw [h0], rfl, by omega, by decide, hm, .inl ⟨rfl, rfl⟩⟩
  · have hlt := (h.lt g rfl).2
    refine ⟨_, _, rfl, rfl, hn, by unfold maxLen at hcm; omega, hm, .inr (.inr ⟨g, 0, rfl, hlt, fun i hi => ?_⟩)⟩
    have h1 := h.cellAt (i * 2) (by omega)
    have h2 := h.cellAt (i * 2 + 1) (by omega)
    have := hcell fs i hi
    rw [Nat.zero_add]
    exact ⟨h1.trans this.1, h2.trans this.2⟩
end Go.Proofs.Ytmfopddmkaecaab
