/- Texts of our own that the row of KeepReads leans on, part 16. -/
import Derived.Test.YtjpmmbmhkpgjcaaKeepReadsJ5
import Derived.Test.YtjpmmbmhkpgjcaaKeepReadsJ10
import Derived.Test.YtjpmmbmhkpgjcaaKeepReadsJ15

/- What the document's small functions on heads answer: is a head right; numbers and digests. -/
namespace Go.Proofs.Ytjpmmbmhkpgjcaa
open Go.RowKit Sums Nums
set_option linter.unusedVariables false
set_option linter.unusedSimpArgs false
set_option maxRecDepth 100000
theorem within_any (n a b : Int) (w : World) : Calls Try.prog 109 #[.int .i64 n, .int .i64 a, .int .i64 b] w fun e w' => e = .returned (.bool (decide (a ≤ n) && decide (n ≤ b))) ∧ w' = w := by
  by_cases h1 : a ≤ n
  · have d1 : decide (a ≤ n) = true := by rw [decide_eq_true_eq]; exact h1
    obtain ⟨x, hx⟩ : ∃ x, decide (n ≤ b) = x := ⟨_, rfl⟩
    rw [d1, hx]
    clear h1
    go_enter Try.func109, Try.ntmps109
    go_wp2
    go_ret
    exact ⟨rfl, rfl⟩
  · have d1 : decide (a ≤ n) = false := by rw [decide_eq_false_iff_not]; exact h1
    rw [d1]
    clear h1
    go_enter Try.func109, Try.ntmps109
    go_wp2
    go_ret
    exact ⟨rfl, rfl⟩
/-! Heads in memory: three numbers, a digest, a number. -/
def hcells (h : HdT) : List Value := [.int .i64 h.r, .int .i64 h.e, .int .i64 h.s] ++ cellsOf h.d ++ [.int .i64 h.t]
theorem hcells_length (h : HdT) (hd : h.d.length = 32) : (hcells h).length = 36 := by simp [hcells, cellsOf_length, hd]
def scells (s : SgT) : List Value := hcells s.h ++ [.int .i64 s.n] ++ cellsOf s.g
theorem scells_length (s : SgT) (hd : s.h.d.length = 32) (hg : s.g.length = 32) : (scells s).length = 69 := by simp [scells, hcells_length _ hd, cellsOf_length, hg]
/-- What the parts of a head's row read as. -/
structure HRow (W : World) (g o : Nat) (h : HdT) : Prop where
  r : W.cell? ⟨g, o, none⟩ = some (.int .i64 h.r)
  e : W.cell? ⟨g, o + 1, none⟩ = some (.int .i64 h.e)
  s : W.cell? ⟨g, o + 2, none⟩ = some (.int .i64 h.s)
  d : W.rangeAt g (o + 3) (cellsOf h.d)
  t : W.cell? ⟨g, o + 35, none⟩ = some (.int .i64 h.t)
theorem hrow_of {W : World} {g o : Nat} {h : HdT} (hd : h.d.length = 32) (hr : W.rangeAt g o (hcells h)) : HRow W g o h := by
  refine ⟨?_, ?_, ?_, ?_, ?_⟩
  · have := hr 0 (.int .i64 h.r) rfl; simpa using this
  · exact hr 1 (.int .i64 h.e) rfl
  · exact hr 2 (.int .i64 h.s) rfl
  · intro j v hj
    have hlt := (List.getElem?_eq_some_iff.1 hj).1
    have := hr (3 + j) v (by
      unfold hcells
      rw [List.append_assoc, List.getElem?_append_right (by simp), List.getElem?_append_left (by simpa using hlt)]
      simpa using hj)
    rw [Nat.add_assoc]; exact this
  · have := hr 35 (.int .i64 h.t) (by
      unfold hcells
      rw [List.getElem?_append_right (by simp [cellsOf_length, hd])]
      simp [cellsOf_length, hd])
    exact this
theorem hrow_new (w : World) (h : HdT) (hd : h.d.length = 32) (C : Array Value) (HC : Hid (C = (hcells h).toArray)) (t : TypeId) : HRow (w.alloc (.cells C t)) w.heap.size 0 h := by
  refine hrow_of hd ?_
  intro j v hj
  rw [Nat.zero_add, cell_of_row _ _ j _ t (0, 0) (heap_alloc_new w _), HC.out]
  simpa using hj
set_option maxHeartbeats 2000000 in
theorem refRight_any (h : HdT) (hd : h.d.length = 32) (w : World) (C : Array Value) (HC : Hid (C = (hcells h).toArray)) :
    Calls Try.prog 108 #[.agg C] w fun e w' => e = .returned (.bool (rightH h)) ∧ Below w.heap.size w w' := by
  have HR := hrow_new w h hd C HC 32
  have HB : Hid (Below w.heap.size w (w.alloc (.cells C 32))) := (Below.refl _ _).alloc (Nat.le_refl _) _
  have c0 := HR.r
  have c1 := HR.e
  have c2 := HR.s
  have c4 := HR.t
  simp only [Nat.zero_add] at c1 c2 c4
  have WI : Hid (∀ (n a b : Int) (W : World), Calls Try.prog 109 #[.int .i64 n, .int .i64 a, .int .i64 b] W fun e w' => e = .returned (.bool (decide (a ≤ n) && decide (n ≤ b))) ∧ w' = W) := within_any
  obtain ⟨b1, hb1⟩ : ∃ b, (decide (1 ≤ h.r) && decide (h.r ≤ 5)) = b := ⟨_, rfl⟩
  obtain ⟨b2, hb2⟩ : ∃ b, (decide (1 ≤ h.e) && decide (h.e ≤ 900000000)) = b := ⟨_, rfl⟩
  obtain ⟨b3, hb3⟩ : ∃ b, (decide (0 ≤ h.s) && decide (h.s ≤ 100000)) = b := ⟨_, rfl⟩
  obtain ⟨b4, hb4⟩ : ∃ b, (decide (0 ≤ h.t) && decide (h.t ≤ 900000000)) = b := ⟨_, rfl⟩
  have W1 := hidk (WI.out h.r 1 5)
  have W2 := hidk (WI.out h.e 1 900000000)
  have W3 := hidk (WI.out h.s 0 100000)
  have W4 := hidk (WI.out h.t 0 900000000)
  rw [hb1] at W1
  rw [hb2] at W2
  rw [hb3] at W3
  rw [hb4] at W4
  have hE : rightH h = (b1 && (b2 && (b3 && b4))) := by
    rw [← hb1, ← hb2, ← hb3, ← hb4]
    unfold rightH
    simp only [Bool.and_assoc]
  rw [hE]
  obtain ⟨r, hr⟩ : ∃ r, r = h.r := ⟨_, rfl⟩
  obtain ⟨e, he⟩ : ∃ r, r = h.e := ⟨_, rfl⟩
  obtain ⟨s, hs⟩ : ∃ r, r = h.s := ⟨_, rfl⟩
  obtain ⟨t, ht⟩ : ∃ r, r = h.t := ⟨_, rfl⟩
  rw [← hr] at c0 W1
  rw [← he] at c1 W2
  rw [← hs] at c2 W3
  rw [← ht] at c4 W4
  clear hE hb1 hb2 hb3 hb4 WI HR hr he hs ht HC
  cases b1
  · go_enter Try.func108, Try.ntmps108
    go_wp2_with fail
    refine (W1.out _).mono ?_
    rintro e w1 ⟨rfl, rfl⟩
    go_wp2
    go_ret
    exact ⟨rfl, HB.out⟩
  cases b2
  · go_enter Try.func108, Try.ntmps108
    go_wp2_with fail
    refine (W1.out _).mono ?_
    rintro e w1 ⟨rfl, rfl⟩
    go_wp2_with fail
    refine (W2.out _).mono ?_
    rintro e w1 ⟨rfl, rfl⟩
    go_wp2
    go_ret
    exact ⟨rfl, HB.out⟩
  cases b3
  · go_enter Try.func108, Try.ntmps108
    go_wp2_with fail
    refine (W1.out _).mono ?_
    rintro e w1 ⟨rfl, rfl⟩
    go_wp2_with fail
    refine (W2.out _).mono ?_
    rintro e w1 ⟨rfl, rfl⟩
    go_wp2_with fail
    refine (W3.out _).mono ?_
    rintro e w1 ⟨rfl, rfl⟩
    go_wp2
    go_ret
    exact ⟨rfl, HB.out⟩
  · go_enter Try.func108, Try.ntmps108
    go_wp2_with fail
    refine (W1.out _).mono ?_
    rintro e w1 ⟨rfl, rfl⟩
    go_wp2_with fail
    refine (W2.out _).mono ?_
    rintro e w1 ⟨rfl, rfl⟩
    go_wp2_with fail
    refine (W3.out _).mono ?_
    rintro e w1 ⟨rfl, rfl⟩
    go_wp2_with fail
    refine (W4.out _).mono ?_
    rintro e w1 ⟨rfl, rfl⟩
    go_wp2
    go_ret
    exact ⟨rfl, HB.out⟩
end Go.Proofs.Ytjpmmbmhkpgjcaa
