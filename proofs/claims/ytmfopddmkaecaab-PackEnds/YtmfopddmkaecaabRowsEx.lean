/- The statements' rows answers true, whatever the world. -/
import Derived.Test.YtmfopddmkaecaabRows2
namespace Go.Proofs.Ytmfopddmkaecaab
open Go.RowKit Nums

theorem reads_lit8 (w : World) (cs : Array Value) (m : Nat × Nat) (l : List UInt8) (h : cs.toList = cellsOf l) (hl : l.length ≤ 1048576) :
    Reads (w.alloc (.cells cs 5 m)) (some ⟨w.heap.size, 0, none⟩) l.length l.length l := by
  refine ⟨rfl, Nat.le_refl _, by omega, .inr (.inr ⟨w.heap.size, 0, rfl, by simp, fun i hi => ?_⟩)⟩
  have e : (w.alloc (.cells cs 5 m)).cell? ⟨w.heap.size, 0 + i, none⟩ = cs[i]? := by
    rw [Nat.zero_add]
    exact World.cell?_alloc_mark w cs 5 m i
  rw [e, ← Array.getElem?_toList, h]
  simp [cellsOf, List.getElem?_eq_getElem hi]

theorem lay_lit (w : World) (cs : Array Value) (fs : List (Int × ByteArray)) (h : cs.toList = fcells fs) (hl : fs.length ≤ 400) (hm : ∀ f ∈ fs, f.2.size ≤ 8) {k : Int} {l : List UInt8} (hk : layE 0 fs = k) (hr : rowOf fs = l) :
    Calls Try.prog 8 #[.slice (some ⟨w.heap.size, 0, none⟩) fs.length fs.length] (w.alloc (.cells cs 37)) fun e W' => ∃ a' c', e = .returned (.tuple #[.slice a' l.length c', .int .i64 k]) ∧ Reads W' a' l.length c' l ∧ Below (w.heap.size + 1) (w.alloc (.cells cs 37)) W' := by
  have := lay_reads (some ⟨w.heap.size, 0, none⟩) fs.length fs.length fs (w.alloc (.cells cs 37)) (by rw [World.size_alloc]; exact freads_lit w cs (0, 0) fs h (by omega) (ex_small fs hm)) hl hk hr
  rwa [World.size_alloc] at this

set_option maxHeartbeats 2000000 in
theorem rows_any (w : World) : Calls Try.prog 10 #[] w fun e w' => e = .returned (.bool true) ∧ Below w.heap.size w w' := by
  go_enter Try.func10, Try.ntmps10
  go_wp2_with fail
  refine (lay_lit w _ ex1 rfl (by decide) (by decide) ex1_e ex1_r).mono ?_
  rintro e w1 ⟨a1, c1, rfl, hr1, hb1⟩
  have h01 : w.heap.size < w1.heap.size := by have := hb1.size; simp at this; omega
  have HL : Hid (FReads (w.heap.size + 1) w1 (some ⟨w.heap.size, 0, none⟩) 2 2 ex1) := (freads_lit w #[.int .i64 1, .string ⟨#[97]⟩, .int .i64 9, .string ⟨#[]⟩] (0, 0) ex1 rfl (by decide) (ex_small _ (by decide))).below hb1
  have hbw1 : Below w.heap.size w w1 := ((Below.refl _ _).alloc (Nat.le_refl _) _).trans (hb1.mono (by omega))
  clear hb1
  go_wp2_with fail
  refine (read_reads _ _ _ _ _ hr1 (by decide) ex3_e ex3_f).mono ?_
  rintro e w2 ⟨a2, c2, rfl, hr2, hb2⟩
  have HL2 : Hid (FReads (w.heap.size + 1) w2 (some ⟨w.heap.size, 0, none⟩) 2 2 ex1) := HL.out.below (hb2.mono h01)
  have HR2 : Hid (FReads w2.heap.size w2 a2 2 c2 ex1) := hr2
  have hbw2 : Below w.heap.size w w2 := hbw1.trans (hb2.mono hbw1.size)
  clear hr1 hr2 HL
  go_wp2_with fail
  refine (read_reads _ _ _ _ _ (reads_lit8 w2 _ _ [7, 0, 0, 0, 7, 0, 0, 0] rfl (by decide)) (by decide) ex4_e ex4_f).mono ?_
  rintro e w3 ⟨a3, c3, rfl, hr3, hb3⟩
  have h12 : w1.heap.size ≤ w2.heap.size := hb2.size
  have h23 : w2.heap.size < w3.heap.size := by have := hb3.size; simp at this; omega
  have hb3' : Below w2.heap.size w2 w3 := ((Below.refl _ _).alloc (Nat.le_refl _) _).trans (hb3.mono (by simp))
  have HL3 : Hid (FReads (w.heap.size + 1) w3 (some ⟨w.heap.size, 0, none⟩) 2 2 ex1) := HL2.out.below (hb3'.mono (by omega))
  have HR3 : Hid (FReads w2.heap.size w3 a2 2 c2 ex1) := HR2.out.below hb3'
  have hbw3 : Below w.heap.size w w3 := hbw2.trans (hb3'.mono hbw2.size)
  clear hr3 HL2 HR2 hb3 hb3' hb2 hbw1 hbw2
  go_wp2_with fail
  refine (lay_lit w3 _ ex2 rfl (by decide) (by decide) ex2_e ex2_r).mono ?_
  rintro e w4 ⟨a4, c4, rfl, hr4, hb4⟩
  have hb4' : Below w3.heap.size w3 w4 := ((Below.refl _ _).alloc (Nat.le_refl _) _).trans (hb4.mono (by omega))
  have HL4 : Hid (FReads (w.heap.size + 1) w4 (some ⟨w.heap.size, 0, none⟩) 2 2 ex1) := HL3.out.below (hb4'.mono (by omega))
  have HR4 : Hid (FReads w2.heap.size w4 a2 2 c2 ex1) := HR3.out.below (hb4'.mono (by omega))
  have HB4 : Hid (Below w.heap.size w w4) := hbw3.trans (hb4'.mono hbw3.size)
  clear hr4 hb4 hb4' hbw3 HL3 HR3
  go_wp2_with fail
  refine (same_any _ _ _ _ _ _ _ _ ex1 ex1 _ HR4.out HL4.out (by decide)).mono ?_
  rw [ex_same]
  rintro e w5 ⟨rfl, m5, rfl⟩
  go_wp2
  go_ret
  exact ⟨rfl, below_drewN HB4.out _⟩
end Go.Proofs.Ytmfopddmkaecaab
