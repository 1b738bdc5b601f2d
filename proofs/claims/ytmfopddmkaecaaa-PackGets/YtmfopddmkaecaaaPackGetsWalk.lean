/- PackGets returns true for any bytes. -/
import Derived.Test.YtmfopddmkaecaaaOpen
namespace Go.Proofs.Ytmfopddmkaecaaa
open Go.RowKit Nums

set_option maxHeartbeats 1000000 in
theorem packGets_walk (a0 : Option Addr) (len0 cap0 : Nat) (z0 : List UInt8) (w : World) (w0 : Reads w a0 len0 cap0 z0) :
    Calls Try.prog 7 #[.slice a0 len0 cap0] w fun e w' => e = .returned (.bool true) ∧ Below w.heap.size w w' := by
  have hcm := Nat.le_trans w0.2.1 w0.2.2.1
  by_cases hlong : (262144 : Int) < (len0 : Int)
  · clear w0
    go_enter Try.func7, Try.ntmps7
    go_wp2
    go_ret
    exact ⟨rfl, Below.refl _ _⟩
  · have HW : Hid (Reads w a0 len0 cap0 z0) := w0
    have hl : len0 ≤ 1048576 := by omega
    clear w0
    go_enter Try.func7, Try.ntmps7
    go_wp2_with fail
    refine (lent_any _ _ _ z0 _ HW.out hl).mono ?_
    rintro e w1 ⟨g, c, rfl, hg, hc7, hcm2, hown, hb1⟩
    have HO1 : Hid (Reads w1 (some ⟨g, 0, none⟩) (len0 + 7) c (z0 ++ marks 7)) := by
      have hlen : (z0 ++ marks 7).length = len0 + 7 := by have := HW.out.1; simp [marks]; omega
      obtain ⟨a, cap, e, hr⟩ := reads_own (l := z0 ++ marks 7) (by rw [hlen]; exact hown)
      rw [hlen] at e hr
      cases e
      exact hr
    clear hown
    go_wp2_with fail
    refine (get_any _ _ _ z0 _ (reads_front HO1.out HW.out.1)).mono ?_
    rintro e w2 ⟨rfl, hb2⟩
    unfold gotten
    go_wp2_with fail
    have hb2w : Below w.heap.size w w2 := hb1.trans (hb2.mono hb1.size)
    have HA : Hid (∀ o, Reads (w2.alloc o) a0 len0 cap0 z0) := fun o => (HW.out.below hb2w).below ((Below.refl _ _).alloc (Nat.le_refl _) _)
    refine (refGet_any _ _ _ z0 _ (HA.out _)).mono ?_
    rintro e w3 ⟨rfl, hb3⟩
    unfold gotten
    have h23 : w2.heap.size < w3.heap.size := by have := hb3.size; simp at this; omega
    have x0 : w3.cell? ⟨w2.heap.size, 0, none⟩ = some (.int .i64 (gT z0)) := by rw [hb3.cell (p := ⟨w2.heap.size, 0, none⟩) (by simp)]; simp
    have x1 : w3.cell? ⟨w2.heap.size, 1, none⟩ = some (.string ⟨(gD z0).toArray⟩) := by rw [hb3.cell (p := ⟨w2.heap.size, 1, none⟩) (by simp)]; simp
    have hb3' : Below w2.heap.size w2 w3 := ((Below.refl _ _).alloc (Nat.le_refl _) _).trans (hb3.mono (by simp))
    clear hb3
    go_wp2_with fail
    refine (fields_any _).mono ?_
    rintro e w4 ⟨rfl, hb4⟩
    have h34 : w3.heap.size < w4.heap.size := by have := hb4.size; simp at this; omega
    have h24 : w2.heap.size < w4.heap.size := by omega
    have hb4' : Below w3.heap.size w3 w4 := ((Below.refl _ _).alloc (Nat.le_refl _) _).trans (hb4.mono (by simp))
    have y0 : w4.cell? ⟨w2.heap.size, 0, none⟩ = some (.int .i64 (gT z0)) := (hb4'.cell (p := ⟨w2.heap.size, 0, none⟩) h23).trans x0
    have y1 : w4.cell? ⟨w2.heap.size, 1, none⟩ = some (.string ⟨(gD z0).toArray⟩) := (hb4'.cell (p := ⟨w2.heap.size, 1, none⟩) h23).trans x1
    have u0 : w4.cell? ⟨w3.heap.size, 0, none⟩ = some (.int .i64 (gT z0)) := by rw [hb4.cell (p := ⟨w3.heap.size, 0, none⟩) (by simp)]; simp
    have u1 : w4.cell? ⟨w3.heap.size, 1, none⟩ = some (.string ⟨(gD z0).toArray⟩) := by rw [hb4.cell (p := ⟨w3.heap.size, 1, none⟩) (by simp)]; simp
    have hb24 : Below w2.heap.size w2 w4 := hb3'.trans (hb4'.mono (by omega))
    have HK1 : Hid (Reads w4 (some ⟨g, 0, none⟩) (len0 + 7) c (z0 ++ marks 7)) := (HO1.out.below hb2).below hb24
    have HK2 : Hid (Reads w4 a0 len0 cap0 z0) := (HW.out.below hb2w).below hb24
    have HE : Hid (Below w.heap.size w w4) := hb2w.trans (hb24.mono hb2w.size)
    clear hb4 hb4' hb3' hb24 x0 x1 hb2w hb2 hb1
    go_wp2_with fail
    refine (kept_any g c _ _ _ z0 _ HK1.out HK2.out hl).mono ?_
    rintro e _ ⟨rfl, rfl⟩
    go_wp2
    go_ret
    exact ⟨rfl, HE.out⟩
end Go.Proofs.Ytmfopddmkaecaaa
