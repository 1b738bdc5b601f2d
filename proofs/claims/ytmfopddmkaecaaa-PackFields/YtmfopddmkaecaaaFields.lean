/- The examples of the document for fields hold, whatever the world. -/
import Derived.Test.YtmfopddmkaecaaaKept
import Derived.Lib.SlBytesConst
namespace Go.Proofs.Ytmfopddmkaecaaa
open Go.RowKit Nums

theorem got1 : gotten [7, 0, 0, 2, 97, 98, 9] = .returned (.tuple #[.agg #[.int .i64 7, .string ⟨#[97, 98]⟩], .int .i64 6, .int .i64 0]) := by rfl
theorem got2 : gotten [7, 0, 0, 2, 97] = .returned (.tuple #[.agg #[.int .i64 0, .string ⟨#[]⟩], .int .i64 0, .int .i64 10]) := by rfl
theorem got3 : gotten [0, 0, 0, 0] = .returned (.tuple #[.agg #[.int .i64 0, .string ⟨#[]⟩], .int .i64 0, .int .i64 11]) := by rfl

theorem get_lit {a : Option Addr} {len cap : Nat} {l : List UInt8} {w : World} {e0 : Ending} (h : gotten l = e0) (hr : Reads w a len cap l) :
    Calls Try.prog 19 #[.slice a len cap] w fun e w' => e = e0 ∧ Below w.heap.size w w' := by
  have := get_any a len cap l w hr
  rwa [h] at this

theorem put_example (w : World) : Calls Try.prog 15 #[.slice none 0 0, .int .i64 7, .string ⟨#[97, 98]⟩] w fun e w' =>
    ∃ a c, e = .returned (.tuple #[.slice a 6 c, .int .i64 0]) ∧ Reads w' a 6 c [7, 0, 0, 2, 97, 98] ∧ Below w.heap.size w w' := by
  refine (put_yes none 0 0 [] 7 ⟨#[97, 98]⟩ w (reads_none _) (by decide) (by decide) (by decide)).mono ?_
  rintro e w1 ⟨v, rfl, hown, hb1⟩
  obtain ⟨a, c, rfl, hr⟩ := reads_own hown
  exact ⟨a, c, rfl, hr, hb1⟩

/-- A literal slice of bytes can be read. -/
theorem reads_lit (w : World) (cs : Array Value) (m : Nat × Nat) (l : List UInt8) (h : cs.toList = cellsOf l) (hl : l.length ≤ 1048576) :
    Reads (w.alloc (.cells cs 5 m)) (some ⟨w.heap.size, 0, none⟩) l.length l.length l := by
  refine ⟨rfl, Nat.le_refl _, by omega, .inr (.inr ⟨w.heap.size, 0, rfl, by simp, fun i hi => ?_⟩)⟩
  have e : (w.alloc (.cells cs 5 m)).cell? ⟨w.heap.size, 0 + i, none⟩ = cs[i]? := by
    rw [Nat.zero_add]
    exact World.cell?_alloc_mark w cs 5 m i
  rw [e, ← Array.getElem?_toList, h]
  simp [cellsOf, List.getElem?_eq_getElem hi]

theorem const2 (w : World) (X : Obj) (C : Array Value) (n c : Nat) :
    Sem.run Try.prog (convert 30 30 (.slice (some ⟨w.heap.size + 1, 0, none⟩) n c)) ((w.alloc X).alloc (.cells C 5)) = .ok (.slice (some ⟨w.heap.size + 1, 0, none⟩) n c) ((w.alloc X).alloc (.cells C 5 (C.size, C.size + 1))) := by
  have := Lib.run_convert_bytes_const (P := Try.prog) (w.alloc X) 30 5 C n c Try.underlying30 Try.underlying5
  rwa [World.size_alloc] at this

theorem reads_lit2 (w : World) (X : Obj) (cs : Array Value) (m : Nat × Nat) (l : List UInt8) (h : cs.toList = cellsOf l) (hl : l.length ≤ 1048576) :
    Reads ((w.alloc X).alloc (.cells cs 5 m)) (some ⟨w.heap.size + 1, 0, none⟩) l.length l.length l := by
  have := reads_lit (w.alloc X) cs m l h hl
  rwa [World.size_alloc] at this

set_option maxHeartbeats 1000000 in
theorem fields_any (w : World) : Calls Try.prog 17 #[] w fun e w' => e = .returned (.bool true) ∧ Below w.heap.size w w' := by
  have kc := fun (w : World) (C : Array Value) (n c : Nat) => Lib.run_convert_bytes_const (P := Try.prog) w 30 5 C n c Try.underlying30 Try.underlying5
  have kc2 := const2
  go_enter Try.func17, Try.ntmps17
  go_wp2_with fail
  refine (put_example _).mono ?_
  rintro e w1 ⟨a1, c1, rfl, hr1, hb1⟩
  go_wp2_with fail
  refine (get_lit got1 (reads_lit w1 _ _ _ rfl (by decide))).mono ?_
  rintro e w2 ⟨rfl, hb2⟩
  have h12 : w1.heap.size < w2.heap.size := by have := hb2.size; simp at this; omega
  have hb2' : Below w1.heap.size w1 w2 := ((Below.refl _ _).alloc (Nat.le_refl _) _).trans (hb2.mono (by simp))
  clear hb2
  go_wp2_with fail
  refine (get_lit got2 (reads_lit2 _ _ _ _ _ rfl (by decide))).mono ?_
  rintro e w3 ⟨rfl, hb3⟩
  have h23 : w2.heap.size + 1 < w3.heap.size := by have := hb3.size; simp at this; omega
  have x0 : w3.cell? ⟨w2.heap.size, 0, none⟩ = some (.int .i64 7) := by rw [hb3.cell (p := ⟨w2.heap.size, 0, none⟩) (by simp; omega)]; simp
  have x1 : w3.cell? ⟨w2.heap.size, 1, none⟩ = some (.string ⟨#[97, 98]⟩) := by rw [hb3.cell (p := ⟨w2.heap.size, 1, none⟩) (by simp; omega)]; simp
  have hb3' : Below w2.heap.size w2 w3 := (((Below.refl _ _).alloc (Nat.le_refl _) _).alloc (by simp) _).trans (hb3.mono (by simp; omega))
  clear hb3
  go_wp2_with fail
  refine (get_lit got3 (reads_lit2 _ _ _ _ _ rfl (by decide))).mono ?_
  rintro e w4 ⟨rfl, hb4⟩
  have h34 : w3.heap.size + 1 < w4.heap.size := by have := hb4.size; simp at this; omega
  have hb4' : Below w3.heap.size w3 w4 := (((Below.refl _ _).alloc (Nat.le_refl _) _).alloc (by simp) _).trans (hb4.mono (by simp; omega))
  have y0 : w4.cell? ⟨w2.heap.size, 0, none⟩ = some (.int .i64 7) := (hb4'.cell (p := ⟨w2.heap.size, 0, none⟩) (show w2.heap.size < w3.heap.size by omega)).trans x0
  have y1 : w4.cell? ⟨w2.heap.size, 1, none⟩ = some (.string ⟨#[97, 98]⟩) := (hb4'.cell (p := ⟨w2.heap.size, 1, none⟩) (show w2.heap.size < w3.heap.size by omega)).trans x1
  have h24 : w2.heap.size < w4.heap.size := by omega
  have hbw : Below w1.heap.size w1 w4 := hb2'.trans ((hb3'.mono (by omega)).trans (hb4'.mono (by omega)))
  have hc := fun o => conv_reads ((hr1.below hbw).below ((Below.refl _ _).alloc (Nat.le_refl _) o))
  have HE : Hid (Below w.heap.size w w4) := hb1.trans (hbw.mono hb1.size)
  clear hb4 hb4' hb3' hb2' x0 x1 hr1 hb1 hbw
  go_wp2
  go_ret
  exact ⟨rfl, HE.out.alloc HE.out.size _⟩
end Go.Proofs.Ytmfopddmkaecaaa
