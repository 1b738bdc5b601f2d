/- What the document's own Get answers. -/
import Derived.Test.YtmfopddmkaecaabGet
import Derived.BigRegion
namespace Go.Proofs.Ytmfopddmkaecaab
open Go.RowKit Nums

theorem refGet_short (a : Option Addr) (len cap : Nat) (w : World) (h : len < 4) :
    Calls Try.prog 21 #[.slice a len cap] w fun e w' => e = .returned (.tuple #[.agg #[.int .i64 0, .string ⟨#[]⟩], .int .i64 0, .int .i64 10]) ∧ Below w.heap.size w w' := by
  go_enter Try.func21, Try.ntmps21
  go_wp2
  refine bodyPost_ret (v := .tuple #[.agg #[.int .i64 0, .string ⟨#[]⟩], .int .i64 0, .int .i64 10]) (by simp [results, Try.results21, go_sem]) rfl ⟨rfl, ?_⟩
  exact (Below.refl _ _).alloc (Nat.le_refl _) _

set_option maxHeartbeats 1000000 in
theorem refGet_form (b off len cap : Nat) (w : World) (h : 4 ≤ len) (c0 c1 c2 c3 N : Nat) (hb : b < w.heap.size)
    (h0 : w.cell? ⟨b, off, none⟩ = some (.int .u8 c0)) (h1 : w.cell? ⟨b, off + 1, none⟩ = some (.int .u8 c1))
    (h2 : w.cell? ⟨b, off + 2, none⟩ = some (.int .u8 c2)) (h3 : w.cell? ⟨b, off + 3, none⟩ = some (.int .u8 c3))
    (_g0 : (c0 : Int) ≤ 255) (g1 : (c1 : Int) ≤ 255) (g2 : (c2 : Int) ≤ 255) (g3 : (c3 : Int) ≤ 255) (hN : (N : Int) ≤ 16777215)
    (hsum : 65536 * (c1 : Int) + 256 * (c2 : Int) + (c3 : Int) = (N : Int))
    (hc : ((c0 : Int) == 0) = true ∨ (((c0 : Int) == 0) = false ∧ (65536 : Int) < (N : Int))) :
    Calls Try.prog 21 #[.slice (some ⟨b, off, none⟩) len cap] w fun e w' => e = .returned (.tuple #[.agg #[.int .i64 0, .string ⟨#[]⟩], .int .i64 0, .int .i64 11]) ∧ Below w.heap.size w w' := by
  have l0 : (0 : Int) < (len : Int) := by omega
  have l1 : (1 : Int) < (len : Int) := by omega
  have l2 : (2 : Int) < (len : Int) := by omega
  have l3 : (3 : Int) < (len : Int) := by omega
  rcases hc with hc | ⟨hc, hc2⟩
  all_goals
    go_enter Try.func21, Try.ntmps21
    go_wp2
    go_quiet (fail)
    go_wp2
    exact bodyPost_ret (v := .tuple #[.agg #[.int .i64 0, .string ⟨#[]⟩], .int .i64 0, .int .i64 11]) (by simp [results, Try.results21, go_sem]) rfl ⟨rfl, below_get _ _ _ _⟩

set_option maxHeartbeats 1000000 in
theorem refGet_cut (b off len cap : Nat) (w : World) (h : 4 ≤ len) (hm : (len : Int) ≤ 9223372036854775807) (c0 c1 c2 c3 N : Nat) (hb : b < w.heap.size)
    (h0 : w.cell? ⟨b, off, none⟩ = some (.int .u8 c0)) (h1 : w.cell? ⟨b, off + 1, none⟩ = some (.int .u8 c1))
    (h2 : w.cell? ⟨b, off + 2, none⟩ = some (.int .u8 c2)) (h3 : w.cell? ⟨b, off + 3, none⟩ = some (.int .u8 c3))
    (_g0 : (c0 : Int) ≤ 255) (g1 : (c1 : Int) ≤ 255) (g2 : (c2 : Int) ≤ 255) (g3 : (c3 : Int) ≤ 255) (hN : (N : Int) ≤ 65536)
    (hsum : 65536 * (c1 : Int) + 256 * (c2 : Int) + (c3 : Int) = (N : Int))
    (hc : ((c0 : Int) == 0) = false) (hl : (len : Int) - 4 < (N : Int)) :
    Calls Try.prog 21 #[.slice (some ⟨b, off, none⟩) len cap] w fun e w' => e = .returned (.tuple #[.agg #[.int .i64 0, .string ⟨#[]⟩], .int .i64 0, .int .i64 10]) ∧ Below w.heap.size w w' := by
  have l0 : (0 : Int) < (len : Int) := by omega
  have l1 : (1 : Int) < (len : Int) := by omega
  have l2 : (2 : Int) < (len : Int) := by omega
  have l3 : (3 : Int) < (len : Int) := by omega
  have hn : ¬ (65536 : Int) < (N : Int) := by omega
  go_enter Try.func21, Try.ntmps21
  go_wp2
  go_quiet (fail)
  go_wp2
  exact bodyPost_ret (v := .tuple #[.agg #[.int .i64 0, .string ⟨#[]⟩], .int .i64 0, .int .i64 10]) (by simp [results, Try.results21, go_sem]) rfl ⟨rfl, below_get _ _ _ _⟩

set_option maxHeartbeats 2000000 in
theorem refGet_field (b off len cap : Nat) (w : World) (h : 4 ≤ len) (c0 c1 c2 c3 N : Nat) (hb : b < w.heap.size) (hlc : len ≤ cap) (hcm : cap ≤ 9223372036854775807)
    (h0 : w.cell? ⟨b, off, none⟩ = some (.int .u8 c0)) (h1 : w.cell? ⟨b, off + 1, none⟩ = some (.int .u8 c1))
    (h2 : w.cell? ⟨b, off + 2, none⟩ = some (.int .u8 c2)) (h3 : w.cell? ⟨b, off + 3, none⟩ = some (.int .u8 c3))
    (g0 : (c0 : Int) ≤ 255) (g1 : (c1 : Int) ≤ 255) (g2 : (c2 : Int) ≤ 255) (g3 : (c3 : Int) ≤ 255) (hN : (N : Int) ≤ 65536)
    (hsum : 65536 * (c1 : Int) + 256 * (c2 : Int) + (c3 : Int) = (N : Int))
    (hc : ((c0 : Int) == 0) = false) (hl : 4 + (N : Int) ≤ (len : Int)) (hcap : ¬ cap = 4) (d : List UInt8) (hd : d.length = N) (hdata : ∀ (j : Nat) (hj : j < d.length), w.cell? ⟨b, off + 4 + j, none⟩ = some (.int .u8 d[j].toNat)) :
    Calls Try.prog 21 #[.slice (some ⟨b, off, none⟩) len cap] w fun e w' => e = .returned (.tuple #[.agg #[.int .i64 c0, .string ⟨d.toArray⟩], .int .i64 (4 + N), .int .i64 0]) ∧ Below w.heap.size w w' := by
  have l0 : (0 : Int) < (len : Int) := by omega
  have l1 : (1 : Int) < (len : Int) := by omega
  have l2 : (2 : Int) < (len : Int) := by omega
  have l3 : (3 : Int) < (len : Int) := by omega
  have hn : ¬ (65536 : Int) < (N : Int) := by omega
  have hl' : ¬ (len : Int) - 4 < (N : Int) := by omega
  have hconv : ∀ nq, Sem.run Try.prog (convert 24 9 (.slice (some ⟨b, off + 4, none⟩) N (cap - 4))) ((w.alloc (.cells #[.int .i64 0, .string ⟨#[]⟩] 37)).drewN nq) = .ok (.string ⟨d.toArray⟩) ((w.alloc (.cells #[.int .i64 0, .string ⟨#[]⟩] 37)).drewN nq) := by
    intro nq
    have := run_convert_bytes_back (P := Try.prog) ((w.alloc (.cells #[.int .i64 0, .string ⟨#[]⟩] 37)).drewN nq) 24 9 5 ⟨b, off + 4, none⟩ (cap - 4) d Try.underlying24 Try.underlying5 Try.underlying9 (fun j hj => by
      rw [add_plain]
      have h1 : Below w.heap.size w ((w.alloc (.cells #[.int .i64 0, .string ⟨#[]⟩] 37)).drewN nq) := below_drewN ((Below.refl _ _).alloc (Nat.le_refl _) _) nq
      rw [h1.cell (p := ⟨b, off + 4 + j, none⟩) hb]
      exact hdata j hj)
    rw [hd] at this
    exact this
  clear hdata hd
  go_enter Try.func21, Try.ntmps21
  go_wp2
  go_quiet (fail)
  go_wp2
  go_region
  go_wp2
  exact bodyPost_ret (v := .tuple #[.agg #[.int .i64 c0, .string ⟨d.toArray⟩], .int .i64 (4 + N), .int .i64 0]) (by simp [results, Try.results21, go_sem]) rfl ⟨rfl, below_get _ _ _ _⟩

set_option maxHeartbeats 2000000 in
theorem refGet_four (b off : Nat) (w : World) (c0 : Nat) (hb : b < w.heap.size)
    (h0 : w.cell? ⟨b, off, none⟩ = some (.int .u8 c0)) (h1 : w.cell? ⟨b, off + 1, none⟩ = some (.int .u8 0))
    (h2 : w.cell? ⟨b, off + 2, none⟩ = some (.int .u8 0)) (h3 : w.cell? ⟨b, off + 3, none⟩ = some (.int .u8 0))
    (g0 : (c0 : Int) ≤ 255) (hc : ((c0 : Int) == 0) = false) :
    Calls Try.prog 21 #[.slice (some ⟨b, off, none⟩) 4 4] w fun e w' => e = .returned (.tuple #[.agg #[.int .i64 c0, .string ⟨#[]⟩], .int .i64 4, .int .i64 0]) ∧ Below w.heap.size w w' := by
  have hconv : ∀ nq, Sem.run Try.prog (convert 24 9 (.slice (some ⟨b, off, none⟩) 0 0)) ((w.alloc (.cells #[.int .i64 0, .string ⟨#[]⟩] 37)).drewN nq) = .ok (.string ⟨#[]⟩) ((w.alloc (.cells #[.int .i64 0, .string ⟨#[]⟩] 37)).drewN nq) :=
    fun nq => run_convert_bytes_back (P := Try.prog) _ 24 9 5 ⟨b, off, none⟩ 0 [] Try.underlying24 Try.underlying5 Try.underlying9 (fun j hj => by simp at hj)
  go_enter Try.func21, Try.ntmps21
  go_wp2
  go_quiet (fail)
  go_wp2
  go_region
  go_wp2
  exact bodyPost_ret (v := .tuple #[.agg #[.int .i64 c0, .string ⟨#[]⟩], .int .i64 4, .int .i64 0]) (by simp [results, Try.results21, go_sem]) rfl ⟨rfl, below_get _ _ _ _⟩
end Go.Proofs.Ytmfopddmkaecaab
