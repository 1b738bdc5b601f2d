/- What pack.Get answers. -/
import Derived.Test.YtmfopddmkaecaabField
import Derived.Deep.QuietTactic
import Derived.BigQuiet
namespace Go.Proofs.Ytmfopddmkaecaab
open Go.RowKit Nums

theorem get_short (a : Option Addr) (len cap : Nat) (w : World) (h : len < 4) :
    Calls Try.prog 25 #[.slice a len cap] w fun e w' => e = .returned (.tuple #[.agg #[.int .i64 0, .string ⟨#[]⟩], .int .i64 0, .int .i64 10]) ∧ Below w.heap.size w w' := by
  go_enter Try.func25, Try.ntmps25
  go_wp2
  refine bodyPost_ret (v := .tuple #[.agg #[.int .i64 0, .string ⟨#[]⟩], .int .i64 0, .int .i64 10]) (by simp [results, Try.results25, go_sem]) rfl ⟨rfl, ?_⟩
  exact (Below.refl _ _).alloc (Nat.le_refl _) _

/-- The world in which Get's answer lies: a block of its own. -/
theorem below_get (w : World) (nq : Nat) (x y : Value) :
    Below w.heap.size w ((((w.alloc (.cells #[.int .i64 0, .string ⟨#[]⟩] 37)).drewN nq).setCell ⟨w.heap.size, 0, none⟩ x).setCell ⟨w.heap.size, 1, none⟩ y) :=
  ((below_drewN ((Below.refl _ _).alloc (Nat.le_refl _) _) nq).setCell (Nat.le_refl _) _).setCell (Nat.le_refl _) _

set_option maxHeartbeats 1000000 in
theorem get_form (b off len cap : Nat) (w : World) (h : 4 ≤ len) (c0 c1 c2 c3 N : Nat) (hb : b < w.heap.size)
    (h0 : w.cell? ⟨b, off, none⟩ = some (.int .u8 c0)) (h1 : w.cell? ⟨b, off + 1, none⟩ = some (.int .u8 c1))
    (h2 : w.cell? ⟨b, off + 2, none⟩ = some (.int .u8 c2)) (h3 : w.cell? ⟨b, off + 3, none⟩ = some (.int .u8 c3))
    (g0 : (c0 : Int) ≤ 255) (g1 : (c1 : Int) ≤ 255) (g2 : (c2 : Int) ≤ 255) (g3 : (c3 : Int) ≤ 255) (hN : (N : Int) ≤ 16777215)
    (hbits : bits .or .i64 (bits .or .i64 ((c1 : Int) * 65536) ((c2 : Int) * 256)) (c3 : Int) = (N : Int))
    (hc : ((c0 : Int) == 0) = true ∨ (((c0 : Int) == 0) = false ∧ (65536 : Int) < (N : Int))) :
    Calls Try.prog 25 #[.slice (some ⟨b, off, none⟩) len cap] w fun e w' => e = .returned (.tuple #[.agg #[.int .i64 0, .string ⟨#[]⟩], .int .i64 0, .int .i64 11]) ∧ Below w.heap.size w w' := by
  have l0 : (0 : Int) < (len : Int) := by omega
  have l1 : (1 : Int) < (len : Int) := by omega
  have l2 : (2 : Int) < (len : Int) := by omega
  have l3 : (3 : Int) < (len : Int) := by omega
  rcases hc with hc | ⟨hc, hc2⟩
  all_goals
    go_enter Try.func25, Try.ntmps25
    go_wp2
    go_quiet (fail)
    go_wp2
    exact bodyPost_ret (v := .tuple #[.agg #[.int .i64 0, .string ⟨#[]⟩], .int .i64 0, .int .i64 11]) (by simp [results, Try.results25, go_sem]) rfl ⟨rfl, below_get _ _ _ _⟩

set_option maxHeartbeats 1000000 in
theorem get_cut (b off len cap : Nat) (w : World) (h : 4 ≤ len) (c0 c1 c2 c3 N : Nat) (hb : b < w.heap.size)
    (h0 : w.cell? ⟨b, off, none⟩ = some (.int .u8 c0)) (h1 : w.cell? ⟨b, off + 1, none⟩ = some (.int .u8 c1))
    (h2 : w.cell? ⟨b, off + 2, none⟩ = some (.int .u8 c2)) (h3 : w.cell? ⟨b, off + 3, none⟩ = some (.int .u8 c3))
    (g0 : (c0 : Int) ≤ 255) (g1 : (c1 : Int) ≤ 255) (g2 : (c2 : Int) ≤ 255) (g3 : (c3 : Int) ≤ 255) (hN : (N : Int) ≤ 65536)
    (hbits : bits .or .i64 (bits .or .i64 ((c1 : Int) * 65536) ((c2 : Int) * 256)) (c3 : Int) = (N : Int))
    (hc : ((c0 : Int) == 0) = false) (hl : (len : Int) < 4 + (N : Int)) :
    Calls Try.prog 25 #[.slice (some ⟨b, off, none⟩) len cap] w fun e w' => e = .returned (.tuple #[.agg #[.int .i64 0, .string ⟨#[]⟩], .int .i64 0, .int .i64 10]) ∧ Below w.heap.size w w' := by
  have l0 : (0 : Int) < (len : Int) := by omega
  have l1 : (1 : Int) < (len : Int) := by omega
  have l2 : (2 : Int) < (len : Int) := by omega
  have l3 : (3 : Int) < (len : Int) := by omega
  have hn : ¬ (65536 : Int) < (N : Int) := by omega
  go_enter Try.func25, Try.ntmps25
  go_wp2
  go_quiet (fail)
  go_wp2
  exact bodyPost_ret (v := .tuple #[.agg #[.int .i64 0, .string ⟨#[]⟩], .int .i64 0, .int .i64 10]) (by simp [results, Try.results25, go_sem]) rfl ⟨rfl, below_get _ _ _ _⟩

set_option maxHeartbeats 1000000 in
theorem get_field (b off len cap : Nat) (w : World) (h : 4 ≤ len) (c0 c1 c2 c3 N : Nat) (hb : b < w.heap.size) (hlc : len ≤ cap) (hcm : cap ≤ 9223372036854775807)
    (h0 : w.cell? ⟨b, off, none⟩ = some (.int .u8 c0)) (h1 : w.cell? ⟨b, off + 1, none⟩ = some (.int .u8 c1))
    (h2 : w.cell? ⟨b, off + 2, none⟩ = some (.int .u8 c2)) (h3 : w.cell? ⟨b, off + 3, none⟩ = some (.int .u8 c3))
    (g0 : (c0 : Int) ≤ 255) (g1 : (c1 : Int) ≤ 255) (g2 : (c2 : Int) ≤ 255) (g3 : (c3 : Int) ≤ 255) (hN : (N : Int) ≤ 65536)
    (hbits : bits .or .i64 (bits .or .i64 ((c1 : Int) * 65536) ((c2 : Int) * 256)) (c3 : Int) = (N : Int))
    (hc : ((c0 : Int) == 0) = false) (hl : 4 + (N : Int) ≤ (len : Int)) (d : List UInt8) (hd : d.length = N) (hdata : ∀ (j : Nat) (hj : j < d.length), w.cell? ⟨b, off + 4 + j, none⟩ = some (.int .u8 d[j].toNat)) :
    Calls Try.prog 25 #[.slice (some ⟨b, off, none⟩) len cap] w fun e w' => e = .returned (.tuple #[.agg #[.int .i64 c0, .string ⟨d.toArray⟩], .int .i64 (4 + N), .int .i64 0]) ∧ Below w.heap.size w w' := by
  have l0 : (0 : Int) < (len : Int) := by omega
  have l1 : (1 : Int) < (len : Int) := by omega
  have l2 : (2 : Int) < (len : Int) := by omega
  have l3 : (3 : Int) < (len : Int) := by omega
  have hn : ¬ (65536 : Int) < (N : Int) := by omega
  have hl' : ¬ (len : Int) < 4 + (N : Int) := by omega
  by_cases hcap : cap = 4
  · have hlen : len = 4 := by omega
    have hN0 : N = 0 := by omega
    subst hN0 hlen hcap
    have hd0 : d = [] := List.eq_nil_of_length_eq_zero hd
    subst hd0
    have hconv : ∀ nq, Sem.run Try.prog (convert 24 9 (.slice (some ⟨b, off, none⟩) 0 0)) ((w.alloc (.cells #[.int .i64 0, .string ⟨#[]⟩] 37)).drewN nq) = .ok (.string ⟨#[]⟩) ((w.alloc (.cells #[.int .i64 0, .string ⟨#[]⟩] 37)).drewN nq) :=
      fun nq => run_convert_bytes_back (P := Try.prog) _ 24 9 5 ⟨b, off, none⟩ 0 [] Try.underlying24 Try.underlying5 Try.underlying9 (fun j hj => by simp at hj)
    clear hdata hd
    go_enter Try.func25, Try.ntmps25
    go_wp2
    go_quiet (fail)
    go_wp2
    exact bodyPost_ret (v := .tuple #[.agg #[.int .i64 c0, .string ⟨#[]⟩], .int .i64 4, .int .i64 0]) (by simp [results, Try.results25, go_sem]) rfl ⟨rfl, below_get _ _ _ _⟩
  · have hconv : ∀ nq, Sem.run Try.prog (convert 24 9 (.slice (some ⟨b, off + 4, none⟩) N (cap - 4))) ((w.alloc (.cells #[.int .i64 0, .string ⟨#[]⟩] 37)).drewN nq) = .ok (.string ⟨d.toArray⟩) ((w.alloc (.cells #[.int .i64 0, .string ⟨#[]⟩] 37)).drewN nq) := by
      intro nq
      have := run_convert_bytes_back (P := Try.prog) ((w.alloc (.cells #[.int .i64 0, .string ⟨#[]⟩] 37)).drewN nq) 24 9 5 ⟨b, off + 4, none⟩ (cap - 4) d Try.underlying24 Try.underlying5 Try.underlying9 (fun j hj => by
        rw [add_plain]
        have h1 : Below w.heap.size w ((w.alloc (.cells #[.int .i64 0, .string ⟨#[]⟩] 37)).drewN nq) := below_drewN ((Below.refl _ _).alloc (Nat.le_refl _) _) nq
        rw [h1.cell (p := ⟨b, off + 4 + j, none⟩) hb]
        exact hdata j hj)
      rw [hd] at this
      exact this
    clear hdata hd
    go_enter Try.func25, Try.ntmps25
    go_wp2
    go_quiet (fail)
    go_wp2
    exact bodyPost_ret (v := .tuple #[.agg #[.int .i64 c0, .string ⟨d.toArray⟩], .int .i64 (4 + N), .int .i64 0]) (by simp [results, Try.results25, go_sem]) rfl ⟨rfl, below_get _ _ _ _⟩
end Go.Proofs.Ytmfopddmkaecaab
