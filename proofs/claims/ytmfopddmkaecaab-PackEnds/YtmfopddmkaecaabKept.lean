/- The keeper's Kept answers true where lent bytes and the marks behind them are as they were. -/
import Derived.Test.YtmfopddmkaecaabLent
namespace Go.Proofs.Ytmfopddmkaecaab
open Go.RowKit Nums

theorem conv_reads {w : World} {a : Option Addr} {len cap : Nat} {l : List UInt8} (h : Reads w a len cap l) :
    Sem.run Try.prog (convert 24 9 (.slice a len cap)) w = .ok (.string ⟨l.toArray⟩) w := by
  obtain ⟨h1, h2, h3, ⟨rfl, h0⟩ | ⟨ad, rfl, h0⟩ | ⟨b, off, rfl, hlt, hc⟩⟩ := h
  · have hl : l = [] := List.eq_nil_of_length_eq_zero (by omega)
    subst hl
    exact run_convert_bytes_nil (P := Try.prog) w 24 5 Try.underlying24 Try.underlying5 len cap 9 Try.underlying9
  · subst h1
    exact run_convert_bytes_back (P := Try.prog) w 24 9 5 ad cap l Try.underlying24 Try.underlying5 Try.underlying9 (fun j hj => by omega)
  · subst h1
    exact run_convert_bytes_back (P := Try.prog) w 24 9 5 ⟨b, off, none⟩ cap l Try.underlying24 Try.underlying5 Try.underlying9 (fun j hj => by rw [add_plain]; exact hc j hj)

theorem reads_front {w : World} {g len k c : Nat} {l m : List UInt8} (h : Reads w (some ⟨g, 0, none⟩) (len + k) c (l ++ m)) (hl : l.length = len) : Reads w (some ⟨g, 0, none⟩) len c l := by
  obtain ⟨h1, h2, h3, ⟨h0, _⟩ | ⟨ad, _, h0⟩ | ⟨b, off, e, hlt, hc⟩⟩ := h
  · cases h0
  · exact ⟨hl, by omega, h3, .inr (.inl ⟨_, rfl, by omega⟩)⟩
  · refine ⟨hl, by omega, h3, .inr (.inr ⟨b, off, e, hlt, fun i hi => ?_⟩)⟩
    have := hc i (by simp; omega)
    rwa [List.getElem_append_left hi] at this

theorem marks_get (k j : Nat) (h : j < (marks k).length) : (marks k)[j] = 195 := by
  unfold marks; exact List.getElem_replicate _

theorem reads_mark {w : World} {g len c : Nat} {l : List UInt8} (h : Reads w (some ⟨g, 0, none⟩) (len + 7) c (l ++ marks 7)) (hl : l.length = len) (i : Nat) (h0 : len ≤ i) (hi : i < len + 7) :
    w.cell? ⟨g, i, none⟩ = some (.int .u8 195) := by
  obtain ⟨h1, h2, h3, ⟨h0, _⟩ | ⟨ad, _, h0⟩ | ⟨b, off, e, hlt, hc⟩⟩ := h
  · cases h0
  · omega
  · cases e
    have := hc i (by omega)
    rw [Nat.zero_add] at this
    rw [this, List.getElem_append_right (by omega), marks_get]
    rfl

set_option maxHeartbeats 1000000 in
theorem kept_any (g c : Nat) (a : Option Addr) (len cap : Nat) (l : List UInt8) (w : World) (ho : Reads w (some ⟨g, 0, none⟩) (len + 7) c (l ++ marks 7)) (hr : Reads w a len cap l) (hl : len ≤ 1048576) :
    Calls Try.prog 15 #[.slice (some ⟨g, 0, none⟩) len c, .slice a len cap] w fun e w' => e = .returned (.bool true) ∧ w = w' := by
  have c1 := conv_reads (reads_front ho hr.1)
  have c2 := conv_reads hr
  have hc1 : len + 7 ≤ c := ho.2.1
  have hc2 : c ≤ 9223372036854775807 := ho.2.2.1
  have HM : Hid (∀ i, len ≤ i → i < len + 7 → w.cell? ⟨g, i, none⟩ = some (.int .u8 195)) := fun i => reads_mark ho hr.1 i
  clear ho hr
  go_enter Try.func15, Try.ntmps15
  go_wp2
  go_loop [6] (fun i => ∃ k : Nat, len ≤ k ∧ k ≤ len + 7 ∧ i = .int .i64 k) (fun i => len + 7 - (intOf i).toNat)
  case atStart => exact ⟨len, Nat.le_refl _, by omega, rfl⟩
  case round =>
    obtain ⟨k, hk1, hk2, rfl⟩ := hrel
    clear c1 c2
    by_cases hlt : k < len + 7
    · have hcell := HM.out k hk1 hlt
      go_wp2
      go_round
      case rel => exact ⟨k + 1, by omega, by omega, by go_num⟩
      case measure => simp [intOf]; omega
    · go_wp2
      go_ret
      exact ⟨rfl, rfl⟩
end Go.Proofs.Ytmfopddmkaecaab
