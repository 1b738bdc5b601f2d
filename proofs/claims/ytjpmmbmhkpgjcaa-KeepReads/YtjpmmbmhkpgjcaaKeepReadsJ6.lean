/- Texts of our own that the row of KeepReads leans on, part 6. -/
import Derived.Test.YtjpmmbmhkpgjcaaProg
import Derived.Lib.Walk
import Derived.Lib.BitFns

/- math/bits.Len, as this program bears it, answers how many bits its argument has, for every uint64, and leaves the world as it was. -/
namespace Go.Proofs.Ytjpmmbmhkpgjcaa
set_option maxRecDepth 100000
/-- One way through the table: k bits were cut off, the rest is a byte. -/
theorem cut_bits (x e c : Int) (k p : Nat) (hp : p = 2 ^ k) (hk : k ≤ 56) (h0 : 0 ≤ x) (hlo : k = 0 ∨ (p : Int) ≤ x) (hhi : x < 256 * (p : Int)) (he : e = x / (p : Int)) (hc : c = k) :
    c + Lib.len8 (e % 256) = Lib.bitLen x.toNat ∧ 0 ≤ Lib.len8 (e % 256) ∧ Lib.len8 (e % 256) ≤ 8 := by
  have hp0 : 0 < p := by rw [hp]; exact Nat.pow_pos (by decide)
  obtain ⟨n, rfl⟩ : ∃ n : Nat, x = n := ⟨x.toNat, by omega⟩
  have en : e = ((n / p : Nat) : Int) := by rw [he]; exact (Int.natCast_ediv n p).symm
  have hn : n / p < 256 := by rw [Nat.div_lt_iff_lt_mul hp0]; omega
  have e1 : e % 256 = ((n / p : Nat) : Int) := by
    rw [en]; exact Int.emod_eq_of_lt (Int.natCast_nonneg _) (Int.ofNat_lt.mpr hn)
  rw [e1, Lib.len8_of _ (Int.natCast_nonneg _) (Int.lt_add_one_iff.mp (Int.ofNat_lt.mpr hn)), hc, Int.toNat_natCast, Int.toNat_natCast]
  refine ⟨?_, Int.natCast_nonneg _, Int.ofNat_le.mpr (Lib.bitLen_le8 ⟨n / p, hn⟩)⟩
  rcases hlo with rfl | hlo
  · simp at hp; subst hp; simp
  · have hb : n < 2 ^ 64 := by
      have : p ≤ 2 ^ 56 := by rw [hp]; exact Nat.pow_le_pow_right (by decide) hk
      omega
    have := Lib.bitLen_shift k n (by omega) hb
    rw [this, hp]; omega
set_option maxHeartbeats 2000000 in
set_option maxRecDepth 100000 in
theorem len64_any (x : Int) (w : World) (h0 : 0 ≤ x) (h1 : x ≤ 18446744073709551615) :
    Calls Try.prog 106 #[.int .u64 x] w fun e w' => e = .returned (.int .i64 (Lib.bitLen x.toNat)) ∧ w = w' := by
  go_enter Try.func106, Try.ntmps106
  go_wp2
  all_goals (go_ret; refine ⟨congrArg Ending.returned (congrArg (Value.int IntKind.i64) ?_), rfl⟩)
  all_goals first
    | (have h := cut_bits x (x / 4294967296 / 65536 / 256) 56 56 72057594037927936 (by decide +kernel) (by decide) h0 (by omega) (by omega) (by omega) rfl; obtain ⟨h, hl, hu⟩ := h; omega)
    | (have h := cut_bits x (x / 4294967296 / 65536) 48 48 281474976710656 (by decide +kernel) (by decide) h0 (by omega) (by omega) (by omega) rfl; obtain ⟨h, hl, hu⟩ := h; omega)
    | (have h := cut_bits x (x / 4294967296 / 256) 40 40 1099511627776 (by decide +kernel) (by decide) h0 (by omega) (by omega) (by omega) rfl; obtain ⟨h, hl, hu⟩ := h; omega)
    | (have h := cut_bits x (x / 4294967296) 32 32 4294967296 (by decide +kernel) (by decide) h0 (by omega) (by omega) (by omega) rfl; obtain ⟨h, hl, hu⟩ := h; omega)
    | (have h := cut_bits x (x / 65536 / 256) 24 24 16777216 (by decide +kernel) (by decide) h0 (by omega) (by omega) (by omega) rfl; obtain ⟨h, hl, hu⟩ := h; omega)
    | (have h := cut_bits x (x / 65536) 16 16 65536 (by decide +kernel) (by decide) h0 (by omega) (by omega) (by omega) rfl; obtain ⟨h, hl, hu⟩ := h; omega)
    | (have h := cut_bits x (x / 256) 8 8 256 (by decide +kernel) (by decide) h0 (by omega) (by omega) (by omega) rfl; obtain ⟨h, hl, hu⟩ := h; omega)
    | (have h := cut_bits x x 0 0 1 (by decide) (by decide) h0 (.inl rfl) (by omega) (by omega) rfl; obtain ⟨h, hl, hu⟩ := h; omega)
theorem len_any (x : Int) (w : World) (h0 : 0 ≤ x) (h1 : x ≤ 18446744073709551615) :
    Calls Try.prog 90 #[.int .u64 x] w fun e w' => e = .returned (.int .i64 (Lib.bitLen x.toNat)) ∧ w = w' := by
  go_enter Try.func90, Try.ntmps90
  go_wp2_with (go_at_call 106; refine (len64_any x _ h0 h1).mono ?_; rintro e w' ⟨rfl, rfl⟩)
  go_ret
  exact ⟨rfl, rfl⟩
end Go.Proofs.Ytjpmmbmhkpgjcaa
