/- Texts of our own that the row of PathMakes leans on, part 2. -/
import Derived.Test.YtkmedlfbkddmoaaGreatDoorPathMakesJ1
import Derived.Test.YtkmedlfbkddmoaaGreatDoorProg
import Derived.WalkKit
import Derived.Lib.BitFns
import Derived.Lib.Walk
/- What tree.Split answers: the greatest power of 2 below a number. -/
namespace Go.Proofs.YtkmedlfbkddmoaaGreatDoor
open Go.RowKit
set_option maxRecDepth 100000
set_option linter.unusedVariables false
set_option linter.unusedSimpArgs false
theorem bitLen_log (x : Nat) (h0 : x ≠ 0) (h : x < 2 ^ 64) : Lib.bitLen x = Nat.log2 x + 1 := by
  induction x using Nat.strongRecOn with
  | _ x ih =>
    rw [Lib.bitLen_half x h0 h, Nat.log2_def]
    by_cases h2 : 2 ≤ x
    · rw [if_pos h2, ih (x / 2) (by omega) (by omega) (by omega)]
      omega
    · obtain rfl : x = 1 := by omega
      decide +kernel
theorem log_end (x y z : Int) (k : Nat) (h0 : 0 ≤ x) (hx : x < 18446744073709551616) (hy0 : 0 ≤ y) (hy : y ≤ 255) (e : y.toNat = x.toNat / 2 ^ k) (hk : 2 ^ k ≤ x.toNat ∨ k = 0) (hz : z = (k : Int)) : z + Lib.len8 y = (Lib.bitLen x.toNat : Int) := by
  rw [Lib.len8_of y hy0 hy, e, hz]
  rcases hk with hk | rfl
  · rw [Lib.bitLen_shift k x.toNat hk (by omega)]; omega
  · rw [Nat.pow_zero, Nat.div_one]; omega
theorem len8_le (y : Int) (h0 : 0 ≤ y) (h1 : y ≤ 255) : 0 ≤ Lib.len8 y ∧ Lib.len8 y ≤ 8 := by
  rw [Lib.len8_of y h0 h1]
  have := Lib.bitLen_le8' y h0 h1
  omega
set_option maxHeartbeats 4000000 in
set_option maxRecDepth 100000 in
theorem len64T (x : Int) (w : World) (h0 : 0 ≤ x) (h1 : x ≤ 9223372036854775807) :
    Calls Tryz.prog 127 #[.int .u64 x] w fun e w' => e = .returned (.int .i64 (Lib.bitLen x.toNat)) ∧ w = w' := by
  have all : ∀ Y : Int, 0 ≤ Y → Y ≤ 255 → ∃ v, Hid (v = Lib.len8 Y) ∧ (∀ W, (Instr.index 9 (.string Lib.len8tab) (.int .u8 Y)).run Tryz.prog W = .ok (.int .u8 v) W) ∧ 0 ≤ v ∧ v ≤ 8 := fun Y a b =>
    ⟨_, (rfl : Lib.len8 Y = _), fun W => Lib.run_index_len8tab W 9 .u8 Y Tryz.underlying9 a b, (len8_le Y a b).1, (len8_le Y a b).2⟩
  by_cases c0 : 4294967296 ≤ x
  · by_cases c1 : 65536 ≤ x / 4294967296
    · by_cases c2 : 256 ≤ x / 4294967296 / 65536
      · obtain ⟨v, HV, hi, hv0, hv1⟩ := all (x / 4294967296 / 65536 / 256) (by omega) (by omega)
        have e := log_end x (x / 4294967296 / 65536 / 256) 56 56 h0 (by omega) (by omega) (by omega) (by omega) (.inl (by omega)) rfl
        rw [← HV.out] at e
        clear all HV
        go_enter Tryz.func127, Tryz.ntmps127
        go_wp2
        go_ret
        refine ⟨congrArg Ending.returned (congrArg (Value.int IntKind.i64) ?_), rfl⟩
        rw [← e]
        first | done | (unfold wrap64; omega) | omega
      · obtain ⟨v, HV, hi, hv0, hv1⟩ := all (x / 4294967296 / 65536) (by omega) (by omega)
        have e := log_end x (x / 4294967296 / 65536) 48 48 h0 (by omega) (by omega) (by omega) (by omega) (.inl (by omega)) rfl
        rw [← HV.out] at e
        clear all HV
        go_enter Tryz.func127, Tryz.ntmps127
        go_wp2
        go_ret
        refine ⟨congrArg Ending.returned (congrArg (Value.int IntKind.i64) ?_), rfl⟩
        rw [← e]
        first | done | (unfold wrap64; omega) | omega
    · by_cases c2 : 256 ≤ x / 4294967296
      · obtain ⟨v, HV, hi, hv0, hv1⟩ := all (x / 4294967296 / 256) (by omega) (by omega)
        have e := log_end x (x / 4294967296 / 256) 40 40 h0 (by omega) (by omega) (by omega) (by omega) (.inl (by omega)) rfl
        rw [← HV.out] at e
        clear all HV
        go_enter Tryz.func127, Tryz.ntmps127
        go_wp2
        go_ret
        refine ⟨congrArg Ending.returned (congrArg (Value.int IntKind.i64) ?_), rfl⟩
        rw [← e]
        first | done | (unfold wrap64; omega) | omega
      · obtain ⟨v, HV, hi, hv0, hv1⟩ := all (x / 4294967296) (by omega) (by omega)
        have e := log_end x (x / 4294967296) 32 32 h0 (by omega) (by omega) (by omega) (by omega) (.inl (by omega)) rfl
        rw [← HV.out] at e
        clear all HV
        go_enter Tryz.func127, Tryz.ntmps127
        go_wp2
        go_ret
        refine ⟨congrArg Ending.returned (congrArg (Value.int IntKind.i64) ?_), rfl⟩
        rw [← e]
        first | done | (unfold wrap64; omega) | omega
  · by_cases c1 : 65536 ≤ x
    · by_cases c2 : 256 ≤ x / 65536
      · obtain ⟨v, HV, hi, hv0, hv1⟩ := all (x / 65536 / 256) (by omega) (by omega)
        have e := log_end x (x / 65536 / 256) 24 24 h0 (by omega) (by omega) (by omega) (by omega) (.inl (by omega)) rfl
        rw [← HV.out] at e
        clear all HV
        go_enter Tryz.func127, Tryz.ntmps127
        go_wp2
        go_ret
        refine ⟨congrArg Ending.returned (congrArg (Value.int IntKind.i64) ?_), rfl⟩
        rw [← e]
        first | done | (unfold wrap64; omega) | omega
      · obtain ⟨v, HV, hi, hv0, hv1⟩ := all (x / 65536) (by omega) (by omega)
        have e := log_end x (x / 65536) 16 16 h0 (by omega) (by omega) (by omega) (by omega) (.inl (by omega)) rfl
        rw [← HV.out] at e
        clear all HV
        go_enter Tryz.func127, Tryz.ntmps127
        go_wp2
        go_ret
        refine ⟨congrArg Ending.returned (congrArg (Value.int IntKind.i64) ?_), rfl⟩
        rw [← e]
        first | done | (unfold wrap64; omega) | omega
    · by_cases c2 : 256 ≤ x
      · obtain ⟨v, HV, hi, hv0, hv1⟩ := all (x / 256) (by omega) (by omega)
        have e := log_end x (x / 256) 8 8 h0 (by omega) (by omega) (by omega) (by omega) (.inl (by omega)) rfl
        rw [← HV.out] at e
        clear all HV
        go_enter Tryz.func127, Tryz.ntmps127
        go_wp2
        go_ret
        refine ⟨congrArg Ending.returned (congrArg (Value.int IntKind.i64) ?_), rfl⟩
        rw [← e]
        first | done | (unfold wrap64; omega) | omega
      · obtain ⟨v, HV, hi, hv0, hv1⟩ := all (x) (by omega) (by omega)
        have e := log_end x (x) 0 0 h0 (by omega) (by omega) (by omega) (by omega) (.inr rfl) rfl
        rw [← HV.out] at e
        clear all HV
        go_enter Tryz.func127, Tryz.ntmps127
        go_wp2
        go_ret
        refine ⟨congrArg Ending.returned (congrArg (Value.int IntKind.i64) ?_), rfl⟩
        rw [← e]
        first | done | (unfold wrap64; omega) | omega
set_option maxHeartbeats 1000000 in
theorem lenT (x : Int) (w : World) (h0 : 0 ≤ x) (h1 : x ≤ 9223372036854775807) :
    Calls Tryz.prog 113 #[.int .u64 x] w fun e w' => e = .returned (.int .i64 (Lib.bitLen x.toNat)) ∧ w = w' := by
  go_enter Tryz.func113, Tryz.ntmps113
  go_wp2_with fail
  refine (len64T x _ h0 h1).mono ?_
  rintro e w1 ⟨rfl, rfl⟩
  go_wp2
  go_ret
  exact ⟨rfl, rfl⟩
set_option maxHeartbeats 1000000 in
theorem split_any (n : Int) (w : World) (h1 : n ≤ 9223372036854775807) :
    Calls Tryz.prog 89 #[.int .i64 n] w fun e w' => e = .returned (.int .i64 (split n.toNat)) ∧ w = w' := by
  by_cases h2 : n < 2
  · have e : split n.toNat = 0 := split_small _ (by omega)
    rw [e]
    go_enter Tryz.func89, Tryz.ntmps89
    go_wp2
    go_ret
    exact ⟨rfl, rfl⟩
  · obtain ⟨k, hk⟩ : ∃ k, k = Nat.log2 (n - 1).toNat := ⟨_, rfl⟩
    have hb := bitLen_log (n - 1).toNat (by omega) (by omega)
    have hs := split_two n.toNat (by omega)
    rw [show n.toNat - 1 = (n - 1).toNat by omega, ← hk] at hs
    rw [← hk] at hb
    have hlt := Nat.log2_lt (n := (n - 1).toNat) (k := 63) (by omega)
    have hk63 : k < 63 := by rw [hk]; exact hlt.2 (by omega)
    have hp : (2 : Nat) ^ k ≤ 2 ^ 62 := Nat.pow_le_pow_right (by omega) (by omega)
    have LN : Hid (∀ W, Calls Tryz.prog 113 #[.int .u64 (n - 1)] W fun e w' => e = .returned (.int .i64 ((k : Int) + 1)) ∧ W = w') := fun W => by
      have := lenT (n - 1) W (by omega) (by omega)
      rw [hb] at this
      exact this
    rw [hs]
    have hi : (0 : Int) ≤ k := by omega
    have hi2 : (k : Int) ≤ 64 := by omega
    have hw : IntKind.i64.wrap (2 ^ k) = 2 ^ k := by
      have : ((2 : Int) ^ k) = ((2 ^ k : Nat) : Int) := by simp
      rw [this]
      simp [IntKind.wrap, IntKind.bits, IntKind.signed]
      omega
    clear hk hb hs hlt hp
    go_enter Tryz.func89, Tryz.ntmps89
    go_wp2_with fail
    refine (LN.out _).mono ?_
    rintro e w1 ⟨rfl, rfl⟩
    go_wp2
    go_ret
    refine ⟨congrArg Ending.returned (congrArg (Value.int IntKind.i64) ?_), rfl⟩
    simp [hw]
end Go.Proofs.YtkmedlfbkddmoaaGreatDoor
