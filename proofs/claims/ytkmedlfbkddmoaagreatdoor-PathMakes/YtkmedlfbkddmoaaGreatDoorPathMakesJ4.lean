/- Texts of our own that the row of PathMakes leans on, part 4. -/
import Derived.Test.YtkmedlfbkddmoaaGreatDoorPathMakesJ1
import Derived.Test.YtkmedlfbkddmoaaGreatDoorPathMakesJ3
import Derived.Test.YtkmedlfbkddmoaaGreatDoorProg
import Derived.WalkSpells
import Derived.WalkLawsBesides
import Derived.OpenShut
/- What sha.turned answers: a word turned round to the right. -/
namespace Go.Proofs.YtkmedlfbkddmoaaGreatDoor
open Go.RowKit Sums
set_option maxRecDepth 100000
set_option linter.unusedVariables false
def Turn (n p q : Int) : Prop := (n = 2 ∧ p = 4 ∧ q = 1073741824) ∨ (n = 6 ∧ p = 64 ∧ q = 67108864) ∨ (n = 7 ∧ p = 128 ∧ q = 33554432) ∨ (n = 11 ∧ p = 2048 ∧ q = 2097152) ∨ (n = 13 ∧ p = 8192 ∧ q = 524288) ∨ (n = 17 ∧ p = 131072 ∧ q = 32768) ∨ (n = 18 ∧ p = 262144 ∧ q = 16384) ∨ (n = 19 ∧ p = 524288 ∧ q = 8192) ∨ (n = 22 ∧ p = 4194304 ∧ q = 1024) ∨ (n = 25 ∧ p = 33554432 ∧ q = 128)
theorem mask2 : bits .and .u64 (IntKind.u64.wrap (-2)) 31 = 30 := by decide +kernel
theorem mask6 : bits .and .u64 (IntKind.u64.wrap (-6)) 31 = 26 := by decide +kernel
theorem mask7 : bits .and .u64 (IntKind.u64.wrap (-7)) 31 = 25 := by decide +kernel
theorem mask11 : bits .and .u64 (IntKind.u64.wrap (-11)) 31 = 21 := by decide +kernel
theorem mask13 : bits .and .u64 (IntKind.u64.wrap (-13)) 31 = 19 := by decide +kernel
theorem mask17 : bits .and .u64 (IntKind.u64.wrap (-17)) 31 = 15 := by decide +kernel
theorem mask18 : bits .and .u64 (IntKind.u64.wrap (-18)) 31 = 14 := by decide +kernel
theorem mask19 : bits .and .u64 (IntKind.u64.wrap (-19)) 31 = 13 := by decide +kernel
theorem mask22 : bits .and .u64 (IntKind.u64.wrap (-22)) 31 = 10 := by decide +kernel
theorem mask25 : bits .and .u64 (IntKind.u64.wrap (-25)) 31 = 7 := by decide +kernel
set_option maxHeartbeats 1000000 in
theorem rotl_any (x n p q : Int) (w : World) (h0 : 0 ≤ x) (h1 : x ≤ 4294967295) (hk : Turn n p q) :
    Calls Tryz.prog 139 #[.int .u32 x, .int .i64 (-n)] w fun e w' => e = .returned (.int .u32 (rot x p q)) ∧ w = w' := by
  rcases hk with ⟨rfl, rfl, rfl⟩ | ⟨rfl, rfl, rfl⟩ | ⟨rfl, rfl, rfl⟩ | ⟨rfl, rfl, rfl⟩ | ⟨rfl, rfl, rfl⟩ | ⟨rfl, rfl, rfl⟩ | ⟨rfl, rfl, rfl⟩ | ⟨rfl, rfl, rfl⟩ | ⟨rfl, rfl, rfl⟩ | ⟨rfl, rfl, rfl⟩
  · have hb := mask2
    go_enter Tryz.func139, Tryz.ntmps139
    go_wp2
    go_ret
    exact ⟨rfl, rfl⟩
  · have hb := mask6
    go_enter Tryz.func139, Tryz.ntmps139
    go_wp2
    go_ret
    exact ⟨rfl, rfl⟩
  · have hb := mask7
    go_enter Tryz.func139, Tryz.ntmps139
    go_wp2
    go_ret
    exact ⟨rfl, rfl⟩
  · have hb := mask11
    go_enter Tryz.func139, Tryz.ntmps139
    go_wp2
    go_ret
    exact ⟨rfl, rfl⟩
  · have hb := mask13
    go_enter Tryz.func139, Tryz.ntmps139
    go_wp2
    go_ret
    exact ⟨rfl, rfl⟩
  · have hb := mask17
    go_enter Tryz.func139, Tryz.ntmps139
    go_wp2
    go_ret
    exact ⟨rfl, rfl⟩
  · have hb := mask18
    go_enter Tryz.func139, Tryz.ntmps139
    go_wp2
    go_ret
    exact ⟨rfl, rfl⟩
  · have hb := mask19
    go_enter Tryz.func139, Tryz.ntmps139
    go_wp2
    go_ret
    exact ⟨rfl, rfl⟩
  · have hb := mask22
    go_enter Tryz.func139, Tryz.ntmps139
    go_wp2
    go_ret
    exact ⟨rfl, rfl⟩
  · have hb := mask25
    go_enter Tryz.func139, Tryz.ntmps139
    go_wp2
    go_ret
    exact ⟨rfl, rfl⟩
set_option maxHeartbeats 1000000 in
theorem turned_any (x n p q : Int) (w : World) (h0 : 0 ≤ x) (h1 : x ≤ 4294967295) (hk : Turn n p q) :
    Calls Tryz.prog 130 #[.int .u32 x, .int .i64 n] w fun e w' => e = .returned (.int .u32 (rot x p q)) ∧ w = w' := by
  rcases hk with ⟨rfl, rfl, rfl⟩ | ⟨rfl, rfl, rfl⟩ | ⟨rfl, rfl, rfl⟩ | ⟨rfl, rfl, rfl⟩ | ⟨rfl, rfl, rfl⟩ | ⟨rfl, rfl, rfl⟩ | ⟨rfl, rfl, rfl⟩ | ⟨rfl, rfl, rfl⟩ | ⟨rfl, rfl, rfl⟩ | ⟨rfl, rfl, rfl⟩
  · have K : Hid (∀ w, Calls Tryz.prog 139 #[.int .u32 x, .int .i64 (-2)] w fun e w' => e = .returned (.int .u32 (rot x 4 1073741824)) ∧ w = w') := fun w => rotl_any x 2 4 1073741824 w h0 h1 (by unfold Turn; decide)
    go_enter Tryz.func130, Tryz.ntmps130
    go_wp2_with (go_at_call 139; refine (K.out _).mono ?_; rintro e w' ⟨rfl, rfl⟩)
    go_ret
    exact ⟨rfl, rfl⟩
  · have K : Hid (∀ w, Calls Tryz.prog 139 #[.int .u32 x, .int .i64 (-6)] w fun e w' => e = .returned (.int .u32 (rot x 64 67108864)) ∧ w = w') := fun w => rotl_any x 6 64 67108864 w h0 h1 (by unfold Turn; decide)
    go_enter Tryz.func130, Tryz.ntmps130
    go_wp2_with (go_at_call 139; refine (K.out _).mono ?_; rintro e w' ⟨rfl, rfl⟩)
    go_ret
    exact ⟨rfl, rfl⟩
  · have K : Hid (∀ w, Calls Tryz.prog 139 #[.int .u32 x, .int .i64 (-7)] w fun e w' => e = .returned (.int .u32 (rot x 128 33554432)) ∧ w = w') := fun w => rotl_any x 7 128 33554432 w h0 h1 (by unfold Turn; decide)
    go_enter Tryz.func130, Tryz.ntmps130
    go_wp2_with (go_at_call 139; refine (K.out _).mono ?_; rintro e w' ⟨rfl, rfl⟩)
    go_ret
    exact ⟨rfl, rfl⟩
  · have K : Hid (∀ w, Calls Tryz.prog 139 #[.int .u32 x, .int .i64 (-11)] w fun e w' => e = .returned (.int .u32 (rot x 2048 2097152)) ∧ w = w') := fun w => rotl_any x 11 2048 2097152 w h0 h1 (by unfold Turn; decide)
    go_enter Tryz.func130, Tryz.ntmps130
    go_wp2_with (go_at_call 139; refine (K.out _).mono ?_; rintro e w' ⟨rfl, rfl⟩)
    go_ret
    exact ⟨rfl, rfl⟩
  · have K : Hid (∀ w, Calls Tryz.prog 139 #[.int .u32 x, .int .i64 (-13)] w fun e w' => e = .returned (.int .u32 (rot x 8192 524288)) ∧ w = w') := fun w => rotl_any x 13 8192 524288 w h0 h1 (by unfold Turn; decide)
    go_enter Tryz.func130, Tryz.ntmps130
    go_wp2_with (go_at_call 139; refine (K.out _).mono ?_; rintro e w' ⟨rfl, rfl⟩)
    go_ret
    exact ⟨rfl, rfl⟩
  · have K : Hid (∀ w, Calls Tryz.prog 139 #[.int .u32 x, .int .i64 (-17)] w fun e w' => e = .returned (.int .u32 (rot x 131072 32768)) ∧ w = w') := fun w => rotl_any x 17 131072 32768 w h0 h1 (by unfold Turn; decide)
    go_enter Tryz.func130, Tryz.ntmps130
    go_wp2_with (go_at_call 139; refine (K.out _).mono ?_; rintro e w' ⟨rfl, rfl⟩)
    go_ret
    exact ⟨rfl, rfl⟩
  · have K : Hid (∀ w, Calls Tryz.prog 139 #[.int .u32 x, .int .i64 (-18)] w fun e w' => e = .returned (.int .u32 (rot x 262144 16384)) ∧ w = w') := fun w => rotl_any x 18 262144 16384 w h0 h1 (by unfold Turn; decide)
    go_enter Tryz.func130, Tryz.ntmps130
    go_wp2_with (go_at_call 139; refine (K.out _).mono ?_; rintro e w' ⟨rfl, rfl⟩)
    go_ret
    exact ⟨rfl, rfl⟩
  · have K : Hid (∀ w, Calls Tryz.prog 139 #[.int .u32 x, .int .i64 (-19)] w fun e w' => e = .returned (.int .u32 (rot x 524288 8192)) ∧ w = w') := fun w => rotl_any x 19 524288 8192 w h0 h1 (by unfold Turn; decide)
    go_enter Tryz.func130, Tryz.ntmps130
    go_wp2_with (go_at_call 139; refine (K.out _).mono ?_; rintro e w' ⟨rfl, rfl⟩)
    go_ret
    exact ⟨rfl, rfl⟩
  · have K : Hid (∀ w, Calls Tryz.prog 139 #[.int .u32 x, .int .i64 (-22)] w fun e w' => e = .returned (.int .u32 (rot x 4194304 1024)) ∧ w = w') := fun w => rotl_any x 22 4194304 1024 w h0 h1 (by unfold Turn; decide)
    go_enter Tryz.func130, Tryz.ntmps130
    go_wp2_with (go_at_call 139; refine (K.out _).mono ?_; rintro e w' ⟨rfl, rfl⟩)
    go_ret
    exact ⟨rfl, rfl⟩
  · have K : Hid (∀ w, Calls Tryz.prog 139 #[.int .u32 x, .int .i64 (-25)] w fun e w' => e = .returned (.int .u32 (rot x 33554432 128)) ∧ w = w') := fun w => rotl_any x 25 33554432 128 w h0 h1 (by unfold Turn; decide)
    go_enter Tryz.func130, Tryz.ntmps130
    go_wp2_with (go_at_call 139; refine (K.out _).mono ?_; rintro e w' ⟨rfl, rfl⟩)
    go_ret
    exact ⟨rfl, rfl⟩
end Go.Proofs.YtkmedlfbkddmoaaGreatDoor
