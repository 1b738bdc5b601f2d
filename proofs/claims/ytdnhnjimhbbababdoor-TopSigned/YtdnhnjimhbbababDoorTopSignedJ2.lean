/- Texts of our own that the row of TopSigned leans on, part 2. -/
import Derived.Test.YtdnhnjimhbbababDoorTopSignedJ1
import Derived.Test.YtdnhnjimhbbababDoorProg
import Derived.Laws.Bits64b
import Derived.Lib.TrailingZeros
import Derived.Lib.BitFns
import GoSem.Op.String
import Derived.WalkKit
import Derived.Lib.Walk
import Derived.WalkSpells
import Derived.WalkLawsBesides
import Derived.Deep.MidRow
import Derived.OneCell
import Derived.Laws.BitsAllLaws
import Derived.OwnWalk
import Derived.Lib.AppendStr
import Derived.Deep.QuietTactic
import Derived.BigQuiet

/- What math/bits answers: how many bits are 1, how many bits 0 there are at the low end. The tables that fronts read. -/
namespace Go.Proofs.YtdnhnjimhbbababDoor
open Go.RowKit Sums
set_option maxRecDepth 100000
set_option linter.unusedVariables false
set_option linter.unusedSimpArgs false
theorem land3 (a b c x y z : Nat) (ha : a < 256) (hb : b < 256) (hx : x < 256) (hy : y < 256) :
    (65536 * c + 256 * b + a) &&& (65536 * z + 256 * y + x) = 65536 * (c &&& z) + 256 * (b &&& y) + (a &&& x) := by
  have two : ∀ p q r s : Nat, q < 256 → s < 256 → (256 * p + q) &&& (256 * r + s) = 256 * (p &&& r) + (q &&& s) := by
    intro p q r s hq hs
    have hqs : q &&& s < 2 ^ 8 := Nat.and_lt_two_pow _ (by omega)
    apply Nat.eq_of_testBit_eq
    intro i
    rw [Nat.testBit_and, show 256 * p + q = 2 ^ 8 * p + q from rfl, show 256 * r + s = 2 ^ 8 * r + s from rfl, show 256 * (p &&& r) + (q &&& s) = 2 ^ 8 * (p &&& r) + (q &&& s) from rfl,
      Nat.testBit_two_pow_mul_add p (by omega), Nat.testBit_two_pow_mul_add r (by omega), Nat.testBit_two_pow_mul_add _ hqs]
    split <;> simp [Nat.testBit_and]
  rw [show 65536 * c + 256 * b + a = 256 * (256 * c + b) + a by omega, show 65536 * z + 256 * y + x = 256 * (256 * z + y) + x by omega, two _ _ _ _ ha hx, two _ _ _ _ hb hy]
  omega
theorem byte1 : ∀ a, a < 256 → ∀ e, e < 2 → (a / 2 + 128 * e) &&& 85 = (a / 2) &&& 85 := by decide +kernel
theorem byte2 : ∀ a, a < 256 → ∀ e, e < 4 → (a / 4 + 64 * e) &&& 51 = (a / 4) &&& 51 := by decide +kernel
def by1 (a : Nat) : Nat := ((a / 2) &&& 85) + (a &&& 85)
def by2 (a : Nat) : Nat := ((by1 a / 4) &&& 51) + (by1 a &&& 51)
def pop8 (a : Nat) : Nat := a % 2 + a / 2 % 2 + a / 4 % 2 + a / 8 % 2 + a / 16 % 2 + a / 32 % 2 + a / 64 % 2 + a / 128 % 2
theorem by2_at : ∀ a, a < 256 → by1 a < 256 ∧ by2 a % 16 ≤ 4 ∧ by2 a / 16 ≤ 4 ∧ by2 a / 16 + by2 a % 16 = pop8 a := by decide +kernel
theorem byte3 : ∀ s, s < 256 → s &&& 15 = s % 16 := by decide +kernel
theorem mod16 (x k : Nat) (h1 : x % 16 ≤ 4) (h2 : x / 16 ≤ 4) : (x / 16 + x + 16 * k) % 16 = x / 16 + x % 16 := by omega
theorem fold3 (A B c : Nat) (h1 : A ≤ 8) (h2 : B ≤ 8) (h3 : c < 2) : (65536 * c + 256 * B + A + (65536 * c + 256 * B + A) / 256 + (65536 * c + 256 * B + A + (65536 * c + 256 * B + A) / 256) / 65536) % 128 = A + B + c := by
  rw [show (65536 * c + 256 * B + A) / 256 = 256 * c + B by omega, show (65536 * c + 256 * B + A + (256 * c + B)) / 65536 = c by omega]
  omega
theorem ones_steps (n : Nat) (h : n < 131072) : ∃ u1 v1 u2 v2 x3 : Nat, n / 2 &&& 6148914691236517205 = u1 ∧ n &&& 6148914691236517205 = v1 ∧ (u1 + v1) / 4 &&& 3689348814741910323 = u2 ∧ (u1 + v1) &&& 3689348814741910323 = v2 ∧
    ((u2 + v2) / 16 + (u2 + v2)) &&& 1085102592571150095 = x3 ∧ x3 ≤ 1000000 ∧ u1 ≤ 1000000 ∧ v1 ≤ 1000000 ∧ u2 ≤ 1000000 ∧ v2 ≤ 1000000 ∧
    (x3 + x3 / 256 + (x3 + x3 / 256) / 65536) % 128 = pop8 (n % 256) + pop8 (n / 256 % 256) + n / 65536 ∧ x3 + x3 / 256 + (x3 + x3 / 256) / 65536 ≤ 1000000 := by
  obtain ⟨a, ha⟩ : ∃ a, a = n % 256 := ⟨_, rfl⟩
  obtain ⟨b, hb⟩ : ∃ b, b = n / 256 % 256 := ⟨_, rfl⟩
  obtain ⟨c, hc⟩ : ∃ c, c = n / 65536 := ⟨_, rfl⟩
  have hn : n = 65536 * c + 256 * b + a := by omega
  have ha2 : a < 256 := by omega
  have hb2 : b < 256 := by omega
  have hc2 : c < 2 := by omega
  have z0 : ∀ x : Nat, 0 &&& x = 0 := fun x => Nat.zero_and x
  have cM : ∀ c, c < 2 → c &&& 93824992236885 = c ∧ c &&& 56294995342131 = c ∧ c &&& 16557351571215 = c := by decide +kernel
  obtain ⟨hA1, hA2, hA3, hA4⟩ := by2_at a ha2
  obtain ⟨hB1, hB2, hB3, hB4⟩ := by2_at b hb2
  have e1 : n / 2 &&& 6148914691236517205 = 256 * ((b / 2) &&& 85) + ((a / 2) &&& 85) := by
    rw [show n / 2 = 65536 * 0 + 256 * (b / 2 + 128 * c) + (a / 2 + 128 * (b % 2)) by omega, show (6148914691236517205 : Nat) = 65536 * 93824992236885 + 256 * 85 + 85 by rfl, land3 _ _ _ _ _ _ (by omega) (by omega) (by omega) (by omega), byte1 a ha2 _ (by omega), byte1 b hb2 _ hc2, z0]
    omega
  have e2 : n &&& 6148914691236517205 = 65536 * c + 256 * (b &&& 85) + (a &&& 85) := by
    rw [hn, show (6148914691236517205 : Nat) = 65536 * 93824992236885 + 256 * 85 + 85 by rfl, land3 _ _ _ _ _ _ ha2 hb2 (by omega) (by omega), (cM c hc2).1]
  have e12 : 256 * ((b / 2) &&& 85) + ((a / 2) &&& 85) + (65536 * c + 256 * (b &&& 85) + (a &&& 85)) = 65536 * c + 256 * by1 b + by1 a := by unfold by1; omega
  have e3 : (65536 * c + 256 * by1 b + by1 a) / 4 &&& 3689348814741910323 = 256 * ((by1 b / 4) &&& 51) + ((by1 a / 4) &&& 51) := by
    rw [show (65536 * c + 256 * by1 b + by1 a) / 4 = 65536 * 0 + 256 * (by1 b / 4 + 64 * c) + (by1 a / 4 + 64 * (by1 b % 4)) by omega, show (3689348814741910323 : Nat) = 65536 * 56294995342131 + 256 * 51 + 51 by rfl, land3 _ _ _ _ _ _ (by omega) (by omega) (by omega) (by omega), byte2 _ hA1 _ (by omega), byte2 _ hB1 _ (by omega), z0]
    omega
  have e4 : (65536 * c + 256 * by1 b + by1 a) &&& 3689348814741910323 = 65536 * c + 256 * (by1 b &&& 51) + (by1 a &&& 51) := by
    rw [show (3689348814741910323 : Nat) = 65536 * 56294995342131 + 256 * 51 + 51 by rfl, land3 _ _ _ _ _ _ hA1 hB1 (by omega) (by omega), (cM c hc2).2.1]
  have e34 : 256 * ((by1 b / 4) &&& 51) + ((by1 a / 4) &&& 51) + (65536 * c + 256 * (by1 b &&& 51) + (by1 a &&& 51)) = 65536 * c + 256 * by2 b + by2 a := by unfold by2; omega
  have e5 : ((65536 * c + 256 * by2 b + by2 a) / 16 + (65536 * c + 256 * by2 b + by2 a)) &&& 1085102592571150095 = 65536 * c + 256 * pop8 b + pop8 a := by
    rw [show (65536 * c + 256 * by2 b + by2 a) / 16 + (65536 * c + 256 * by2 b + by2 a) = 65536 * c + 256 * (by2 b / 16 + by2 b + 16 * c) + (by2 a / 16 + by2 a + 16 * (by2 b % 16)) by omega, show (1085102592571150095 : Nat) = 65536 * 16557351571215 + 256 * 15 + 15 by rfl, land3 _ _ _ _ _ _ (by omega) (by omega) (by omega) (by omega), (cM c hc2).2.2, byte3 _ (by omega), byte3 _ (by omega), mod16 _ _ hA2 hA3, mod16 _ _ hB2 hB3, hA4, hB4]
  rw [← e12] at e3 e4
  rw [← e34] at e5
  refine ⟨_, _, _, _, _, e1, e2, e3, e4, e5, ?_, ?_, ?_, ?_, ?_, ?_, ?_⟩
  · omega
  · unfold by1 at hA1 hB1; omega
  · unfold by1 at hA1 hB1; omega
  · unfold by2 at hA2 hB2 hA3 hB3; omega
  · unfold by2 at hA2 hB2 hA3 hB3; omega
  · rw [← ha, ← hb, ← hc]
    exact fold3 _ _ _ (by omega) (by omega) hc2
  · omega
theorem many_byte (n : Nat) : many n = pop8 (n % 256) + many (n / 256) := by
  obtain ⟨q, hq⟩ : ∃ q, q = n / 256 := ⟨_, rfl⟩
  obtain ⟨r, hr⟩ : ∃ r, r = n % 256 := ⟨_, rfl⟩
  have hn : n = 256 * q + r := by omega
  have hr2 : r < 256 := by omega
  rw [← hq, ← hr, hn]
  clear hq hr hn
  have e1 : (256 * q + r) / 2 = 128 * q + r / 2 := by omega
  have e2 : (128 * q + r / 2) / 2 = 64 * q + r / 4 := by omega
  have e3 : (64 * q + r / 4) / 2 = 32 * q + r / 8 := by omega
  have e4 : (32 * q + r / 8) / 2 = 16 * q + r / 16 := by omega
  have e5 : (16 * q + r / 16) / 2 = 8 * q + r / 32 := by omega
  have e6 : (8 * q + r / 32) / 2 = 4 * q + r / 64 := by omega
  have e7 : (4 * q + r / 64) / 2 = 2 * q + r / 128 := by omega
  have e8 : (2 * q + r / 128) / 2 = q := by omega
  rw [many_step (256 * q + r), e1, many_step (128 * q + r / 2), e2, many_step (64 * q + r / 4), e3, many_step (32 * q + r / 8), e4, many_step (16 * q + r / 16), e5, many_step (8 * q + r / 32), e6, many_step (4 * q + r / 64), e7, many_step (2 * q + r / 128), e8]
  unfold pop8
  have f0 : (256 * q + r) % 2 = r % 2 := by omega
  have f1 : (128 * q + r / 2) % 2 = r / 2 % 2 := by omega
  have f2 : (64 * q + r / 4) % 2 = r / 4 % 2 := by omega
  have f3 : (32 * q + r / 8) % 2 = r / 8 % 2 := by omega
  have f4 : (16 * q + r / 16) % 2 = r / 16 % 2 := by omega
  have f5 : (8 * q + r / 32) % 2 = r / 32 % 2 := by omega
  have f6 : (4 * q + r / 64) % 2 = r / 64 % 2 := by omega
  have f7 : (2 * q + r / 128) % 2 = r / 128 % 2 := by omega
  rw [f0, f1, f2, f3, f4, f5, f6, f7]
  simp only [Nat.add_assoc]
theorem many_ones (n : Nat) (h : n < 131072) : many n = pop8 (n % 256) + pop8 (n / 256 % 256) + n / 65536 := by
  rw [many_byte n, many_byte (n / 256), show n / 256 / 256 = n / 65536 by omega]
  have : n / 65536 = 0 ∨ n / 65536 = 1 := by omega
  rcases this with e | e <;> rw [e]
  · rw [many_zero]; omega
  · rw [show many 1 = 1 from rfl]; omega
theorem tzF_ctz (f x : Nat) : Lib.ctzFrom f x = tzF f x := by
  induction f generalizing x with
  | zero => rfl
  | succ f ih =>
    unfold Lib.ctzFrom tzF
    rw [ih]
theorem tz_ctz (x : Nat) (h0 : 1 ≤ x) (h : x < 2 ^ 64) : Lib.ctz 64 x = tz x := by
  unfold Lib.ctz tz
  rw [if_neg (by omega), tzF_ctz]
  -- more than 64 changes nothing
  have key : ∀ (f g x : Nat), 1 ≤ x → x < 2 ^ f → x < 2 ^ g → tzF f x = tzF g x := by
    intro f
    induction f with
    | zero => intro g x h0 hf; simp at hf; omega
    | succ f ih =>
      intro g x h0 hf hg
      cases g with
      | zero => simp at hg; omega
      | succ g =>
        unfold tzF
        by_cases h1 : x % 2 = 1
        · rw [if_pos h1, if_pos h1]
        · rw [if_neg h1, if_neg h1, ih g (x / 2) (by omega) (by rw [Nat.pow_succ] at hf; omega) (by rw [Nat.pow_succ] at hg; omega)]
  exact key 64 x x h0 h Nat.lt_two_pow_self
theorem and127 (x : Nat) (h : x ≤ 2000000) : bits .and .i64 (x : Int) 127 = ((x % 128 : Nat) : Int) := by
  have h1 : (BitVec.ofInt 64 (x : Int)).toNat = x := by
    rw [BitVec.ofInt_natCast, BitVec.toNat_ofNat]; exact Nat.mod_eq_of_lt (by omega)
  have h2 : (BitVec.ofInt 64 (127 : Int)).toNat = 127 := by decide
  have h3 : x &&& 127 = x % 128 := Nat.and_two_pow_sub_one_eq_mod x 7
  show IntKind.i64.wrap ((BitVec.ofInt 64 (x : Int) &&& BitVec.ofInt 64 (127 : Int)).toNat : Int) = _
  rw [BitVec.toNat_and, h1, h2, h3]
  exact wrap_int _ (by omega) (by omega)
set_option maxHeartbeats 1000000 in
theorem ones64_any (n : Nat) (w : World) (hn : n ≤ 100000) :
    Calls Tryd.prog 78 #[.int .u64 n] w fun e w' => e = .returned (.int .i64 (many n)) ∧ w = w' := by
  obtain ⟨u1, v1, u2, v2, x3, h1, h2, h3, h4, h5, b3, bu1, bv1, bu2, bv2, h6, b6⟩ := ones_steps n (by omega)
  rw [← many_ones n (by omega)] at h6
  have k1 : bits .and .u64 ((n : Int) / 2) 6148914691236517205 = (u1 : Int) := by
    rw [← h1, show ((n : Int) / 2) = ((n / 2 : Nat) : Int) by omega]
    exact bits_and_u64_nat _ 6148914691236517205 (by omega) (by omega)
  have k2 : bits .and .u64 (n : Int) 6148914691236517205 = (v1 : Int) := by
    rw [← h2]
    exact bits_and_u64_nat _ 6148914691236517205 (by omega) (by omega)
  have k3 : bits .and .u64 (((u1 : Int) + (v1 : Int)) / 4) 3689348814741910323 = (u2 : Int) := by
    rw [← h3, show (((u1 : Int) + (v1 : Int)) / 4) = (((u1 + v1) / 4 : Nat) : Int) by omega]
    exact bits_and_u64_nat _ 3689348814741910323 (by omega) (by omega)
  have k4 : bits .and .u64 ((u1 : Int) + (v1 : Int)) 3689348814741910323 = (v2 : Int) := by
    rw [← h4, show ((u1 : Int) + (v1 : Int)) = ((u1 + v1 : Nat) : Int) by omega]
    exact bits_and_u64_nat _ 3689348814741910323 (by omega) (by omega)
  have k5 : bits .and .u64 (((u2 : Int) + (v2 : Int)) / 16 + ((u2 : Int) + (v2 : Int))) 1085102592571150095 = (x3 : Int) := by
    rw [← h5, show (((u2 : Int) + (v2 : Int)) / 16 + ((u2 : Int) + (v2 : Int))) = (((u2 + v2) / 16 + (u2 + v2) : Nat) : Int) by omega]
    exact bits_and_u64_nat _ 1085102592571150095 (by omega) (by omega)
  have s1 : IntKind.u64.wrap ((u1 : Int) + (v1 : Int)) = (u1 : Int) + (v1 : Int) := by rw [IntKind.wrap_u64]; omega
  have s2 : IntKind.u64.wrap ((u2 : Int) + (v2 : Int)) = (u2 : Int) + (v2 : Int) := by rw [IntKind.wrap_u64]; omega
  have s3 : IntKind.u64.wrap (((u2 : Int) + (v2 : Int)) / 16 + ((u2 : Int) + (v2 : Int))) = ((u2 : Int) + (v2 : Int)) / 16 + ((u2 : Int) + (v2 : Int)) := by rw [IntKind.wrap_u64]; omega
  have s4 : IntKind.u64.wrap ((x3 : Int) + (x3 : Int) / 256) = (x3 : Int) + (x3 : Int) / 256 := by rw [IntKind.wrap_u64]; omega
  have s5 : IntKind.u64.wrap ((x3 : Int) + (x3 : Int) / 256 + ((x3 : Int) + (x3 : Int) / 256) / 65536) = (x3 : Int) + (x3 : Int) / 256 + ((x3 : Int) + (x3 : Int) / 256) / 65536 := by rw [IntKind.wrap_u64]; omega
  obtain ⟨x5, hx5⟩ : ∃ x5, x5 = x3 + x3 / 256 + (x3 + x3 / 256) / 65536 := ⟨_, rfl⟩
  rw [← hx5] at h6 b6
  have e5 : (x3 : Int) + (x3 : Int) / 256 + ((x3 : Int) + (x3 : Int) / 256) / 65536 = (x5 : Int) := by omega
  have s6 : (x5 : Int) / 4294967296 = 0 := by omega
  have s7 := and127 x5 (by omega)
  rw [h6] at s7
  clear h1 h2 h3 h4 h5 h6 hx5
  go_enter Tryd.func78, Tryd.ntmps78
  go_wp2_with (simp only [k1, k2, k3, k4, k5, s1, s2, s3, s4, s5, e5, s6, s7])
  go_ret
  exact ⟨rfl, rfl⟩
set_option maxHeartbeats 1000000 in
theorem ones_any (n : Nat) (w : World) (hn : n ≤ 100000) :
    Calls Tryd.prog 53 #[.int .u64 n] w fun e w' => e = .returned (.int .i64 (many n)) ∧ w = w' := by
  go_enter Tryd.func53, Tryd.ntmps53
  go_wp2_with fail
  refine (ones64_any n _ hn).mono ?_
  rintro e w1 ⟨rfl, rfl⟩
  go_wp2
  go_ret
  exact ⟨rfl, rfl⟩
/-- The table of math/bits, as its text lays it. -/
def BTab (g : Nat) (w : World) : Prop := g < w.heap.size ∧ ∀ k, k < 64 → w.cell? ⟨g, k, none⟩ = some (.int .u8 (Lib.deBruijn64tab.getD k 0))
theorem BTab.low {g B : Nat} {w w' : World} (h : BTab g w) (hb : Below B w w') (hg : g < B) : BTab g w' :=
  ⟨Nat.lt_of_lt_of_le h.1 hb.size, fun k hk => by rw [hb.cell hg]; exact h.2 k hk⟩
/-- Both tables that fronts read. -/
def TabF (w : World) : Prop := Table 0 w ∧ BTab 2 w
theorem TabF.keep {w w' : World} (h : TabF w) (hb : Below w.heap.size w w') : TabF w' := ⟨h.1.keep hb, h.2.low hb h.2.1⟩
theorem TabF.low {B : Nat} {w w' : World} (h : TabF w) (hb : Below B w w') (hg : 0 < B ∧ 2 < B) : TabF w' := ⟨table_low h.1 hb hg.1, h.2.low hb hg.2⟩
theorem TabF.at {w : World} (h : TabF w) : 0 < w.heap.size ∧ 2 < w.heap.size := ⟨h.1.1, h.2.1⟩
theorem tz64_key' (x a : Nat) (hx : x < 18446744073709551616) (hx0 : x ≠ 0) (hlow : x &&& (18446744073709551616 - x) = a) :
    IntKind.u64.wrap (bits BinOp.and IntKind.u64 (x : Int) (IntKind.u64.wrap (-(x : Int))) * 285870213051353865) / 288230376151711744 = ((a * 285870213051353865 % 18446744073709551616 / 288230376151711744 : Nat) : Int) := by
  have e1 : IntKind.u64.wrap (-(x : Int)) = ((18446744073709551616 - x : Nat) : Int) := by rw [IntKind.wrap_u64]; omega
  rw [e1, bits_and_u64_nat x _ hx (by omega), hlow, IntKind.wrap_u64]
  omega
set_option maxHeartbeats 1000000 in
theorem tz64_core (x k idx : Nat) (w : World) (hx0 : ((x : Int) == 0) = false)
    (key : IntKind.u64.wrap (bits BinOp.and IntKind.u64 (x : Int) (IntKind.u64.wrap (-(x : Int))) * 285870213051353865) / 288230376151711744 = (idx : Int))
    (hi : idx < 64) (hk : k < 64) (hcell : w.cell? ⟨2, idx, none⟩ = some (.int .u8 k)) :
    Calls Tryd.prog 80 #[.int .u64 x] w fun e w' => e = .returned (.int .i64 k) ∧ w = w' := by
  go_enter Tryd.func80, Tryd.ntmps80
  go_wp2_with (simp only [key])
  go_ret
  exact ⟨rfl, rfl⟩
theorem tz64_any (x : Nat) (h0 : 1 ≤ x) (h : x ≤ 100000) (w : World) (hT : BTab 2 w) :
    Calls Tryd.prog 80 #[.int .u64 x] w fun e w' => e = .returned (.int .i64 (tz x)) ∧ w = w' := by
  obtain ⟨hlow, hk⟩ := Lib.lowest_bit 64 x (by omega) (by omega)
  obtain ⟨hi, htab⟩ := Lib.deBruijn64_at _ hk
  have hcell := hT.2 _ hi
  rw [htab] at hcell
  rw [← tz_ctz x h0 (by omega)]
  exact tz64_core x _ _ w (by simp; omega) (tz64_key' x _ (by omega) (by omega) hlow) hi hk hcell
set_option maxHeartbeats 1000000 in
theorem tz_any (x : Nat) (h0 : 1 ≤ x) (h : x ≤ 100000) (w : World) (hT : BTab 2 w) :
    Calls Tryd.prog 54 #[.int .u64 x] w fun e w' => e = .returned (.int .i64 (tz x)) ∧ w = w' := by
  have T := hidk (tz64_any x h0 h w hT)
  clear hT
  go_enter Tryd.func54, Tryd.ntmps54
  go_wp2_with fail
  refine T.out.mono ?_
  rintro e w1 ⟨rfl, rfl⟩
  go_wp2
  go_ret
  exact ⟨rfl, rfl⟩
end Go.Proofs.YtdnhnjimhbbababDoor

/- The fronts' calls: what they answer (their proofs are of one commit of the code). -/
namespace Go.Proofs.YtdnhnjimhbbababDoor
open Go.RowKit Sums
set_option maxRecDepth 100000
set_option linter.unusedVariables false
/-- There is room: the cells of m digests are there, from block B on, and may be written. -/
def RoomO (B : Nat) (x : Option Addr) (m : Nat) (W : World) : Prop := m = 0 ∨ ∃ gp o, x = some ⟨gp, o, none⟩ ∧ B ≤ gp ∧ W.there gp o (32 * m)
/-- What the calls of package front answer. -/
structure FrontC : Prop where
  check_ok : ∀ (n : Int) (a : Option Addr) (len cap : Nat) (w : World) (h : isRight n len), Calls Tryd.prog 19 #[.agg #[.int .i64 n, .slice a len cap]] w fun e w' => e = .returned (.int .i64 0) ∧ Below w.heap.size w w'
  check_no : ∀ (n : Int) (a : Option Addr) (len cap : Nat) (w : World) (hl : len ≤ maxLen) (hn : -9223372036854775808 ≤ n ∧ n ≤ 9223372036854775807) (h : ¬ isRight n len), Calls Tryd.prog 19 #[.agg #[.int .i64 n, .slice a len cap]] w fun e w' => e = .returned (.int .i64 30) ∧ Below w.heap.size w w'
  frontRoot_ok : ∀ (n : Int) (a : Option Addr) (len cap : Nat) (ps : List (List UInt8)) (w : World) (h : isRight n len) (hR : LReads w a len cap ps) (hK : TabF w) (D : Array Value) (HD : Hid (D = (cellsOf (rootP ps)).toArray)), Calls Tryd.prog 7 #[.agg #[.int .i64 n, .slice a len cap]] w fun e w' => e = .returned (.tuple #[.agg D, .int .i64 0]) ∧ Below w.heap.size w w'
  frontRoot_no : ∀ (n : Int) (a : Option Addr) (len cap : Nat) (w : World) (hl : len ≤ maxLen) (hn : -9223372036854775808 ≤ n ∧ n ≤ 9223372036854775807) (h : ¬ isRight n len) (Z : Array Value) (HZ : Hid (Z = (cellsOf (List.replicate 32 0)).toArray)), Calls Tryd.prog 7 #[.agg #[.int .i64 n, .slice a len cap]] w fun e w' => e = .returned (.tuple #[.agg Z, .int .i64 30]) ∧ Below w.heap.size w w'
  add_ok : ∀ (n : Nat) (a : Option Addr) (len cap : Nat) (ps : List (List UInt8)) (d : List UInt8) (w : World) (h : isRight n len) (hn : n ≤ 99999) (hR : LReads w a len cap ps) (hd : d.length = 32) (hK : TabF w) (D : Array Value) (HD : Hid (D = (cellsOf d).toArray)), Calls Tryd.prog 6 #[.agg #[.int .i64 n, .slice a len cap], .agg D] w fun e w' => ∃ y cy, e = .returned (.tuple #[.agg #[.int .i64 ((n : Int) + 1), .slice y (addP n ps d).length cy], .int .i64 0]) ∧ LReads w' y (addP n ps d).length cy (addP n ps d) ∧ RoomO w.heap.size y (addP n ps d).length w' ∧ Below w.heap.size w w'
  add_no : ∀ (n : Int) (a : Option Addr) (len cap : Nat) (w : World) (hl : len ≤ maxLen) (hn : -9223372036854775808 ≤ n ∧ n ≤ 9223372036854775807) (h : ¬ isRight n len) (D : Array Value) (d : List UInt8) (hd : d.length = 32) (HD : Hid (D = (cellsOf d).toArray)), Calls Tryd.prog 6 #[.agg #[.int .i64 n, .slice a len cap], .agg D] w fun e w' => ∃ y cy, e = .returned (.tuple #[.agg #[.int .i64 0, .slice y 0 cy], .int .i64 30]) ∧ Below w.heap.size w w'
  add_full : ∀ (a : Option Addr) (len cap : Nat) (w : World) (h : isRight 100000 len) (D : Array Value) (d : List UInt8) (hd : d.length = 32) (HD : Hid (D = (cellsOf d).toArray)), Calls Tryd.prog 6 #[.agg #[.int .i64 100000, .slice a len cap], .agg D] w fun e w' => ∃ y cy, e = .returned (.tuple #[.agg #[.int .i64 0, .slice y 0 cy], .int .i64 2]) ∧ Below w.heap.size w w'
end Go.Proofs.YtdnhnjimhbbababDoor

/- What a leaf and a proof make, what a proof of consistency makes, and what two leaves at one place tell, as the document defines them (proofs from the last digest to the first). No program is spoken of. -/
namespace Go.Proofs.YtdnhnjimhbbababDoor
open Sums
set_option maxRecDepth 100000
set_option linter.unusedVariables false
/-- What a leaf and a proof make; false: nothing. -/
def mkR : List (List UInt8) → Nat → Nat → List UInt8 → List UInt8 × Bool
  | [], s, _, x => (x, decide (s = 1))
  | d :: r, s, i, x => if s = 1 then (x, false) else if i < split s then (knotD (mkR r (split s) i x).1 d, (mkR r (split s) i x).2) else (knotD d (mkR r (s - split s) (i - split s) x).1, (mkR r (s - split s) (i - split s) x).2)
theorem mkR_one (d : List UInt8) (r : List (List UInt8)) (i : Nat) (x : List UInt8) : mkR (d :: r) 1 i x = (x, false) := rfl
theorem mkR_left (d : List UInt8) (r : List (List UInt8)) (s i : Nat) (x : List UInt8) (h : s ≠ 1) (hi : i < split s) : mkR (d :: r) s i x = (knotD (mkR r (split s) i x).1 d, (mkR r (split s) i x).2) := by
  unfold mkR; rw [if_neg h, if_pos hi]; cases r <;> rfl
theorem mkR_right (d : List UInt8) (r : List (List UInt8)) (s i : Nat) (x : List UInt8) (h : s ≠ 1) (hi : ¬ i < split s) : mkR (d :: r) s i x = (knotD d (mkR r (s - split s) (i - split s) x).1, (mkR r (s - split s) (i - split s) x).2) := by
  unfold mkR; rw [if_neg h, if_neg hi]; cases r <;> rfl
theorem mkR_length (hs : ∀ l, (sumD l).length = 32) : ∀ (r : List (List UInt8)) (s i : Nat) (x : List UInt8), x.length = 32 → (mkR r s i x).1.length = 32
  | [], s, i, x, h => h
  | d :: r, s, i, x, h => by
    by_cases h1 : s = 1
    · subst h1; exact h
    · by_cases hi : i < split s
      · rw [mkR_left d r s i x h1 hi]; exact hs _
      · rw [mkR_right d r s i x h1 hi]; exact hs _
/-- What the tree tells is found. -/
theorem mkR_incl (n : Nat) : ∀ (l : List (List UInt8)) (i : Nat) (hn : l.length = n) (hi : i < l.length), mkR (incl l i).reverse n i (l[i]) = (root l, true) := by
  induction n using Nat.strongRecOn with
  | _ n ih =>
    intro l i hn hi
    by_cases h1 : n = 1
    · rw [incl_one l i (by omega), root_one l (by omega), h1]
      obtain rfl : i = 0 := by omega
      match l, hn with
      | [], hn => simp at hi
      | d :: r, _ => simp [mkR]
    · have hs1 := split_lt n (by omega)
      have hs2 := split_pos n (by omega)
      by_cases hlt : i < split n
      · rw [incl_left l i (by omega) (by rw [hn]; exact hlt), hn, List.reverse_append]
        show mkR (root (l.drop (split n)) :: (incl (l.take (split n)) i).reverse) n i l[i] = _
        have ht : (l.take (split n)).length = split n := by rw [List.length_take]; omega
        have := ih (split n) hs1 (l.take (split n)) i ht (by omega)
        rw [List.getElem_take] at this
        rw [mkR_left _ _ _ _ _ h1 hlt, this, root_more l (by omega), hn]
      · rw [incl_right l i (by omega) (by rw [hn]; omega), hn, List.reverse_append]
        show mkR (root (l.take (split n)) :: (incl (l.drop (split n)) (i - split n)).reverse) n i l[i] = _
        have hd : (l.drop (split n)).length = n - split n := by rw [List.length_drop]; omega
        have := ih (n - split n) (by omega) (l.drop (split n)) (i - split n) hd (by omega)
        rw [List.getElem_drop] at this
        have e : split n + (i - split n) = i := by omega
        simp only [e] at this
        rw [mkR_right _ _ _ _ _ h1 hlt, this, root_more l (by omega), hn]
/-- A proof that makes something is short. -/
theorem mkR_short (k : Nat) : ∀ (r : List (List UInt8)) (s i : Nat) (x : List UInt8), 1 ≤ s → s ≤ 2 ^ k → (mkR r s i x).2 = true → r.length ≤ k := by
  induction k with
  | zero =>
    intro r s i x h0 h1 h
    obtain rfl : s = 1 := by simp at h1; omega
    cases r with
    | nil => simp
    | cons d r => rw [mkR_one] at h; cases h
  | succ k ih =>
    intro r s i x h0 h1 h
    cases r with
    | nil => simp
    | cons d r =>
      by_cases hs : s = 1
      · subst hs; rw [mkR_one] at h; cases h
      · have s1 := split_lt s (by omega)
        have s2 := split_pos s (by omega)
        have s3 := split_dbl s (by omega)
        have hk : split s ≤ 2 ^ k := by
          rw [split_two s (by omega)]
          refine Nat.pow_le_pow_right (by omega) ?_
          have : Nat.log2 (s - 1) < k + 1 := (Nat.log2_lt (by omega)).2 (by omega)
          omega
        simp only [List.length_cons]
        by_cases hi : i < split s
        · rw [mkR_left d r s i x hs hi] at h
          have := ih r (split s) i x s2 hk h
          omega
        · rw [mkR_right d r s i x hs hi] at h
          have := ih r (s - split s) (i - split s) x (by omega) (by omega) h
          omega
/-- What a proof of consistency makes; false: nothing. -/
def bothR : List (List UInt8) → Nat → Nat → List UInt8 → Bool → List UInt8 × List UInt8 × Bool
  | [], m, n, x, k => (x, x, decide (m = n) && k)
  | d :: r, m, n, x, k => if m = n then (if k then (x, x, false) else (d, d, r.isEmpty)) else
      if m ≤ split n then ((bothR r m (split n) x k).1, knotD (bothR r m (split n) x k).2.1 d, (bothR r m (split n) x k).2.2)
      else (knotD d (bothR r (m - split n) (n - split n) x false).1, knotD d (bothR r (m - split n) (n - split n) x false).2.1, (bothR r (m - split n) (n - split n) x false).2.2)
theorem bothR_nil (m n : Nat) (x : List UInt8) (k : Bool) : bothR [] m n x k = (x, x, decide (m = n) && k) := rfl
theorem bothR_known (d : List UInt8) (r : List (List UInt8)) (m : Nat) (x : List UInt8) : bothR (d :: r) m m x true = (x, x, false) := by unfold bothR; rw [if_pos rfl]; rfl
theorem bothR_all (d : List UInt8) (r : List (List UInt8)) (m : Nat) (x : List UInt8) : bothR (d :: r) m m x false = (d, d, r.isEmpty) := by unfold bothR; rw [if_pos rfl]; rfl
theorem bothR_left (d : List UInt8) (r : List (List UInt8)) (m n : Nat) (x : List UInt8) (k : Bool) (h : m ≠ n) (hm : m ≤ split n) : bothR (d :: r) m n x k = ((bothR r m (split n) x k).1, knotD (bothR r m (split n) x k).2.1 d, (bothR r m (split n) x k).2.2) := by
  unfold bothR; rw [if_neg h, if_pos hm]; cases r <;> rfl
theorem bothR_right (d : List UInt8) (r : List (List UInt8)) (m n : Nat) (x : List UInt8) (k : Bool) (h : m ≠ n) (hm : ¬ m ≤ split n) : bothR (d :: r) m n x k = (knotD d (bothR r (m - split n) (n - split n) x false).1, knotD d (bothR r (m - split n) (n - split n) x false).2.1, (bothR r (m - split n) (n - split n) x false).2.2) := by
  unfold bothR; rw [if_neg h, if_neg hm]; cases r <;> rfl
theorem bothR_length (hs : ∀ l, (sumD l).length = 32) : ∀ (r : List (List UInt8)) (m n : Nat) (x : List UInt8) (k : Bool), x.length = 32 → Digs32 r → (bothR r m n x k).1.length = 32 ∧ (bothR r m n x k).2.1.length = 32
  | [], m, n, x, k, h, _ => ⟨h, h⟩
  | d :: r, m, n, x, k, h, hr => by
    have hd : d.length = 32 := hr d (by simp)
    have hr' : Digs32 r := fun z hz => hr z (List.mem_cons_of_mem _ hz)
    by_cases h1 : m = n
    · subst h1
      cases k
      · rw [bothR_all]; exact ⟨hd, hd⟩
      · rw [bothR_known]; exact ⟨h, h⟩
    · by_cases hm : m ≤ split n
      · rw [bothR_left d r m n x k h1 hm]
        exact ⟨(bothR_length hs r m (split n) x k h hr').1, hs _⟩
      · rw [bothR_right d r m n x k h1 hm]
        exact ⟨hs _, hs _⟩
/-- What the tree tells is found to go on. -/
theorem bothR_goes (n : Nat) : ∀ (l : List (List UInt8)) (m : Nat) (k : Bool) (x : List UInt8), l.length = n → 1 ≤ m → m ≤ n → (k = true → x = root (l.take m)) → bothR (goes l m k).reverse m n x k = (root (l.take m), root l, true) := by
  induction n using Nat.strongRecOn with
  | _ n ih =>
    intro l m k x hn h1 hm hx
    by_cases he : m = n
    · subst he
      have ht : l.take m = l := List.take_of_length_le (by omega)
      rw [ht] at hx ⊢
      cases k
      · rw [goes_all l m hn.symm]
        show bothR [root l] m m x false = _
        rw [bothR_all]; rfl
      · rw [goes_known l m hn.symm, hx rfl]
        show bothR [] m m _ true = _
        rw [bothR_nil]; simp
    · have hs1 := split_lt n (by omega)
      have hs2 := split_pos n (by omega)
      by_cases hlt : m ≤ split n
      · rw [goes_left l m k (by omega) (by omega) (by rw [hn]; exact hlt), hn, List.reverse_append]
        show bothR (root (l.drop (split n)) :: (goes (l.take (split n)) m k).reverse) m n x k = _
        have ht : (l.take (split n)).length = split n := by rw [List.length_take]; omega
        have htt : (l.take (split n)).take m = l.take m := by rw [List.take_take, Nat.min_eq_left hlt]
        have := ih (split n) hs1 (l.take (split n)) m k x ht h1 hlt (by rw [htt]; exact hx)
        rw [htt] at this
        rw [bothR_left _ _ _ _ _ _ he hlt, this, root_more l (by omega), hn]
      · rw [goes_right l m k (by omega) (by omega) (by rw [hn]; omega), hn, List.reverse_append]
        show bothR (root (l.take (split n)) :: (goes (l.drop (split n)) (m - split n) false).reverse) m n x k = _
        have hd : (l.drop (split n)).length = n - split n := by rw [List.length_drop]; omega
        have := ih (n - split n) (by omega) (l.drop (split n)) (m - split n) false x hd (by omega) (by omega) (fun h => by cases h)
        have htl : (l.take m).length = m := by rw [List.length_take]; omega
        have hsp : split m = split n := by
          obtain ⟨p, hp⟩ := split_pow n (by omega)
          rw [hp]
          refine split_uniq m p (by omega) (by omega) ?_
          have := split_dbl n (by omega)
          omega
        have e1 : (l.take m).take (split n) = l.take (split n) := by rw [List.take_take, Nat.min_eq_left (by omega)]
        have e2 : (l.take m).drop (split n) = (l.drop (split n)).take (m - split n) := by rw [List.drop_take]
        rw [bothR_right _ _ _ _ _ _ he hlt, this, root_more l (by omega), hn, root_more (l.take m) (by omega), htl, hsp, e1, e2]
end Go.Proofs.YtdnhnjimhbbababDoor

/- What the calls of package check answer, as the document says (their proofs are of one commit of the code). -/
namespace Go.Proofs.YtdnhnjimhbbababDoor
open Go.RowKit Sums
set_option maxRecDepth 100000
set_option linter.unusedVariables false
/-- P5.1. -/
def incE (root : List UInt8) (size index : Int) (leaf : List UInt8) (proof : List (List UInt8)) : Int :=
  if 1 ≤ size ∧ size ≤ 100000 ∧ 0 ≤ index ∧ index < size then
    (if (mkR proof.reverse size.toNat index.toNat leaf).2 = true then (if (mkR proof.reverse size.toNat index.toNat leaf).1 = root then 0 else 41) else 40)
  else 40
/-- P5.2. -/
def conE (m : Int) (old : List UInt8) (n : Int) (root : List UInt8) (proof : List (List UInt8)) : Int :=
  if 0 ≤ n ∧ n ≤ 100000 ∧ 0 ≤ m ∧ m ≤ n then
    (if m = 0 then (if proof = [] then (if old = sumD [] ∧ (n = 0 → root = old) then 0 else 41) else 40)
     else (if (bothR proof.reverse m.toNat n.toNat old true).2.2 = true then (if (bothR proof.reverse m.toNat n.toNat old true).1 = old ∧ (bothR proof.reverse m.toNat n.toNat old true).2.1 = root then 0 else 41) else 40))
  else 40
theorem incE_out (root : List UInt8) (size index : Int) (leaf : List UInt8) (proof : List (List UInt8)) (h : ¬ (1 ≤ size ∧ size ≤ 100000 ∧ 0 ≤ index ∧ index < size)) : incE root size index leaf proof = 40 := by unfold incE; rw [if_neg h]
theorem incE_in (root : List UInt8) (S I : Nat) (leaf : List UInt8) (proof : List (List UInt8)) (h1 : 1 ≤ S) (h2 : S ≤ 100000) (h3 : I < S) : incE root S I leaf proof = (if (mkR proof.reverse S I leaf).2 = true then (if (mkR proof.reverse S I leaf).1 = root then 0 else 41) else 40) := by
  unfold incE; rw [if_pos (by omega), Int.toNat_natCast, Int.toNat_natCast]
theorem conE_out (m : Int) (old : List UInt8) (n : Int) (root : List UInt8) (proof : List (List UInt8)) (h : ¬ (0 ≤ n ∧ n ≤ 100000 ∧ 0 ≤ m ∧ m ≤ n)) : conE m old n root proof = 40 := by unfold conE; rw [if_neg h]
theorem conE_none (old : List UInt8) (n : Int) (root : List UInt8) (proof : List (List UInt8)) (h : 0 ≤ n ∧ n ≤ 100000) : conE 0 old n root proof = (if proof = [] then (if old = sumD [] ∧ (n = 0 → root = old) then 0 else 41) else 40) := by
  unfold conE; rw [if_pos (by omega), if_pos rfl]
theorem conE_in (M : Nat) (old : List UInt8) (N : Nat) (root : List UInt8) (proof : List (List UInt8)) (h1 : 1 ≤ M) (h2 : M ≤ N) (h3 : N ≤ 100000) : conE M old N root proof = (if (bothR proof.reverse M N old true).2.2 = true then (if (bothR proof.reverse M N old true).1 = old ∧ (bothR proof.reverse M N old true).2.1 = root then 0 else 41) else 40) := by
  unfold conE; rw [if_pos (by omega), if_neg (by omega), Int.toNat_natCast, Int.toNat_natCast]
/-- The tables that check reads. -/
def TabC (w : World) : Prop := Table 0 w
theorem TabC.keep {w w' : World} (h : TabC w) (hb : Below w.heap.size w w') : TabC w' := Table.keep h hb
theorem TabC.sha {w : World} (h : TabC w) : Table 0 w := h
/-- What the calls of package check answer. -/
structure CheckC : Prop where
  included : ∀ (root : List UInt8) (size index : Int) (leaf : List UInt8) (proof : List (List UInt8)) (a : Option Addr) (len cap : Nat) (w : World) (R X : Array Value) (HR : Hid (R = (cellsOf root).toArray)) (HX : Hid (X = (cellsOf leaf).toArray)) (hr : root.length = 32) (hx : leaf.length = 32)
    (hs : -9223372036854775808 ≤ size ∧ size ≤ 9223372036854775807) (hi : -9223372036854775808 ≤ index ∧ index ≤ 9223372036854775807) (hR : LReads w a len cap proof) (hK : TabC w),
    Calls Tryd.prog 14 #[.agg R, .int .i64 size, .int .i64 index, .agg X, .slice a len cap] w fun e w' => e = .returned (.int .i64 (incE root size index leaf proof)) ∧ Below w.heap.size w w'
  consistent : ∀ (m : Int) (old : List UInt8) (n : Int) (root : List UInt8) (proof : List (List UInt8)) (a : Option Addr) (len cap : Nat) (w : World) (O R : Array Value) (HO : Hid (O = (cellsOf old).toArray)) (HR : Hid (R = (cellsOf root).toArray)) (ho : old.length = 32) (hr : root.length = 32)
    (hm : -9223372036854775808 ≤ m ∧ m ≤ 9223372036854775807) (hn : -9223372036854775808 ≤ n ∧ n ≤ 9223372036854775807) (hR : LReads w a len cap proof) (hK : TabC w),
    Calls Tryd.prog 15 #[.int .i64 m, .agg O, .int .i64 n, .agg R, .slice a len cap] w fun e w' => e = .returned (.int .i64 (conE m old n root proof)) ∧ Below w.heap.size w w'
end Go.Proofs.YtdnhnjimhbbababDoor

/- Laws of memory: variables that are arrays, made, read and written where the order is drawn; digests and texts held against one another. -/
namespace Go.Proofs.YtdnhnjimhbbababDoor
open Go.RowKit Sums
set_option maxRecDepth 100000
set_option linter.unusedVariables false
set_option linter.unusedSimpArgs false
/-- A variable that is an array, made, as one step of a region that draws its order. -/
theorem step_alloc_row {P : Program} {ops : Array Oper} {o : Oper} {a : Act} {w : World} {K : Act → World → Prop} {Q : Exit → Act → World → Prop} {E : Prop} (hw : Region.wanted o (yielded ops a.tmps) = true) (t : TypeId) (ho : o.op = .alloc t)
    (cs : Array Value) (hz : (P.info? t).map (fun i => (i.zero, i.size)) = some (some (.agg cs), cs.size)) (h : K (a.put o.dst (.pointer (some ⟨w.heap.size, 0, none⟩))) (w.alloc (.cells cs t))) : if Region.wanted o (yielded ops a.tmps) = true then Oper.wp P o a w K Q else E := by
  rw [if_pos hw]
  unfold Oper.wp execOp
  cases hq : P.info? t with
  | none => simp [hq] at hz
  | some i =>
    simp [hq] at hz
    simp [ho, Instr.alloc, newVar, zeroValue, typeInfo, hq, hz.1, go_sem]
    exact h
/-- The call's world: the leaf that came in, and what goes out. -/
def Came (w W : World) (X Z : Array Value) : Prop := Below w.heap.size w W ∧ W.heap[w.heap.size]? = some (.cells X 30 (0, 0)) ∧ W.heap[w.heap.size + 1]? = some (.cells Z 30 (0, 0))
theorem came (w : World) (X Z : Array Value) : Came w ((w.alloc (.cells X 30)).alloc (.cells Z 30)) X Z := by
  refine ⟨(((Below.refl _ _).alloc (Nat.le_refl _) _).alloc (by simp) _), heap_keep (heap_alloc_new w _), ?_⟩
  have := heap_alloc_new (w.alloc (.cells X 30)) (.cells Z 30)
  simpa using this
theorem Came.keep {w W W' : World} {X Z : Array Value} (h : Came w W X Z) (hb : Below W.heap.size W W') : Came w W' X Z :=
  ⟨h.1.trans (hb.mono h.1.size), (hb.block _ (heap_lt h.2.1)).trans h.2.1, (hb.block _ (heap_lt h.2.2)).trans h.2.2⟩
/-- An array read by its row, where the order is drawn. -/
theorem yieldsIf_row {P : Program} {ops : Array Oper} {S : World → Prop} {o : Oper} {a : Act} (hw : Region.wanted o (yielded ops a.tmps) = true) (ty : TypeId) (x : Operand) (ho : o.op = .load ty x) (g : Nat) (hx : a.eval x = .pointer (some ⟨g, 0, none⟩)) (t : TypeId) (cs : Array Value) (fr : Nat × Nat) (d : TypeDesc) (hg : ∀ w, S w → w.heap[g]? = some (.cells cs t fr))
    (hu : P.underlying ty = some d) (hd : d.isRow = true) (hi : (P.info? ty).map (·.size) = some cs.size) : YieldsIf P ops S o (.agg cs) a := by
  have := yieldsIf_load_mid (P := P) (ops := ops) (S := S) hw ty x ho g 0 hx cs.toList d (fun w h => range_row (t := t) (fr := fr) (by simpa using hg w h)) hu hd (by simpa using hi)
  simpa using this
/-- What a write of a whole row leaves. -/
structure Wrote (g : Nat) (D : Array Value) (t : TypeId) (w w' : World) : Prop where
  row : w'.heap[g]? = some (.cells D t (0, 0))
  other : ∀ k, k ≠ g → w'.heap[k]? = w.heap[k]?
  below : ∀ (B : Nat) (a : World), Below B a w → B ≤ g → Below B a w'
theorem wrote_row {w : World} {g : Nat} {Z D : Array Value} {t : TypeId} (h : w.heap[g]? = some (.cells Z t (0, 0))) : Wrote g D t w (w.setRow g D) :=
  ⟨setRow_heap _ _ _ _ t _ h, fun k hk => setRow_other _ _ _ _ hk, fun B a hb hg => below_setRow hb hg _⟩
/-- What a new variable leaves. -/
structure Made (g : Nat) (Z : Array Value) (t : TypeId) (w w' : World) : Prop where
  new : g = w.heap.size
  row : w'.heap[g]? = some (.cells Z t (0, 0))
  below : Below w.heap.size w w'
theorem step_new_var {P : Program} {ops : Array Oper} {o : Oper} {a : Act} {w : World} {K : Act → World → Prop} {Q : Exit → Act → World → Prop} {E : Prop} (hw : Region.wanted o (yielded ops a.tmps) = true) (t : TypeId) (ho : o.op = .alloc t)
    (cs : Array Value) (hz : (P.info? t).map (fun i => (i.zero, i.size)) = some (some (.agg cs), cs.size)) (h : ∀ g w', Hid (Made g cs t w w') → K (a.put o.dst (.pointer (some ⟨g, 0, none⟩))) w') : if Region.wanted o (yielded ops a.tmps) = true then Oper.wp P o a w K Q else E :=
  step_alloc_row hw t ho cs hz (h w.heap.size _ ⟨rfl, heap_alloc_new w _, (Below.refl _ _).alloc (Nat.le_refl _) _⟩)
theorem step_set_var {P : Program} {ops : Array Oper} {o : Oper} {a : Act} {w : World} {K : Act → World → Prop} {Q : Exit → Act → World → Prop} {E : Prop} (hw : Region.wanted o (yielded ops a.tmps) = true) (t : TypeId) (x y : Operand) (ho : o.op = .store t x y)
    (g : Nat) (D : Array Value) (hx : a.eval x = .pointer (some ⟨g, 0, none⟩)) (hy : a.eval y = .agg D) (t' : TypeId) (Z : Array Value) (hg : w.heap[g]? = some (.cells Z t' (0, 0))) (hi : (P.info? t).map (·.size) = some D.size) (hold : Z.size = D.size) (h1 : D.all (·.oneCell') = true)
    (h : ∀ w', Hid (Wrote g D t' w w') → K (a.put o.dst undef) w') : if Region.wanted o (yielded ops a.tmps) = true then Oper.wp P o a w K Q else E :=
  step_store_row hw t x y ho g D hx hy t' Z hg hi hold h1 (h _ (wrote_row hg))
theorem alloc_size (w : World) (o : Obj) : (w.alloc o).heap.size = w.heap.size + 1 := by simp
theorem beqL (xs ys : List UInt8) : (xs == ys) = decide (xs = ys) := by by_cases h : xs = ys <;> simp [h]
theorem eqDigV (xs ys : List UInt8) (hx : xs.length = 32) (hy : ys.length = 32) (X Y : Array Value) (HX : Hid (X = (cellsOf xs).toArray)) (HY : Hid (Y = (cellsOf ys).toArray)) (b : Bool) (hb : decide (xs = ys) = b) (w : World) : (binOp .eql 30 (.agg X) (.agg Y)).run Tryd.prog w = .ok (.bool b) w := by
  rw [HX.out, HY.out, eqDig xs ys hx hy, ← hb, beqL]
theorem neqDigV (xs ys : List UInt8) (hx : xs.length = 32) (hy : ys.length = 32) (X Y : Array Value) (HX : Hid (X = (cellsOf xs).toArray)) (HY : Hid (Y = (cellsOf ys).toArray)) (b : Bool) (hb : (!decide (xs = ys)) = b) (w : World) : (binOp .neq 30 (.agg X) (.agg Y)).run Tryd.prog w = .ok (.bool b) w := by
  have h : (Op.equalIn (9998 + 2) 30 (.agg (cellsOf xs).toArray) (.agg (cellsOf ys).toArray)).run Tryd.prog w = .ok (xs == ys) w := run_equalIn_bytes (P := Tryd.prog) w 9998 30 5 32 Tryd.underlying30 Tryd.underlying5 sizeOf5 xs ys hx hy
  rw [run_neq_struct, HX.out, HY.out]
  simp only [Nat.reduceAdd] at h
  rw [h, ← hb, beqL]
  rfl
/-- The call's world: the three digests that came in. -/
def CameR (w W : World) (R X Y : Array Value) : Prop := Below w.heap.size w W ∧ W.heap[w.heap.size]? = some (.cells R 30 (0, 0)) ∧ W.heap[w.heap.size + 1]? = some (.cells X 30 (0, 0)) ∧ W.heap[w.heap.size + 2]? = some (.cells Y 30 (0, 0))
theorem CameR.keep {w W W' : World} {R X Y : Array Value} (h : CameR w W R X Y) (hb : Below W.heap.size W W') : CameR w W' R X Y :=
  ⟨h.1.trans (hb.mono h.1.size), (hb.block _ (heap_lt h.2.1)).trans h.2.1, (hb.block _ (heap_lt h.2.2.1)).trans h.2.2.1, (hb.block _ (heap_lt h.2.2.2)).trans h.2.2.2⟩
end Go.Proofs.YtdnhnjimhbbababDoor

/- The statements' own example of check: three leaves. -/
namespace Go.Proofs.YtdnhnjimhbbababDoor
open Go.RowKit Sums
set_option maxRecDepth 100000
set_option linter.unusedVariables false
set_option linter.unusedSimpArgs false
theorem built3 : Tryd.prog.built 30 [(0, .int .u8 3)] = some (cellsOf (dig1 3)).toArray := by kernel_rfl
/-- What three's variables hold. -/
structure Abr (A B C R : Array Value) (gA gB gC gR : Nat) (w W : World) : Prop where
  ra : W.heap[gA]? = some (.cells A 30 (0, 0))
  rb : W.heap[gB]? = some (.cells B 30 (0, 0))
  rc : W.heap[gC]? = some (.cells C 30 (0, 0))
  rr : W.heap[gR]? = some (.cells R 30 (0, 0))
  low : Below w.heap.size w W
theorem Abr.keep {A B C R : Array Value} {gA gB gC gR : Nat} {w W W' : World} (h : Abr A B C R gA gB gC gR w W) (hb : Below W.heap.size W W') : Abr A B C R gA gB gC gR w W' :=
  ⟨(hb.block _ (heap_lt h.ra)).trans h.ra, (hb.block _ (heap_lt h.rb)).trans h.rb, (hb.block _ (heap_lt h.rc)).trans h.rc, (hb.block _ (heap_lt h.rr)).trans h.rr, h.low.trans (hb.mono h.low.size)⟩
theorem LReads.nothing (W : World) : LReads W none 0 0 [] := ⟨rfl, (fun d hd => by cases hd), Nat.le_refl _, Nat.zero_le _, .inl rfl⟩
end Go.Proofs.YtdnhnjimhbbababDoor

/- What tree.Inclusion answers: the proof of a place. -/
namespace Go.Proofs.YtdnhnjimhbbababDoor
open Go.RowKit Sums
set_option maxRecDepth 100000
set_option linter.unusedVariables false
set_option linter.unusedSimpArgs false

attribute [local go_sem] store_func
/-- The function that proves, as a value. -/
def FI (gp gf : Nat) : Value := .func (.func 40) #[] #[.pointer (some ⟨gf, 0, none⟩), .pointer (some ⟨gp, 0, none⟩)]
set_option maxHeartbeats 2000000 in
theorem prove_any (n : Nat) (g o len cap i : Nat) (l acc : List (List UInt8)) (B gp gf : Nat) (v : Value) (w : World) (hn : len = n) (hR : LReads w (some ⟨g, o, none⟩) len cap l) (hg : g < B) (hi : i < len)
    (hp : B ≤ gp) (hne : gp ≠ gf) (hac : acc.length + len ≤ 1000000) (hBw : B ≤ w.heap.size) (hH : Holds B gp gf 85 (FI gp gf) v acc w) (hK : Table 0 w) (hKB : 0 < B) :
    Calls Tryd.prog 40 #[.slice (some ⟨g, o, none⟩) len cap, .int .i64 i, .pointer (some ⟨gf, 0, none⟩), .pointer (some ⟨gp, 0, none⟩)] w fun e w' =>
      e = .returned (.tuple #[]) ∧ (∃ v', Holds B gp gf 85 (FI gp gf) v' (acc ++ incl l i) w') ∧ Below B w w' := by
  induction n using Nat.strongRecOn generalizing g o len cap i l acc v w with
  | _ n ih =>
    subst hn
    have htf : 85 ≠ 30 := by decide
    have hlen := hR.1
    have hmx : len ≤ 9223372036854775807 := by have := hR.2.2.2.1; unfold maxLen at this; omega
    by_cases h1 : len = 1
    · subst h1
      rw [incl_one l i (by omega), List.append_nil]
      have HH : Hid (Holds B gp gf 85 (FI gp gf) v acc w) := hH
      clear hK hR ih hH hlen
      go_enter Tryd.func40, Tryd.ntmps40
      go_wp2
      refine bodyPost_ret (results_none rfl _ _ _) rfl ?_
      exact ⟨rfl, ⟨_, HH.out⟩, Below.refl _ _⟩
    · have h2 : 2 ≤ len := by omega
      obtain ⟨k, hk⟩ : ∃ k, k = split len := ⟨_, rfl⟩
      have hkl := split_lt len h2
      have hkp := split_pos len h2
      rw [← hk] at hkl hkp
      have hcl := hR.2.2.1
      have hml := hR.2.2.2.1
      have P : Hid (∀ W, Calls Tryd.prog 41 #[.slice (some ⟨g, o, none⟩) len cap] W fun e w' => e = .returned (.tuple #[.slice (some ⟨g, o, none⟩) k cap, .slice (some ⟨g, o + 32 * k, none⟩) (len - k) (cap - k)]) ∧ Below W.heap.size W w') := fun W => parted_any g o len cap k W hk h2 hcl hml
      have low : ∀ g' o', some (⟨g, o, none⟩ : Addr) = some ⟨g', o', none⟩ → 0 < len → g' < B := fun g' o' e _ => by cases e; exact hg
      by_cases hik : i < k
      · -- the left part
        have HE : Hid (acc ++ incl l i = (acc ++ incl (l.take k) i) ++ [root (l.drop k)]) := by
          show _ = _
          rw [incl_left l i (by omega) (by rw [hlen, ← hk]; exact hik), hlen, ← hk, List.append_assoc]
        have IH : Hid (∀ W v, Below B w W → Holds B gp gf 85 (FI gp gf) v acc W → Calls Tryd.prog 40 #[.slice (some ⟨g, o, none⟩) k cap, .int .i64 i, .pointer (some ⟨gf, 0, none⟩), .pointer (some ⟨gp, 0, none⟩)] W fun e w' =>
            e = .returned (.tuple #[]) ∧ (∃ v', Holds B gp gf 85 (FI gp gf) v' (acc ++ incl (l.take k) i) w') ∧ Below B W w') := fun W v hb hh => by
          exact ih k hkl g o k cap i (l.take k) acc v W rfl ((hR.below hb low).take k (by omega)) hg (by omega) (by omega) (Nat.le_trans hBw hb.size) hh (table_low hK hb hKB)
        obtain ⟨D, HD⟩ : ∃ D, Hid (D = (cellsOf (root (l.drop k))).toArray) := ⟨_, (rfl : (cellsOf (root (l.drop k))).toArray = _)⟩
        have hdd : (root (l.drop k)).length = 32 := root_length sumD_length _ (hR.2.1.drop k)
        have RR : Hid (∀ W, Below B w W → Calls Tryd.prog 42 #[.slice (some ⟨g, o + 32 * k, none⟩) (len - k) (cap - k)] W fun e w' => e = .returned (.agg D) ∧ Below W.heap.size W w') := fun W hb =>
          root_any _ _ _ _ (l.drop k) W rfl ((hR.below hb low).drop k (by omega)) (table_low hK hb hKB) D HD
        have hsh : (acc ++ incl (l.take k) i).length + 1 ≤ 1000000 := by
          have := incl_len (l.take k) i (by simp only [List.length_take, List.length_drop]; omega)
          simp only [List.length_append, List.length_take, List.length_drop] at this ⊢
          omega
        obtain ⟨acc2, HA2⟩ : ∃ x, Hid (x = acc ++ incl (l.take k) i) := ⟨_, (rfl : acc ++ incl (l.take k) i = _)⟩
        rw [← HA2.out] at HE hsh IH
        have HH0 : Hid (Holds B gp gf 85 (FI gp gf) v acc w) := hH
        have hdl : (decide ((i : Int) < (k : Int))) = true := by rw [decide_eq_true_eq]; omega
        clear hK hR ih hH hlen hk HA2 low hac
        go_enter Tryd.func40, Tryd.ntmps40
        go_wp2_with fail
        refine (P.out _).mono ?_
        rintro e w1 ⟨rfl, hb1⟩
        have HH1 : Hid (Holds B gp gf 85 (FI gp gf) v acc w1) := HH0.out.keep hb1
        have hB1 : Below B w w1 := hb1.mono hBw
        have hcf : w1.cell? ⟨gf, 0, none⟩ = some (.func (.func 40) #[] #[.pointer (some ⟨gf, 0, none⟩), .pointer (some ⟨gp, 0, none⟩)]) := cell_of_one HH1.out.prove
        clear hb1 P HH0
        go_wp2_with fail
        refine (IH.out _ _ hB1 HH1.out).mono ?_
        rintro e w2 ⟨rfl, ⟨v2, hh2⟩, hb2⟩
        have HH : Hid (Holds B gp gf 85 (FI gp gf) v2 acc2 w2.drew) := hh2.drew
        have hB : Below B w w2.drew := (hB1.trans hb2).drew
        clear hb2 hh2 hB1 HH1 hcf IH
        go_wp2
        refine wp_region_held_drew (S := (fun _ => True)) (by kernel_rfl) trivial (fun hHeld => ?_)
        refine wpAnyH_take (i := 1) (oi := { dst := some 25, op := Op.move (Operand.tmp 7), type := 26, pos := "tree.go:51", after := #[], guard := none }) (v := .slice (some ⟨g, o + 32 * k, none⟩) (len - k) (cap - k)) rfl (by kernel_rfl) (by kernel_rfl) (by kernel_rfl) (fun _ _ _ h => h) (Or.inl ⟨by rfl, by intro W hSw; go_simp⟩) hHeld ?_
        try simp only [Act.put, List.setIfInBounds_toArray, List.set_cons_zero, List.set_cons_succ]
        refine wpAnyH_ready (rs := [0, 2]) (by kernel_rfl) (by simp) ?_
        refine (AllReadyH.cons (o := { dst := some 24, op := Op.load 26 (Operand.tmp 3), type := 26, pos := "tree.go:51", after := #[], guard := none }) rfl (fun K hK => ?_) (AllReadyH.cons (o := { dst := some 26, op := Op.call { callee := Callee.value (Operand.func 42), args := #[Operand.tmp 25], argTypes := #[26] }, type := 30, pos := "tree.go:51", after := #[{ on := 1, ground := Ground.data }], guard := none }) rfl (fun K hK => ?_) AllReadyH.nil))
        · have hc := cell_of_one HH.out.proof
          go_simp
          clear hc
          refine hK.out _ _ trivial (fun hHeld => ?_)
          clear hK K
          try simp only [Act.put, List.setIfInBounds_toArray, List.set_cons_zero, List.set_cons_succ]
          refine wpAnyH_ready (rs := [2]) (by kernel_rfl) (by simp) ?_
          refine (AllReadyH.cons (o := { dst := some 26, op := Op.call { callee := Callee.value (Operand.func 42), args := #[Operand.tmp 25], argTypes := #[26] }, type := 30, pos := "tree.go:51", after := #[{ on := 1, ground := Ground.data }], guard := none }) rfl (fun K hK => ?_) AllReadyH.nil)
          go_simp
          refine (RR.out _ hB).mono ?_
          rintro e w2 ⟨rfl, hb2⟩
          replace HH := hidk (HH.out.keep hb2)
          replace hB := hB.trans (hb2.mono (Nat.le_trans hBw hB.size))
          go_wp2_with fail
          refine hK.out _ _ trivial (fun hHeld => ?_)
          clear hK K
          try simp only [Act.put, List.setIfInBounds_toArray, List.set_cons_zero, List.set_cons_succ]
          refine wpAnyH_ready (rs := [3]) (by kernel_rfl) (by simp) ?_
          refine (AllReadyH.cons (o := { dst := some 27, op := Op.buildSlice 26 1 #[(0, Operand.tmp 26)], type := 26, pos := "tree.go:51", after := #[{ on := 2, ground := Ground.data }], guard := none }) rfl (fun K hK => ?_) AllReadyH.nil)
          refine step_build_run (by rfl) 26 1 _ rfl #[(0, .agg D)] rfl _ _ (build_one _ _ hdd D HD) ?_
          obtain ⟨gn, cn, w4, hrun, q1, q2, q3, q4⟩ := HH.out.append htf (Nat.le_trans hBw hB.size) hsh _ hdd D HD
          replace HH := hidk (HH.out.keep ((Below.refl _ _).alloc (Nat.le_refl _) (.cells D 30)))
          refine hK.out _ _ trivial (fun hHeld => ?_)
          clear hK K
          try simp only [Act.put, List.setIfInBounds_toArray, List.set_cons_zero, List.set_cons_succ]
          refine wpAnyH_ready (rs := [4]) (by kernel_rfl) (by simp) ?_
          refine (AllReadyH.cons (o := { dst := some 28, op := Op.call { callee := Callee.builtin Builtin.append, args := #[Operand.tmp 24, Operand.tmp 27], argTypes := #[26, 26] }, type := 26, pos := "tree.go:51", after := #[{ on := 0, ground := Ground.data }, { on := 3, ground := Ground.data }, { on := 2, ground := Ground.chain }], guard := none }) rfl (fun K hK => ?_) AllReadyH.nil)
          refine step_append_run rfl (.tmp 24) (.tmp 27) 26 26 rfl v2 _ _ w4 rfl rfl hrun ?_
          refine hK.out _ _ trivial (fun hHeld => ?_)
          clear hK K
          try simp only [Act.put, List.setIfInBounds_toArray, List.set_cons_zero, List.set_cons_succ]
          refine wpAnyH_ready (rs := [5]) (by kernel_rfl) (by simp) ?_
          refine (AllReadyH.cons (o := { dst := none, op := Op.store 26 (Operand.tmp 3) (Operand.tmp 28), type := 0, pos := "tree.go:51", after := #[{ on := 4, ground := Ground.data }, { on := 4, ground := Ground.chain }, { on := 0, ground := Ground.phase }, { on := 1, ground := Ground.phase }, { on := 2, ground := Ground.phase }, { on := 3, ground := Ground.phase }, { on := 4, ground := Ground.phase }], guard := none }) rfl (fun K hK => ?_) AllReadyH.nil)
          have hc := cell_of_one q1
          have hfz := free_of_one q1
          go_simp
          clear hc hfz
          refine hK.out _ _ trivial (fun hHeld => ?_)
          clear hK K
          try simp only [Act.put, List.setIfInBounds_toArray, List.set_cons_zero, List.set_cons_succ]
          refine wpAnyH_done (by kernel_rfl) ?_ _
          go_wp2
          first | go_end0 | (refine bodyPost_ret (results_none rfl _ _ _) rfl ?_)
          refine ⟨rfl, ⟨.slice (some ⟨gn, 0, none⟩) (acc2.length + 1) cn, ?_⟩, (hB.trans q4).setCell (by simpa using hp) _⟩
          rw [HE.out]
          exact Holds.put hne q1 q2 q3
        · go_simp
          refine (RR.out _ hB).mono ?_
          rintro e w2 ⟨rfl, hb2⟩
          replace HH := hidk (HH.out.keep hb2)
          replace hB := hB.trans (hb2.mono (Nat.le_trans hBw hB.size))
          go_wp2_with fail
          refine hK.out _ _ trivial (fun hHeld => ?_)
          clear hK K
          try simp only [Act.put, List.setIfInBounds_toArray, List.set_cons_zero, List.set_cons_succ]
          refine wpAnyH_ready (rs := [0, 3]) (by kernel_rfl) (by simp) ?_
          refine (AllReadyH.cons (o := { dst := some 24, op := Op.load 26 (Operand.tmp 3), type := 26, pos := "tree.go:51", after := #[], guard := none }) rfl (fun K hK => ?_) (AllReadyH.cons (o := { dst := some 27, op := Op.buildSlice 26 1 #[(0, Operand.tmp 26)], type := 26, pos := "tree.go:51", after := #[{ on := 2, ground := Ground.data }], guard := none }) rfl (fun K hK => ?_) AllReadyH.nil))
          · have hc := cell_of_one HH.out.proof
            go_simp
            clear hc
            refine hK.out _ _ trivial (fun hHeld => ?_)
            clear hK K
            try simp only [Act.put, List.setIfInBounds_toArray, List.set_cons_zero, List.set_cons_succ]
            refine wpAnyH_ready (rs := [3]) (by kernel_rfl) (by simp) ?_
            refine (AllReadyH.cons (o := { dst := some 27, op := Op.buildSlice 26 1 #[(0, Operand.tmp 26)], type := 26, pos := "tree.go:51", after := #[{ on := 2, ground := Ground.data }], guard := none }) rfl (fun K hK => ?_) AllReadyH.nil)
            refine step_build_run (by rfl) 26 1 _ rfl #[(0, .agg D)] rfl _ _ (build_one _ _ hdd D HD) ?_
            obtain ⟨gn, cn, w4, hrun, q1, q2, q3, q4⟩ := HH.out.append htf (Nat.le_trans hBw hB.size) hsh _ hdd D HD
            replace HH := hidk (HH.out.keep ((Below.refl _ _).alloc (Nat.le_refl _) (.cells D 30)))
            refine hK.out _ _ trivial (fun hHeld => ?_)
            clear hK K
            try simp only [Act.put, List.setIfInBounds_toArray, List.set_cons_zero, List.set_cons_succ]
            refine wpAnyH_ready (rs := [4]) (by kernel_rfl) (by simp) ?_
            refine (AllReadyH.cons (o := { dst := some 28, op := Op.call { callee := Callee.builtin Builtin.append, args := #[Operand.tmp 24, Operand.tmp 27], argTypes := #[26, 26] }, type := 26, pos := "tree.go:51", after := #[{ on := 0, ground := Ground.data }, { on := 3, ground := Ground.data }, { on := 2, ground := Ground.chain }], guard := none }) rfl (fun K hK => ?_) AllReadyH.nil)
            refine step_append_run rfl (.tmp 24) (.tmp 27) 26 26 rfl v2 _ _ w4 rfl rfl hrun ?_
            refine hK.out _ _ trivial (fun hHeld => ?_)
            clear hK K
            try simp only [Act.put, List.setIfInBounds_toArray, List.set_cons_zero, List.set_cons_succ]
            refine wpAnyH_ready (rs := [5]) (by kernel_rfl) (by simp) ?_
            refine (AllReadyH.cons (o := { dst := none, op := Op.store 26 (Operand.tmp 3) (Operand.tmp 28), type := 0, pos := "tree.go:51", after := #[{ on := 4, ground := Ground.data }, { on := 4, ground := Ground.chain }, { on := 0, ground := Ground.phase }, { on := 1, ground := Ground.phase }, { on := 2, ground := Ground.phase }, { on := 3, ground := Ground.phase }, { on := 4, ground := Ground.phase }], guard := none }) rfl (fun K hK => ?_) AllReadyH.nil)
            have hc := cell_of_one q1
            have hfz := free_of_one q1
            go_simp
            clear hc hfz
            refine hK.out _ _ trivial (fun hHeld => ?_)
            clear hK K
            try simp only [Act.put, List.setIfInBounds_toArray, List.set_cons_zero, List.set_cons_succ]
            refine wpAnyH_done (by kernel_rfl) ?_ _
            go_wp2
            first | go_end0 | (refine bodyPost_ret (results_none rfl _ _ _) rfl ?_)
            refine ⟨rfl, ⟨.slice (some ⟨gn, 0, none⟩) (acc2.length + 1) cn, ?_⟩, (hB.trans q4).setCell (by simpa using hp) _⟩
            rw [HE.out]
            exact Holds.put hne q1 q2 q3
          · refine step_build_run (by rfl) 26 1 _ rfl #[(0, .agg D)] rfl _ _ (build_one _ _ hdd D HD) ?_
            obtain ⟨gn, cn, w4, hrun, q1, q2, q3, q4⟩ := HH.out.append htf (Nat.le_trans hBw hB.size) hsh _ hdd D HD
            replace HH := hidk (HH.out.keep ((Below.refl _ _).alloc (Nat.le_refl _) (.cells D 30)))
            refine hK.out _ _ trivial (fun hHeld => ?_)
            clear hK K
            try simp only [Act.put, List.setIfInBounds_toArray, List.set_cons_zero, List.set_cons_succ]
            refine wpAnyH_ready (rs := [0]) (by kernel_rfl) (by simp) ?_
            refine (AllReadyH.cons (o := { dst := some 24, op := Op.load 26 (Operand.tmp 3), type := 26, pos := "tree.go:51", after := #[], guard := none }) rfl (fun K hK => ?_) AllReadyH.nil)
            have hc := cell_of_one HH.out.proof
            go_simp
            clear hc
            refine hK.out _ _ trivial (fun hHeld => ?_)
            clear hK K
            try simp only [Act.put, List.setIfInBounds_toArray, List.set_cons_zero, List.set_cons_succ]
            refine wpAnyH_ready (rs := [4]) (by kernel_rfl) (by simp) ?_
            refine (AllReadyH.cons (o := { dst := some 28, op := Op.call { callee := Callee.builtin Builtin.append, args := #[Operand.tmp 24, Operand.tmp 27], argTypes := #[26, 26] }, type := 26, pos := "tree.go:51", after := #[{ on := 0, ground := Ground.data }, { on := 3, ground := Ground.data }, { on := 2, ground := Ground.chain }], guard := none }) rfl (fun K hK => ?_) AllReadyH.nil)
            refine step_append_run rfl (.tmp 24) (.tmp 27) 26 26 rfl v2 _ _ w4 rfl rfl hrun ?_
            refine hK.out _ _ trivial (fun hHeld => ?_)
            clear hK K
            try simp only [Act.put, List.setIfInBounds_toArray, List.set_cons_zero, List.set_cons_succ]
            refine wpAnyH_ready (rs := [5]) (by kernel_rfl) (by simp) ?_
            refine (AllReadyH.cons (o := { dst := none, op := Op.store 26 (Operand.tmp 3) (Operand.tmp 28), type := 0, pos := "tree.go:51", after := #[{ on := 4, ground := Ground.data }, { on := 4, ground := Ground.chain }, { on := 0, ground := Ground.phase }, { on := 1, ground := Ground.phase }, { on := 2, ground := Ground.phase }, { on := 3, ground := Ground.phase }, { on := 4, ground := Ground.phase }], guard := none }) rfl (fun K hK => ?_) AllReadyH.nil)
            have hc := cell_of_one q1
            have hfz := free_of_one q1
            go_simp
            clear hc hfz
            refine hK.out _ _ trivial (fun hHeld => ?_)
            clear hK K
            try simp only [Act.put, List.setIfInBounds_toArray, List.set_cons_zero, List.set_cons_succ]
            refine wpAnyH_done (by kernel_rfl) ?_ _
            go_wp2
            first | go_end0 | (refine bodyPost_ret (results_none rfl _ _ _) rfl ?_)
            refine ⟨rfl, ⟨.slice (some ⟨gn, 0, none⟩) (acc2.length + 1) cn, ?_⟩, (hB.trans q4).setCell (by simpa using hp) _⟩
            rw [HE.out]
            exact Holds.put hne q1 q2 q3
      · -- the right part
        have HE : Hid (acc ++ incl l i = (acc ++ incl (l.drop k) (i - k)) ++ [root (l.take k)]) := by
          show _ = _
          rw [incl_right l i (by omega) (by rw [hlen, ← hk]; omega), hlen, ← hk, List.append_assoc]
        have IH : Hid (∀ W v, Below B w W → Holds B gp gf 85 (FI gp gf) v acc W → Calls Tryd.prog 40 #[.slice (some ⟨g, o + 32 * k, none⟩) (len - k) (cap - k), .int .i64 ((i : Int) - (k : Int)), .pointer (some ⟨gf, 0, none⟩), .pointer (some ⟨gp, 0, none⟩)] W fun e w' =>
            e = .returned (.tuple #[]) ∧ (∃ v', Holds B gp gf 85 (FI gp gf) v' (acc ++ incl (l.drop k) (i - k)) w') ∧ Below B W w') := fun W v hb hh => by
          rw [show ((i : Int) - (k : Int)) = ((i - k : Nat) : Int) by omega]
          exact ih (len - k) (by omega) g (o + 32 * k) (len - k) (cap - k) (i - k) (l.drop k) acc v W rfl ((hR.below hb low).drop k (by omega)) hg (by omega) (by omega) (Nat.le_trans hBw hb.size) hh (table_low hK hb hKB)
        obtain ⟨D, HD⟩ : ∃ D, Hid (D = (cellsOf (root (l.take k))).toArray) := ⟨_, (rfl : (cellsOf (root (l.take k))).toArray = _)⟩
        have hdd : (root (l.take k)).length = 32 := root_length sumD_length _ (hR.2.1.take k)
        have RR : Hid (∀ W, Below B w W → Calls Tryd.prog 42 #[.slice (some ⟨g, o, none⟩) k cap] W fun e w' => e = .returned (.agg D) ∧ Below W.heap.size W w') := fun W hb =>
          root_any _ _ _ _ (l.take k) W rfl ((hR.below hb low).take k (by omega)) (table_low hK hb hKB) D HD
        have hsh : (acc ++ incl (l.drop k) (i - k)).length + 1 ≤ 1000000 := by
          have := incl_len (l.drop k) (i - k) (by simp only [List.length_take, List.length_drop]; omega)
          simp only [List.length_append, List.length_take, List.length_drop] at this ⊢
          omega
        obtain ⟨acc2, HA2⟩ : ∃ x, Hid (x = acc ++ incl (l.drop k) (i - k)) := ⟨_, (rfl : acc ++ incl (l.drop k) (i - k) = _)⟩
        rw [← HA2.out] at HE hsh IH
        have HH0 : Hid (Holds B gp gf 85 (FI gp gf) v acc w) := hH
        have hw := wrap_int ((i : Int) - (k : Int)) (by omega) (by omega)
        have hdl : (decide ((i : Int) < (k : Int))) = false := by rw [decide_eq_false_iff_not]; omega
        clear hK hR ih hH hlen hk HA2 low hac
        go_enter Tryd.func40, Tryd.ntmps40
        go_wp2_with fail
        refine (P.out _).mono ?_
        rintro e w1 ⟨rfl, hb1⟩
        have HH1 : Hid (Holds B gp gf 85 (FI gp gf) v acc w1) := HH0.out.keep hb1
        have hB1 : Below B w w1 := hb1.mono hBw
        have hcf : w1.cell? ⟨gf, 0, none⟩ = some (.func (.func 40) #[] #[.pointer (some ⟨gf, 0, none⟩), .pointer (some ⟨gp, 0, none⟩)]) := cell_of_one HH1.out.prove
        clear hb1 P HH0
        go_wp2_with fail
        refine (IH.out _ _ hB1 HH1.out).mono ?_
        rintro e w2 ⟨rfl, ⟨v2, hh2⟩, hb2⟩
        have HH : Hid (Holds B gp gf 85 (FI gp gf) v2 acc2 w2.drew) := hh2.drew
        have hB : Below B w w2.drew := (hB1.trans hb2).drew
        clear hb2 hh2 hB1 HH1 hcf IH
        go_wp2
        refine wp_region_held_drew (S := (fun _ => True)) (by kernel_rfl) trivial (fun hHeld => ?_)
        refine wpAnyH_take (i := 1) (oi := { dst := some 37, op := Op.move (Operand.tmp 6), type := 26, pos := "tree.go:55", after := #[], guard := none }) (v := .slice (some ⟨g, o, none⟩) k cap) rfl (by kernel_rfl) (by kernel_rfl) (by kernel_rfl) (fun _ _ _ h => h) (Or.inl ⟨by rfl, by intro W hSw; go_simp⟩) hHeld ?_
        try simp only [Act.put, List.setIfInBounds_toArray, List.set_cons_zero, List.set_cons_succ]
        refine wpAnyH_ready (rs := [0, 2]) (by kernel_rfl) (by simp) ?_
        refine (AllReadyH.cons (o := { dst := some 36, op := Op.load 26 (Operand.tmp 3), type := 26, pos := "tree.go:55", after := #[], guard := none }) rfl (fun K hK => ?_) (AllReadyH.cons (o := { dst := some 38, op := Op.call { callee := Callee.value (Operand.func 42), args := #[Operand.tmp 37], argTypes := #[26] }, type := 30, pos := "tree.go:55", after := #[{ on := 1, ground := Ground.data }], guard := none }) rfl (fun K hK => ?_) AllReadyH.nil))
        · have hc := cell_of_one HH.out.proof
          go_simp
          clear hc
          refine hK.out _ _ trivial (fun hHeld => ?_)
          clear hK K
          try simp only [Act.put, List.setIfInBounds_toArray, List.set_cons_zero, List.set_cons_succ]
          refine wpAnyH_ready (rs := [2]) (by kernel_rfl) (by simp) ?_
          refine (AllReadyH.cons (o := { dst := some 38, op := Op.call { callee := Callee.value (Operand.func 42), args := #[Operand.tmp 37], argTypes := #[26] }, type := 30, pos := "tree.go:55", after := #[{ on := 1, ground := Ground.data }], guard := none }) rfl (fun K hK => ?_) AllReadyH.nil)
          go_simp
          refine (RR.out _ hB).mono ?_
          rintro e w2 ⟨rfl, hb2⟩
          replace HH := hidk (HH.out.keep hb2)
          replace hB := hB.trans (hb2.mono (Nat.le_trans hBw hB.size))
          go_wp2_with fail
          refine hK.out _ _ trivial (fun hHeld => ?_)
          clear hK K
          try simp only [Act.put, List.setIfInBounds_toArray, List.set_cons_zero, List.set_cons_succ]
          refine wpAnyH_ready (rs := [3]) (by kernel_rfl) (by simp) ?_
          refine (AllReadyH.cons (o := { dst := some 39, op := Op.buildSlice 26 1 #[(0, Operand.tmp 38)], type := 26, pos := "tree.go:55", after := #[{ on := 2, ground := Ground.data }], guard := none }) rfl (fun K hK => ?_) AllReadyH.nil)
          refine step_build_run (by rfl) 26 1 _ rfl #[(0, .agg D)] rfl _ _ (build_one _ _ hdd D HD) ?_
          obtain ⟨gn, cn, w4, hrun, q1, q2, q3, q4⟩ := HH.out.append htf (Nat.le_trans hBw hB.size) hsh _ hdd D HD
          replace HH := hidk (HH.out.keep ((Below.refl _ _).alloc (Nat.le_refl _) (.cells D 30)))
          refine hK.out _ _ trivial (fun hHeld => ?_)
          clear hK K
          try simp only [Act.put, List.setIfInBounds_toArray, List.set_cons_zero, List.set_cons_succ]
          refine wpAnyH_ready (rs := [4]) (by kernel_rfl) (by simp) ?_
          refine (AllReadyH.cons (o := { dst := some 40, op := Op.call { callee := Callee.builtin Builtin.append, args := #[Operand.tmp 36, Operand.tmp 39], argTypes := #[26, 26] }, type := 26, pos := "tree.go:55", after := #[{ on := 0, ground := Ground.data }, { on := 3, ground := Ground.data }, { on := 2, ground := Ground.chain }], guard := none }) rfl (fun K hK => ?_) AllReadyH.nil)
          refine step_append_run rfl (.tmp 36) (.tmp 39) 26 26 rfl v2 _ _ w4 rfl rfl hrun ?_
          refine hK.out _ _ trivial (fun hHeld => ?_)
          clear hK K
          try simp only [Act.put, List.setIfInBounds_toArray, List.set_cons_zero, List.set_cons_succ]
          refine wpAnyH_ready (rs := [5]) (by kernel_rfl) (by simp) ?_
          refine (AllReadyH.cons (o := { dst := none, op := Op.store 26 (Operand.tmp 3) (Operand.tmp 40), type := 0, pos := "tree.go:55", after := #[{ on := 4, ground := Ground.data }, { on := 4, ground := Ground.chain }, { on := 0, ground := Ground.phase }, { on := 1, ground := Ground.phase }, { on := 2, ground := Ground.phase }, { on := 3, ground := Ground.phase }, { on := 4, ground := Ground.phase }], guard := none }) rfl (fun K hK => ?_) AllReadyH.nil)
          have hc := cell_of_one q1
          have hfz := free_of_one q1
          go_simp
          clear hc hfz
          refine hK.out _ _ trivial (fun hHeld => ?_)
          clear hK K
          try simp only [Act.put, List.setIfInBounds_toArray, List.set_cons_zero, List.set_cons_succ]
          refine wpAnyH_done (by kernel_rfl) ?_ _
          go_wp2
          first | go_end0 | (refine bodyPost_ret (results_none rfl _ _ _) rfl ?_)
          refine ⟨rfl, ⟨.slice (some ⟨gn, 0, none⟩) (acc2.length + 1) cn, ?_⟩, (hB.trans q4).setCell (by simpa using hp) _⟩
          rw [HE.out]
          exact Holds.put hne q1 q2 q3
        · go_simp
          refine (RR.out _ hB).mono ?_
          rintro e w2 ⟨rfl, hb2⟩
          replace HH := hidk (HH.out.keep hb2)
          replace hB := hB.trans (hb2.mono (Nat.le_trans hBw hB.size))
          go_wp2_with fail
          refine hK.out _ _ trivial (fun hHeld => ?_)
          clear hK K
          try simp only [Act.put, List.setIfInBounds_toArray, List.set_cons_zero, List.set_cons_succ]
          refine wpAnyH_ready (rs := [0, 3]) (by kernel_rfl) (by simp) ?_
          refine (AllReadyH.cons (o := { dst := some 36, op := Op.load 26 (Operand.tmp 3), type := 26, pos := "tree.go:55", after := #[], guard := none }) rfl (fun K hK => ?_) (AllReadyH.cons (o := { dst := some 39, op := Op.buildSlice 26 1 #[(0, Operand.tmp 38)], type := 26, pos := "tree.go:55", after := #[{ on := 2, ground := Ground.data }], guard := none }) rfl (fun K hK => ?_) AllReadyH.nil))
          · have hc := cell_of_one HH.out.proof
            go_simp
            clear hc
            refine hK.out _ _ trivial (fun hHeld => ?_)
            clear hK K
            try simp only [Act.put, List.setIfInBounds_toArray, List.set_cons_zero, List.set_cons_succ]
            refine wpAnyH_ready (rs := [3]) (by kernel_rfl) (by simp) ?_
            refine (AllReadyH.cons (o := { dst := some 39, op := Op.buildSlice 26 1 #[(0, Operand.tmp 38)], type := 26, pos := "tree.go:55", after := #[{ on := 2, ground := Ground.data }], guard := none }) rfl (fun K hK => ?_) AllReadyH.nil)
            refine step_build_run (by rfl) 26 1 _ rfl #[(0, .agg D)] rfl _ _ (build_one _ _ hdd D HD) ?_
            obtain ⟨gn, cn, w4, hrun, q1, q2, q3, q4⟩ := HH.out.append htf (Nat.le_trans hBw hB.size) hsh _ hdd D HD
            replace HH := hidk (HH.out.keep ((Below.refl _ _).alloc (Nat.le_refl _) (.cells D 30)))
            refine hK.out _ _ trivial (fun hHeld => ?_)
            clear hK K
            try simp only [Act.put, List.setIfInBounds_toArray, List.set_cons_zero, List.set_cons_succ]
            refine wpAnyH_ready (rs := [4]) (by kernel_rfl) (by simp) ?_
            refine (AllReadyH.cons (o := { dst := some 40, op := Op.call { callee := Callee.builtin Builtin.append, args := #[Operand.tmp 36, Operand.tmp 39], argTypes := #[26, 26] }, type := 26, pos := "tree.go:55", after := #[{ on := 0, ground := Ground.data }, { on := 3, ground := Ground.data }, { on := 2, ground := Ground.chain }], guard := none }) rfl (fun K hK => ?_) AllReadyH.nil)
            refine step_append_run rfl (.tmp 36) (.tmp 39) 26 26 rfl v2 _ _ w4 rfl rfl hrun ?_
            refine hK.out _ _ trivial (fun hHeld => ?_)
            clear hK K
            try simp only [Act.put, List.setIfInBounds_toArray, List.set_cons_zero, List.set_cons_succ]
            refine wpAnyH_ready (rs := [5]) (by kernel_rfl) (by simp) ?_
            refine (AllReadyH.cons (o := { dst := none, op := Op.store 26 (Operand.tmp 3) (Operand.tmp 40), type := 0, pos := "tree.go:55", after := #[{ on := 4, ground := Ground.data }, { on := 4, ground := Ground.chain }, { on := 0, ground := Ground.phase }, { on := 1, ground := Ground.phase }, { on := 2, ground := Ground.phase }, { on := 3, ground := Ground.phase }, { on := 4, ground := Ground.phase }], guard := none }) rfl (fun K hK => ?_) AllReadyH.nil)
            have hc := cell_of_one q1
            have hfz := free_of_one q1
            go_simp
            clear hc hfz
            refine hK.out _ _ trivial (fun hHeld => ?_)
            clear hK K
            try simp only [Act.put, List.setIfInBounds_toArray, List.set_cons_zero, List.set_cons_succ]
            refine wpAnyH_done (by kernel_rfl) ?_ _
            go_wp2
            first | go_end0 | (refine bodyPost_ret (results_none rfl _ _ _) rfl ?_)
            refine ⟨rfl, ⟨.slice (some ⟨gn, 0, none⟩) (acc2.length + 1) cn, ?_⟩, (hB.trans q4).setCell (by simpa using hp) _⟩
            rw [HE.out]
            exact Holds.put hne q1 q2 q3
          · refine step_build_run (by rfl) 26 1 _ rfl #[(0, .agg D)] rfl _ _ (build_one _ _ hdd D HD) ?_
            obtain ⟨gn, cn, w4, hrun, q1, q2, q3, q4⟩ := HH.out.append htf (Nat.le_trans hBw hB.size) hsh _ hdd D HD
            replace HH := hidk (HH.out.keep ((Below.refl _ _).alloc (Nat.le_refl _) (.cells D 30)))
            refine hK.out _ _ trivial (fun hHeld => ?_)
            clear hK K
            try simp only [Act.put, List.setIfInBounds_toArray, List.set_cons_zero, List.set_cons_succ]
            refine wpAnyH_ready (rs := [0]) (by kernel_rfl) (by simp) ?_
            refine (AllReadyH.cons (o := { dst := some 36, op := Op.load 26 (Operand.tmp 3), type := 26, pos := "tree.go:55", after := #[], guard := none }) rfl (fun K hK => ?_) AllReadyH.nil)
            have hc := cell_of_one HH.out.proof
            go_simp
            clear hc
            refine hK.out _ _ trivial (fun hHeld => ?_)
            clear hK K
            try simp only [Act.put, List.setIfInBounds_toArray, List.set_cons_zero, List.set_cons_succ]
            refine wpAnyH_ready (rs := [4]) (by kernel_rfl) (by simp) ?_
            refine (AllReadyH.cons (o := { dst := some 40, op := Op.call { callee := Callee.builtin Builtin.append, args := #[Operand.tmp 36, Operand.tmp 39], argTypes := #[26, 26] }, type := 26, pos := "tree.go:55", after := #[{ on := 0, ground := Ground.data }, { on := 3, ground := Ground.data }, { on := 2, ground := Ground.chain }], guard := none }) rfl (fun K hK => ?_) AllReadyH.nil)
            refine step_append_run rfl (.tmp 36) (.tmp 39) 26 26 rfl v2 _ _ w4 rfl rfl hrun ?_
            refine hK.out _ _ trivial (fun hHeld => ?_)
            clear hK K
            try simp only [Act.put, List.setIfInBounds_toArray, List.set_cons_zero, List.set_cons_succ]
            refine wpAnyH_ready (rs := [5]) (by kernel_rfl) (by simp) ?_
            refine (AllReadyH.cons (o := { dst := none, op := Op.store 26 (Operand.tmp 3) (Operand.tmp 40), type := 0, pos := "tree.go:55", after := #[{ on := 4, ground := Ground.data }, { on := 4, ground := Ground.chain }, { on := 0, ground := Ground.phase }, { on := 1, ground := Ground.phase }, { on := 2, ground := Ground.phase }, { on := 3, ground := Ground.phase }, { on := 4, ground := Ground.phase }], guard := none }) rfl (fun K hK => ?_) AllReadyH.nil)
            have hc := cell_of_one q1
            have hfz := free_of_one q1
            go_simp
            clear hc hfz
            refine hK.out _ _ trivial (fun hHeld => ?_)
            clear hK K
            try simp only [Act.put, List.setIfInBounds_toArray, List.set_cons_zero, List.set_cons_succ]
            refine wpAnyH_done (by kernel_rfl) ?_ _
            go_wp2
            first | go_end0 | (refine bodyPost_ret (results_none rfl _ _ _) rfl ?_)
            refine ⟨rfl, ⟨.slice (some ⟨gn, 0, none⟩) (acc2.length + 1) cn, ?_⟩, (hB.trans q4).setCell (by simpa using hp) _⟩
            rw [HE.out]
            exact Holds.put hne q1 q2 q3
set_option maxHeartbeats 1000000 in
theorem inclusion_in (a : Option Addr) (len cap : Nat) (l : List (List UInt8)) (i : Nat) (w : World) (hR : LReads w a len cap l) (hi : i < len) (hl : len ≤ 100000) (hK : Table 0 w) :
    Calls Tryd.prog 12 #[.slice a len cap, .int .i64 i] w fun e w' => ∃ v, e = .returned (.tuple #[v, .int .i64 0]) ∧ w'.ownsRow w.heap.size 30 32 v (incl l i).length (cellsOf (incl l i).flatten) ∧ Below w.heap.size w w' := by
  obtain ⟨g, o, rfl, hg⟩ := hR.at (by omega)
  have hd : decide ((i : Int) < 0) = false := by rw [decide_eq_false_iff_not]; omega
  have hd2 : decide ((len : Int) ≤ (i : Int)) = false := by rw [decide_eq_false_iff_not]; omega
  have hK0 := hK.1
  have hd3 : decide (len ≤ i) = false := by rw [decide_eq_false_iff_not]; omega
  have PV : Hid (∀ W, Below w.heap.size w W → Holds w.heap.size w.heap.size (w.heap.size + 1) 85 (FI w.heap.size (w.heap.size + 1)) (.slice none 0 0) [] W →
      Calls Tryd.prog 40 #[.slice (some ⟨g, o, none⟩) len cap, .int .i64 i, .pointer (some ⟨w.heap.size + 1, 0, none⟩), .pointer (some ⟨w.heap.size, 0, none⟩)] W fun e w' =>
      e = .returned (.tuple #[]) ∧ (∃ v', Holds w.heap.size w.heap.size (w.heap.size + 1) 85 (FI w.heap.size (w.heap.size + 1)) v' (incl l i) w') ∧ Below w.heap.size W w') := fun W hb hh =>
    prove_any len g o len cap i l [] w.heap.size w.heap.size (w.heap.size + 1) _ W rfl (hR.keep hb) hg hi (Nat.le_refl _) (by omega) (by simp; omega) hb.size hh (hK.keep hb) hK0
  have HS : Hid (Holds w.heap.size w.heap.size (w.heap.size + 1) 85 (FI w.heap.size (w.heap.size + 1)) (.slice none 0 0) [] ((w.alloc (.cells #[.slice none 0 0] 26)).alloc (.cells #[FI w.heap.size (w.heap.size + 1)] 85))) :=
    ⟨heap_alloc2_old w _ _, heap_alloc2_new w _ _, World.ownsRow_nil _ _ _ _⟩
  have HB : Hid (Below w.heap.size w ((w.alloc (.cells #[.slice none 0 0] 26)).alloc (.cells #[FI w.heap.size (w.heap.size + 1)] 85))) := ((Below.refl _ _).alloc (Nat.le_refl _) _).alloc (by simp) _
  clear hK hR
  go_enter Tryd.func12, Tryd.ntmps12
  go_wp2_with fail
  refine (PV.out _ HB.out HS.out).mono ?_
  rintro e w2 ⟨rfl, ⟨v, hh⟩, hb2⟩
  have hcv := cell_of_one hh.proof
  have HO : Hid (w2.ownsRow w.heap.size 30 32 v (incl l i).length (cellsOf (incl l i).flatten) ∧ Below w.heap.size w w2) := ⟨hh.own, HB.out.trans hb2⟩
  clear hh hb2 PV HS HB
  go_wp2
  go_ret2
  exact ⟨v, rfl, HO.out⟩
end Go.Proofs.YtdnhnjimhbbababDoor

/- What tree.Consistency answers: the proof of a beginning. -/
namespace Go.Proofs.YtdnhnjimhbbababDoor
open Go.RowKit Sums
set_option maxRecDepth 100000
set_option linter.unusedVariables false
set_option linter.unusedSimpArgs false
attribute [local go_sem] store_func
/-- The function that proves, as a value. -/
def FC (gp gf : Nat) : Value := .func (.func 43) #[] #[.pointer (some ⟨gp, 0, none⟩), .pointer (some ⟨gf, 0, none⟩)]
set_option maxHeartbeats 2000000 in
theorem proveC_any (n : Nat) (g o len cap m : Nat) (known : Bool) (l acc : List (List UInt8)) (B gp gf : Nat) (v : Value) (w : World) (hn : len = n) (hR : LReads w (some ⟨g, o, none⟩) len cap l) (hg : g < B) (hm1 : 1 ≤ m) (hm : m ≤ len)
    (hp : B ≤ gp) (hne : gp ≠ gf) (hac : acc.length + len ≤ 1000000) (hBw : B ≤ w.heap.size) (hH : Holds B gp gf 89 (FC gp gf) v acc w) (hK : Table 0 w) (hKB : 0 < B) :
    Calls Tryd.prog 43 #[.slice (some ⟨g, o, none⟩) len cap, .int .i64 m, .bool known, .pointer (some ⟨gp, 0, none⟩), .pointer (some ⟨gf, 0, none⟩)] w fun e w' =>
      e = .returned (.tuple #[]) ∧ (∃ v', Holds B gp gf 89 (FC gp gf) v' (acc ++ goes l m known) w') ∧ Below B w w' := by
  induction n using Nat.strongRecOn generalizing g o len cap m known l acc v w with
  | _ n ih =>
    subst hn
    have htf : 89 ≠ 30 := by decide
    have hlen := hR.1
    have hmx : len ≤ 9223372036854775807 := by have := hR.2.2.2.1; unfold maxLen at this; omega
    have low : ∀ g' o', some (⟨g, o, none⟩ : Addr) = some ⟨g', o', none⟩ → 0 < len → g' < B := fun g' o' e _ => by cases e; exact hg
    by_cases hme : m = len
    · have hde : (decide ((m : Int) = (len : Int))) = true := by rw [decide_eq_true_eq]; omega
      have hde2 : ((m : Int) == (len : Int)) = true := by rw [beq_iff_eq]; omega
      cases known
      · have HE : Hid (acc ++ goes l m false = acc ++ [root l]) := by
          show _ = _
          rw [goes_all l m (by omega)]
        obtain ⟨D, HD⟩ : ∃ D, Hid (D = (cellsOf (root l)).toArray) := ⟨_, (rfl : (cellsOf (root l)).toArray = _)⟩
        have hdd : (root l).length = 32 := root_length sumD_length _ hR.2.1
        have RR : Hid (∀ W, Below B w W → Calls Tryd.prog 42 #[.slice (some ⟨g, o, none⟩) len cap] W fun e w' => e = .returned (.agg D) ∧ Below W.heap.size W w') := fun W hb =>
          root_any _ _ _ _ l W rfl (hR.below hb low) (table_low hK hb hKB) D HD
        have hsh : acc.length + 1 ≤ 1000000 := by omega
        have HH : Hid (Holds B gp gf 89 (FC gp gf) v acc w.drew) := hH.drew
        have hB : Below B w w.drew := (Below.refl _ _).drew
        obtain ⟨v2, hv2⟩ : ∃ v2, v2 = v := ⟨_, rfl⟩
        obtain ⟨acc2, ha2⟩ : ∃ a2, a2 = acc := ⟨_, rfl⟩
        rw [← hv2, ← ha2] at HH
        rw [← ha2] at HE hsh
        rw [ha2] at HE
        subst hv2 ha2
        subst hme
        clear hK hR ih hH hlen low hac
        go_enter Tryd.func43, Tryd.ntmps43
        go_wp2
        refine wp_region_held_drew (S := (fun _ => True)) (by kernel_rfl) trivial (fun hHeld => ?_)
        refine wpAnyH_take (i := 1) (oi := { dst := some 17, op := Op.move (Operand.tmp 0), type := 26, pos := "tree.go:75", after := #[], guard := none }) (v := .slice (some ⟨g, o, none⟩) m cap) rfl (by kernel_rfl) (by kernel_rfl) (by kernel_rfl) (fun _ _ _ h => h) (Or.inl ⟨by rfl, by intro W hSw; go_simp⟩) hHeld ?_
        try simp only [Act.put, List.setIfInBounds_toArray, List.set_cons_zero, List.set_cons_succ]
        refine wpAnyH_ready (rs := [0, 2]) (by kernel_rfl) (by simp) ?_
        refine (AllReadyH.cons (o := { dst := some 16, op := Op.load 26 (Operand.tmp 3), type := 26, pos := "tree.go:75", after := #[], guard := none }) rfl (fun K hK => ?_) (AllReadyH.cons (o := { dst := some 18, op := Op.call { callee := Callee.value (Operand.func 42), args := #[Operand.tmp 17], argTypes := #[26] }, type := 30, pos := "tree.go:75", after := #[{ on := 1, ground := Ground.data }], guard := none }) rfl (fun K hK => ?_) AllReadyH.nil))
        · have hc := cell_of_one HH.out.proof
          go_simp
          clear hc
          refine hK.out _ _ trivial (fun hHeld => ?_)
          clear hK K
          try simp only [Act.put, List.setIfInBounds_toArray, List.set_cons_zero, List.set_cons_succ]
          refine wpAnyH_ready (rs := [2]) (by kernel_rfl) (by simp) ?_
          refine (AllReadyH.cons (o := { dst := some 18, op := Op.call { callee := Callee.value (Operand.func 42), args := #[Operand.tmp 17], argTypes := #[26] }, type := 30, pos := "tree.go:75", after := #[{ on := 1, ground := Ground.data }], guard := none }) rfl (fun K hK => ?_) AllReadyH.nil)
          go_simp
          refine (RR.out _ hB).mono ?_
          rintro e w2 ⟨rfl, hb2⟩
          replace HH := hidk (HH.out.keep hb2)
          replace hB := hB.trans (hb2.mono (Nat.le_trans hBw hB.size))
          go_wp2_with fail
          refine hK.out _ _ trivial (fun hHeld => ?_)
          clear hK K
          try simp only [Act.put, List.setIfInBounds_toArray, List.set_cons_zero, List.set_cons_succ]
          refine wpAnyH_ready (rs := [3]) (by kernel_rfl) (by simp) ?_
          refine (AllReadyH.cons (o := { dst := some 19, op := Op.buildSlice 26 1 #[(0, Operand.tmp 18)], type := 26, pos := "tree.go:75", after := #[{ on := 2, ground := Ground.data }], guard := none }) rfl (fun K hK => ?_) AllReadyH.nil)
          refine step_build_run (by rfl) 26 1 _ rfl #[(0, .agg D)] rfl _ _ (build_one _ _ hdd D HD) ?_
          obtain ⟨gn, cn, w4, hrun, q1, q2, q3, q4⟩ := HH.out.append htf (Nat.le_trans hBw hB.size) hsh _ hdd D HD
          replace HH := hidk (HH.out.keep ((Below.refl _ _).alloc (Nat.le_refl _) (.cells D 30)))
          refine hK.out _ _ trivial (fun hHeld => ?_)
          clear hK K
          try simp only [Act.put, List.setIfInBounds_toArray, List.set_cons_zero, List.set_cons_succ]
          refine wpAnyH_ready (rs := [4]) (by kernel_rfl) (by simp) ?_
          refine (AllReadyH.cons (o := { dst := some 20, op := Op.call { callee := Callee.builtin Builtin.append, args := #[Operand.tmp 16, Operand.tmp 19], argTypes := #[26, 26] }, type := 26, pos := "tree.go:75", after := #[{ on := 0, ground := Ground.data }, { on := 3, ground := Ground.data }, { on := 2, ground := Ground.chain }], guard := none }) rfl (fun K hK => ?_) AllReadyH.nil)
          refine step_append_run rfl (.tmp 16) (.tmp 19) 26 26 rfl v2 _ _ w4 rfl rfl hrun ?_
          refine hK.out _ _ trivial (fun hHeld => ?_)
          clear hK K
          try simp only [Act.put, List.setIfInBounds_toArray, List.set_cons_zero, List.set_cons_succ]
          refine wpAnyH_ready (rs := [5]) (by kernel_rfl) (by simp) ?_
          refine (AllReadyH.cons (o := { dst := none, op := Op.store 26 (Operand.tmp 3) (Operand.tmp 20), type := 0, pos := "tree.go:75", after := #[{ on := 4, ground := Ground.data }, { on := 4, ground := Ground.chain }, { on := 0, ground := Ground.phase }, { on := 1, ground := Ground.phase }, { on := 2, ground := Ground.phase }, { on := 3, ground := Ground.phase }, { on := 4, ground := Ground.phase }], guard := none }) rfl (fun K hK => ?_) AllReadyH.nil)
          have hc := cell_of_one q1
          have hfz := free_of_one q1
          go_simp
          clear hc hfz
          refine hK.out _ _ trivial (fun hHeld => ?_)
          clear hK K
          try simp only [Act.put, List.setIfInBounds_toArray, List.set_cons_zero, List.set_cons_succ]
          refine wpAnyH_done (by kernel_rfl) ?_ _
          go_wp2
          first | go_end0 | (refine bodyPost_ret (results_none rfl _ _ _) rfl ?_)
          refine ⟨rfl, ⟨.slice (some ⟨gn, 0, none⟩) (acc2.length + 1) cn, ?_⟩, (hB.trans q4).setCell (by simpa using hp) _⟩
          rw [HE.out]
          exact Holds.put hne q1 q2 q3
        · go_simp
          refine (RR.out _ hB).mono ?_
          rintro e w2 ⟨rfl, hb2⟩
          replace HH := hidk (HH.out.keep hb2)
          replace hB := hB.trans (hb2.mono (Nat.le_trans hBw hB.size))
          go_wp2_with fail
          refine hK.out _ _ trivial (fun hHeld => ?_)
          clear hK K
          try simp only [Act.put, List.setIfInBounds_toArray, List.set_cons_zero, List.set_cons_succ]
          refine wpAnyH_ready (rs := [0, 3]) (by kernel_rfl) (by simp) ?_
          refine (AllReadyH.cons (o := { dst := some 16, op := Op.load 26 (Operand.tmp 3), type := 26, pos := "tree.go:75", after := #[], guard := none }) rfl (fun K hK => ?_) (AllReadyH.cons (o := { dst := some 19, op := Op.buildSlice 26 1 #[(0, Operand.tmp 18)], type := 26, pos := "tree.go:75", after := #[{ on := 2, ground := Ground.data }], guard := none }) rfl (fun K hK => ?_) AllReadyH.nil))
          · have hc := cell_of_one HH.out.proof
            go_simp
            clear hc
            refine hK.out _ _ trivial (fun hHeld => ?_)
            clear hK K
            try simp only [Act.put, List.setIfInBounds_toArray, List.set_cons_zero, List.set_cons_succ]
            refine wpAnyH_ready (rs := [3]) (by kernel_rfl) (by simp) ?_
            refine (AllReadyH.cons (o := { dst := some 19, op := Op.buildSlice 26 1 #[(0, Operand.tmp 18)], type := 26, pos := "tree.go:75", after := #[{ on := 2, ground := Ground.data }], guard := none }) rfl (fun K hK => ?_) AllReadyH.nil)
            refine step_build_run (by rfl) 26 1 _ rfl #[(0, .agg D)] rfl _ _ (build_one _ _ hdd D HD) ?_
            obtain ⟨gn, cn, w4, hrun, q1, q2, q3, q4⟩ := HH.out.append htf (Nat.le_trans hBw hB.size) hsh _ hdd D HD
            replace HH := hidk (HH.out.keep ((Below.refl _ _).alloc (Nat.le_refl _) (.cells D 30)))
            refine hK.out _ _ trivial (fun hHeld => ?_)
            clear hK K
            try simp only [Act.put, List.setIfInBounds_toArray, List.set_cons_zero, List.set_cons_succ]
            refine wpAnyH_ready (rs := [4]) (by kernel_rfl) (by simp) ?_
            refine (AllReadyH.cons (o := { dst := some 20, op := Op.call { callee := Callee.builtin Builtin.append, args := #[Operand.tmp 16, Operand.tmp 19], argTypes := #[26, 26] }, type := 26, pos := "tree.go:75", after := #[{ on := 0, ground := Ground.data }, { on := 3, ground := Ground.data }, { on := 2, ground := Ground.chain }], guard := none }) rfl (fun K hK => ?_) AllReadyH.nil)
            refine step_append_run rfl (.tmp 16) (.tmp 19) 26 26 rfl v2 _ _ w4 rfl rfl hrun ?_
            refine hK.out _ _ trivial (fun hHeld => ?_)
            clear hK K
            try simp only [Act.put, List.setIfInBounds_toArray, List.set_cons_zero, List.set_cons_succ]
            refine wpAnyH_ready (rs := [5]) (by kernel_rfl) (by simp) ?_
            refine (AllReadyH.cons (o := { dst := none, op := Op.store 26 (Operand.tmp 3) (Operand.tmp 20), type := 0, pos := "tree.go:75", after := #[{ on := 4, ground := Ground.data }, { on := 4, ground := Ground.chain }, { on := 0, ground := Ground.phase }, { on := 1, ground := Ground.phase }, { on := 2, ground := Ground.phase }, { on := 3, ground := Ground.phase }, { on := 4, ground := Ground.phase }], guard := none }) rfl (fun K hK => ?_) AllReadyH.nil)
            have hc := cell_of_one q1
            have hfz := free_of_one q1
            go_simp
            clear hc hfz
            refine hK.out _ _ trivial (fun hHeld => ?_)
            clear hK K
            try simp only [Act.put, List.setIfInBounds_toArray, List.set_cons_zero, List.set_cons_succ]
            refine wpAnyH_done (by kernel_rfl) ?_ _
            go_wp2
            first | go_end0 | (refine bodyPost_ret (results_none rfl _ _ _) rfl ?_)
            refine ⟨rfl, ⟨.slice (some ⟨gn, 0, none⟩) (acc2.length + 1) cn, ?_⟩, (hB.trans q4).setCell (by simpa using hp) _⟩
            rw [HE.out]
            exact Holds.put hne q1 q2 q3
          · refine step_build_run (by rfl) 26 1 _ rfl #[(0, .agg D)] rfl _ _ (build_one _ _ hdd D HD) ?_
            obtain ⟨gn, cn, w4, hrun, q1, q2, q3, q4⟩ := HH.out.append htf (Nat.le_trans hBw hB.size) hsh _ hdd D HD
            replace HH := hidk (HH.out.keep ((Below.refl _ _).alloc (Nat.le_refl _) (.cells D 30)))
            refine hK.out _ _ trivial (fun hHeld => ?_)
            clear hK K
            try simp only [Act.put, List.setIfInBounds_toArray, List.set_cons_zero, List.set_cons_succ]
            refine wpAnyH_ready (rs := [0]) (by kernel_rfl) (by simp) ?_
            refine (AllReadyH.cons (o := { dst := some 16, op := Op.load 26 (Operand.tmp 3), type := 26, pos := "tree.go:75", after := #[], guard := none }) rfl (fun K hK => ?_) AllReadyH.nil)
            have hc := cell_of_one HH.out.proof
            go_simp
            clear hc
            refine hK.out _ _ trivial (fun hHeld => ?_)
            clear hK K
            try simp only [Act.put, List.setIfInBounds_toArray, List.set_cons_zero, List.set_cons_succ]
            refine wpAnyH_ready (rs := [4]) (by kernel_rfl) (by simp) ?_
            refine (AllReadyH.cons (o := { dst := some 20, op := Op.call { callee := Callee.builtin Builtin.append, args := #[Operand.tmp 16, Operand.tmp 19], argTypes := #[26, 26] }, type := 26, pos := "tree.go:75", after := #[{ on := 0, ground := Ground.data }, { on := 3, ground := Ground.data }, { on := 2, ground := Ground.chain }], guard := none }) rfl (fun K hK => ?_) AllReadyH.nil)
            refine step_append_run rfl (.tmp 16) (.tmp 19) 26 26 rfl v2 _ _ w4 rfl rfl hrun ?_
            refine hK.out _ _ trivial (fun hHeld => ?_)
            clear hK K
            try simp only [Act.put, List.setIfInBounds_toArray, List.set_cons_zero, List.set_cons_succ]
            refine wpAnyH_ready (rs := [5]) (by kernel_rfl) (by simp) ?_
            refine (AllReadyH.cons (o := { dst := none, op := Op.store 26 (Operand.tmp 3) (Operand.tmp 20), type := 0, pos := "tree.go:75", after := #[{ on := 4, ground := Ground.data }, { on := 4, ground := Ground.chain }, { on := 0, ground := Ground.phase }, { on := 1, ground := Ground.phase }, { on := 2, ground := Ground.phase }, { on := 3, ground := Ground.phase }, { on := 4, ground := Ground.phase }], guard := none }) rfl (fun K hK => ?_) AllReadyH.nil)
            have hc := cell_of_one q1
            have hfz := free_of_one q1
            go_simp
            clear hc hfz
            refine hK.out _ _ trivial (fun hHeld => ?_)
            clear hK K
            try simp only [Act.put, List.setIfInBounds_toArray, List.set_cons_zero, List.set_cons_succ]
            refine wpAnyH_done (by kernel_rfl) ?_ _
            go_wp2
            first | go_end0 | (refine bodyPost_ret (results_none rfl _ _ _) rfl ?_)
            refine ⟨rfl, ⟨.slice (some ⟨gn, 0, none⟩) (acc2.length + 1) cn, ?_⟩, (hB.trans q4).setCell (by simpa using hp) _⟩
            rw [HE.out]
            exact Holds.put hne q1 q2 q3
      · rw [goes_known l m (by omega), List.append_nil]
        have HH : Hid (Holds B gp gf 89 (FC gp gf) v acc w) := hH
        subst hme
        clear hK hR ih hH hlen low
        go_enter Tryd.func43, Tryd.ntmps43
        go_wp2
        refine bodyPost_ret (results_none rfl _ _ _) rfl ?_
        exact ⟨rfl, ⟨_, HH.out⟩, Below.refl _ _⟩
    · have h2 : 2 ≤ len := by omega
      obtain ⟨k, hk⟩ : ∃ k, k = split len := ⟨_, rfl⟩
      have hkl := split_lt len h2
      have hkp := split_pos len h2
      rw [← hk] at hkl hkp
      have hcl := hR.2.2.1
      have hml := hR.2.2.2.1
      have P : Hid (∀ W, Calls Tryd.prog 41 #[.slice (some ⟨g, o, none⟩) len cap] W fun e w' => e = .returned (.tuple #[.slice (some ⟨g, o, none⟩) k cap, .slice (some ⟨g, o + 32 * k, none⟩) (len - k) (cap - k)]) ∧ Below W.heap.size W w') := fun W => parted_any g o len cap k W hk h2 hcl hml
      by_cases hik : m ≤ k
      · -- the left part
        have HE : Hid (acc ++ goes l m known = (acc ++ goes (l.take k) m known) ++ [root (l.drop k)]) := by
          show _ = _
          rw [goes_left l m known (by omega) (by omega) (by rw [hlen, ← hk]; exact hik), hlen, ← hk, List.append_assoc]
        have IH : Hid (∀ W v, Below B w W → Holds B gp gf 89 (FC gp gf) v acc W → Calls Tryd.prog 43 #[.slice (some ⟨g, o, none⟩) k cap, .int .i64 m, .bool known, .pointer (some ⟨gp, 0, none⟩), .pointer (some ⟨gf, 0, none⟩)] W fun e w' =>
            e = .returned (.tuple #[]) ∧ (∃ v', Holds B gp gf 89 (FC gp gf) v' (acc ++ goes (l.take k) m known) w') ∧ Below B W w') := fun W v hb hh => by
          exact ih k hkl g o k cap m known (l.take k) acc v W rfl ((hR.below hb low).take k (by omega)) hg (by omega) (by omega) (by omega) (Nat.le_trans hBw hb.size) hh (table_low hK hb hKB)
        obtain ⟨D, HD⟩ : ∃ D, Hid (D = (cellsOf (root (l.drop k))).toArray) := ⟨_, (rfl : (cellsOf (root (l.drop k))).toArray = _)⟩
        have hdd : (root (l.drop k)).length = 32 := root_length sumD_length _ (hR.2.1.drop k)
        have RR : Hid (∀ W, Below B w W → Calls Tryd.prog 42 #[.slice (some ⟨g, o + 32 * k, none⟩) (len - k) (cap - k)] W fun e w' => e = .returned (.agg D) ∧ Below W.heap.size W w') := fun W hb =>
          root_any _ _ _ _ (l.drop k) W rfl ((hR.below hb low).drop k (by omega)) (table_low hK hb hKB) D HD
        have hsh : (acc ++ goes (l.take k) m known).length + 1 ≤ 1000000 := by
          have := goes_len (l.take k) m known (by simp only [List.length_take, List.length_drop]; omega)
          simp only [List.length_append, List.length_take, List.length_drop] at this ⊢
          omega
        obtain ⟨acc2, HA2⟩ : ∃ x, Hid (x = acc ++ goes (l.take k) m known) := ⟨_, (rfl : acc ++ goes (l.take k) m known = _)⟩
        rw [← HA2.out] at HE hsh IH
        have HH0 : Hid (Holds B gp gf 89 (FC gp gf) v acc w) := hH
        have hde : (decide ((m : Int) = (len : Int))) = false := by rw [decide_eq_false_iff_not]; omega
        have hde2 : ((m : Int) == (len : Int)) = false := by rw [beq_eq_false_iff_ne]; omega
        have hdl : (decide ((m : Int) ≤ (k : Int))) = true := by rw [decide_eq_true_eq]; omega
        clear hK hR ih hH hlen hk HA2 low hac
        go_enter Tryd.func43, Tryd.ntmps43
        go_wp2_with fail
        refine (P.out _).mono ?_
        rintro e w1 ⟨rfl, hb1⟩
        have HH1 : Hid (Holds B gp gf 89 (FC gp gf) v acc w1) := HH0.out.keep hb1
        have hB1 : Below B w w1 := hb1.mono hBw
        have hcf : w1.cell? ⟨gf, 0, none⟩ = some (.func (.func 43) #[] #[.pointer (some ⟨gp, 0, none⟩), .pointer (some ⟨gf, 0, none⟩)]) := cell_of_one HH1.out.prove
        clear hb1 P HH0
        go_wp2_with fail
        refine (IH.out _ _ hB1 HH1.out).mono ?_
        rintro e w2 ⟨rfl, ⟨v2, hh2⟩, hb2⟩
        have HH : Hid (Holds B gp gf 89 (FC gp gf) v2 acc2 w2.drew) := hh2.drew
        have hB : Below B w w2.drew := (hB1.trans hb2).drew
        clear hb2 hh2 hB1 HH1 hcf IH
        go_wp2
        refine wp_region_held_drew (S := (fun _ => True)) (by kernel_rfl) trivial (fun hHeld => ?_)
        refine wpAnyH_take (i := 1) (oi := { dst := some 36, op := Op.move (Operand.tmp 9), type := 26, pos := "tree.go:82", after := #[], guard := none }) (v := .slice (some ⟨g, o + 32 * k, none⟩) (len - k) (cap - k)) rfl (by kernel_rfl) (by kernel_rfl) (by kernel_rfl) (fun _ _ _ h => h) (Or.inl ⟨by rfl, by intro W hSw; go_simp⟩) hHeld ?_
        try simp only [Act.put, List.setIfInBounds_toArray, List.set_cons_zero, List.set_cons_succ]
        refine wpAnyH_ready (rs := [0, 2]) (by kernel_rfl) (by simp) ?_
        refine (AllReadyH.cons (o := { dst := some 35, op := Op.load 26 (Operand.tmp 3), type := 26, pos := "tree.go:82", after := #[], guard := none }) rfl (fun K hK => ?_) (AllReadyH.cons (o := { dst := some 37, op := Op.call { callee := Callee.value (Operand.func 42), args := #[Operand.tmp 36], argTypes := #[26] }, type := 30, pos := "tree.go:82", after := #[{ on := 1, ground := Ground.data }], guard := none }) rfl (fun K hK => ?_) AllReadyH.nil))
        · have hc := cell_of_one HH.out.proof
          go_simp
          clear hc
          refine hK.out _ _ trivial (fun hHeld => ?_)
          clear hK K
          try simp only [Act.put, List.setIfInBounds_toArray, List.set_cons_zero, List.set_cons_succ]
          refine wpAnyH_ready (rs := [2]) (by kernel_rfl) (by simp) ?_
          refine (AllReadyH.cons (o := { dst := some 37, op := Op.call { callee := Callee.value (Operand.func 42), args := #[Operand.tmp 36], argTypes := #[26] }, type := 30, pos := "tree.go:82", after := #[{ on := 1, ground := Ground.data }], guard := none }) rfl (fun K hK => ?_) AllReadyH.nil)
          go_simp
          refine (RR.out _ hB).mono ?_
          rintro e w2 ⟨rfl, hb2⟩
          replace HH := hidk (HH.out.keep hb2)
          replace hB := hB.trans (hb2.mono (Nat.le_trans hBw hB.size))
          go_wp2_with fail
          refine hK.out _ _ trivial (fun hHeld => ?_)
          clear hK K
          try simp only [Act.put, List.setIfInBounds_toArray, List.set_cons_zero, List.set_cons_succ]
          refine wpAnyH_ready (rs := [3]) (by kernel_rfl) (by simp) ?_
          refine (AllReadyH.cons (o := { dst := some 38, op := Op.buildSlice 26 1 #[(0, Operand.tmp 37)], type := 26, pos := "tree.go:82", after := #[{ on := 2, ground := Ground.data }], guard := none }) rfl (fun K hK => ?_) AllReadyH.nil)
          refine step_build_run (by rfl) 26 1 _ rfl #[(0, .agg D)] rfl _ _ (build_one _ _ hdd D HD) ?_
          obtain ⟨gn, cn, w4, hrun, q1, q2, q3, q4⟩ := HH.out.append htf (Nat.le_trans hBw hB.size) hsh _ hdd D HD
          replace HH := hidk (HH.out.keep ((Below.refl _ _).alloc (Nat.le_refl _) (.cells D 30)))
          refine hK.out _ _ trivial (fun hHeld => ?_)
          clear hK K
          try simp only [Act.put, List.setIfInBounds_toArray, List.set_cons_zero, List.set_cons_succ]
          refine wpAnyH_ready (rs := [4]) (by kernel_rfl) (by simp) ?_
          refine (AllReadyH.cons (o := { dst := some 39, op := Op.call { callee := Callee.builtin Builtin.append, args := #[Operand.tmp 35, Operand.tmp 38], argTypes := #[26, 26] }, type := 26, pos := "tree.go:82", after := #[{ on := 0, ground := Ground.data }, { on := 3, ground := Ground.data }, { on := 2, ground := Ground.chain }], guard := none }) rfl (fun K hK => ?_) AllReadyH.nil)
          refine step_append_run rfl (.tmp 35) (.tmp 38) 26 26 rfl v2 _ _ w4 rfl rfl hrun ?_
          refine hK.out _ _ trivial (fun hHeld => ?_)
          clear hK K
          try simp only [Act.put, List.setIfInBounds_toArray, List.set_cons_zero, List.set_cons_succ]
          refine wpAnyH_ready (rs := [5]) (by kernel_rfl) (by simp) ?_
          refine (AllReadyH.cons (o := { dst := none, op := Op.store 26 (Operand.tmp 3) (Operand.tmp 39), type := 0, pos := "tree.go:82", after := #[{ on := 4, ground := Ground.data }, { on := 4, ground := Ground.chain }, { on := 0, ground := Ground.phase }, { on := 1, ground := Ground.phase }, { on := 2, ground := Ground.phase }, { on := 3, ground := Ground.phase }, { on := 4, ground := Ground.phase }], guard := none }) rfl (fun K hK => ?_) AllReadyH.nil)
          have hc := cell_of_one q1
          have hfz := free_of_one q1
          go_simp
          clear hc hfz
          refine hK.out _ _ trivial (fun hHeld => ?_)
          clear hK K
          try simp only [Act.put, List.setIfInBounds_toArray, List.set_cons_zero, List.set_cons_succ]
          refine wpAnyH_done (by kernel_rfl) ?_ _
          go_wp2
          first | go_end0 | (refine bodyPost_ret (results_none rfl _ _ _) rfl ?_)
          refine ⟨rfl, ⟨.slice (some ⟨gn, 0, none⟩) (acc2.length + 1) cn, ?_⟩, (hB.trans q4).setCell (by simpa using hp) _⟩
          rw [HE.out]
          exact Holds.put hne q1 q2 q3
        · go_simp
          refine (RR.out _ hB).mono ?_
          rintro e w2 ⟨rfl, hb2⟩
          replace HH := hidk (HH.out.keep hb2)
          replace hB := hB.trans (hb2.mono (Nat.le_trans hBw hB.size))
          go_wp2_with fail
          refine hK.out _ _ trivial (fun hHeld => ?_)
          clear hK K
          try simp only [Act.put, List.setIfInBounds_toArray, List.set_cons_zero, List.set_cons_succ]
          refine wpAnyH_ready (rs := [0, 3]) (by kernel_rfl) (by simp) ?_
          refine (AllReadyH.cons (o := { dst := some 35, op := Op.load 26 (Operand.tmp 3), type := 26, pos := "tree.go:82", after := #[], guard := none }) rfl (fun K hK => ?_) (AllReadyH.cons (o := { dst := some 38, op := Op.buildSlice 26 1 #[(0, Operand.tmp 37)], type := 26, pos := "tree.go:82", after := #[{ on := 2, ground := Ground.data }], guard := none }) rfl (fun K hK => ?_) AllReadyH.nil))
          · have hc := cell_of_one HH.out.proof
            go_simp
            clear hc
            refine hK.out _ _ trivial (fun hHeld => ?_)
            clear hK K
            try simp only [Act.put, List.setIfInBounds_toArray, List.set_cons_zero, List.set_cons_succ]
            refine wpAnyH_ready (rs := [3]) (by kernel_rfl) (by simp) ?_
            refine (AllReadyH.cons (o := { dst := some 38, op := Op.buildSlice 26 1 #[(0, Operand.tmp 37)], type := 26, pos := "tree.go:82", after := #[{ on := 2, ground := Ground.data }], guard := none }) rfl (fun K hK => ?_) AllReadyH.nil)
            refine step_build_run (by rfl) 26 1 _ rfl #[(0, .agg D)] rfl _ _ (build_one _ _ hdd D HD) ?_
            obtain ⟨gn, cn, w4, hrun, q1, q2, q3, q4⟩ := HH.out.append htf (Nat.le_trans hBw hB.size) hsh _ hdd D HD
            replace HH := hidk (HH.out.keep ((Below.refl _ _).alloc (Nat.le_refl _) (.cells D 30)))
            refine hK.out _ _ trivial (fun hHeld => ?_)
            clear hK K
            try simp only [Act.put, List.setIfInBounds_toArray, List.set_cons_zero, List.set_cons_succ]
            refine wpAnyH_ready (rs := [4]) (by kernel_rfl) (by simp) ?_
            refine (AllReadyH.cons (o := { dst := some 39, op := Op.call { callee := Callee.builtin Builtin.append, args := #[Operand.tmp 35, Operand.tmp 38], argTypes := #[26, 26] }, type := 26, pos := "tree.go:82", after := #[{ on := 0, ground := Ground.data }, { on := 3, ground := Ground.data }, { on := 2, ground := Ground.chain }], guard := none }) rfl (fun K hK => ?_) AllReadyH.nil)
            refine step_append_run rfl (.tmp 35) (.tmp 38) 26 26 rfl v2 _ _ w4 rfl rfl hrun ?_
            refine hK.out _ _ trivial (fun hHeld => ?_)
            clear hK K
            try simp only [Act.put, List.setIfInBounds_toArray, List.set_cons_zero, List.set_cons_succ]
            refine wpAnyH_ready (rs := [5]) (by kernel_rfl) (by simp) ?_
            refine (AllReadyH.cons (o := { dst := none, op := Op.store 26 (Operand.tmp 3) (Operand.tmp 39), type := 0, pos := "tree.go:82", after := #[{ on := 4, ground := Ground.data }, { on := 4, ground := Ground.chain }, { on := 0, ground := Ground.phase }, { on := 1, ground := Ground.phase }, { on := 2, ground := Ground.phase }, { on := 3, ground := Ground.phase }, { on := 4, ground := Ground.phase }], guard := none }) rfl (fun K hK => ?_) AllReadyH.nil)
            have hc := cell_of_one q1
            have hfz := free_of_one q1
            go_simp
            clear hc hfz
            refine hK.out _ _ trivial (fun hHeld => ?_)
            clear hK K
            try simp only [Act.put, List.setIfInBounds_toArray, List.set_cons_zero, List.set_cons_succ]
            refine wpAnyH_done (by kernel_rfl) ?_ _
            go_wp2
            first | go_end0 | (refine bodyPost_ret (results_none rfl _ _ _) rfl ?_)
            refine ⟨rfl, ⟨.slice (some ⟨gn, 0, none⟩) (acc2.length + 1) cn, ?_⟩, (hB.trans q4).setCell (by simpa using hp) _⟩
            rw [HE.out]
            exact Holds.put hne q1 q2 q3
          · refine step_build_run (by rfl) 26 1 _ rfl #[(0, .agg D)] rfl _ _ (build_one _ _ hdd D HD) ?_
            obtain ⟨gn, cn, w4, hrun, q1, q2, q3, q4⟩ := HH.out.append htf (Nat.le_trans hBw hB.size) hsh _ hdd D HD
            replace HH := hidk (HH.out.keep ((Below.refl _ _).alloc (Nat.le_refl _) (.cells D 30)))
            refine hK.out _ _ trivial (fun hHeld => ?_)
            clear hK K
            try simp only [Act.put, List.setIfInBounds_toArray, List.set_cons_zero, List.set_cons_succ]
            refine wpAnyH_ready (rs := [0]) (by kernel_rfl) (by simp) ?_
            refine (AllReadyH.cons (o := { dst := some 35, op := Op.load 26 (Operand.tmp 3), type := 26, pos := "tree.go:82", after := #[], guard := none }) rfl (fun K hK => ?_) AllReadyH.nil)
            have hc := cell_of_one HH.out.proof
            go_simp
            clear hc
            refine hK.out _ _ trivial (fun hHeld => ?_)
            clear hK K
            try simp only [Act.put, List.setIfInBounds_toArray, List.set_cons_zero, List.set_cons_succ]
            refine wpAnyH_ready (rs := [4]) (by kernel_rfl) (by simp) ?_
            refine (AllReadyH.cons (o := { dst := some 39, op := Op.call { callee := Callee.builtin Builtin.append, args := #[Operand.tmp 35, Operand.tmp 38], argTypes := #[26, 26] }, type := 26, pos := "tree.go:82", after := #[{ on := 0, ground := Ground.data }, { on := 3, ground := Ground.data }, { on := 2, ground := Ground.chain }], guard := none }) rfl (fun K hK => ?_) AllReadyH.nil)
            refine step_append_run rfl (.tmp 35) (.tmp 38) 26 26 rfl v2 _ _ w4 rfl rfl hrun ?_
            refine hK.out _ _ trivial (fun hHeld => ?_)
            clear hK K
            try simp only [Act.put, List.setIfInBounds_toArray, List.set_cons_zero, List.set_cons_succ]
            refine wpAnyH_ready (rs := [5]) (by kernel_rfl) (by simp) ?_
            refine (AllReadyH.cons (o := { dst := none, op := Op.store 26 (Operand.tmp 3) (Operand.tmp 39), type := 0, pos := "tree.go:82", after := #[{ on := 4, ground := Ground.data }, { on := 4, ground := Ground.chain }, { on := 0, ground := Ground.phase }, { on := 1, ground := Ground.phase }, { on := 2, ground := Ground.phase }, { on := 3, ground := Ground.phase }, { on := 4, ground := Ground.phase }], guard := none }) rfl (fun K hK => ?_) AllReadyH.nil)
            have hc := cell_of_one q1
            have hfz := free_of_one q1
            go_simp
            clear hc hfz
            refine hK.out _ _ trivial (fun hHeld => ?_)
            clear hK K
            try simp only [Act.put, List.setIfInBounds_toArray, List.set_cons_zero, List.set_cons_succ]
            refine wpAnyH_done (by kernel_rfl) ?_ _
            go_wp2
            first | go_end0 | (refine bodyPost_ret (results_none rfl _ _ _) rfl ?_)
            refine ⟨rfl, ⟨.slice (some ⟨gn, 0, none⟩) (acc2.length + 1) cn, ?_⟩, (hB.trans q4).setCell (by simpa using hp) _⟩
            rw [HE.out]
            exact Holds.put hne q1 q2 q3
      · -- the right part
        have HE : Hid (acc ++ goes l m known = (acc ++ goes (l.drop k) (m - k) false) ++ [root (l.take k)]) := by
          show _ = _
          rw [goes_right l m known (by omega) (by omega) (by rw [hlen, ← hk]; omega), hlen, ← hk, List.append_assoc]
        have IH : Hid (∀ W v, Below B w W → Holds B gp gf 89 (FC gp gf) v acc W → Calls Tryd.prog 43 #[.slice (some ⟨g, o + 32 * k, none⟩) (len - k) (cap - k), .int .i64 ((m : Int) - (k : Int)), .bool false, .pointer (some ⟨gp, 0, none⟩), .pointer (some ⟨gf, 0, none⟩)] W fun e w' =>
            e = .returned (.tuple #[]) ∧ (∃ v', Holds B gp gf 89 (FC gp gf) v' (acc ++ goes (l.drop k) (m - k) false) w') ∧ Below B W w') := fun W v hb hh => by
          rw [show ((m : Int) - (k : Int)) = ((m - k : Nat) : Int) by omega]
          exact ih (len - k) (by omega) g (o + 32 * k) (len - k) (cap - k) (m - k) false (l.drop k) acc v W rfl ((hR.below hb low).drop k (by omega)) hg (by omega) (by omega) (by omega) (Nat.le_trans hBw hb.size) hh (table_low hK hb hKB)
        obtain ⟨D, HD⟩ : ∃ D, Hid (D = (cellsOf (root (l.take k))).toArray) := ⟨_, (rfl : (cellsOf (root (l.take k))).toArray = _)⟩
        have hdd : (root (l.take k)).length = 32 := root_length sumD_length _ (hR.2.1.take k)
        have RR : Hid (∀ W, Below B w W → Calls Tryd.prog 42 #[.slice (some ⟨g, o, none⟩) k cap] W fun e w' => e = .returned (.agg D) ∧ Below W.heap.size W w') := fun W hb =>
          root_any _ _ _ _ (l.take k) W rfl ((hR.below hb low).take k (by omega)) (table_low hK hb hKB) D HD
        have hsh : (acc ++ goes (l.drop k) (m - k) false).length + 1 ≤ 1000000 := by
          have := goes_len (l.drop k) (m - k) false (by simp only [List.length_take, List.length_drop]; omega)
          simp only [List.length_append, List.length_take, List.length_drop] at this ⊢
          omega
        obtain ⟨acc2, HA2⟩ : ∃ x, Hid (x = acc ++ goes (l.drop k) (m - k) false) := ⟨_, (rfl : acc ++ goes (l.drop k) (m - k) false = _)⟩
        rw [← HA2.out] at HE hsh IH
        have HH0 : Hid (Holds B gp gf 89 (FC gp gf) v acc w) := hH
        have hw := wrap_int ((m : Int) - (k : Int)) (by omega) (by omega)
        have hde : (decide ((m : Int) = (len : Int))) = false := by rw [decide_eq_false_iff_not]; omega
        have hde2 : ((m : Int) == (len : Int)) = false := by rw [beq_eq_false_iff_ne]; omega
        have hdl : (decide ((m : Int) ≤ (k : Int))) = false := by rw [decide_eq_false_iff_not]; omega
        clear hK hR ih hH hlen hk HA2 low hac
        go_enter Tryd.func43, Tryd.ntmps43
        go_wp2_with fail
        refine (P.out _).mono ?_
        rintro e w1 ⟨rfl, hb1⟩
        have HH1 : Hid (Holds B gp gf 89 (FC gp gf) v acc w1) := HH0.out.keep hb1
        have hB1 : Below B w w1 := hb1.mono hBw
        have hcf : w1.cell? ⟨gf, 0, none⟩ = some (.func (.func 43) #[] #[.pointer (some ⟨gp, 0, none⟩), .pointer (some ⟨gf, 0, none⟩)]) := cell_of_one HH1.out.prove
        clear hb1 P HH0
        go_wp2_with fail
        refine (IH.out _ _ hB1 HH1.out).mono ?_
        rintro e w2 ⟨rfl, ⟨v2, hh2⟩, hb2⟩
        have HH : Hid (Holds B gp gf 89 (FC gp gf) v2 acc2 w2.drew) := hh2.drew
        have hB : Below B w w2.drew := (hB1.trans hb2).drew
        clear hb2 hh2 hB1 HH1 hcf IH
        go_wp2
        refine wp_region_held_drew (S := (fun _ => True)) (by kernel_rfl) trivial (fun hHeld => ?_)
        refine wpAnyH_take (i := 1) (oi := { dst := some 48, op := Op.move (Operand.tmp 8), type := 26, pos := "tree.go:86", after := #[], guard := none }) (v := .slice (some ⟨g, o, none⟩) k cap) rfl (by kernel_rfl) (by kernel_rfl) (by kernel_rfl) (fun _ _ _ h => h) (Or.inl ⟨by rfl, by intro W hSw; go_simp⟩) hHeld ?_
        try simp only [Act.put, List.setIfInBounds_toArray, List.set_cons_zero, List.set_cons_succ]
        refine wpAnyH_ready (rs := [0, 2]) (by kernel_rfl) (by simp) ?_
        refine (AllReadyH.cons (o := { dst := some 47, op := Op.load 26 (Operand.tmp 3), type := 26, pos := "tree.go:86", after := #[], guard := none }) rfl (fun K hK => ?_) (AllReadyH.cons (o := { dst := some 49, op := Op.call { callee := Callee.value (Operand.func 42), args := #[Operand.tmp 48], argTypes := #[26] }, type := 30, pos := "tree.go:86", after := #[{ on := 1, ground := Ground.data }], guard := none }) rfl (fun K hK => ?_) AllReadyH.nil))
        · have hc := cell_of_one HH.out.proof
          go_simp
          clear hc
          refine hK.out _ _ trivial (fun hHeld => ?_)
          clear hK K
          try simp only [Act.put, List.setIfInBounds_toArray, List.set_cons_zero, List.set_cons_succ]
          refine wpAnyH_ready (rs := [2]) (by kernel_rfl) (by simp) ?_
          refine (AllReadyH.cons (o := { dst := some 49, op := Op.call { callee := Callee.value (Operand.func 42), args := #[Operand.tmp 48], argTypes := #[26] }, type := 30, pos := "tree.go:86", after := #[{ on := 1, ground := Ground.data }], guard := none }) rfl (fun K hK => ?_) AllReadyH.nil)
          go_simp
          refine (RR.out _ hB).mono ?_
          rintro e w2 ⟨rfl, hb2⟩
          replace HH := hidk (HH.out.keep hb2)
          replace hB := hB.trans (hb2.mono (Nat.le_trans hBw hB.size))
          go_wp2_with fail
          refine hK.out _ _ trivial (fun hHeld => ?_)
          clear hK K
          try simp only [Act.put, List.setIfInBounds_toArray, List.set_cons_zero, List.set_cons_succ]
          refine wpAnyH_ready (rs := [3]) (by kernel_rfl) (by simp) ?_
          refine (AllReadyH.cons (o := { dst := some 50, op := Op.buildSlice 26 1 #[(0, Operand.tmp 49)], type := 26, pos := "tree.go:86", after := #[{ on := 2, ground := Ground.data }], guard := none }) rfl (fun K hK => ?_) AllReadyH.nil)
          refine step_build_run (by rfl) 26 1 _ rfl #[(0, .agg D)] rfl _ _ (build_one _ _ hdd D HD) ?_
          obtain ⟨gn, cn, w4, hrun, q1, q2, q3, q4⟩ := HH.out.append htf (Nat.le_trans hBw hB.size) hsh _ hdd D HD
          replace HH := hidk (HH.out.keep ((Below.refl _ _).alloc (Nat.le_refl _) (.cells D 30)))
          refine hK.out _ _ trivial (fun hHeld => ?_)
          clear hK K
          try simp only [Act.put, List.setIfInBounds_toArray, List.set_cons_zero, List.set_cons_succ]
          refine wpAnyH_ready (rs := [4]) (by kernel_rfl) (by simp) ?_
          refine (AllReadyH.cons (o := { dst := some 51, op := Op.call { callee := Callee.builtin Builtin.append, args := #[Operand.tmp 47, Operand.tmp 50], argTypes := #[26, 26] }, type := 26, pos := "tree.go:86", after := #[{ on := 0, ground := Ground.data }, { on := 3, ground := Ground.data }, { on := 2, ground := Ground.chain }], guard := none }) rfl (fun K hK => ?_) AllReadyH.nil)
          refine step_append_run rfl (.tmp 47) (.tmp 50) 26 26 rfl v2 _ _ w4 rfl rfl hrun ?_
          refine hK.out _ _ trivial (fun hHeld => ?_)
          clear hK K
          try simp only [Act.put, List.setIfInBounds_toArray, List.set_cons_zero, List.set_cons_succ]
          refine wpAnyH_ready (rs := [5]) (by kernel_rfl) (by simp) ?_
          refine (AllReadyH.cons (o := { dst := none, op := Op.store 26 (Operand.tmp 3) (Operand.tmp 51), type := 0, pos := "tree.go:86", after := #[{ on := 4, ground := Ground.data }, { on := 4, ground := Ground.chain }, { on := 0, ground := Ground.phase }, { on := 1, ground := Ground.phase }, { on := 2, ground := Ground.phase }, { on := 3, ground := Ground.phase }, { on := 4, ground := Ground.phase }], guard := none }) rfl (fun K hK => ?_) AllReadyH.nil)
          have hc := cell_of_one q1
          have hfz := free_of_one q1
          go_simp
          clear hc hfz
          refine hK.out _ _ trivial (fun hHeld => ?_)
          clear hK K
          try simp only [Act.put, List.setIfInBounds_toArray, List.set_cons_zero, List.set_cons_succ]
          refine wpAnyH_done (by kernel_rfl) ?_ _
          go_wp2
          first | go_end0 | (refine bodyPost_ret (results_none rfl _ _ _) rfl ?_)
          refine ⟨rfl, ⟨.slice (some ⟨gn, 0, none⟩) (acc2.length + 1) cn, ?_⟩, (hB.trans q4).setCell (by simpa using hp) _⟩
          rw [HE.out]
          exact Holds.put hne q1 q2 q3
        · go_simp
          refine (RR.out _ hB).mono ?_
          rintro e w2 ⟨rfl, hb2⟩
          replace HH := hidk (HH.out.keep hb2)
          replace hB := hB.trans (hb2.mono (Nat.le_trans hBw hB.size))
          go_wp2_with fail
          refine hK.out _ _ trivial (fun hHeld => ?_)
          clear hK K
          try simp only [Act.put, List.setIfInBounds_toArray, List.set_cons_zero, List.set_cons_succ]
          refine wpAnyH_ready (rs := [0, 3]) (by kernel_rfl) (by simp) ?_
          refine (AllReadyH.cons (o := { dst := some 47, op := Op.load 26 (Operand.tmp 3), type := 26, pos := "tree.go:86", after := #[], guard := none }) rfl (fun K hK => ?_) (AllReadyH.cons (o := { dst := some 50, op := Op.buildSlice 26 1 #[(0, Operand.tmp 49)], type := 26, pos := "tree.go:86", after := #[{ on := 2, ground := Ground.data }], guard := none }) rfl (fun K hK => ?_) AllReadyH.nil))
          · have hc := cell_of_one HH.out.proof
            go_simp
            clear hc
            refine hK.out _ _ trivial (fun hHeld => ?_)
            clear hK K
            try simp only [Act.put, List.setIfInBounds_toArray, List.set_cons_zero, List.set_cons_succ]
            refine wpAnyH_ready (rs := [3]) (by kernel_rfl) (by simp) ?_
            refine (AllReadyH.cons (o := { dst := some 50, op := Op.buildSlice 26 1 #[(0, Operand.tmp 49)], type := 26, pos := "tree.go:86", after := #[{ on := 2, ground := Ground.data }], guard := none }) rfl (fun K hK => ?_) AllReadyH.nil)
            refine step_build_run (by rfl) 26 1 _ rfl #[(0, .agg D)] rfl _ _ (build_one _ _ hdd D HD) ?_
            obtain ⟨gn, cn, w4, hrun, q1, q2, q3, q4⟩ := HH.out.append htf (Nat.le_trans hBw hB.size) hsh _ hdd D HD
            replace HH := hidk (HH.out.keep ((Below.refl _ _).alloc (Nat.le_refl _) (.cells D 30)))
            refine hK.out _ _ trivial (fun hHeld => ?_)
            clear hK K
            try simp only [Act.put, List.setIfInBounds_toArray, List.set_cons_zero, List.set_cons_succ]
            refine wpAnyH_ready (rs := [4]) (by kernel_rfl) (by simp) ?_
            refine (AllReadyH.cons (o := { dst := some 51, op := Op.call { callee := Callee.builtin Builtin.append, args := #[Operand.tmp 47, Operand.tmp 50], argTypes := #[26, 26] }, type := 26, pos := "tree.go:86", after := #[{ on := 0, ground := Ground.data }, { on := 3, ground := Ground.data }, { on := 2, ground := Ground.chain }], guard := none }) rfl (fun K hK => ?_) AllReadyH.nil)
            refine step_append_run rfl (.tmp 47) (.tmp 50) 26 26 rfl v2 _ _ w4 rfl rfl hrun ?_
            refine hK.out _ _ trivial (fun hHeld => ?_)
            clear hK K
            try simp only [Act.put, List.setIfInBounds_toArray, List.set_cons_zero, List.set_cons_succ]
            refine wpAnyH_ready (rs := [5]) (by kernel_rfl) (by simp) ?_
            refine (AllReadyH.cons (o := { dst := none, op := Op.store 26 (Operand.tmp 3) (Operand.tmp 51), type := 0, pos := "tree.go:86", after := #[{ on := 4, ground := Ground.data }, { on := 4, ground := Ground.chain }, { on := 0, ground := Ground.phase }, { on := 1, ground := Ground.phase }, { on := 2, ground := Ground.phase }, { on := 3, ground := Ground.phase }, { on := 4, ground := Ground.phase }], guard := none }) rfl (fun K hK => ?_) AllReadyH.nil)
            have hc := cell_of_one q1
            have hfz := free_of_one q1
            go_simp
            clear hc hfz
            refine hK.out _ _ trivial (fun hHeld => ?_)
            clear hK K
            try simp only [Act.put, List.setIfInBounds_toArray, List.set_cons_zero, List.set_cons_succ]
            refine wpAnyH_done (by kernel_rfl) ?_ _
            go_wp2
            first | go_end0 | (refine bodyPost_ret (results_none rfl _ _ _) rfl ?_)
            refine ⟨rfl, ⟨.slice (some ⟨gn, 0, none⟩) (acc2.length + 1) cn, ?_⟩, (hB.trans q4).setCell (by simpa using hp) _⟩
            rw [HE.out]
            exact Holds.put hne q1 q2 q3
          · refine step_build_run (by rfl) 26 1 _ rfl #[(0, .agg D)] rfl _ _ (build_one _ _ hdd D HD) ?_
            obtain ⟨gn, cn, w4, hrun, q1, q2, q3, q4⟩ := HH.out.append htf (Nat.le_trans hBw hB.size) hsh _ hdd D HD
            replace HH := hidk (HH.out.keep ((Below.refl _ _).alloc (Nat.le_refl _) (.cells D 30)))
            refine hK.out _ _ trivial (fun hHeld => ?_)
            clear hK K
            try simp only [Act.put, List.setIfInBounds_toArray, List.set_cons_zero, List.set_cons_succ]
            refine wpAnyH_ready (rs := [0]) (by kernel_rfl) (by simp) ?_
            refine (AllReadyH.cons (o := { dst := some 47, op := Op.load 26 (Operand.tmp 3), type := 26, pos := "tree.go:86", after := #[], guard := none }) rfl (fun K hK => ?_) AllReadyH.nil)
            have hc := cell_of_one HH.out.proof
            go_simp
            clear hc
            refine hK.out _ _ trivial (fun hHeld => ?_)
            clear hK K
            try simp only [Act.put, List.setIfInBounds_toArray, List.set_cons_zero, List.set_cons_succ]
            refine wpAnyH_ready (rs := [4]) (by kernel_rfl) (by simp) ?_
            refine (AllReadyH.cons (o := { dst := some 51, op := Op.call { callee := Callee.builtin Builtin.append, args := #[Operand.tmp 47, Operand.tmp 50], argTypes := #[26, 26] }, type := 26, pos := "tree.go:86", after := #[{ on := 0, ground := Ground.data }, { on := 3, ground := Ground.data }, { on := 2, ground := Ground.chain }], guard := none }) rfl (fun K hK => ?_) AllReadyH.nil)
            refine step_append_run rfl (.tmp 47) (.tmp 50) 26 26 rfl v2 _ _ w4 rfl rfl hrun ?_
            refine hK.out _ _ trivial (fun hHeld => ?_)
            clear hK K
            try simp only [Act.put, List.setIfInBounds_toArray, List.set_cons_zero, List.set_cons_succ]
            refine wpAnyH_ready (rs := [5]) (by kernel_rfl) (by simp) ?_
            refine (AllReadyH.cons (o := { dst := none, op := Op.store 26 (Operand.tmp 3) (Operand.tmp 51), type := 0, pos := "tree.go:86", after := #[{ on := 4, ground := Ground.data }, { on := 4, ground := Ground.chain }, { on := 0, ground := Ground.phase }, { on := 1, ground := Ground.phase }, { on := 2, ground := Ground.phase }, { on := 3, ground := Ground.phase }, { on := 4, ground := Ground.phase }], guard := none }) rfl (fun K hK => ?_) AllReadyH.nil)
            have hc := cell_of_one q1
            have hfz := free_of_one q1
            go_simp
            clear hc hfz
            refine hK.out _ _ trivial (fun hHeld => ?_)
            clear hK K
            try simp only [Act.put, List.setIfInBounds_toArray, List.set_cons_zero, List.set_cons_succ]
            refine wpAnyH_done (by kernel_rfl) ?_ _
            go_wp2
            first | go_end0 | (refine bodyPost_ret (results_none rfl _ _ _) rfl ?_)
            refine ⟨rfl, ⟨.slice (some ⟨gn, 0, none⟩) (acc2.length + 1) cn, ?_⟩, (hB.trans q4).setCell (by simpa using hp) _⟩
            rw [HE.out]
            exact Holds.put hne q1 q2 q3
set_option maxHeartbeats 1000000 in
theorem consistency_none (a : Option Addr) (len cap : Nat) (w : World) :
    Calls Tryd.prog 13 #[.slice a len cap, .int .i64 0] w fun e w' => e = .returned (.tuple #[.slice none 0 0, .int .i64 0]) ∧ Below w.heap.size w w' := by
  have hd2 : decide ((len : Int) < 0) = false := by rw [decide_eq_false_iff_not]; omega
  go_enter Tryd.func13, Tryd.ntmps13
  go_wp2
  go_ret2
  exact ⟨rfl, Below.refl _ _⟩
set_option maxHeartbeats 1000000 in
theorem consistency_in (a : Option Addr) (len cap : Nat) (l : List (List UInt8)) (m : Nat) (w : World) (hR : LReads w a len cap l) (hm1 : 1 ≤ m) (hm : m ≤ len) (hl : len ≤ 100000) (hK : Table 0 w) :
    Calls Tryd.prog 13 #[.slice a len cap, .int .i64 m] w fun e w' => ∃ v, e = .returned (.tuple #[v, .int .i64 0]) ∧ w'.ownsRow w.heap.size 30 32 v (goes l m true).length (cellsOf (goes l m true).flatten) ∧ Below w.heap.size w w' := by
  obtain ⟨g, o, rfl, hg⟩ := hR.at (by omega)
  have hd : decide ((m : Int) < 0) = false := by rw [decide_eq_false_iff_not]; omega
  have hd2 : decide ((len : Int) < (m : Int)) = false := by rw [decide_eq_false_iff_not]; omega
  have hd3 : decide (len < m) = false := by rw [decide_eq_false_iff_not]; omega
  have hd4 : ((m : Int) == 0) = false := by rw [beq_eq_false_iff_ne]; omega
  have hd5 : decide ((m : Int) = 0) = false := by rw [decide_eq_false_iff_not]; omega
  have hd6 : m ≠ 0 := by omega
  have hK0 := hK.1
  have PV : Hid (∀ W, Below w.heap.size w W → Holds w.heap.size w.heap.size (w.heap.size + 1) 89 (FC w.heap.size (w.heap.size + 1)) (.slice none 0 0) [] W →
      Calls Tryd.prog 43 #[.slice (some ⟨g, o, none⟩) len cap, .int .i64 m, .bool true, .pointer (some ⟨w.heap.size, 0, none⟩), .pointer (some ⟨w.heap.size + 1, 0, none⟩)] W fun e w' =>
      e = .returned (.tuple #[]) ∧ (∃ v', Holds w.heap.size w.heap.size (w.heap.size + 1) 89 (FC w.heap.size (w.heap.size + 1)) v' (goes l m true) w') ∧ Below w.heap.size W w') := fun W hb hh =>
    proveC_any len g o len cap m true l [] w.heap.size w.heap.size (w.heap.size + 1) _ W rfl (hR.keep hb) hg hm1 hm (Nat.le_refl _) (by omega) (by simp; omega) hb.size hh (hK.keep hb) hK0
  have HS : Hid (Holds w.heap.size w.heap.size (w.heap.size + 1) 89 (FC w.heap.size (w.heap.size + 1)) (.slice none 0 0) [] ((w.alloc (.cells #[.slice none 0 0] 26)).alloc (.cells #[FC w.heap.size (w.heap.size + 1)] 89))) :=
    ⟨heap_alloc2_old w _ _, heap_alloc2_new w _ _, World.ownsRow_nil _ _ _ _⟩
  have HB : Hid (Below w.heap.size w ((w.alloc (.cells #[.slice none 0 0] 26)).alloc (.cells #[FC w.heap.size (w.heap.size + 1)] 89))) := ((Below.refl _ _).alloc (Nat.le_refl _) _).alloc (by simp) _
  clear hK hR
  go_enter Tryd.func13, Tryd.ntmps13
  go_wp2_with fail
  refine (PV.out _ HB.out HS.out).mono ?_
  rintro e w2 ⟨rfl, ⟨v, hh⟩, hb2⟩
  have hcv := cell_of_one hh.proof
  have HO : Hid (w2.ownsRow w.heap.size 30 32 v (goes l m true).length (cellsOf (goes l m true).flatten) ∧ Below w.heap.size w w2) := ⟨hh.own, HB.out.trans hb2⟩
  clear hh hb2 PV HS HB
  go_wp2
  go_ret2
  exact ⟨v, rfl, HO.out⟩
end Go.Proofs.YtdnhnjimhbbababDoor

/- What the tree tells is found, as the document says; the tree's calls, as lists. -/
namespace Go.Proofs.YtdnhnjimhbbababDoor
open Go.RowKit Sums
set_option maxRecDepth 100000
set_option linter.unusedVariables false
set_option linter.unusedSimpArgs false
def goesW (l : List (List UInt8)) (m : Nat) : List (List UInt8) := if m = 0 then [] else goes l m true
theorem inc_finds (l : List (List UInt8)) (i : Nat) (hi : i < l.length) (hl : l.length ≤ 100000) : incE (root l) (l.length : Nat) i l[i] (incl l i) = 0 := by
  rw [incE_in (root l) l.length i l[i] (incl l i) (by omega) hl hi, mkR_incl l.length l i rfl hi]
  simp
theorem con_finds (l : List (List UInt8)) (i : Nat) (hi : i ≤ l.length) (hl : l.length ≤ 100000) : conE i (root (l.take i)) (l.length : Nat) (root l) (goesW l i) = 0 := by
  unfold goesW
  by_cases h0 : i = 0
  · subst h0
    rw [if_pos rfl]
    show conE 0 _ _ _ [] = 0
    rw [conE_none _ _ _ _ (by omega), if_pos rfl, if_pos]
    refine ⟨by rw [root_none _ (by simp)], fun e => ?_⟩
    rw [root_none l (by omega), root_none _ (by simp)]
  · rw [if_neg h0, conE_in i _ l.length _ _ (by omega) hi hl, bothR_goes l.length l i true _ rfl (by omega) hi (fun _ => rfl)]
    simp
theorem incl_call (a : Option Addr) (len cap : Nat) (l : List (List UInt8)) (i : Nat) (w : World) (hR : LReads w a len cap l) (hi : i < len) (hl : len ≤ 100000) (hK : Table 0 w) :
    Calls Tryd.prog 12 #[.slice a len cap, .int .i64 i] w fun e w' => ∃ x cx, e = .returned (.tuple #[.slice x (incl l i).length cx, .int .i64 0]) ∧ LReads w' x (incl l i).length cx (incl l i) ∧ Below w.heap.size w w' := by
  refine (inclusion_in a len cap l i w hR hi hl hK).mono ?_
  rintro e w' ⟨v, rfl, ho, hb⟩
  obtain ⟨x, cx, rfl, hx, _⟩ := LReads.own ho (incl_digs sumD_length _ l i rfl hR.2.1)
  exact ⟨x, cx, rfl, hx, hb⟩
theorem goes_call (a : Option Addr) (len cap : Nat) (l : List (List UInt8)) (m : Nat) (w : World) (hR : LReads w a len cap l) (hm : m ≤ len) (hl : len ≤ 100000) (hK : Table 0 w) :
    Calls Tryd.prog 13 #[.slice a len cap, .int .i64 m] w fun e w' => ∃ x cx, e = .returned (.tuple #[.slice x (goesW l m).length cx, .int .i64 0]) ∧ LReads w' x (goesW l m).length cx (goesW l m) ∧ Below w.heap.size w w' := by
  by_cases h0 : m = 0
  · subst h0
    refine (consistency_none a len cap w).mono ?_
    rintro e w' ⟨rfl, hb⟩
    exact ⟨none, 0, rfl, ⟨rfl, (fun d hd => by cases hd), Nat.le_refl _, Nat.zero_le _, .inl rfl⟩, hb⟩
  · have hg : goesW l m = goes l m true := by unfold goesW; rw [if_neg h0]
    rw [hg]
    refine (consistency_in a len cap l m w hR (by omega) hm hl hK).mono ?_
    rintro e w' ⟨v, rfl, ho, hb⟩
    obtain ⟨x, cx, rfl, hx, _⟩ := LReads.own ho (goes_digs sumD_length _ l m true rfl hR.2.1)
    exact ⟨x, cx, rfl, hx, hb⟩
end Go.Proofs.YtdnhnjimhbbababDoor

/- Plain arithmetic on numbers as bytes, the highest first: no program is named here. -/
namespace Go.Proofs.YtdnhnjimhbbababDoor.Nums
set_option maxRecDepth 100000
/-- The last k bytes of N, the highest first. -/
def be : Nat → Nat → List UInt8
  | 0, _ => []
  | k + 1, N => UInt8.ofNat (N / 256 ^ k % 256) :: be k N
/-- The number that bytes tell, the highest first. -/
def val (l : List UInt8) : Nat := l.foldl (fun a b => 256 * a + b.toNat) 0
/-- How many bytes N needs. -/
def nb (N : Nat) : Nat := (Lib.bitLen N + 7) / 8
/-- k bytes are the fewest that do for N. -/
def Fits (k N : Nat) : Prop := N < 256 ^ k ∧ (k = 0 ∨ 256 ^ (k - 1) ≤ N)
theorem be_length : ∀ k N, (be k N).length = k
  | 0, _ => rfl
  | k + 1, N => by simp [be, be_length k N]
theorem val_snoc (l : List UInt8) (b : UInt8) : val (l ++ [b]) = 256 * val l + b.toNat := by simp [val]
theorem foldl_val : ∀ (l : List UInt8) (a : Nat), l.foldl (fun a b => 256 * a + b.toNat) a = a * 256 ^ l.length + val l
  | [], a => by simp [val]
  | b :: l, a => by
    have h1 := foldl_val l (256 * a + b.toNat)
    have h2 := foldl_val l (256 * 0 + b.toNat)
    simp only [val, List.foldl_cons, List.length_cons] at h1 h2 ⊢
    rw [h1, h2, Nat.pow_succ, Nat.add_mul, Nat.mul_comm 256 a, Nat.mul_assoc, Nat.mul_comm 256 (256 ^ l.length)]
    simp only [Nat.mul_zero, Nat.zero_add]
    omega
theorem val_cons (b : UInt8) (l : List UInt8) : val (b :: l) = b.toNat * 256 ^ l.length + val l := by
  have := foldl_val l (256 * 0 + b.toNat)
  simp only [val, List.foldl_cons] at this ⊢
  rw [this]; simp
theorem val_lt : ∀ l : List UInt8, val l < 256 ^ l.length
  | [] => by simp [val]
  | b :: l => by
    rw [val_cons, List.length_cons, Nat.pow_succ, Nat.mul_comm (256 ^ l.length) 256]
    have h := val_lt l
    have hb : b.toNat ≤ 255 := by have := b.toNat_lt; omega
    have := Nat.mul_le_mul_right (256 ^ l.length) hb
    omega
theorem val_be : ∀ k N, val (be k N) = N % 256 ^ k
  | 0, N => by simp [be, val, Nat.mod_one]
  | k + 1, N => by
    rw [be, val_cons, be_length, val_be k N, Nat.pow_succ, Nat.mod_mul]
    have : (UInt8.ofNat (N / 256 ^ k % 256)).toNat = N / 256 ^ k % 256 := by
      rw [UInt8.toNat_ofNat']; omega
    rw [this, Nat.mul_comm (N / 256 ^ k % 256)]; omega
theorem be_val : ∀ l : List UInt8, be l.length (val l) = l
  | [] => rfl
  | b :: l => by
    have hp : 0 < 256 ^ l.length := Nat.pow_pos (by decide)
    have hl := val_lt l
    have hb : b.toNat < 256 := b.toNat_lt
    have hd : val (b :: l) / 256 ^ l.length = b.toNat := by
      rw [val_cons, Nat.mul_comm, Nat.mul_add_div hp, Nat.div_eq_of_lt hl]; rfl
    have hbe : ∀ k M, k ≤ l.length → be k (M * 256 ^ l.length + val l) = be k (val l) := by
      intro k M hk
      induction k with
      | zero => rfl
      | succ k ih =>
        rw [be, be, ih (by omega)]
        have hk0 : 0 < 256 ^ k := Nat.pow_pos (by decide)
        have e : M * 256 ^ l.length = 256 ^ k * (256 * (M * 256 ^ (l.length - k - 1))) := by
          have : 256 ^ l.length = 256 ^ k * (256 * 256 ^ (l.length - k - 1)) := by
            rw [← Nat.pow_succ', ← Nat.pow_add]; congr 1; omega
          rw [this]; ac_rfl
        rw [e, Nat.mul_add_div hk0, Nat.mul_add_mod]
    rw [List.length_cons, be, hd, val_cons, hbe l.length b.toNat (Nat.le_refl _), be_val l]
    rw [Nat.mod_eq_of_lt hb, UInt8.ofNat_toNat]
theorem fits_unique {a b N : Nat} (ha : Fits a N) (hb : Fits b N) : a = b := by
  have key : ∀ {a b : Nat}, Fits a N → Fits b N → ¬ a < b := by
    intro a b ha hb h
    rcases hb.2 with h0 | h0
    · omega
    · have := Nat.pow_le_pow_right (show 0 < 256 by decide) (show a ≤ b - 1 by omega)
      have := ha.1
      omega
  have := key ha hb
  have := key hb ha
  omega
theorem bitLenAux_bounds : ∀ f x, x < 2 ^ f → x < 2 ^ Lib.bitLenAux f x ∧ (x ≠ 0 → 2 ^ (Lib.bitLenAux f x - 1) ≤ x ∧ 0 < Lib.bitLenAux f x) ∧ Lib.bitLenAux f x ≤ f
  | 0, x, h => by simp at h; subst h; simp [Lib.bitLenAux]
  | f + 1, x, h => by
    rw [Lib.bitLenAux]
    by_cases hx : x = 0
    · simp [hx]
    · rw [if_neg hx]
      have hh : x / 2 < 2 ^ f := by rw [Nat.pow_succ] at h; omega
      obtain ⟨h1, h2, h3⟩ := bitLenAux_bounds f (x / 2) hh
      refine ⟨?_, fun _ => ⟨?_, by omega⟩, by omega⟩
      · rw [Nat.add_comm, Nat.pow_succ]; omega
      · rw [Nat.add_sub_cancel_left]
        by_cases hz : x / 2 = 0
        · have : Lib.bitLenAux f (x / 2) = 0 := by
            rw [hz]; cases f <;> simp [Lib.bitLenAux]
          rw [this]; simp; omega
        · obtain ⟨h4, h5⟩ := h2 hz
          have : Lib.bitLenAux f (x / 2) = Lib.bitLenAux f (x / 2) - 1 + 1 := by omega
          rw [this, Nat.pow_succ]; omega
theorem fits_nb (N : Nat) (h : N < 2 ^ 64) : Fits (nb N) N := by
  obtain ⟨h1, h2, _⟩ := bitLenAux_bounds 64 N h
  change N < 2 ^ Lib.bitLen N at h1
  change N ≠ 0 → 2 ^ (Lib.bitLen N - 1) ≤ N ∧ 0 < Lib.bitLen N at h2
  have e : ∀ k, 256 ^ k = 2 ^ (8 * k) := fun k => by rw [Nat.pow_mul]
  unfold Fits nb
  rw [e, e]
  refine ⟨Nat.lt_of_lt_of_le h1 (Nat.pow_le_pow_right (by decide) (by omega)), ?_⟩
  by_cases hz : N = 0
  · left; subst hz; decide
  · obtain ⟨h3, h4⟩ := h2 hz
    right
    exact Nat.le_trans (Nat.pow_le_pow_right (by decide) (by omega)) h3
theorem nb_le (N : Nat) (h : N < 2 ^ 64) : nb N ≤ 8 := by
  obtain ⟨_, _, h3⟩ := bitLenAux_bounds 64 N h
  change Lib.bitLen N ≤ 64 at h3
  unfold nb; omega
/-- The bytes of the number N. -/
def num (N : Nat) : List UInt8 := be (nb N) N
theorem num_of_fits {k N : Nat} (h : N < 2 ^ 64) (hk : Fits k N) : be k N = num N := by
  rw [num, fits_unique hk (fits_nb N h)]
theorem val_num (N : Nat) (h : N < 2 ^ 64) : val (num N) = N := by
  rw [num, val_be, Nat.mod_eq_of_lt (fits_nb N h).1]
theorem num_length (N : Nat) : (num N).length = nb N := be_length _ _
end Go.Proofs.YtdnhnjimhbbababDoor.Nums

/- Rows, fields and numbers as bytes, as plain functions: what is laid, what is read, and back. No program is spoken of. -/
namespace Go.Proofs.YtdnhnjimhbbababDoor.P7
open Go.RowKit Nums
set_option maxRecDepth 100000
set_option linter.unusedVariables false
/-- Are these bytes a number's? -/
def isNum (l : List UInt8) : Bool := decide (l.length ≤ 8 ∧ l[0]? ≠ some 0 ∧ val l < 4611686018427387904)
def vOf (l : List UInt8) : Int := if isNum l then val l else 0
def eOf (l : List UInt8) : Int := if isNum l then 0 else 11
/-- What Number answers. -/
def nOf (n : Int) : ByteArray := if 0 ≤ n ∧ n ≤ 4611686018427387903 then ⟨(num n.toNat).toArray⟩ else ByteArray.empty
def neOf (n : Int) : Int := if 0 ≤ n ∧ n ≤ 4611686018427387903 then 0 else 1
theorem v_yes {l : List UInt8} (h : isNum l = true) : vOf l = val l ∧ eOf l = 0 := by simp [vOf, eOf, h]
theorem v_no {l : List UInt8} (h : isNum l = false) : vOf l = 0 ∧ eOf l = 11 := by simp [vOf, eOf, h]
/-- A field's bytes: its tag, how many bytes its data has (three bytes), and these. -/
def fieldBytes (tag : Nat) (d : List UInt8) : List UInt8 :=
  UInt8.ofNat (tag % 256) :: UInt8.ofNat (d.length / 65536 % 256) :: UInt8.ofNat (d.length / 256 % 256) :: UInt8.ofNat (d.length % 256) :: d
def faultOf (last tag : Int) (size : Nat) : Int := if tag ≤ last ∨ 255 < tag then 1 else if 65536 < size then 2 else 0
theorem byte_mod (n : Nat) : ((UInt8.ofNat (n % 256)).toNat : Int) = (n : Int) % 256 := by rw [UInt8.toNat_ofNat']; omega
theorem fieldBytes_length (tag : Nat) (l : List UInt8) : (fieldBytes tag l).length = 4 + l.length := by simp [fieldBytes]; omega
def fieldBytesI (tag : Int) (d : List UInt8) : List UInt8 :=
  UInt8.ofNat (tag % 256).toNat :: UInt8.ofNat (d.length / 65536 % 256) :: UInt8.ofNat (d.length / 256 % 256) :: UInt8.ofNat (d.length % 256) :: d
theorem fieldBytesI_nat (tag : Int) (d : List UInt8) (h : 1 ≤ tag ∧ tag ≤ 255) : fieldBytesI tag d = fieldBytes tag.toNat d := by
  have e : (tag % 256).toNat = tag.toNat % 256 := by omega
  rw [fieldBytesI, fieldBytes, e]
theorem fieldBytesI_length (tag : Int) (l : List UInt8) : (fieldBytesI tag l).length = 4 + l.length := by simp [fieldBytesI]; omega
def size3 (l : List UInt8) : Nat := 65536 * (l.getD 1 0).toNat + 256 * (l.getD 2 0).toNat + (l.getD 3 0).toNat
def gE (l : List UInt8) : Nat := if l.length < 4 then 10 else if (l.getD 0 0).toNat = 0 ∨ 65536 < size3 l then 11 else if l.length < 4 + size3 l then 10 else 0
def gT (l : List UInt8) : Nat := if gE l = 0 then (l.getD 0 0).toNat else 0
def gD (l : List UInt8) : List UInt8 := if gE l = 0 then (l.drop 4).take (size3 l) else []
def gN (l : List UInt8) : Nat := if gE l = 0 then 4 + size3 l else 0
theorem or_low (a b k p : Nat) (hp : p = 2 ^ k) (hb : b < p) : a * p ||| b = a * p + b := by
  subst hp
  have h := Nat.shiftLeft_add_eq_or_of_lt hb a
  rw [Nat.shiftLeft_eq] at h
  exact h.symm
theorem or3 (c1 c2 c3 : Nat) (h1 : c1 < 256) (h2 : c2 < 256) (h3 : c3 < 256) :
    bits .or .i64 (bits .or .i64 ((c1 : Int) * 65536) ((c2 : Int) * 256)) (c3 : Int) = ((65536 * c1 + 256 * c2 + c3 : Nat) : Int) := by
  have key : ∀ a b : Nat, a < 4294967296 → b < 4294967296 → bits .or .i64 (a : Int) (b : Int) = ((a ||| b : Nat) : Int) := by
    intro a b ha hb
    have hx : a ||| b < 2 ^ 32 := Nat.or_lt_two_pow (by omega) (by omega)
    have h1 : (BitVec.ofInt 64 (a : Int)).toNat = a := by
      rw [BitVec.ofInt_natCast, BitVec.toNat_ofNat]; exact Nat.mod_eq_of_lt (by omega)
    have h2 : (BitVec.ofInt 64 (b : Int)).toNat = b := by
      rw [BitVec.ofInt_natCast, BitVec.toNat_ofNat]; exact Nat.mod_eq_of_lt (by omega)
    show IntKind.i64.wrap ((BitVec.ofInt 64 (a : Int) ||| BitVec.ofInt 64 (b : Int)).toNat : Int) = _
    rw [BitVec.toNat_or, h1, h2, IntKind.wrap_i64]
    omega
  have e1 : (c1 : Int) * 65536 = ((c1 * 65536 : Nat) : Int) := by omega
  have e2 : (c2 : Int) * 256 = ((c2 * 256 : Nat) : Int) := by omega
  rw [e1, e2, key _ _ (by omega) (by omega)]
  rw [or_low c1 (c2 * 256) 16 65536 (by decide) (by omega), key _ _ (by omega) (by omega)]
  have e3 : c1 * 65536 + c2 * 256 = (c1 * 256 + c2) * 256 := by omega
  rw [e3, or_low (c1 * 256 + c2) c3 8 256 (by decide) h3]
  omega
theorem gE_short {l : List UInt8} (h : l.length < 4) : gE l = 10 := by rw [gE, if_pos h]
theorem gE_form {l : List UInt8} (h : ¬ l.length < 4) (h2 : (l.getD 0 0).toNat = 0 ∨ 65536 < size3 l) : gE l = 11 := by rw [gE, if_neg h, if_pos h2]
theorem gE_cut {l : List UInt8} (h : ¬ l.length < 4) (h2 : ¬ ((l.getD 0 0).toNat = 0 ∨ 65536 < size3 l)) (h3 : l.length < 4 + size3 l) : gE l = 10 := by rw [gE, if_neg h, if_neg h2, if_pos h3]
theorem gE_ok {l : List UInt8} (h : ¬ l.length < 4) (h2 : ¬ ((l.getD 0 0).toNat = 0 ∨ 65536 < size3 l)) (h3 : ¬ l.length < 4 + size3 l) : gE l = 0 := by rw [gE, if_neg h, if_neg h2, if_neg h3]
/-- A field that was gone through, with what is wrong with it. -/
structure Jd where
  tag : Int
  d : ByteArray
  e : Int
  ok : e = 0 → d.size ≤ 65536
theorem fault_ok (last tag : Int) (d : ByteArray) (h : faultOf last tag d.size = 0) : d.size ≤ 65536 := by
  unfold faultOf at h
  by_cases h1 : tag ≤ last ∨ 255 < tag
  · rw [if_pos h1] at h; omega
  · rw [if_neg h1] at h
    by_cases h2 : 65536 < d.size
    · rw [if_pos h2] at h; omega
    · omega
def judge (last : Int) : List (Int × ByteArray) → List Jd
  | [] => []
  | f :: r => ⟨f.1, f.2, faultOf last f.1 f.2.size, fault_ok last f.1 f.2⟩ :: judge f.1 r
/-- A field that was read, with what is wrong with it. -/
structure Pd where
  tag : Nat
  d : List UInt8
  e : Nat
/-- What is wrong with the first field of bytes, behind a tag. -/
def pE (last : Nat) (l : List UInt8) : Nat := if gE l = 0 then (if faultOf last (gT l) (gD l).length = 0 then 0 else 11) else gE l
def pX (last : Nat) (l : List UInt8) : Pd := ⟨gT l, gD l, pE last l⟩
def parse : Nat → Nat → List UInt8 → List Pd
  | 0, _, _ => []
  | k + 1, last, l => if l = [] then [] else pX last l :: if pE last l = 0 then parse k (gT l) (l.drop (gN l)) else []
theorem gN_le {l : List UInt8} (h : gE l = 0) : 4 ≤ gN l ∧ gN l ≤ l.length ∧ gT l ≤ 255 ∧ (gD l).length ≤ 65536 ∧ 1 ≤ gT l := by
  have h0 := h
  unfold gE at h
  by_cases h1 : l.length < 4
  · rw [if_pos h1] at h; omega
  · rw [if_neg h1] at h
    by_cases h2 : (l.getD 0 0).toNat = 0 ∨ 65536 < size3 l
    · rw [if_pos h2] at h; omega
    · rw [if_neg h2] at h
      by_cases h3 : l.length < 4 + size3 l
      · rw [if_pos h3] at h; omega
      · have := (l.getD 0 0).toNat_lt
        rw [gN, gT, gD, if_pos h0, if_pos h0, if_pos h0]
        refine ⟨by omega, by omega, by omega, ?_, by omega⟩
        rw [List.length_take]; omega
theorem gD_le (l : List UInt8) : (gD l).length ≤ 65536 := by
  by_cases h : gE l = 0
  · exact (gN_le h).2.2.2.1
  · rw [gD, if_neg h]; simp
/-- More fuel than there are bytes changes nothing. -/
theorem pE_ok {last : Nat} {l : List UInt8} (h : gE l = 0) (hf : faultOf last (gT l) (gD l).length = 0) : pE last l = 0 := by rw [pE, if_pos h, if_pos hf]
theorem parse_cons {k last : Nat} {l : List UInt8} (h : l ≠ []) : parse (k + 1) last l = pX last l :: if pE last l = 0 then parse k (gT l) (l.drop (gN l)) else [] := by rw [parse, if_neg h]
theorem parse_fuel : ∀ (k m last : Nat) (l : List UInt8), l.length ≤ k → k ≤ m → parse m last l = parse k last l
  | 0, m, last, l, h, _ => by
    have : l = [] := List.eq_nil_of_length_eq_zero (by omega)
    subst this
    cases m <;> simp [parse]
  | k + 1, m, last, l, h, hm => by
    obtain ⟨m', rfl⟩ : ∃ m', m = m' + 1 := ⟨m - 1, by omega⟩
    simp only [parse]
    by_cases hl : l = []
    · simp [hl]
    · rw [if_neg hl, if_neg hl]
      by_cases he : pE last l = 0
      · rw [if_pos he, if_pos he]
        have hg : gE l = 0 := by
          unfold pE at he
          by_cases h0 : gE l = 0
          · exact h0
          · rw [if_neg h0] at he; exact absurd he h0
        have hn := gN_le hg
        rw [parse_fuel k m' (gT l) (l.drop (gN l)) (by rw [List.length_drop]; omega) (by omega)]
      · rw [if_neg he, if_neg he]
/-- Fields as cells. -/
def fcells : List (Int × ByteArray) → List Value
  | [] => []
  | f :: r => .int .i64 f.1 :: .string f.2 :: fcells r
theorem fcells_length : ∀ fs, (fcells fs).length = fs.length * 2
  | [] => rfl
  | f :: r => by simp [fcells, fcells_length r]; omega
theorem fcells_append : ∀ a b, fcells (a ++ b) = fcells a ++ fcells b
  | [], _ => rfl
  | f :: r, b => by simp [fcells, fcells_append r b]
def toF (ps : List Pd) : List (Int × ByteArray) := ps.map fun x => ((x.tag : Int), ⟨x.d.toArray⟩)
theorem toF_snoc (ps : List Pd) (x : Pd) : toF (ps ++ [x]) = toF ps ++ [((x.tag : Int), ⟨x.d.toArray⟩)] := by simp [toF]
theorem toF_length (ps : List Pd) : (toF ps).length = ps.length := by simp [toF]
def layE : Int → List (Int × ByteArray) → Int
  | _, [] => 0
  | last, f :: r => if faultOf last f.1 f.2.size = 0 then layE f.1 r else faultOf last f.1 f.2.size
def rowB : List (Int × ByteArray) → List UInt8
  | [] => []
  | f :: r => fieldBytesI f.1 f.2.data.toList ++ rowB r
def rowOf (fs : List (Int × ByteArray)) : List UInt8 := if layE 0 fs = 0 then rowB fs else []
theorem layE_all : ∀ (last : Int) (fs : List (Int × ByteArray)), (∀ x ∈ judge last fs, x.e = 0) → layE last fs = 0
  | _, [], _ => rfl
  | last, f :: r, h => by
    have h1 : faultOf last f.1 f.2.size = 0 := h _ List.mem_cons_self
    rw [layE, if_pos h1]
    exact layE_all f.1 r (fun x hx => h x (List.mem_cons_of_mem _ hx))
theorem layE_first : ∀ (pre : List Jd) (last : Int) (fs : List (Int × ByteArray)) (x : Jd), (pre ++ [x]) <+: judge last fs → (∀ y ∈ pre, y.e = 0) → x.e ≠ 0 → layE last fs = x.e
  | [], last, [], x, h, _, _ => by simp [judge] at h
  | [], last, f :: r, x, h, _, hx => by
    rw [judge, List.nil_append, List.cons_prefix_cons] at h
    obtain ⟨rfl, _⟩ := h
    rw [layE, if_neg hx]
  | y :: pre, last, [], x, h, _, _ => by simp [judge] at h
  | y :: pre, last, f :: r, x, h, hz, hx => by
    rw [judge, List.cons_append, List.cons_prefix_cons] at h
    obtain ⟨rfl, h2⟩ := h
    have h1 : faultOf last f.1 f.2.size = 0 := hz _ List.mem_cons_self
    rw [layE, if_pos h1]
    exact layE_first pre f.1 r x h2 (fun z hz' => hz z (List.mem_cons_of_mem _ hz')) hx
def firstE : List Pd → Nat
  | [] => 0
  | x :: r => if x.e = 0 then firstE r else x.e
def readE (bs : List UInt8) : Nat := firstE (parse (bs.length + 1) 0 bs)
def readF (bs : List UInt8) : List (Int × ByteArray) := if readE bs = 0 then toF (parse (bs.length + 1) 0 bs) else []
theorem firstE_all : ∀ ps : List Pd, (∀ x ∈ ps, x.e = 0) → firstE ps = 0
  | [], _ => rfl
  | x :: r, h => by rw [firstE, if_pos (h x List.mem_cons_self)]; exact firstE_all r (fun y hy => h y (List.mem_cons_of_mem _ hy))
theorem firstE_first : ∀ (pre ps : List Pd) (x : Pd), (pre ++ [x]) <+: ps → (∀ y ∈ pre, y.e = 0) → x.e ≠ 0 → firstE ps = x.e
  | [], [], x, h, _, _ => by simp at h
  | [], p :: r, x, h, _, hx => by
    rw [List.nil_append, List.cons_prefix_cons] at h
    obtain ⟨rfl, _⟩ := h
    rw [firstE, if_neg hx]
  | y :: pre, [], x, h, _, _ => by simp at h
  | y :: pre, p :: r, x, h, hz, hx => by
    rw [List.cons_append, List.cons_prefix_cons] at h
    obtain ⟨rfl, h2⟩ := h
    rw [firstE, if_pos (hz _ List.mem_cons_self)]
    exact firstE_first pre r x h2 (fun z hz' => hz z (List.mem_cons_of_mem _ hz')) hx
theorem fault_pos {last tag : Int} {size : Nat} (hl : 0 ≤ last) (h : faultOf last tag size = 0) : 1 ≤ tag ∧ tag ≤ 255 ∧ size ≤ 65536 := by
  unfold faultOf at h
  by_cases h1 : tag ≤ last ∨ 255 < tag
  · rw [if_pos h1] at h; omega
  · rw [if_neg h1] at h
    by_cases h2 : 65536 < size
    · rw [if_pos h2] at h; omega
    · omega
theorem got_field (tag : Nat) (d more : List UInt8) (ht : 1 ≤ tag ∧ tag ≤ 255) (hd : d.length ≤ 65536) :
    gE (fieldBytes tag d ++ more) = 0 ∧ gT (fieldBytes tag d ++ more) = tag ∧ gD (fieldBytes tag d ++ more) = d ∧ gN (fieldBytes tag d ++ more) = (fieldBytes tag d).length := by
  have e0 : ((fieldBytes tag d ++ more).getD 0 0).toNat = tag := by
    simp [fieldBytes]; omega
  have es : size3 (fieldBytes tag d ++ more) = d.length := by
    simp [fieldBytes, size3]; omega
  have el : (fieldBytes tag d ++ more).length = 4 + d.length + more.length := by rw [List.length_append, fieldBytes_length]
  have h0 : gE (fieldBytes tag d ++ more) = 0 := gE_ok (by omega) (by rw [e0, es]; omega) (by rw [es, el]; omega)
  refine ⟨h0, by rw [gT, if_pos h0, e0], ?_, by rw [gN, if_pos h0, es, fieldBytes_length]⟩
  rw [gD, if_pos h0, es]
  simp [fieldBytes]
/-- A field that was laid, as it is read. -/
def asPd (f : Int × ByteArray) : Pd := ⟨f.1.toNat, f.2.data.toList, 0⟩
theorem toF_asPd (fs : List (Int × ByteArray)) (h : ∀ f ∈ fs, 0 ≤ f.1) : toF (fs.map asPd) = fs := by
  induction fs with
  | nil => rfl
  | cons f r ih =>
    have h1 := h f List.mem_cons_self
    have h2 := ih (fun g hg => h g (List.mem_cons_of_mem _ hg))
    unfold toF at h2 ⊢
    rw [List.map_cons, List.map_cons, h2]
    congr 1
    obtain ⟨t, d⟩ := f
    simp only [asPd]
    simp only at h1
    congr 1
    omega
theorem lay_cons {last : Int} {f : Int × ByteArray} {r : List (Int × ByteArray)} (h : layE last (f :: r) = 0) : faultOf last f.1 f.2.size = 0 ∧ layE f.1 r = 0 := by
  rw [layE] at h
  by_cases h1 : faultOf last f.1 f.2.size = 0
  · rw [if_pos h1] at h; exact ⟨h1, h⟩
  · rw [if_neg h1] at h; exact absurd h h1
theorem lay_pos : ∀ (last : Int) (fs : List (Int × ByteArray)), 0 ≤ last → layE last fs = 0 → ∀ f ∈ fs, 0 ≤ f.1
  | _, [], _, _, f, hf => by simp at hf
  | last, g :: r, hl, h, f, hf => by
    obtain ⟨h1, h2⟩ := lay_cons h
    have hp := fault_pos hl h1
    rcases List.mem_cons.1 hf with rfl | hf
    · omega
    · exact lay_pos g.1 r (by omega) h2 f hf
/-- The first field of a row's bytes. -/
theorem row_first {last : Nat} {f : Int × ByteArray} {r : List (Int × ByteArray)} {more : List UInt8} (h : faultOf last f.1 f.2.size = 0) (hr : more = rowB r) :
    let l := rowB (f :: r)
    l ≠ [] ∧ gE l = 0 ∧ gT l = f.1.toNat ∧ gD l = f.2.data.toList ∧ l.drop (gN l) = more ∧ pE last l = 0 ∧ gN l = 4 + f.2.data.toList.length := by
  have hp := fault_pos (Int.natCast_nonneg last) h
  have hd : f.2.data.toList.length ≤ 65536 := by simpa using hp.2.2
  have e : rowB (f :: r) = fieldBytes f.1.toNat f.2.data.toList ++ rowB r := by rw [rowB, fieldBytesI_nat _ _ ⟨hp.1, hp.2.1⟩]
  obtain ⟨g1, g2, g3, g4⟩ := got_field f.1.toNat f.2.data.toList (rowB r) (by omega) hd
  intro l
  show rowB (f :: r) ≠ [] ∧ _
  rw [show l = rowB (f :: r) from rfl, e]
  refine ⟨by simp [fieldBytes], g1, g2, g3, by rw [g4, List.drop_left, hr], ?_, by rw [g4, fieldBytes_length]⟩
  refine pE_ok g1 ?_
  rw [g2, g3]
  have e1 : ((f.1.toNat : Nat) : Int) = f.1 := by omega
  have e2 : f.2.data.toList.length = f.2.size := by simp
  rw [e1, e2]
  exact h
theorem parse_row : ∀ (fs : List (Int × ByteArray)) (k last : Nat), layE last fs = 0 → (rowB fs).length ≤ k → parse k last (rowB fs) = fs.map asPd
  | [], k, last, _, _ => by cases k <;> simp [parse, rowB]
  | f :: r, k, last, h, hk => by
    obtain ⟨h1, h2⟩ := lay_cons h
    obtain ⟨ne, g1, g2, g3, g4, g5, g6⟩ := row_first (r := r) h1 rfl
    have hp := fault_pos (Int.natCast_nonneg last) h1
    have hlen : (rowB (f :: r)).length = 4 + f.2.data.toList.length + (rowB r).length := by
      rw [rowB, List.length_append, fieldBytesI_length]
    obtain ⟨k', rfl⟩ : ∃ k', k = k' + 1 := ⟨k - 1, by omega⟩
    rw [parse_cons ne, if_pos g5, g2, g4]
    have ih := parse_row r k' f.1.toNat (by rw [show ((f.1.toNat : Nat) : Int) = f.1 by omega]; exact h2) (by omega)
    rw [ih, List.map_cons]
    congr 1
    unfold pX asPd
    rw [g2, g3, g5]
theorem read_row {fs : List (Int × ByteArray)} (h : layE 0 fs = 0) : readE (rowB fs) = 0 ∧ readF (rowB fs) = fs := by
  have hp := parse_row fs ((rowB fs).length + 1) 0 h (by omega)
  have h0 : readE (rowB fs) = 0 := by
    rw [readE, hp]
    apply firstE_all
    intro x hx
    obtain ⟨f, _, rfl⟩ := List.mem_map.1 hx
    rfl
  refine ⟨h0, ?_⟩
  rw [readF, if_pos h0, hp]
  exact toF_asPd fs (lay_pos 0 fs (by decide) h)
/-- Bytes whose first field is right are that field's and the rest. -/
theorem bytes_first {l : List UInt8} (h : gE l = 0) : l = fieldBytes (gT l) (gD l) ++ l.drop (gN l) ∧ (gD l).length ≤ 65536 := by
  have h0 := h
  have hn := gN_le h
  refine ⟨?_, hn.2.2.2.1⟩
  match l, hn.2.1 with
  | [], hl => simp at hl; omega
  | [_], hl => simp at hl; omega
  | [_, _], hl => simp at hl; omega
  | [_, _, _], hl => simp at hl; omega
  | a :: b :: c :: d :: r, hl =>
    have ht : gT (a :: b :: c :: d :: r) = a.toNat := by rw [gT, if_pos h]; rfl
    have hs : size3 (a :: b :: c :: d :: r) = 65536 * b.toNat + 256 * c.toNat + d.toNat := rfl
    have hN : gN (a :: b :: c :: d :: r) = 4 + size3 (a :: b :: c :: d :: r) := by rw [gN, if_pos h]
    have hD : gD (a :: b :: c :: d :: r) = r.take (size3 (a :: b :: c :: d :: r)) := by rw [gD, if_pos h]; rfl
    have hlr : (r.take (size3 (a :: b :: c :: d :: r))).length = size3 (a :: b :: c :: d :: r) := by
      rw [List.length_take]
      rw [hN] at hl
      simp only [List.length_cons] at hl
      omega
    have hb := b.toNat_lt
    have hc := c.toNat_lt
    have hd := d.toNat_lt
    have ha := a.toNat_lt
    rw [ht, hD, hN, fieldBytes, hlr, hs]
    have e1 : UInt8.ofNat (a.toNat % 256) = a := by rw [Nat.mod_eq_of_lt ha]; exact UInt8.ofNat_toNat
    have e2 : UInt8.ofNat ((65536 * b.toNat + 256 * c.toNat + d.toNat) / 65536 % 256) = b := by
      rw [show (65536 * b.toNat + 256 * c.toNat + d.toNat) / 65536 % 256 = b.toNat by omega]; exact UInt8.ofNat_toNat
    have e3 : UInt8.ofNat ((65536 * b.toNat + 256 * c.toNat + d.toNat) / 256 % 256) = c := by
      rw [show (65536 * b.toNat + 256 * c.toNat + d.toNat) / 256 % 256 = c.toNat by omega]; exact UInt8.ofNat_toNat
    have e4 : UInt8.ofNat ((65536 * b.toNat + 256 * c.toNat + d.toNat) % 256) = d := by
      rw [show (65536 * b.toNat + 256 * c.toNat + d.toNat) % 256 = d.toNat by omega]; exact UInt8.ofNat_toNat
    rw [e1, e2, e3, e4]
    simp only [List.cons_append, List.drop_succ_cons, Nat.add_comm 4]
    rw [List.take_append_drop]
theorem lay_parse : ∀ (k last : Nat) (l : List UInt8), l.length ≤ k → firstE (parse k last l) = 0 → layE last (toF (parse k last l)) = 0 ∧ rowB (toF (parse k last l)) = l ∧ (parse k last l).length + last ≤ 255 + (if parse k last l = [] then last else 0)
  | 0, last, l, hk, _ => by
    have : l = [] := List.eq_nil_of_length_eq_zero (by omega)
    subst this
    simp [parse, toF, layE, rowB]
  | k + 1, last, l, hk, h => by
    by_cases hl : l = []
    · subst hl; simp [parse, toF, layE, rowB]
    · rw [parse_cons hl] at h ⊢
      rw [firstE] at h
      have he : pE last l = 0 := by
        by_cases he : pE last l = 0
        · exact he
        · rw [if_neg (show ¬ (pX last l).e = 0 from he)] at h; exact absurd h he
      rw [if_pos (show (pX last l).e = 0 from he), if_pos he] at h
      rw [if_pos he]
      have hg : gE l = 0 := by
        unfold pE at he
        by_cases h0 : gE l = 0
        · exact h0
        · rw [if_neg h0] at he; exact absurd he h0
      have hf : faultOf last (gT l) (gD l).length = 0 := by
        unfold pE at he
        rw [if_pos hg] at he
        by_cases hf : faultOf last (gT l) (gD l).length = 0
        · exact hf
        · rw [if_neg hf] at he; omega
      have hn := gN_le hg
      obtain ⟨i1, i2, i3⟩ := lay_parse k (gT l) (l.drop (gN l)) (by rw [List.length_drop]; omega) h
      obtain ⟨b1, b2⟩ := bytes_first hg
      have hds : (⟨(gD l).toArray⟩ : ByteArray).size = (gD l).length := by show (gD l).toArray.size = _; simp
      have hrise : (last : Int) < (gT l : Int) := by
        unfold faultOf at hf
        by_cases hh : (gT l : Int) ≤ (last : Int) ∨ 255 < (gT l : Int)
        · rw [if_pos hh] at hf; omega
        · omega
      refine ⟨?_, ?_, ?_⟩
      · show layE last (((gT l : Int), ⟨(gD l).toArray⟩) :: toF (parse k (gT l) (l.drop (gN l)))) = 0
        rw [layE]
        show (if faultOf last (gT l) (⟨(gD l).toArray⟩ : ByteArray).size = 0 then layE (gT l) _ else _) = 0
        rw [hds, if_pos hf]
        exact i1
      · show rowB (((gT l : Int), ⟨(gD l).toArray⟩) :: toF (parse k (gT l) (l.drop (gN l)))) = l
        rw [rowB, i2]
        show fieldBytesI (gT l) (gD l).toArray.toList ++ _ = l
        rw [fieldBytesI_nat _ _ (by omega)]
        exact b1.symm
      · rw [if_neg (by simp), List.length_cons]
        by_cases hnil : parse k (gT l) (l.drop (gN l)) = []
        · rw [hnil]; simp; omega
        · rw [if_neg hnil] at i3; omega
theorem lay_read {bs : List UInt8} (h : readE bs = 0) : layE 0 (readF bs) = 0 ∧ rowOf (readF bs) = bs ∧ (readF bs).length ≤ 255 := by
  obtain ⟨i1, i2, i3⟩ := lay_parse (bs.length + 1) 0 bs (by omega) h
  rw [readF, if_pos h]
  have i1' : layE 0 (toF (parse (bs.length + 1) 0 bs)) = 0 := i1
  refine ⟨i1', by rw [rowOf, if_pos i1']; exact i2, ?_⟩
  rw [toF_length]
  by_cases hnil : parse (bs.length + 1) 0 bs = []
  · rw [hnil]; simp
  · rw [if_neg hnil] at i3; omega
theorem num_isNum (N : Nat) (h : N < 4611686018427387904) : isNum (num N) = true := by
  have hN : N < 2 ^ 64 := by omega
  unfold isNum
  rw [decide_eq_true_eq, num_length, val_num N hN]
  refine ⟨nb_le N hN, ?_, h⟩
  have hf := fits_nb N hN
  unfold num
  generalize nb N = k at hf
  match k with
  | 0 => simp [be]
  | k + 1 =>
    obtain ⟨h1, h2⟩ := hf
    simp at h2
    have hd : 0 < N / 256 ^ k := Nat.div_pos h2 (Nat.pow_pos (by decide))
    have hl : N / 256 ^ k < 256 := by
      rw [Nat.div_lt_iff_lt_mul (Nat.pow_pos (by decide)), Nat.mul_comm, ← Nat.pow_succ]; exact h1
    simp only [be, List.getElem?_cons_zero, ne_eq, Option.some.injEq]
    intro e
    have := congrArg UInt8.toNat e
    rw [UInt8.toNat_ofNat'] at this
    simp at this
    omega
theorem num_val (l : List UInt8) (h : isNum l = true) : num (val l) = l := by
  unfold isNum at h
  rw [decide_eq_true_eq] at h
  obtain ⟨h1, h2, h3⟩ := h
  have hf : Fits l.length (val l) := by
    refine ⟨val_lt l, ?_⟩
    match l with
    | [] => exact .inl rfl
    | x :: r =>
      right
      rw [val_cons]
      simp at h2 ⊢
      have hx : 0 < x.toNat := by
        rcases Nat.eq_zero_or_pos x.toNat with h | h
        · exact absurd (UInt8.toNat_inj.mp (by simpa using h)) h2
        · exact h
      have := Nat.le_mul_of_pos_left (256 ^ r.length) hx
      omega
  rw [← num_of_fits (by omega) hf, be_val]
end Go.Proofs.YtdnhnjimhbbababDoor.P7

/- Tags by keys, as the document defines them (HMAC over SHA-256). No program is spoken of. -/
namespace Go.Proofs.YtdnhnjimhbbababDoor.P7
open Sums
set_option maxRecDepth 100000
set_option linter.unusedVariables false
/-- A key's block: its bytes and 32 noughts, each turned. -/
def blockD (key : List UInt8) (turn : UInt8) : List UInt8 := (key ++ List.replicate 32 0).map (· ^^^ turn)
theorem blockD_length (key : List UInt8) (turn : UInt8) (h : key.length = 32) : (blockD key turn).length = 64 := by unfold blockD; simp [h]
/-- P6.1. -/
def macD (key data : List UInt8) : List UInt8 := sumD (blockD key 92 ++ sumD (blockD key 54 ++ data))
/-- P6.2: may there be such a node? -/
def owner (r n : Int) : Bool := decide (1 ≤ r) && decide (r ≤ 5) && decide (1 ≤ n) && decide (n ≤ 3)
theorem owner_iff (r n : Int) : owner r n = true ↔ (1 ≤ r ∧ r ≤ 5 ∧ 1 ≤ n ∧ n ≤ 3) := by unfold owner; simp only [Bool.and_eq_true, decide_eq_true_eq]; omega
def keyD (master : List UInt8) (r n : Int) : List UInt8 := macD master [75, UInt8.ofNat r.toNat, UInt8.ofNat n.toNat]
def keyO (master : List UInt8) (r n : Int) : List UInt8 := if owner r n = true then keyD master r n else List.replicate 32 0
def keyE (r n : Int) : Int := if owner r n = true then 0 else 50
def holdE (master : List UInt8) (r n : Int) (data t : List UInt8) : Int := if owner r n = true then (if macD (keyD master r n) data = t then 0 else 72) else 50
theorem holdE_in (master : List UInt8) (r n : Int) (data t : List UInt8) (h : owner r n = true) : holdE master r n data t = if macD (keyD master r n) data = t then 0 else 72 := by unfold holdE; rw [if_pos h]
theorem holdE_out (master : List UInt8) (r n : Int) (data t : List UInt8) (h : ¬ owner r n = true) : holdE master r n data t = 50 := by unfold holdE; rw [if_neg h]
theorem keyO_in (master : List UInt8) (r n : Int) (h : owner r n = true) : keyO master r n = keyD master r n := by unfold keyO; rw [if_pos h]
theorem keyO_out (master : List UInt8) (r n : Int) (h : ¬ owner r n = true) : keyO master r n = List.replicate 32 0 := by unfold keyO; rw [if_neg h]
theorem keyD_length (hs : ∀ l, (sumD l).length = 32) (k : List UInt8) (r n : Int) : (keyD k r n).length = 32 := hs _
theorem keyO_length (hs : ∀ l, (sumD l).length = 32) (k : List UInt8) (r n : Int) : (keyO k r n).length = 32 := by
  unfold keyO; split
  · exact hs _
  · simp
end Go.Proofs.YtdnhnjimhbbababDoor.P7

/- Heads as bytes, signed by a node, as the document defines them. No program is spoken of. -/
namespace Go.Proofs.YtdnhnjimhbbababDoor.P7
open Nums Sums
set_option maxRecDepth 100000
set_option linter.unusedVariables false
def bA (l : List UInt8) : ByteArray := ⟨l.toArray⟩
theorem bA_list (l : List UInt8) : (bA l).data.toList = l := rfl
theorem bA_size (l : List UInt8) : (bA l).size = l.length := by show l.toArray.size = _; simp
theorem bA_of (s : ByteArray) : bA s.data.toList = s := rfl
/-! Numbers, and back. -/
/-- A number; -1: it is none. -/
def valO (l : List UInt8) : Int := if isNum l then val l else -1
theorem nOf_list (n : Int) (h : 0 ≤ n ∧ n ≤ 4611686018427387903) : (nOf n).data.toList = num n.toNat := by unfold nOf; rw [if_pos h]
theorem nOf_size (n : Int) : (nOf n).size ≤ 8 := by
  unfold nOf
  split
  · rename_i h
    show (num n.toNat).toArray.size ≤ 8
    have := nb_le n.toNat (by omega)
    simpa [num_length] using this
  · show 0 ≤ 8; omega
theorem valO_nOf (n : Int) (h : 0 ≤ n ∧ n ≤ 4611686018427387903) : valO (nOf n).data.toList = n := by
  rw [nOf_list n h, valO, num_isNum n.toNat (by omega), if_pos rfl, val_num n.toNat (by omega)]
  omega
theorem nOf_valO (l : List UInt8) (h : 0 ≤ valO l) : (nOf (valO l)).data.toList = l ∧ valO l ≤ 4611686018427387903 := by
  unfold valO at h ⊢
  by_cases hn : isNum l = true
  · rw [if_pos hn] at h ⊢
    have hlt : val l < 4611686018427387904 := by
      have := hn
      unfold isNum at this
      rw [decide_eq_true_eq] at this
      exact this.2.2
    refine ⟨?_, by omega⟩
    rw [nOf_list _ (by omega), Int.toNat_natCast, num_val l hn]
  · rw [if_neg hn] at h
    omega
/-! A row whose fields have the tags 1 to n. -/
def tagsN (n : Nat) : List Int := (List.range n).map fun (i : Nat) => (Int.ofNat i) + 1
/-- What the fields of a row have, if their tags are 1 to n. -/
def partsO (bs : List UInt8) (n : Nat) : Option (List ByteArray) := if readE bs = 0 ∧ (readF bs).map (·.1) = tagsN n then some ((readF bs).map (·.2)) else none
def fieldsN (l : List ByteArray) : List (Int × ByteArray) := (tagsN l.length).zip l
theorem tagsN_length (n : Nat) : (tagsN n).length = n := by simp [tagsN]
theorem fieldsN_fst (l : List ByteArray) : (fieldsN l).map (·.1) = tagsN l.length := by
  unfold fieldsN
  rw [List.map_fst_zip (by rw [tagsN_length]; exact Nat.le_refl _)]
theorem fieldsN_snd (l : List ByteArray) : (fieldsN l).map (·.2) = l := by
  unfold fieldsN
  rw [List.map_snd_zip (by rw [tagsN_length]; exact Nat.le_refl _)]
theorem zip_fst_snd : ∀ (fs : List (Int × ByteArray)), (fs.map (·.1)).zip (fs.map (·.2)) = fs
  | [] => rfl
  | f :: r => by simp [zip_fst_snd r]
/-- What is laid is read. -/
theorem parts_row (l : List ByteArray) (h : layE 0 (fieldsN l) = 0) : partsO (rowB (fieldsN l)) l.length = some l := by
  obtain ⟨h1, h2⟩ := read_row h
  unfold partsO
  rw [h2, if_pos ⟨h1, fieldsN_fst l⟩, fieldsN_snd]
/-- What is read is laid as the same bytes. -/
theorem row_parts {bs : List UInt8} {n : Nat} {l : List ByteArray} (h : partsO bs n = some l) : l.length = n ∧ layE 0 (fieldsN l) = 0 ∧ rowB (fieldsN l) = bs := by
  unfold partsO at h
  split at h
  · rename_i hh
    have hl : (readF bs).map (·.2) = l := Option.some.inj h
    have hlen : l.length = n := by
      rw [← hl, List.length_map, ← List.length_map (f := (·.1)), hh.2, tagsN_length]
    have he : fieldsN l = readF bs := by
      unfold fieldsN
      rw [hlen, ← hh.2, ← hl, zip_fst_snd]
    obtain ⟨a, b, _⟩ := lay_read hh.1
    refine ⟨hlen, by rw [he]; exact a, ?_⟩
    rw [he]
    unfold rowOf at b
    rwa [if_pos a] at b
  · cases h
/-! Heads. -/
structure HdT where
  r : Int
  e : Int
  s : Int
  d : List UInt8
  t : Int
/-- Is a head right? -/
def rightH (h : HdT) : Bool := decide (1 ≤ h.r) && decide (h.r ≤ 5) && decide (1 ≤ h.e) && decide (h.e ≤ 900000000) && decide (0 ≤ h.s) && decide (h.s ≤ 100000) && decide (0 ≤ h.t) && decide (h.t ≤ 900000000)
theorem rightH_iff (h : HdT) : rightH h = true ↔ (1 ≤ h.r ∧ h.r ≤ 5 ∧ 1 ≤ h.e ∧ h.e ≤ 900000000 ∧ 0 ≤ h.s ∧ h.s ≤ 100000 ∧ 0 ≤ h.t ∧ h.t ≤ 900000000) := by
  unfold rightH
  simp only [Bool.and_eq_true, decide_eq_true_eq]
  omega
def hL (h : HdT) : List ByteArray := [nOf h.r, nOf h.e, nOf h.s, bA h.d, nOf h.t]
/-- A right head's bytes. -/
def headB (h : HdT) : List UInt8 := rowB (fieldsN (hL h))
theorem fault_none (last tag : Int) (n : Nat) (h : last < tag ∧ tag ≤ 255) (hn : n ≤ 65536) : faultOf last tag n = 0 := by
  unfold faultOf
  rw [if_neg (by omega), if_neg (by omega)]
theorem layE_hL (h : HdT) (hd : h.d.length = 32) : layE 0 (fieldsN (hL h)) = 0 := by
  have e : fieldsN (hL h) = [(1, nOf h.r), (2, nOf h.e), (3, nOf h.s), (4, bA h.d), (5, nOf h.t)] := rfl
  have b1 := nOf_size h.r
  have b2 := nOf_size h.e
  have b3 := nOf_size h.s
  have b5 := nOf_size h.t
  have b4 : (bA h.d).size = 32 := by rw [bA_size]; exact hd
  rw [e]
  simp only [layE]
  rw [if_pos (fault_none _ _ _ (by omega) (by omega)), if_pos (fault_none _ _ _ (by omega) (by omega)), if_pos (fault_none _ _ _ (by omega) (by omega)), if_pos (fault_none _ _ _ (by omega) (by omega)), if_pos (fault_none _ _ _ (by omega) (by omega))]
def headOf (x1 x2 x3 x4 x5 : ByteArray) : HdT := ⟨valO x1.data.toList, valO x2.data.toList, valO x3.data.toList, x4.data.toList, valO x5.data.toList⟩
/-- The right head whose bytes these are. -/
def getO (bs : List UInt8) : Option HdT :=
  match partsO bs 5 with
  | some [x1, x2, x3, x4, x5] => if x4.size = 32 ∧ rightH (headOf x1 x2 x3 x4 x5) = true then some (headOf x1 x2 x3 x4 x5) else none
  | _ => none
theorem headOf_hL (h : HdT) (hr : rightH h = true) : headOf (nOf h.r) (nOf h.e) (nOf h.s) (bA h.d) (nOf h.t) = h := by
  have hb := (rightH_iff h).1 hr
  unfold headOf
  rw [valO_nOf h.r (by omega), valO_nOf h.e (by omega), valO_nOf h.s (by omega), valO_nOf h.t (by omega), bA_list]
theorem getO_head (h : HdT) (hr : rightH h = true) (hd : h.d.length = 32) : getO (headB h) = some h := by
  unfold getO headB
  have hp : partsO (rowB (fieldsN (hL h))) 5 = some (hL h) := parts_row (hL h) (layE_hL h hd)
  rw [hp]
  show (if (bA h.d).size = 32 ∧ rightH (headOf (nOf h.r) (nOf h.e) (nOf h.s) (bA h.d) (nOf h.t)) = true then some (headOf (nOf h.r) (nOf h.e) (nOf h.s) (bA h.d) (nOf h.t)) else none) = some h
  rw [headOf_hL h hr, if_pos ⟨by rw [bA_size]; exact hd, hr⟩]
theorem nOf_back (x : ByteArray) (h : 0 ≤ valO x.data.toList) : nOf (valO x.data.toList) = x := by
  have := (nOf_valO _ h).1
  rw [← bA_of (nOf (valO x.data.toList)), this]
  rfl
theorem getO_some {bs : List UInt8} {h : HdT} (hg : getO bs = some h) : rightH h = true ∧ h.d.length = 32 ∧ headB h = bs := by
  unfold getO at hg
  split at hg
  · rename_i x1 x2 x3 x4 x5 hp
    split at hg
    · rename_i hh
      have he : headOf x1 x2 x3 x4 x5 = h := Option.some.inj hg
      obtain ⟨_, hl, hr⟩ := row_parts hp
      have hb := (rightH_iff _).1 hh.2
      have hL5 : hL h = [x1, x2, x3, x4, x5] := by
        rw [← he]
        unfold headOf at hb
        show [nOf (valO x1.data.toList), nOf (valO x2.data.toList), nOf (valO x3.data.toList), bA x4.data.toList, nOf (valO x5.data.toList)] = _
        simp only at hb
        rw [nOf_back x1 (by omega), nOf_back x2 (by omega), nOf_back x3 (by omega), nOf_back x5 (by omega), bA_of]
      refine ⟨by rw [← he]; exact hh.2, ?_, ?_⟩
      · rw [← he]; exact hh.1
      · unfold headB; rw [hL5]; exact hr
    · cases hg
  · cases hg
theorem rowB_length : ∀ (fs : List (Int × ByteArray)), (rowB fs).length = 4 * fs.length + (fs.map fun f => f.2.size).sum
  | [] => rfl
  | f :: r => by
    show (fieldBytesI f.1 f.2.data.toList ++ rowB r).length = _
    rw [List.length_append, rowB_length r, fieldBytesI_length]
    simp only [List.length_cons, List.map_cons, List.sum_cons]
    have : f.2.data.toList.length = f.2.size := rfl
    omega
theorem headB_length (h : HdT) (hd : h.d.length = 32) : (headB h).length ≤ 84 := by
  have b1 := nOf_size h.r
  have b2 := nOf_size h.e
  have b3 := nOf_size h.s
  have b5 := nOf_size h.t
  have b4 : (bA h.d).size = 32 := by rw [bA_size]; exact hd
  unfold headB
  rw [rowB_length]
  show 4 * 5 + ((nOf h.r).size + ((nOf h.e).size + ((nOf h.s).size + ((bA h.d).size + ((nOf h.t).size + 0))))) ≤ 84
  omega
/-! Signed heads. -/
structure SgT where
  h : HdT
  n : Int
  g : List UInt8
/-- May a signed head be? -/
def mayS (s : SgT) : Bool := rightH s.h && decide (1 ≤ s.n) && decide (s.n ≤ 3)
theorem mayS_iff (s : SgT) : mayS s = true ↔ (rightH s.h = true ∧ 1 ≤ s.n ∧ s.n ≤ 3) := by
  unfold mayS
  simp only [Bool.and_eq_true, decide_eq_true_eq]
  constructor
  · rintro ⟨⟨a, b⟩, c⟩; exact ⟨a, b, c⟩
  · rintro ⟨a, b, c⟩; exact ⟨⟨a, b⟩, c⟩
def sL (s : SgT) : List ByteArray := [bA (headB s.h), nOf s.n, bA s.g]
def signB (s : SgT) : List UInt8 := rowB (fieldsN (sL s))
theorem layE_sL (s : SgT) (hd : s.h.d.length = 32) (hg : s.g.length = 32) : layE 0 (fieldsN (sL s)) = 0 := by
  have e : fieldsN (sL s) = [(1, bA (headB s.h)), (2, nOf s.n), (3, bA s.g)] := rfl
  have b1 := headB_length s.h hd
  have b2 := nOf_size s.n
  have b3 : (bA s.g).size = 32 := by rw [bA_size]; exact hg
  have b4 : (bA (headB s.h)).size ≤ 84 := by rw [bA_size]; exact b1
  rw [e]
  simp only [layE]
  rw [if_pos (fault_none _ _ _ (by omega) (by omega)), if_pos (fault_none _ _ _ (by omega) (by omega)), if_pos (fault_none _ _ _ (by omega) (by omega))]
def getS (bs : List UInt8) : Option SgT :=
  match partsO bs 3 with
  | some [x1, x2, x3] =>
    match getO x1.data.toList with
    | some h => if x3.size = 32 ∧ mayS ⟨h, valO x2.data.toList, x3.data.toList⟩ = true then some ⟨h, valO x2.data.toList, x3.data.toList⟩ else none
    | none => none
  | _ => none
theorem getS_sign (s : SgT) (hm : mayS s = true) (hd : s.h.d.length = 32) (hg : s.g.length = 32) : getS (signB s) = some s := by
  obtain ⟨hr, h1, h3⟩ := (mayS_iff s).1 hm
  unfold getS signB
  have hp : partsO (rowB (fieldsN (sL s))) 3 = some (sL s) := parts_row (sL s) (layE_sL s hd hg)
  rw [hp]
  show (match getO (headB s.h) with | some h => if (bA s.g).size = 32 ∧ mayS ⟨h, valO (nOf s.n).data.toList, s.g⟩ = true then some (⟨h, valO (nOf s.n).data.toList, s.g⟩ : SgT) else none | none => none) = some s
  rw [getO_head s.h hr hd, valO_nOf s.n (by omega)]
  show (if (bA s.g).size = 32 ∧ mayS s = true then some s else none) = some s
  rw [if_pos ⟨by rw [bA_size]; exact hg, hm⟩]
theorem signB_length (s : SgT) (hd : s.h.d.length = 32) (hg : s.g.length = 32) : (signB s).length ≤ 136 := by
  have b1 := headB_length s.h hd
  have b2 := nOf_size s.n
  have b3 : (bA s.g).size = 32 := by rw [bA_size]; exact hg
  have b4 : (bA (headB s.h)).size ≤ 84 := by rw [bA_size]; exact b1
  unfold signB
  rw [rowB_length]
  show 4 * 3 + ((bA (headB s.h)).size + ((nOf s.n).size + ((bA s.g).size + 0))) ≤ 136
  omega
/-! Tags. -/
def headT (h : HdT) : List UInt8 := [104, 101, 97, 100, 32] ++ headB h
/-- The tag that Sign makes, of a right head and a node that may be. -/
def tagD (master : List UInt8) (h : HdT) (n : Int) : List UInt8 := macD (keyD master h.r n) (headT h)
theorem tagD_length (hs : ∀ l, (sumD l).length = 32) (master : List UInt8) (h : HdT) (n : Int) : (tagD master h n).length = 32 := hs _
def verE (master : List UInt8) (s : SgT) : Int := if mayS s = true then (if tagD master s.h s.n = s.g then 0 else 72) else 70
theorem mayS_owner (s : SgT) (h : mayS s = true) : owner s.h.r s.n = true := by
  obtain ⟨a, b, c⟩ := (mayS_iff s).1 h
  have := (rightH_iff s.h).1 a
  exact (owner_iff _ _).2 (by omega)
end Go.Proofs.YtdnhnjimhbbababDoor.P7

/- math/bits.Len, as this program bears it, answers how many bits its argument has, for every uint64, and leaves the world as it was. -/
namespace Go.Proofs.YtdnhnjimhbbababDoor.P7
set_option maxRecDepth 100000
/-- One way through the table: k bits were cut off, the rest is a byte. -/
theorem cut_bits (x e c : Int) (k p : Nat) (hp : p = 2 ^ k) (hk : k ≤ 56) (h0 : 0 ≤ x) (hlo : k = 0 ∨ (p : Int) ≤ x) (hhi : x < 256 * (p : Int)) (he : e = x / (p : Int)) (hc : c = k) :
    c + Lib.len8 (e % 256) = Lib.bitLen x.toNat ∧ 0 ≤ Lib.len8 (e % 256) ∧ Lib.len8 (e % 256) ≤ 8 := by
  have hp0 : 0 < p := by rw [hp]; exact Nat.pow_pos (by decide)
  obtain ⟨n, rfl⟩ : ∃ n : Nat, x = n := ⟨x.toNat, by omega⟩
  have en : e = ((n / p : Nat) : Int) := by rw [he]; exact (Int.natCast_ediv n p).symm
  have hn : n / p < 256 := by rw [Nat.div_lt_iff_lt_mul hp0]; omega
  have e1 : e % 256 = ((n / p : Nat) : Int) := by
    rw [en]; exact Int.emod_eq_of_lt (Int.natCast_nonneg _) (Int.ofNat_lt.mpr hn)
  rw [e1, Lib.len8_of _ (Int.natCast_nonneg _) (Int.lt_add_one_iff.mp (Int.ofNat_lt.mpr hn)), hc, Int.toNat_natCast, Int.toNat_natCast]
  refine ⟨?_, Int.natCast_nonneg _, Int.ofNat_le.mpr (Lib.bitLen_le8 ⟨n / p, hn⟩)⟩
  rcases hlo with rfl | hlo
  · simp at hp; subst hp; simp
  · have hb : n < 2 ^ 64 := by
      have : p ≤ 2 ^ 56 := by rw [hp]; exact Nat.pow_le_pow_right (by decide) hk
      omega
    have := Lib.bitLen_shift k n (by omega) hb
    rw [this, hp]; omega
set_option maxHeartbeats 2000000 in
set_option maxRecDepth 100000 in
theorem len64_any (x : Int) (w : World) (h0 : 0 ≤ x) (h1 : x ≤ 18446744073709551615) :
    Calls Tryd.prog 88 #[.int .u64 x] w fun e w' => e = .returned (.int .i64 (Lib.bitLen x.toNat)) ∧ w = w' := by
  go_enter Tryd.func88, Tryd.ntmps88
  go_wp2
  all_goals (go_ret; refine ⟨congrArg Ending.returned (congrArg (Value.int IntKind.i64) ?_), rfl⟩)
  all_goals first
    | (have h := cut_bits x (x / 4294967296 / 65536 / 256) 56 56 72057594037927936 (by decide +kernel) (by decide) h0 (by omega) (by omega) (by omega) rfl; obtain ⟨h, hl, hu⟩ := h; omega)
    | (have h := cut_bits x (x / 4294967296 / 65536) 48 48 281474976710656 (by decide +kernel) (by decide) h0 (by omega) (by omega) (by omega) rfl; obtain ⟨h, hl, hu⟩ := h; omega)
    | (have h := cut_bits x (x / 4294967296 / 256) 40 40 1099511627776 (by decide +kernel) (by decide) h0 (by omega) (by omega) (by omega) rfl; obtain ⟨h, hl, hu⟩ := h; omega)
    | (have h := cut_bits x (x / 4294967296) 32 32 4294967296 (by decide +kernel) (by decide) h0 (by omega) (by omega) (by omega) rfl; obtain ⟨h, hl, hu⟩ := h; omega)
    | (have h := cut_bits x (x / 65536 / 256) 24 24 16777216 (by decide +kernel) (by decide) h0 (by omega) (by omega) (by omega) rfl; obtain ⟨h, hl, hu⟩ := h; omega)
    | (have h := cut_bits x (x / 65536) 16 16 65536 (by decide +kernel) (by decide) h0 (by omega) (by omega) (by omega) rfl; obtain ⟨h, hl, hu⟩ := h; omega)
    | (have h := cut_bits x (x / 256) 8 8 256 (by decide +kernel) (by decide) h0 (by omega) (by omega) (by omega) rfl; obtain ⟨h, hl, hu⟩ := h; omega)
    | (have h := cut_bits x x 0 0 1 (by decide) (by decide) h0 (.inl rfl) (by omega) (by omega) rfl; obtain ⟨h, hl, hu⟩ := h; omega)
theorem len_any (x : Int) (w : World) (h0 : 0 ≤ x) (h1 : x ≤ 18446744073709551615) :
    Calls Tryd.prog 83 #[.int .u64 x] w fun e w' => e = .returned (.int .i64 (Lib.bitLen x.toNat)) ∧ w = w' := by
  go_enter Tryd.func83, Tryd.ntmps83
  go_wp2_with (go_at_call 88; refine (len64_any x _ h0 h1).mono ?_; rintro e w' ⟨rfl, rfl⟩)
  go_ret
  exact ⟨rfl, rfl⟩
end Go.Proofs.YtdnhnjimhbbababDoor.P7

/- Bytes as cells of a row that the call itself owns. -/
namespace Go.Proofs.YtdnhnjimhbbababDoor.P7
open Go.RowKit Nums
set_option maxRecDepth 100000
theorem be_row (j m N : Nat) : ((List.replicate (j + 1) (0 : UInt8)) ++ be m N).set j (UInt8.ofNat (N / 256 ^ m % 256)) = List.replicate j 0 ++ be (m + 1) N := by
  rw [List.replicate_succ', List.append_assoc, List.set_append, if_neg (by simp)]
  simp [be]
theorem cells_made0 (n N : Nat) : (madeCells #[Value.int .u8 0] n).toList = cellsOf (List.replicate n 0 ++ be 0 N) := by
  rw [toList_madeCells_one]; simp [cellsOf, be]
end Go.Proofs.YtdnhnjimhbbababDoor.P7

/- What pack.Number answers: the fewest bytes of a number, the highest first, or ErrArg. -/
namespace Go.Proofs.YtdnhnjimhbbababDoor.P7
open Go.RowKit Nums
set_option maxRecDepth 100000
theorem number_no (n : Int) (w : World) (h : n < 0 ∨ 4611686018427387903 < n) :
    Calls Tryd.prog 62 #[.int .i64 n] w fun e w' => e = .returned (.tuple #[.string ByteArray.empty, .int .i64 1]) ∧ w = w' := by
  rcases h with h | h
  · go_enter Tryd.func62, Tryd.ntmps62
    go_wp2
    go_ret2
    exact ⟨rfl, rfl⟩
  · have h' : ¬ n < 0 := by omega
    go_enter Tryd.func62, Tryd.ntmps62
    go_wp2
    go_ret2
    exact ⟨rfl, rfl⟩
theorem bitLen_le (N : Nat) (h : N < 2 ^ 64) : Lib.bitLen N ≤ 64 := (bitLenAux_bounds 64 N h).2.2
set_option maxRecDepth 100000 in
set_option maxHeartbeats 1000000 in
theorem number_yes (N : Nat) (w : World) (h1 : (N : Int) ≤ 4611686018427387903) :
    Calls Tryd.prog 62 #[.int .i64 N] w fun e w' => e = .returned (.tuple #[.string ⟨(num N).toArray⟩, .int .i64 0]) ∧ Below w.heap.size w w' := by
  obtain ⟨i0, hi, hz0, hz1, hz2⟩ := info_parts info5
  have h0' : ¬ (N : Int) < 0 := by omega
  have hbl := bitLen_le N (by omega)
  have hnb : nb N ≤ 8 := nb_le N (by omega)
  have len := fun w => len_any (N : Int) w (by omega) (by omega)
  have LEN : Hid (∀ w, Calls Tryd.prog 83 #[.int .u64 N] w fun e w' => e = .returned (.int .i64 (Lib.bitLen N)) ∧ w = w') := len
  clear len
  go_enter Tryd.func62, Tryd.ntmps62
  go_wp2_with (first
    | (go_at_call 83; refine (LEN.out _).mono ?_; rintro e w' ⟨rfl, rfl⟩)
    | (at_make; refine wpList_make_full _ rfl (.tmp 16) (.tmp 16) 43 rfl w.heap.size 5 i0 (.int .u8 0) 1 Tryd.underlying43 hi hz0 hz1 .i64 .i64 _ _ (nb N) rfl rfl ?c1 ?c2 ?c3 ?c4 ?c5 ?_)
    | fail)
  case c1 => unfold nb; omega
  case c2 => unfold nb; omega
  case c3 => rw [hz2]; omega
  case c4 => unfold maxLen; omega
  case c5 => exact Nat.le_refl _
  intro w1 hown hgrow
  rw [cells_made0 _ N] at hown
  have hB : Below w.heap.size w w1 := (Below.refl _ _).grown hgrow (Nat.le_refl _) (by intro k hk; cases hk)
  clear hgrow LEN hi hz0 hz1 hz2
  go_wp2
  go_loopw [0, 5] (fun v i wr => ∃ j m q : Nat, j + m = nb N ∧ Hid (q = N / 256 ^ m) ∧ v = .int .i64 (q : Int) ∧ i = .int .i64 ((j : Int) - 1) ∧
      wr.ownsRow w.heap.size 5 1 (.slice (some ⟨w.heap.size, 0, none⟩) (nb N) (nb N)) (nb N) (cellsOf (List.replicate j 0 ++ be m N)) ∧ Below w.heap.size w wr)
    (fun _ i _ => (intOf i + 1).toNat)
  case atStart => exact ⟨nb N, 0, N, rfl, (by simp : N = N / 256 ^ 0), rfl, rfl, hown, hB⟩
  case round =>
    clear hown hB
    obtain ⟨j, m, q, hjm, HQ, rfl, hi, hown, hB⟩ := hrel
    cases j with
    | zero =>
      obtain rfl := hi
      have hm : m = nb N := by omega
      have hc := run_convert_bytes_back (P := Tryd.prog) wr 43 9 5 ⟨w.heap.size, 0, none⟩ (nb N) (be m N) Tryd.underlying43 Tryd.underlying5 Tryd.underlying9 (cells_at (by simpa using hown) (by rw [be_length, hm]))
      rw [be_length] at hc
      subst hm
      clear hown hjm
      go_wp2
      go_ret2
      exact ⟨rfl, hB⟩
    | succ j =>
      obtain rfl := hi
      have hq : (q : Int) ≤ 4611686018427387903 := by
        have := Nat.div_le_self N (256 ^ m)
        rw [← HQ.out] at this; omega
      have hfz := hown.frozenAt j
      have hcell := cell_at hown (by simp [be_length]; omega) j (by omega)
      have hst := hown.stored j (.int .u8 ((UInt8.ofNat (N / 256 ^ m % 256)).toNat))
      rw [cellsOf_set, be_row] at hst
      have HST : Hid _ := hst.1
      have HB : Hid (Below w.heap.size w (wr.setCell ⟨w.heap.size, j, none⟩ (.int .u8 ((UInt8.ofNat (N / 256 ^ m % 256)).toNat)))) := hB.setCell (Nat.le_refl _) _
      have e : ((UInt8.ofNat (N / 256 ^ m % 256)).toNat : Int) = (q : Int) % 256 := by
        rw [UInt8.toNat_ofNat', HQ.out]; omega
      rw [e] at HST HB
      clear hst hown hB e
      go_wp2
      go_roundw
      case rel =>
        refine ⟨j, m + 1, q / 256, by omega, ?_, by go_num, by go_num, HST.out, HB.out⟩
        show q / 256 = _
        rw [HQ.out, Nat.div_div_eq_div_mul, Nat.pow_succ]
      case measure => simp [intOf]
end Go.Proofs.YtdnhnjimhbbababDoor.P7

/- What pack.Value answers: the number that bytes tell, or ErrPackForm. -/
namespace Go.Proofs.YtdnhnjimhbbababDoor.P7
open Go.RowKit Nums
set_option maxRecDepth 100000
theorem number_any (n : Int) (w : World) :
    Calls Tryd.prog 62 #[.int .i64 n] w fun e w' => e = .returned (.tuple #[.string (nOf n), .int .i64 (neOf n)]) ∧ Below w.heap.size w w' := by
  by_cases h : 0 ≤ n ∧ n ≤ 4611686018427387903
  · obtain ⟨N, rfl⟩ : ∃ N : Nat, n = N := ⟨n.toNat, by omega⟩
    refine (number_yes N w h.2).mono fun e w' ⟨he, hb⟩ => ⟨?_, hb⟩
    rw [he, nOf, neOf, if_pos h, if_pos h, Int.toNat_natCast]
  · refine (number_no n w (by omega)).mono fun e w' ⟨he, hw⟩ => ⟨?_, ?_⟩
    · rw [he, nOf, neOf, if_neg h, if_neg h]
    · subst hw; exact Below.refl _ _
theorem take_snoc (s : ByteArray) (k : Nat) (h : k < s.size) : s.data.toList.take (k + 1) = s.data.toList.take k ++ [s[k]] := by
  rw [List.take_succ_eq_append_getElem (by simpa using h)]; rfl
theorem head_of (s : ByteArray) (h0 : 0 < s.size) : s.data.toList[0]? = some (s[0]'h0) := by
  rw [List.getElem?_eq_getElem (by simpa using h0)]; rfl
theorem or_byte (V b : Nat) (hV : V < 72057594037927936) (hb : b < 256) :
    bits .or .u64 (IntKind.u64.wrap ((V : Int) * 256)) (IntKind.u64.wrap (b : Int)) = ((256 * V + b : Nat) : Int) := by
  have e1 : IntKind.u64.wrap ((V : Int) * 256) = ((256 * V : Nat) : Int) := by rw [IntKind.wrap_u64]; omega
  have e2 : IntKind.u64.wrap (b : Int) = (b : Int) := by rw [IntKind.wrap_u64]; omega
  rw [e1, e2, bits_or_u64_nat _ _ (by omega) (by omega)]
  have : 256 * V ||| b = 256 * V + b := by
    have := Nat.shiftLeft_add_eq_or_of_lt (show b < 2 ^ 8 from hb) V
    rw [Nat.shiftLeft_eq] at this
    rw [Nat.mul_comm 256 V, ← this]
  rw [this]
theorem value_long (s : ByteArray) (w : World) (h : 8 < s.size) (hs : s.size ≤ maxLen) :
    Calls Tryd.prog 66 #[.string s] w fun e w' => e = .returned (.tuple #[.int .i64 0, .int .i64 11]) ∧ w = w' := by
  unfold maxLen at hs
  go_enter Tryd.func66, Tryd.ntmps66
  go_wp2
  go_ret2
  exact ⟨rfl, rfl⟩
theorem value_zero (s : ByteArray) (w : World) (h : s.size ≤ 8) (h0 : 0 < s.size) (hz : (((s[0]'h0).toNat : Int) == 0) = true) :
    Calls Tryd.prog 66 #[.string s] w fun e w' => e = .returned (.tuple #[.int .i64 0, .int .i64 11]) ∧ w = w' := by
  have hg : decide ((8 : Int) < (s.size : Int)) = false := by simp; omega
  go_enter Tryd.func66, Tryd.ntmps66
  go_wp2
  go_ret2
  exact ⟨rfl, rfl⟩
def capV (V : Nat) : Int := if V < 4611686018427387904 then V else 0
def capE (V : Nat) : Int := if V < 4611686018427387904 then 0 else 11
set_option maxHeartbeats 400000 in
theorem value_empty (s : ByteArray) (w : World) (h : s.size = 0) :
    Calls Tryd.prog 66 #[.string s] w fun e w' => e = .returned (.tuple #[.int .i64 0, .int .i64 0]) ∧ w = w' := by
  go_enter Tryd.func66, Tryd.ntmps66
  go_wp2
  go_loop [4, 5, 21] (fun n _ i => i = .int .i64 0 ∧ n = .int .u64 0) (fun _ _ _ => 0)
  case atStart => exact ⟨rfl, rfl⟩
  case round =>
    obtain ⟨rfl, rfl⟩ := hrel
    go_wp2
    go_ret2
    exact ⟨rfl, rfl⟩
set_option maxHeartbeats 1000000 in
theorem value_loop (s : ByteArray) (w : World) (h : s.size ≤ 8) (h0 : 0 < s.size) (hz0 : (((s[0]'h0).toNat : Int) == 0) = false) :
    Calls Tryd.prog 66 #[.string s] w fun e w' => e = .returned (.tuple #[.int .i64 (capV (val s.data.toList)), .int .i64 (capE (val s.data.toList))]) ∧ w = w' := by
  have hg : decide ((8 : Int) < (s.size : Int)) = false := by simp; omega
  go_enter Tryd.func66, Tryd.ntmps66
  go_wp2
  go_loop [4, 5, 21] (fun n _ i => ∃ k V : Nat, k ≤ s.size ∧ V < 256 ^ k ∧ Hid (V = val (s.data.toList.take k)) ∧ i = .int .i64 k ∧ n = .int .u64 (V : Int)) (fun _ _ i => s.size - (intOf i).toNat)
  case atStart => exact ⟨0, 0, Nat.zero_le _, by decide, (rfl : 0 = val _), rfl, rfl⟩
  case round =>
    obtain ⟨k, V, hk, hV, HV, rfl, rfl⟩ := hrel
    by_cases hlt : k < s.size
    · have HO : Hid (bits .or .u64 (IntKind.u64.wrap ((V : Int) * 256)) (IntKind.u64.wrap (((s[k]).toNat : Nat) : Int)) = ((256 * V + (s[k]).toNat : Nat) : Int)) := by
        refine or_byte V _ ?_ s[k].toNat_lt
        have := Nat.pow_le_pow_right (show 0 < 256 by decide) (show k ≤ 7 by omega)
        omega
      have HN : Hid (256 * V + (s[k]).toNat = val (s.data.toList.take (k + 1))) := by
        show 256 * V + (s[k]).toNat = _
        rw [take_snoc s k hlt, val_snoc, ← HV.out]
      have HL : Hid (256 * V + (s[k]).toNat < 256 ^ (k + 1)) := by
        show 256 * V + (s[k]).toNat < _
        have := s[k].toNat_lt
        rw [Nat.pow_succ]; omega
      clear hV
      go_wp2
      go_round
      case rel => exact ⟨k + 1, 256 * V + (s[k]).toNat, by omega, HL.out, HN, by go_num, by rw [HO.out]⟩
      case measure => simp [intOf]; omega
    · have hks : s.data.toList.take k = s.data.toList := List.take_of_length_le (by simp; omega)
      have HV2 : Hid (V = val s.data.toList) := by have := HV.out; rw [hks] at this; exact this
      clear HV hks hV
      by_cases hm : V < 4611686018427387904
      · have hm' : ¬ (4611686018427387903 : Int) < (V : Int) := by omega
        have HE : Hid (capV V = V ∧ capE V = 0) := ⟨if_pos hm, if_pos hm⟩
        go_wp2
        go_ret2
        rw [← HV2.out, HE.out.1, HE.out.2]
        exact ⟨rfl, rfl⟩
      · have hm' : (4611686018427387903 : Int) < (V : Int) := by omega
        have HE : Hid (capV V = 0 ∧ capE V = 11) := ⟨if_neg hm, if_neg hm⟩
        go_wp2
        go_ret2
        rw [← HV2.out, HE.out.1, HE.out.2]
        exact ⟨rfl, rfl⟩
theorem size_list (s : ByteArray) : s.data.toList.length = s.size := by simp
theorem value_any (s : ByteArray) (w : World) (hs : s.size ≤ maxLen) :
    Calls Tryd.prog 66 #[.string s] w fun e w' => e = .returned (.tuple #[.int .i64 (vOf s.data.toList), .int .i64 (eOf s.data.toList)]) ∧ w = w' := by
  have hlen := size_list s
  by_cases h8 : 8 < s.size
  · have : isNum s.data.toList = false := by unfold isNum; rw [decide_eq_false_iff_not]; intro h; omega
    rw [(v_no this).1, (v_no this).2]
    exact value_long s w h8 hs
  · by_cases h0 : 0 < s.size
    · cases hz : (((s[0]'h0).toNat : Int) == 0)
      · have hh : s.data.toList[0]? ≠ some 0 := by
          rw [head_of s h0]; intro e; simp at e; rw [e] at hz; simp at hz
        refine (value_loop s w (by omega) h0 hz).mono fun e w' ⟨he, hw⟩ => ⟨?_, hw⟩
        rw [he, vOf, eOf, capV, capE]
        by_cases hv : val s.data.toList < 4611686018427387904
        · have : isNum s.data.toList = true := by unfold isNum; rw [decide_eq_true_eq]; exact ⟨by omega, hh, hv⟩
          simp only [this, if_pos hv, if_true]
        · have : isNum s.data.toList = false := by unfold isNum; rw [decide_eq_false_iff_not]; exact fun h => hv h.2.2
          simp only [this, if_neg hv]; rfl
      · have : isNum s.data.toList = false := by
          unfold isNum; rw [decide_eq_false_iff_not]; intro h
          apply h.2.1
          rw [head_of s h0]
          simp at hz
          exact congrArg some (UInt8.toNat_inj.mp (by simpa using hz))
        rw [(v_no this).1, (v_no this).2]
        exact value_zero s w (by omega) h0 hz
    · have hnil : s.data.toList = [] := List.length_eq_zero_iff.mp (by omega)
      have : isNum s.data.toList = true := by rw [hnil]; decide
      rw [(v_yes this).1, (v_yes this).2, hnil]
      exact value_empty s w (by omega)
end Go.Proofs.YtdnhnjimhbbababDoor.P7

/- Laws of memory: variables that are arrays, made, read and written; digests and keys held against one another. -/
namespace Go.Proofs.YtdnhnjimhbbababDoor.P7
open Go.RowKit Sums
set_option maxRecDepth 100000
set_option linter.unusedVariables false
set_option linter.unusedSimpArgs false
/-- A variable that is an array, made, as one step of a region that draws its order. -/
theorem step_alloc_row {P : Program} {ops : Array Oper} {o : Oper} {a : Act} {w : World} {K : Act → World → Prop} {Q : Exit → Act → World → Prop} {E : Prop} (hw : Region.wanted o (yielded ops a.tmps) = true) (t : TypeId) (ho : o.op = .alloc t)
    (cs : Array Value) (hz : (P.info? t).map (fun i => (i.zero, i.size)) = some (some (.agg cs), cs.size)) (h : K (a.put o.dst (.pointer (some ⟨w.heap.size, 0, none⟩))) (w.alloc (.cells cs t))) : if Region.wanted o (yielded ops a.tmps) = true then Oper.wp P o a w K Q else E := by
  rw [if_pos hw]
  unfold Oper.wp execOp
  cases hq : P.info? t with
  | none => simp [hq] at hz
  | some i =>
    simp [hq] at hz
    simp [ho, Instr.alloc, newVar, zeroValue, typeInfo, hq, hz.1, go_sem]
    exact h
/-- An array read by its row, where the order is drawn. -/
theorem yieldsIf_row {P : Program} {ops : Array Oper} {S : World → Prop} {o : Oper} {a : Act} (hw : Region.wanted o (yielded ops a.tmps) = true) (ty : TypeId) (x : Operand) (ho : o.op = .load ty x) (g : Nat) (hx : a.eval x = .pointer (some ⟨g, 0, none⟩)) (t : TypeId) (cs : Array Value) (fr : Nat × Nat) (d : TypeDesc) (hg : ∀ w, S w → w.heap[g]? = some (.cells cs t fr))
    (hu : P.underlying ty = some d) (hd : d.isRow = true) (hi : (P.info? ty).map (·.size) = some cs.size) : YieldsIf P ops S o (.agg cs) a := by
  have := yieldsIf_load_mid (P := P) (ops := ops) (S := S) hw ty x ho g 0 hx cs.toList d (fun w h => range_row (t := t) (fr := fr) (by simpa using hg w h)) hu hd (by simpa using hi)
  simpa using this
/-- What a write of a whole row leaves. -/
structure Wrote (g : Nat) (D : Array Value) (t : TypeId) (w w' : World) : Prop where
  row : w'.heap[g]? = some (.cells D t (0, 0))
  other : ∀ k, k ≠ g → w'.heap[k]? = w.heap[k]?
  below : ∀ (B : Nat) (a : World), Below B a w → B ≤ g → Below B a w'
theorem wrote_row {w : World} {g : Nat} {Z D : Array Value} {t : TypeId} (h : w.heap[g]? = some (.cells Z t (0, 0))) : Wrote g D t w (w.setRow g D) :=
  ⟨setRow_heap _ _ _ _ t _ h, fun k hk => setRow_other _ _ _ _ hk, fun B a hb hg => below_setRow hb hg _⟩
/-- What a new variable leaves. -/
structure Made (g : Nat) (Z : Array Value) (t : TypeId) (w w' : World) : Prop where
  new : g = w.heap.size
  row : w'.heap[g]? = some (.cells Z t (0, 0))
  below : Below w.heap.size w w'
theorem step_new_var {P : Program} {ops : Array Oper} {o : Oper} {a : Act} {w : World} {K : Act → World → Prop} {Q : Exit → Act → World → Prop} {E : Prop} (hw : Region.wanted o (yielded ops a.tmps) = true) (t : TypeId) (ho : o.op = .alloc t)
    (cs : Array Value) (hz : (P.info? t).map (fun i => (i.zero, i.size)) = some (some (.agg cs), cs.size)) (h : ∀ g w', Hid (Made g cs t w w') → K (a.put o.dst (.pointer (some ⟨g, 0, none⟩))) w') : if Region.wanted o (yielded ops a.tmps) = true then Oper.wp P o a w K Q else E :=
  step_alloc_row hw t ho cs hz (h w.heap.size _ ⟨rfl, heap_alloc_new w _, (Below.refl _ _).alloc (Nat.le_refl _) _⟩)
theorem step_set_var {P : Program} {ops : Array Oper} {o : Oper} {a : Act} {w : World} {K : Act → World → Prop} {Q : Exit → Act → World → Prop} {E : Prop} (hw : Region.wanted o (yielded ops a.tmps) = true) (t : TypeId) (x y : Operand) (ho : o.op = .store t x y)
    (g : Nat) (D : Array Value) (hx : a.eval x = .pointer (some ⟨g, 0, none⟩)) (hy : a.eval y = .agg D) (t' : TypeId) (Z : Array Value) (hg : w.heap[g]? = some (.cells Z t' (0, 0))) (hi : (P.info? t).map (·.size) = some D.size) (hold : Z.size = D.size) (h1 : D.all (·.oneCell') = true)
    (h : ∀ w', Hid (Wrote g D t' w w') → K (a.put o.dst undef) w') : if Region.wanted o (yielded ops a.tmps) = true then Oper.wp P o a w K Q else E :=
  step_store_row hw t x y ho g D hx hy t' Z hg hi hold h1 (h _ (wrote_row hg))
theorem alloc_size (w : World) (o : Obj) : (w.alloc o).heap.size = w.heap.size + 1 := by simp
theorem beqL (xs ys : List UInt8) : (xs == ys) = decide (xs = ys) := by by_cases h : xs = ys <;> simp [h]
theorem eqDigV (xs ys : List UInt8) (hx : xs.length = 32) (hy : ys.length = 32) (X Y : Array Value) (HX : Hid (X = (cellsOf xs).toArray)) (HY : Hid (Y = (cellsOf ys).toArray)) (b : Bool) (hb : decide (xs = ys) = b) (w : World) : (binOp .eql 30 (.agg X) (.agg Y)).run Tryd.prog w = .ok (.bool b) w := by
  rw [HX.out, HY.out, eqDig xs ys hx hy, ← hb, beqL]
theorem neqDigV (xs ys : List UInt8) (hx : xs.length = 32) (hy : ys.length = 32) (X Y : Array Value) (HX : Hid (X = (cellsOf xs).toArray)) (HY : Hid (Y = (cellsOf ys).toArray)) (b : Bool) (hb : (!decide (xs = ys)) = b) (w : World) : (binOp .neq 30 (.agg X) (.agg Y)).run Tryd.prog w = .ok (.bool b) w := by
  have h : (Op.equalIn (9998 + 2) 30 (.agg (cellsOf xs).toArray) (.agg (cellsOf ys).toArray)).run Tryd.prog w = .ok (xs == ys) w := run_equalIn_bytes (P := Tryd.prog) w 9998 30 5 32 Tryd.underlying30 Tryd.underlying5 sizeOf5 xs ys hx hy
  rw [run_neq_struct, HX.out, HY.out]
  simp only [Nat.reduceAdd] at h
  rw [h, ← hb, beqL]
  rfl
/-- A variable that is an array, made; the world behind it is a letter. -/
theorem wpList_new_var {P : Program} {ops : Array Oper} {rest : List Oper} {o : Oper} {a : Act} {w : World} {Q : Exit → Act → World → Prop} (hg : o.guard = none) (t : TypeId) (ho : o.op = .alloc t)
    (cs : Array Value) (hz : (P.info? t).map (fun i => (i.zero, i.size)) = some (some (.agg cs), cs.size)) (h : ∀ g w', Hid (Made g cs t w w') → wpList P ops Q rest (a.put o.dst (.pointer (some ⟨g, 0, none⟩))) w') : wpList P ops Q (o :: rest) a w :=
  wpList_alloc_row hg t ho cs hz (h w.heap.size _ ⟨rfl, heap_alloc_new w _, (Below.refl _ _).alloc (Nat.le_refl _) _⟩)
theorem wpList_set_var {P : Program} {ops : Array Oper} {rest : List Oper} {o : Oper} {a : Act} {w : World} {Q : Exit → Act → World → Prop} (hgd : o.guard = none) (t : TypeId) (x y : Operand) (ho : o.op = .store t x y)
    (g : Nat) (D : Array Value) (hx : a.eval x = .pointer (some ⟨g, 0, none⟩)) (hy : a.eval y = .agg D) (t' : TypeId) (Z : Array Value) (hg : w.heap[g]? = some (.cells Z t' (0, 0))) (hi : (P.info? t).map (·.size) = some D.size) (hold : Z.size = D.size) (h1 : D.all (·.oneCell') = true)
    (h : ∀ w', Hid (Wrote g D t' w w') → wpList P ops Q rest (a.put o.dst undef) w') : wpList P ops Q (o :: rest) a w :=
  wpList_store_row hgd t x y ho g D hx hy t' Z hg hi hold h1 (h _ (wrote_row hg))
theorem results_tmp_row {P : Program} {fn : Func} {p q : Tmp} {ty : TypeId} (h : fn.results = #[.tmp q, .cell p ty]) (tmps : Array Value) (w : World) (g : Nat) (t : TypeId) (cs : Array Value) (fr : Nat × Nat) (d : TypeDesc)
    (hp : tmps.getD p undef = .pointer (some ⟨g, 0, none⟩)) (hg : w.heap[g]? = some (.cells cs t fr))
    (hu : P.underlying ty = some d) (hd : (match d with | .struct _ | .array _ _ => true | _ => false) = true) (hi : (P.info? ty).map (·.size) = some cs.size) :
    (results fn tmps).run P w = .ok (.tuple #[tmps.getD q undef, .agg cs]) w := by
  have hp' : tmps[p]?.getD undef = .pointer (some ⟨g, 0, none⟩) := by simpa using hp
  simp [results, h, hp', asAddr, run_loadVar_row w g t ty cs fr d hg hu hd hi]
/-- An array read out of the midst of a row. -/
theorem yieldsIf_mid {P : Program} {ops : Array Oper} {S : World → Prop} {op : Oper} {a : Act} (hw : Region.wanted op (yielded ops a.tmps) = true) (ty : TypeId) (x : Operand) (ho : op.op = .load ty x)
    (b o : Nat) (hx : a.eval x = .pointer (some ⟨b, o, none⟩)) (D : Array Value) (d : TypeDesc) (hS : ∀ w, S w → w.rangeAt b o D.toList)
    (hu : P.underlying ty = some d) (hd : d.isRow = true) (hi : (P.info? ty).map (·.size) = some D.size) : YieldsIf P ops S op (.agg D) a := by
  have := yieldsIf_load_mid (P := P) (ops := ops) (S := S) hw ty x ho b o hx D.toList d hS hu hd (by simpa using hi)
  simpa using this
theorem wpList_mid {P : Program} {ops : Array Oper} {rest : List Oper} {op : Oper} {a : Act} {w : World} {Q : Exit → Act → World → Prop} (hgd : op.guard = none) (ty : TypeId) (x : Operand) (ho : op.op = .load ty x)
    (b o : Nat) (hx : a.eval x = .pointer (some ⟨b, o, none⟩)) (D : Array Value) (d : TypeDesc) (hc : w.rangeAt b o D.toList)
    (hu : P.underlying ty = some d) (hd : d.isRow = true) (hi : (P.info? ty).map (·.size) = some D.size)
    (h : wpList P ops Q rest (a.put op.dst (.agg D)) w) : wpList P ops Q (op :: rest) a w :=
  wpList_load_mid hgd ty x ho b o hx D.toList d hc hu hd (by simpa using hi) (by simpa using h)
theorem slice_at (w : World) (g o : Nat) : (Instr.sliceAt 30 (.pointer (some ⟨g, o, none⟩)) none none none).run Tryd.prog w = .ok (.slice (some ⟨g, o, none⟩) 32 32) w := by
  simp [Instr.sliceAt, Instr.slice, Instr.sliceBounds, run_underlying Tryd.underlying30, Instr.sureAddr]
  rw [add_plain]
  simp
theorem conv_at (W : World) (g o : Nat) (l : List UInt8) (hl : l.length = 32) (h : W.rangeAt g o (cellsOf l)) : Sem.run Tryd.prog (convert 43 9 (.slice (some ⟨g, o, none⟩) 32 32)) W = .ok (.string ⟨l.toArray⟩) W := by
  have := run_convert_bytes_back (P := Tryd.prog) W 43 9 5 ⟨g, o, none⟩ 32 l Tryd.underlying43 Tryd.underlying5 Tryd.underlying9 (fun j hj => by
    rw [add_plain]
    exact h j _ (cellsOf_at l j hj))
  rw [hl] at this
  exact this
/-! Keys: arrays of 32 bytes, of another type than digests. -/
theorem zeroY : (Tryd.prog.info? 24).map (fun i => (i.zero, i.size)) = some (some (.agg (cellsOf (List.replicate 32 0)).toArray), 32) := by kernel_rfl
theorem sizeY : (Tryd.prog.info? 24).map (·.size) = some 32 := by kernel_rfl
theorem noughtsY : ∃ Z : Array Value, Hid (Z = (cellsOf (List.replicate 32 0)).toArray) ∧ Hid ((Tryd.prog.info? 24).map (fun i => (i.zero, i.size)) = some (some (.agg Z), Z.size)) ∧ Hid (Z.size = 32) :=
  ⟨(cellsOf (List.replicate 32 0)).toArray, (rfl : _ = _), zeroY, (rfl : _ = _)⟩
theorem key_row (l : List UInt8) (hl : l.length = 32) : ∃ D : Array Value, Hid (D = (cellsOf l).toArray) ∧ Hid ((Tryd.prog.info? 24).map (·.size) = some D.size) ∧ Hid (D.all (·.oneCell') = true) ∧ Hid (D.size = 32) := by
  refine ⟨(cellsOf l).toArray, (rfl : _ = _), ?_, cellsOf_all l, ?_⟩
  · show _ = _
    rw [sizeY]; simp [cellsOf_length, hl]
  · show _ = _
    simp [cellsOf_length, hl]
theorem xor8 (x y : UInt8) : bits .xor .u8 (x.toNat : Int) (y.toNat : Int) = ((x ^^^ y).toNat : Int) := by
  rw [u8_xor_nat _ _ x.toNat_lt y.toNat_lt, UInt8.toNat_xor]
end Go.Proofs.YtdnhnjimhbbababDoor.P7

/- What the document's small functions on heads answer: is a head right; numbers and digests. -/
namespace Go.Proofs.YtdnhnjimhbbababDoor.P7
open Go.RowKit Sums Nums
set_option linter.unusedVariables false
set_option linter.unusedSimpArgs false
set_option maxRecDepth 100000
/-! Heads in memory: three numbers, a digest, a number. -/
def hcells (h : HdT) : List Value := [.int .i64 h.r, .int .i64 h.e, .int .i64 h.s] ++ cellsOf h.d ++ [.int .i64 h.t]
theorem hcells_length (h : HdT) (hd : h.d.length = 32) : (hcells h).length = 36 := by simp [hcells, cellsOf_length, hd]
def scells (s : SgT) : List Value := hcells s.h ++ [.int .i64 s.n] ++ cellsOf s.g
theorem scells_length (s : SgT) (hd : s.h.d.length = 32) (hg : s.g.length = 32) : (scells s).length = 69 := by simp [scells, hcells_length _ hd, cellsOf_length, hg]
/-- What the parts of a head's row read as. -/
structure HRow (W : World) (g o : Nat) (h : HdT) : Prop where
  r : W.cell? ⟨g, o, none⟩ = some (.int .i64 h.r)
  e : W.cell? ⟨g, o + 1, none⟩ = some (.int .i64 h.e)
  s : W.cell? ⟨g, o + 2, none⟩ = some (.int .i64 h.s)
  d : W.rangeAt g (o + 3) (cellsOf h.d)
  t : W.cell? ⟨g, o + 35, none⟩ = some (.int .i64 h.t)
theorem hrow_of {W : World} {g o : Nat} {h : HdT} (hd : h.d.length = 32) (hr : W.rangeAt g o (hcells h)) : HRow W g o h := by
  refine ⟨?_, ?_, ?_, ?_, ?_⟩
  · have := hr 0 (.int .i64 h.r) rfl; simpa using this
  · exact hr 1 (.int .i64 h.e) rfl
  · exact hr 2 (.int .i64 h.s) rfl
  · intro j v hj
    have hlt := (List.getElem?_eq_some_iff.1 hj).1
    have := hr (3 + j) v (by
      unfold hcells
      rw [List.append_assoc, List.getElem?_append_right (by simp), List.getElem?_append_left (by simpa using hlt)]
      simpa using hj)
    rw [Nat.add_assoc]; exact this
  · have := hr 35 (.int .i64 h.t) (by
      unfold hcells
      rw [List.getElem?_append_right (by simp [cellsOf_length, hd])]
      simp [cellsOf_length, hd])
    exact this
theorem hrow_new (w : World) (h : HdT) (hd : h.d.length = 32) (C : Array Value) (HC : Hid (C = (hcells h).toArray)) (t : TypeId) : HRow (w.alloc (.cells C t)) w.heap.size 0 h := by
  refine hrow_of hd ?_
  intro j v hj
  rw [Nat.zero_add, cell_of_row _ _ j _ t (0, 0) (heap_alloc_new w _), HC.out]
  simpa using hj
end Go.Proofs.YtdnhnjimhbbababDoor.P7

/- Rows of bytes: made, and written byte by byte; the new world is a letter. -/
namespace Go.Proofs.YtdnhnjimhbbababDoor.P7
open Go.RowKit Sums
set_option maxRecDepth 100000
set_option linter.unusedVariables false
set_option linter.unusedSimpArgs false
theorem wrote_cell {w : World} {g i : Nat} {cs : Array Value} {t : TypeId} (v : Value) (h : w.heap[g]? = some (.cells cs t (0, 0))) : Wrote g (cs.setIfInBounds i v) t w (w.setCell ⟨g, i, none⟩ v) :=
  ⟨Go.heap_setCell_same w g i cs t v h, fun k hk => Below.heap_setCell _ _ _ _ hk, fun B a hb hg => hb.setCell hg _⟩
theorem wpList_put8 {P : Program} {ops : Array Oper} {rest : List Oper} {o : Oper} {a : Act} {w : World} {Q : Exit → Act → World → Prop} (hgd : o.guard = none) (t : TypeId) (x y : Operand) (ho : o.op = .store t x y) (hs : ∀ w, (sizeOf t).run P w = .ok 1 w)
    (g i : Nat) (n : Int) (hx : a.eval x = .pointer (some ⟨g, i, none⟩)) (hy : a.eval y = .int .u8 n) (cs : Array Value) (t' : TypeId) (hg : w.heap[g]? = some (.cells cs t' (0, 0))) (hi : i < cs.size)
    (h : ∀ w', Hid (Wrote g (cs.setIfInBounds i (.int .u8 n)) t' w w') → wpList P ops Q rest (a.put o.dst undef) w') : wpList P ops Q (o :: rest) a w := by
  refine wpList_plain hgd fun K hK => ?_
  have hc : w.cell? ⟨g, i, none⟩ = some cs[i] := by rw [cell_of_row w g i cs t' (0, 0) hg, Array.getElem?_eq_getElem hi]
  have hf : w.frozen? ⟨g, i, none⟩ = false := frozen_of_row w g i cs t' hg
  have hrun : (Instr.storeAt t (.pointer (some ⟨g, i, none⟩)) (.int .u8 n)).run P w = .ok () (w.setCell ⟨g, i, none⟩ (.int .u8 n)) := by
    simp [go_sem, hc, hf, hs]
  unfold Oper.wp execOp
  simp only [ho, hx, hy, hrun, Sem.run_bind, Result.andThen_ok]
  exact hK _ _ (h _ (wrote_cell _ hg))
theorem cells_put (l : List UInt8) (k : Nat) (x : UInt8) : ((cellsOf l).toArray.setIfInBounds k (.int .u8 (x.toNat : Int))) = (cellsOf (l.set k x)).toArray := by
  unfold cellsOf
  rw [List.setIfInBounds_toArray, List.map_set]
end Go.Proofs.YtdnhnjimhbbababDoor.P7

/- What pack's fault and appendField do: the fault of a field; a field's bytes behind bytes that are owned. -/
namespace Go.Proofs.YtdnhnjimhbbababDoor.P7
open Go.RowKit Nums
set_option maxRecDepth 100000
theorem cellsOf_str (s : ByteArray) : Lib.strCells s = cellsOf s.data.toList := rfl
theorem fault_any (last tag : Int) (d : ByteArray) (w : World) (hd : d.size ≤ maxLen) :
    Calls Tryd.prog 82 #[.int .i64 last, .agg #[.int .i64 tag, .string d]] w fun e w' => e = .returned (.int .i64 (faultOf last tag d.size)) ∧ Below w.heap.size w w' := by
  unfold maxLen at hd
  have hb : Below w.heap.size w (w.alloc (.cells #[.int .i64 tag, .string d] 69)) := (Below.refl _ _).alloc (Nat.le_refl _) _
  by_cases h1 : tag ≤ last
  · have HF : Hid (faultOf last tag d.size = 1) := by simp [Hid, faultOf, h1]
    go_enter Tryd.func82, Tryd.ntmps82
    go_wp2
    go_ret
    rw [HF.out]
    exact ⟨rfl, hb⟩
  · by_cases h2 : 255 < tag
    · have HF : Hid (faultOf last tag d.size = 1) := by simp [Hid, faultOf, h2]
      go_enter Tryd.func82, Tryd.ntmps82
      go_wp2
      go_ret
      rw [HF.out]
      exact ⟨rfl, hb⟩
    · by_cases h3 : (65536 : Int) < (d.size : Int)
      · have HF : Hid (faultOf last tag d.size = 2) := by
          show _ = _
          rw [faultOf, if_neg (by omega), if_pos (by omega)]
        go_enter Tryd.func82, Tryd.ntmps82
        go_wp2
        go_ret
        rw [HF.out]
        exact ⟨rfl, hb⟩
      · have HF : Hid (faultOf last tag d.size = 0) := by
          show _ = _
          rw [faultOf, if_neg (by omega), if_neg (by omega)]
        go_enter Tryd.func82, Tryd.ntmps82
        go_wp2
        go_ret
        rw [HF.out]
        exact ⟨rfl, hb⟩
theorem row_low {w : World} {B : Nat} {v : Value} {n : Nat} {xs : List Value} (h : w.ownsRow B 5 1 v n xs) : ∀ k, v.ownBlock = some k → B ≤ k := fun k hk => (h.lt k hk).1
end Go.Proofs.YtdnhnjimhbbababDoor.P7

/- What pack.Get answers. -/
namespace Go.Proofs.YtdnhnjimhbbababDoor.P7
open Go.RowKit Nums
set_option maxRecDepth 100000
theorem get_short (a : Option Addr) (len cap : Nat) (w : World) (h : len < 4) :
    Calls Tryd.prog 90 #[.slice a len cap] w fun e w' => e = .returned (.tuple #[.agg #[.int .i64 0, .string ⟨#[]⟩], .int .i64 0, .int .i64 10]) ∧ Below w.heap.size w w' := by
  go_enter Tryd.func90, Tryd.ntmps90
  go_wp2
  refine bodyPost_ret (v := .tuple #[.agg #[.int .i64 0, .string ⟨#[]⟩], .int .i64 0, .int .i64 10]) (by simp [results, Tryd.results90, go_sem]) rfl ⟨rfl, ?_⟩
  exact (Below.refl _ _).alloc (Nat.le_refl _) _
/-- The world in which Get's answer lies: a block of its own. -/
theorem below_get (w : World) (nq : Nat) (x y : Value) :
    Below w.heap.size w ((((w.alloc (.cells #[.int .i64 0, .string ⟨#[]⟩] 69)).drewN nq).setCell ⟨w.heap.size, 0, none⟩ x).setCell ⟨w.heap.size, 1, none⟩ y) :=
  ((below_drewN ((Below.refl _ _).alloc (Nat.le_refl _) _) nq).setCell (Nat.le_refl _) _).setCell (Nat.le_refl _) _
set_option maxHeartbeats 1000000 in
theorem get_form (b off len cap : Nat) (w : World) (h : 4 ≤ len) (c0 c1 c2 c3 N : Nat) (hb : b < w.heap.size)
    (h0 : w.cell? ⟨b, off, none⟩ = some (.int .u8 c0)) (h1 : w.cell? ⟨b, off + 1, none⟩ = some (.int .u8 c1))
    (h2 : w.cell? ⟨b, off + 2, none⟩ = some (.int .u8 c2)) (h3 : w.cell? ⟨b, off + 3, none⟩ = some (.int .u8 c3))
    (g0 : (c0 : Int) ≤ 255) (g1 : (c1 : Int) ≤ 255) (g2 : (c2 : Int) ≤ 255) (g3 : (c3 : Int) ≤ 255) (hN : (N : Int) ≤ 16777215)
    (hbits : bits .or .i64 (bits .or .i64 ((c1 : Int) * 65536) ((c2 : Int) * 256)) (c3 : Int) = (N : Int))
    (hc : ((c0 : Int) == 0) = true ∨ (((c0 : Int) == 0) = false ∧ (65536 : Int) < (N : Int))) :
    Calls Tryd.prog 90 #[.slice (some ⟨b, off, none⟩) len cap] w fun e w' => e = .returned (.tuple #[.agg #[.int .i64 0, .string ⟨#[]⟩], .int .i64 0, .int .i64 11]) ∧ Below w.heap.size w w' := by
  have l0 : (0 : Int) < (len : Int) := by omega
  have l1 : (1 : Int) < (len : Int) := by omega
  have l2 : (2 : Int) < (len : Int) := by omega
  have l3 : (3 : Int) < (len : Int) := by omega
  rcases hc with hc | ⟨hc, hc2⟩
  all_goals
    go_enter Tryd.func90, Tryd.ntmps90
    go_wp2
    go_quiet (fail)
    go_wp2
    exact bodyPost_ret (v := .tuple #[.agg #[.int .i64 0, .string ⟨#[]⟩], .int .i64 0, .int .i64 11]) (by simp [results, Tryd.results90, go_sem]) rfl ⟨rfl, below_get _ _ _ _⟩
set_option maxHeartbeats 1000000 in
theorem get_cut (b off len cap : Nat) (w : World) (h : 4 ≤ len) (c0 c1 c2 c3 N : Nat) (hb : b < w.heap.size)
    (h0 : w.cell? ⟨b, off, none⟩ = some (.int .u8 c0)) (h1 : w.cell? ⟨b, off + 1, none⟩ = some (.int .u8 c1))
    (h2 : w.cell? ⟨b, off + 2, none⟩ = some (.int .u8 c2)) (h3 : w.cell? ⟨b, off + 3, none⟩ = some (.int .u8 c3))
    (g0 : (c0 : Int) ≤ 255) (g1 : (c1 : Int) ≤ 255) (g2 : (c2 : Int) ≤ 255) (g3 : (c3 : Int) ≤ 255) (hN : (N : Int) ≤ 65536)
    (hbits : bits .or .i64 (bits .or .i64 ((c1 : Int) * 65536) ((c2 : Int) * 256)) (c3 : Int) = (N : Int))
    (hc : ((c0 : Int) == 0) = false) (hl : (len : Int) < 4 + (N : Int)) :
    Calls Tryd.prog 90 #[.slice (some ⟨b, off, none⟩) len cap] w fun e w' => e = .returned (.tuple #[.agg #[.int .i64 0, .string ⟨#[]⟩], .int .i64 0, .int .i64 10]) ∧ Below w.heap.size w w' := by
  have l0 : (0 : Int) < (len : Int) := by omega
  have l1 : (1 : Int) < (len : Int) := by omega
  have l2 : (2 : Int) < (len : Int) := by omega
  have l3 : (3 : Int) < (len : Int) := by omega
  have hn : ¬ (65536 : Int) < (N : Int) := by omega
  go_enter Tryd.func90, Tryd.ntmps90
  go_wp2
  go_quiet (fail)
  go_wp2
  exact bodyPost_ret (v := .tuple #[.agg #[.int .i64 0, .string ⟨#[]⟩], .int .i64 0, .int .i64 10]) (by simp [results, Tryd.results90, go_sem]) rfl ⟨rfl, below_get _ _ _ _⟩
set_option maxHeartbeats 1000000 in
theorem get_field (b off len cap : Nat) (w : World) (h : 4 ≤ len) (c0 c1 c2 c3 N : Nat) (hb : b < w.heap.size) (hlc : len ≤ cap) (hcm : cap ≤ 9223372036854775807)
    (h0 : w.cell? ⟨b, off, none⟩ = some (.int .u8 c0)) (h1 : w.cell? ⟨b, off + 1, none⟩ = some (.int .u8 c1))
    (h2 : w.cell? ⟨b, off + 2, none⟩ = some (.int .u8 c2)) (h3 : w.cell? ⟨b, off + 3, none⟩ = some (.int .u8 c3))
    (g0 : (c0 : Int) ≤ 255) (g1 : (c1 : Int) ≤ 255) (g2 : (c2 : Int) ≤ 255) (g3 : (c3 : Int) ≤ 255) (hN : (N : Int) ≤ 65536)
    (hbits : bits .or .i64 (bits .or .i64 ((c1 : Int) * 65536) ((c2 : Int) * 256)) (c3 : Int) = (N : Int))
    (hc : ((c0 : Int) == 0) = false) (hl : 4 + (N : Int) ≤ (len : Int)) (d : List UInt8) (hd : d.length = N) (hdata : ∀ (j : Nat) (hj : j < d.length), w.cell? ⟨b, off + 4 + j, none⟩ = some (.int .u8 d[j].toNat)) :
    Calls Tryd.prog 90 #[.slice (some ⟨b, off, none⟩) len cap] w fun e w' => e = .returned (.tuple #[.agg #[.int .i64 c0, .string ⟨d.toArray⟩], .int .i64 (4 + N), .int .i64 0]) ∧ Below w.heap.size w w' := by
  have l0 : (0 : Int) < (len : Int) := by omega
  have l1 : (1 : Int) < (len : Int) := by omega
  have l2 : (2 : Int) < (len : Int) := by omega
  have l3 : (3 : Int) < (len : Int) := by omega
  have hn : ¬ (65536 : Int) < (N : Int) := by omega
  have hl' : ¬ (len : Int) < 4 + (N : Int) := by omega
  by_cases hcap : cap = 4
  · have hlen : len = 4 := by omega
    have hN0 : N = 0 := by omega
    subst hN0 hlen hcap
    have hd0 : d = [] := List.eq_nil_of_length_eq_zero hd
    subst hd0
    have hconv : ∀ nq, Sem.run Tryd.prog (convert 43 9 (.slice (some ⟨b, off, none⟩) 0 0)) ((w.alloc (.cells #[.int .i64 0, .string ⟨#[]⟩] 69)).drewN nq) = .ok (.string ⟨#[]⟩) ((w.alloc (.cells #[.int .i64 0, .string ⟨#[]⟩] 69)).drewN nq) :=
      fun nq => run_convert_bytes_back (P := Tryd.prog) _ 43 9 5 ⟨b, off, none⟩ 0 [] Tryd.underlying43 Tryd.underlying5 Tryd.underlying9 (fun j hj => by simp at hj)
    clear hdata hd
    go_enter Tryd.func90, Tryd.ntmps90
    go_wp2
    go_quiet (fail)
    go_wp2
    exact bodyPost_ret (v := .tuple #[.agg #[.int .i64 c0, .string ⟨#[]⟩], .int .i64 4, .int .i64 0]) (by simp [results, Tryd.results90, go_sem]) rfl ⟨rfl, below_get _ _ _ _⟩
  · have hconv : ∀ nq, Sem.run Tryd.prog (convert 43 9 (.slice (some ⟨b, off + 4, none⟩) N (cap - 4))) ((w.alloc (.cells #[.int .i64 0, .string ⟨#[]⟩] 69)).drewN nq) = .ok (.string ⟨d.toArray⟩) ((w.alloc (.cells #[.int .i64 0, .string ⟨#[]⟩] 69)).drewN nq) := by
      intro nq
      have := run_convert_bytes_back (P := Tryd.prog) ((w.alloc (.cells #[.int .i64 0, .string ⟨#[]⟩] 69)).drewN nq) 43 9 5 ⟨b, off + 4, none⟩ (cap - 4) d Tryd.underlying43 Tryd.underlying5 Tryd.underlying9 (fun j hj => by
        rw [add_plain]
        have h1 : Below w.heap.size w ((w.alloc (.cells #[.int .i64 0, .string ⟨#[]⟩] 69)).drewN nq) := below_drewN ((Below.refl _ _).alloc (Nat.le_refl _) _) nq
        rw [h1.cell (p := ⟨b, off + 4 + j, none⟩) hb]
        exact hdata j hj)
      rw [hd] at this
      exact this
    clear hdata hd
    go_enter Tryd.func90, Tryd.ntmps90
    go_wp2
    go_quiet (fail)
    go_wp2
    exact bodyPost_ret (v := .tuple #[.agg #[.int .i64 c0, .string ⟨d.toArray⟩], .int .i64 (4 + N), .int .i64 0]) (by simp [results, Tryd.results90, go_sem]) rfl ⟨rfl, below_get _ _ _ _⟩
end Go.Proofs.YtdnhnjimhbbababDoor.P7

/- Both Gets answer as one plain function of the bytes. -/
namespace Go.Proofs.YtdnhnjimhbbababDoor.P7
open Go.RowKit Nums
set_option maxRecDepth 100000
/-- A slice of bytes that can be read: its bytes are l. -/
def Reads (w : World) (a : Option Addr) (len cap : Nat) (l : List UInt8) : Prop :=
  l.length = len ∧ len ≤ cap ∧ cap ≤ 9223372036854775807 ∧
  ((a = none ∧ cap = 0) ∨ (∃ ad, a = some ad ∧ len = 0) ∨ ∃ b off, a = some ⟨b, off, none⟩ ∧ b < w.heap.size ∧ ∀ (i : Nat) (h : i < l.length), w.cell? ⟨b, off + i, none⟩ = some (.int .u8 l[i].toNat))
theorem Reads.below {w w' : World} {a : Option Addr} {len cap : Nat} {l : List UInt8} (h : Reads w a len cap l) (hb : Below w.heap.size w w') : Reads w' a len cap l := by
  obtain ⟨h1, h2, h3, h4⟩ := h
  refine ⟨h1, h2, h3, ?_⟩
  rcases h4 with h4 | h4 | ⟨b, off, e, hlt, hc⟩
  · exact .inl h4
  · exact .inr (.inl h4)
  · refine .inr (.inr ?_)
    exact ⟨b, off, e, Nat.lt_of_lt_of_le hlt hb.size, fun i hi => (hb.cell (p := ⟨b, off + i, none⟩) hlt).trans (hc i hi)⟩
def gotten (l : List UInt8) : Ending := .returned (.tuple #[.agg #[.int .i64 (gT l), .string ⟨(gD l).toArray⟩], .int .i64 (gN l), .int .i64 (gE l)])
theorem gotten_no {l : List UInt8} {k : Nat} (h : gE l = k) (hk : k ≠ 0) : gotten l = .returned (.tuple #[.agg #[.int .i64 0, .string ⟨#[]⟩], .int .i64 0, .int .i64 k]) := by
  have h0 : gE l ≠ 0 := by omega
  rw [gotten, gT, gD, gN, if_neg h0, if_neg h0, if_neg h0, h]; rfl
theorem gotten_yes {l : List UInt8} (h : gE l = 0) : gotten l = .returned (.tuple #[.agg #[.int .i64 ((l.getD 0 0).toNat : Nat), .string ⟨((l.drop 4).take (size3 l)).toArray⟩], .int .i64 (4 + (size3 l : Int)), .int .i64 0]) := by
  simp [gotten, gT, gD, gN, h]
/-- What a walk needs to know of bytes that are long enough. -/
theorem Reads.heads {w : World} {a : Option Addr} {len cap : Nat} {l : List UInt8} (h : Reads w a len cap l) (h4 : 4 ≤ len) :
    ∃ b off, a = some ⟨b, off, none⟩ ∧ b < w.heap.size ∧ w.cell? ⟨b, off, none⟩ = some (.int .u8 (l.getD 0 0).toNat) ∧ w.cell? ⟨b, off + 1, none⟩ = some (.int .u8 (l.getD 1 0).toNat) ∧
      w.cell? ⟨b, off + 2, none⟩ = some (.int .u8 (l.getD 2 0).toNat) ∧ w.cell? ⟨b, off + 3, none⟩ = some (.int .u8 (l.getD 3 0).toNat) ∧
      ∀ (n : Nat), 4 + n ≤ len → ((l.drop 4).take n).length = n ∧ ∀ (j : Nat) (hj : j < ((l.drop 4).take n).length), w.cell? ⟨b, off + 4 + j, none⟩ = some (.int .u8 ((l.drop 4).take n)[j].toNat) := by
  obtain ⟨h1, h2, h3, ⟨_, h0⟩ | ⟨_, _, h0⟩ | ⟨b, off, e, hlt, hc⟩⟩ := h
  · omega
  · omega
  · have hg : ∀ i, i < len → w.cell? ⟨b, off + i, none⟩ = some (.int .u8 (l.getD i 0).toNat) := fun i hi => by
      rw [hc i (by omega), List.getD, List.getElem?_eq_getElem (by omega)]; rfl
    refine ⟨b, off, e, hlt, hg 0 (by omega), hg 1 (by omega), hg 2 (by omega), hg 3 (by omega), ?_⟩
    intro n hn
    refine ⟨by simp; omega, fun j hj => ?_⟩
    have hj' : j < n := by simp at hj; omega
    have := hc (4 + j) (by omega)
    rw [← Nat.add_assoc] at this
    rw [this]
    simp
theorem get_any (a : Option Addr) (len cap : Nat) (l : List UInt8) (w : World) (h : Reads w a len cap l) :
    Calls Tryd.prog 90 #[.slice a len cap] w fun e w' => e = gotten l ∧ Below w.heap.size w w' := by
  by_cases h4 : len < 4
  · rw [gotten_no (gE_short (by rw [h.1]; exact h4)) (by decide)]
    exact get_short a len cap w h4
  · obtain ⟨b, off, rfl, hlt, h0, h1, h2, h3, hd⟩ := h.heads (by omega)
    have n0 : ¬ l.length < 4 := by rw [h.1]; exact h4
    have b0 := (l.getD 0 0).toNat_lt
    have b1 := (l.getD 1 0).toNat_lt
    have b2 := (l.getD 2 0).toNat_lt
    have b3 := (l.getD 3 0).toNat_lt
    have hb := or3 _ _ _ b1 b2 b3
    change _ = ((size3 l : Nat) : Int) at hb
    have hs : size3 l ≤ 16777215 := by unfold size3; omega
    by_cases hf : (l.getD 0 0).toNat = 0 ∨ 65536 < size3 l
    · rw [gotten_no (gE_form n0 hf) (by decide)]
      exact get_form b off len cap w (by omega) _ _ _ _ (size3 l) hlt h0 h1 h2 h3 (by omega) (by omega) (by omega) (by omega) (by omega) hb (by
        by_cases hz : (l.getD 0 0).toNat = 0
        · left; rw [hz]; rfl
        · right; exact ⟨by simpa using hz, by omega⟩)
    · have hz : (((l.getD 0 0).toNat : Int) == 0) = false := by
        have : ¬ (l.getD 0 0).toNat = 0 := fun h => hf (.inl h)
        simpa using this
      by_cases hc : l.length < 4 + size3 l
      · rw [gotten_no (gE_cut n0 hf hc) (by decide)]
        exact get_cut b off len cap w (by omega) _ _ _ _ (size3 l) hlt h0 h1 h2 h3 (by omega) (by omega) (by omega) (by omega) (by omega) hb hz (by rw [h.1] at hc; omega)
      · rw [gotten_yes (gE_ok n0 hf hc)]
        have hl : 4 + size3 l ≤ len := by rw [h.1] at hc; omega
        exact get_field b off len cap w (by omega) _ _ _ _ (size3 l) hlt h.2.1 h.2.2.1 h0 h1 h2 h3 (by omega) (by omega) (by omega) (by omega) (by omega) hb hz (by omega) _ (hd _ hl).1 (hd _ hl).2
end Go.Proofs.YtdnhnjimhbbababDoor.P7

/- Rows that the call owns, and bytes that can be read: what appends do to them. -/
namespace Go.Proofs.YtdnhnjimhbbababDoor.P7
open Go.RowKit Nums
set_option maxRecDepth 100000
theorem own_lower {w : World} {B B' e size n : Nat} {v : Value} {xs : List Value} (h : w.ownsRow B e size v n xs) (hB : B' ≤ B) : w.ownsRow B' e size v n xs := by
  refine ⟨h.1, ?_⟩
  rcases h.2 with h2 | ⟨g, cap, cur, e1, hb, r⟩
  · exact .inl h2
  · exact .inr ⟨g, cap, cur, e1, Nat.le_trans hB hb, r⟩
/-- What is owned can be read. -/
theorem reads_own {w : World} {B : Nat} {v : Value} {l : List UInt8} (h : w.ownsRow B 5 1 v l.length (cellsOf l)) : ∃ a cap, v = .slice a l.length cap ∧ Reads w a l.length cap l := by
  rcases h.2 with ⟨rfl, h0⟩ | ⟨g, cap, cur, rfl, hb, hg, hn, hm, hs, ht⟩
  · refine ⟨none, 0, by rw [h0], rfl, by omega, by decide, .inl ⟨rfl, rfl⟩⟩
  · have hlt := (h.lt g rfl).2
    refine ⟨_, _, rfl, rfl, hn, by unfold maxLen at hm; omega, .inr (.inr ⟨g, 0, rfl, hlt, fun i hi => ?_⟩)⟩
    have := cells_at h rfl i hi
    rwa [add_plain] at this
end Go.Proofs.YtdnhnjimhbbababDoor.P7

/- What the keeper's Lent and Kept do: bytes in memory of their own with seven marked places behind them; are they as they were? -/
namespace Go.Proofs.YtdnhnjimhbbababDoor.P7
open Go.RowKit Nums
set_option maxRecDepth 100000
theorem wpList_append_run {P : Program} {w : World} {ops : Array Oper} {rest : List Oper} {o : Oper} {a : Act} {Q : Exit → Act → World → Prop} (hgd : o.guard = none) (s x : Operand) (t u : TypeId)
    (ho : o.op = .call { callee := .builtin .append, args := #[s, x], argTypes := #[t, u] }) (vs vx v' : Value) (w' : World) (hs : a.eval s = vs) (hx : a.eval x = vx)
    (hrun : (Builtin.append_ #[t, u] o.type #[vs, vx]).run P w = .ok v' w') (h : wpList P ops Q rest (a.put o.dst v') w') : wpList P ops Q (o :: rest) a w := by
  refine wpList_plain hgd fun K hK => ?_
  unfold Oper.wp execOp
  simp only [ho, resolve, invoke, builtin, Sem.run_bind, Sem.run_pure, Result.andThen_ok, List.map_toArray, List.map_cons, List.map_nil, hs, hx, hrun]
  exact hK _ _ h
end Go.Proofs.YtdnhnjimhbbababDoor.P7

/- The keeper's Kept answers true where lent bytes and the marks behind them are as they were. -/
namespace Go.Proofs.YtdnhnjimhbbababDoor.P7
open Go.RowKit Nums
set_option maxRecDepth 100000
theorem conv_reads {w : World} {a : Option Addr} {len cap : Nat} {l : List UInt8} (h : Reads w a len cap l) :
    Sem.run Tryd.prog (convert 43 9 (.slice a len cap)) w = .ok (.string ⟨l.toArray⟩) w := by
  obtain ⟨h1, h2, h3, ⟨rfl, h0⟩ | ⟨ad, rfl, h0⟩ | ⟨b, off, rfl, hlt, hc⟩⟩ := h
  · have hl : l = [] := List.eq_nil_of_length_eq_zero (by omega)
    subst hl
    exact run_convert_bytes_nil (P := Tryd.prog) w 43 5 Tryd.underlying43 Tryd.underlying5 len cap 9 Tryd.underlying9
  · subst h1
    exact run_convert_bytes_back (P := Tryd.prog) w 43 9 5 ad cap l Tryd.underlying43 Tryd.underlying5 Tryd.underlying9 (fun j hj => by omega)
  · subst h1
    exact run_convert_bytes_back (P := Tryd.prog) w 43 9 5 ⟨b, off, none⟩ cap l Tryd.underlying43 Tryd.underlying5 Tryd.underlying9 (fun j hj => by rw [add_plain]; exact hc j hj)
end Go.Proofs.YtdnhnjimhbbababDoor.P7

/- What the document's Bytes, May, BytesSigned and Tag answer. -/
namespace Go.Proofs.YtdnhnjimhbbababDoor.P7
open Go.RowKit Sums Nums
set_option linter.unusedVariables false
set_option linter.unusedSimpArgs false
set_option maxRecDepth 100000
theorem cell_keep {W W' : World} {p : Addr} {v : Value} (hb : Below W.heap.size W W') (h : W.cell? p = some v) : W'.cell? p = some v := by
  rw [hb.cell (World.block_lt_of_cell? _ _ h)]; exact h
theorem HRow.keep {W W' : World} {g o : Nat} {h : HdT} (hr : HRow W g o h) (hb : Below W.heap.size W W') : HRow W' g o h :=
  ⟨cell_keep hb hr.r, cell_keep hb hr.e, cell_keep hb hr.s, range_keep hb hr.d, cell_keep hb hr.t⟩
theorem sizeH : (Tryd.prog.info? 38).map (·.size) = some 36 := by kernel_rfl
theorem sizeS : (Tryd.prog.info? 40).map (·.size) = some 69 := by kernel_rfl
theorem head_row (h : HdT) (hd : h.d.length = 32) : ∃ C : Array Value, Hid (C = (hcells h).toArray) ∧ Hid ((Tryd.prog.info? 38).map (·.size) = some C.size) ∧ Hid (C.size = 36) := by
  refine ⟨(hcells h).toArray, hidk rfl, ?_, ?_⟩
  · show _ = _
    rw [sizeH]; simp [hcells_length h hd]
  · show _ = _
    simp [hcells_length h hd]
end Go.Proofs.YtdnhnjimhbbababDoor.P7

/- What the document's May, BytesSigned, PutSigned and Tag answer. -/
namespace Go.Proofs.YtdnhnjimhbbababDoor.P7
open Go.RowKit Sums Nums
set_option linter.unusedVariables false
set_option linter.unusedSimpArgs false
set_option maxRecDepth 100000
/-- What the parts of a signed head's row read as. -/
structure SRow (W : World) (g o : Nat) (s : SgT) : Prop where
  h : W.rangeAt g o (hcells s.h)
  n : W.cell? ⟨g, o + 36, none⟩ = some (.int .i64 s.n)
  g : W.rangeAt g (o + 37) (cellsOf s.g)
theorem SRow.keep {W W' : World} {g o : Nat} {s : SgT} (hr : SRow W g o s) (hb : Below W.heap.size W W') : SRow W' g o s := ⟨range_keep hb hr.h, cell_keep hb hr.n, range_keep hb hr.g⟩
theorem srow_of {W : World} {g o : Nat} {s : SgT} (hd : s.h.d.length = 32) (hr : W.rangeAt g o (scells s)) : SRow W g o s := by
  have hl := hcells_length s.h hd
  refine ⟨?_, ?_, ?_⟩
  · intro j v hj
    have hlt := (List.getElem?_eq_some_iff.1 hj).1
    exact hr j v (by
      unfold scells
      rw [List.append_assoc, List.getElem?_append_left hlt]; exact hj)
  · exact hr 36 (.int .i64 s.n) (by
      unfold scells
      rw [List.append_assoc, List.getElem?_append_right (by omega), hl]
      rfl)
  · intro j v hj
    have hlt := (List.getElem?_eq_some_iff.1 hj).1
    have := hr (37 + j) v (by
      unfold scells
      rw [List.getElem?_append_right (by rw [List.length_append, hl, List.length_singleton]; omega), List.length_append, hl, List.length_singleton, show 37 + j - (36 + 1) = j by omega]
      exact hj)
    rw [Nat.add_assoc]; exact this
theorem srow_new (w : World) (s : SgT) (hd : s.h.d.length = 32) (C : Array Value) (HC : Hid (C = (scells s).toArray)) (t : TypeId) : SRow (w.alloc (.cells C t)) w.heap.size 0 s := by
  refine srow_of hd ?_
  intro j v hj
  rw [Nat.zero_add, cell_of_row _ _ j _ t (0, 0) (heap_alloc_new w _), HC.out]
  simpa using hj
end Go.Proofs.YtdnhnjimhbbababDoor.P7

/- Structs of numbers and digests: heads and signed heads, built and compared. -/
namespace Go.Proofs.YtdnhnjimhbbababDoor.P7
open Go.RowKit Sums Nums
set_option linter.unusedVariables false
set_option linter.unusedSimpArgs false
set_option maxRecDepth 100000
theorem fold_set (D : List Value) : ∀ (k off : Nat) (cs : Array Value) (pre old rest : List Value), cs.toList = pre ++ old ++ rest → pre.length = off + k → old.length = D.length →
    ((D.zipIdx k).foldl (fun cs (c, j) => cs.setIfInBounds (off + j) c) cs).toList = pre ++ D ++ rest := by
  induction D with
  | nil =>
    intro k off cs pre old rest h hp ho
    have : old = [] := List.eq_nil_of_length_eq_zero ho
    subst this
    simpa using h
  | cons d D ih =>
    intro k off cs pre old rest h hp ho
    match old, ho with
    | x :: old, ho =>
      rw [List.zipIdx_cons, List.foldl_cons]
      have := ih (k + 1) off (cs.setIfInBounds (off + k) d) (pre ++ [d]) old rest (by
        rw [Array.toList_setIfInBounds, h, ← hp]
        simp) (by simp; omega) (by simpa using ho)
      rw [this]
      simp
/-- A struct that is built, where the order is drawn. -/
theorem yieldsIf_build {P : Program} {ops : Array Oper} {S : World → Prop} {o : Oper} {a : Act} (hw : Region.wanted o (yielded ops a.tmps) = true) (t : TypeId) (parts : Array (Nat × Operand)) (ho : o.op = .build t parts) (vals : Array (Nat × Value)) (hv : (parts.toList.map fun p => (p.1, a.eval p.2)) = vals.toList)
    (v : Value) (hrun : ∀ W, (Instr.build t vals).run P W = .ok v W) : YieldsIf P ops S o v a :=
  .inl ⟨hw, fun w _ => by
    have hv' : (parts.map fun (i, x) => (i, a.eval x)) = vals := by
      apply Array.ext'
      rw [Array.toList_map, ← hv]
    subst hv'
    unfold execOp
    simp only [ho, Sem.run_bind, hrun, Result.andThen_ok]
    rfl⟩
theorem fill_val (place : Nat → Option (Nat × Nat)) (i off n : Nat) (v : Value) (D cs : Array Value) (pre old post : List Value) (more : List (Nat × Value)) (hv : v.cells = D) (hp : place i = some (off, n)) (hn : D.size = n) (hcs : cs.toList = pre ++ old ++ post) (hpre : pre.length = off) (hold : old.length = n) :
    Instr.fill place cs ((i, v) :: more) = Instr.fill place (pre ++ D.toList ++ post).toArray more := by
  have hcz : cs.size = off + n + post.length := by rw [← Array.length_toList, hcs]; simp only [List.length_append, hpre, hold]
  conv => lhs; unfold Instr.fill
  simp only [hp, hv, hn]
  rw [if_neg (by simp; omega)]
  congr 1
  apply Array.ext'
  have := fold_set D.toList 0 off cs pre old post hcs (by omega) (by rw [hold, Array.length_toList, hn])
  rw [← this, ← Array.foldl_toList]
  congr 2
  simp
def zeroH : HdT := ⟨0, 0, 0, List.replicate 32 0, 0⟩
def zeroS : SgT := ⟨zeroH, 0, List.replicate 32 0⟩
theorem infoH : (Tryd.prog.info? 38).map (fun i => (i.zero, i.size)) = some (some (.agg (hcells zeroH).toArray), 36) := by kernel_rfl
theorem infoS : (Tryd.prog.info? 40).map (fun i => (i.zero, i.size)) = some (some (.agg (scells zeroS).toArray), 69) := by kernel_rfl
theorem builtH0 : Tryd.prog.built 38 [] = some (hcells zeroH).toArray := by kernel_rfl
theorem builtS0 : Tryd.prog.built 40 [] = some (scells zeroS).toArray := by kernel_rfl
theorem one_cells (h : HdT) : (hcells h).toArray.all (·.oneCell') = true := by
  rw [List.all_toArray, List.all_eq_true]
  intro v hv
  unfold hcells at hv
  simp only [List.mem_append, List.mem_cons, List.not_mem_nil, or_false] at hv
  rcases hv with ((rfl | rfl | rfl) | hv) | rfl
  · rfl
  · rfl
  · rfl
  · exact cellsOf_one _ v hv
  · rfl
theorem one_cellsS (s : SgT) : (scells s).toArray.all (·.oneCell') = true := by
  rw [List.all_toArray, List.all_eq_true]
  intro v hv
  unfold scells at hv
  simp only [List.mem_append, List.mem_cons, List.not_mem_nil, or_false] at hv
  rcases hv with (hv | rfl) | hv
  · have := one_cells s.h
    rw [List.all_toArray, List.all_eq_true] at this
    exact this v hv
  · rfl
  · exact cellsOf_one _ v hv
theorem sign_row (s : SgT) (hd : s.h.d.length = 32) (hg : s.g.length = 32) : ∃ C : Array Value, Hid (C = (scells s).toArray) ∧ Hid ((Tryd.prog.info? 40).map (·.size) = some C.size) ∧ Hid (C.all (·.oneCell') = true) ∧ Hid (C.size = 69) := by
  refine ⟨(scells s).toArray, hidk rfl, ?_, one_cellsS s, ?_⟩
  · show _ = _
    rw [sizeS]; simp [scells_length s hd hg]
  · show _ = _
    simp [scells_length s hd hg]
theorem noughtsH : ∃ Z : Array Value, Hid (Z = (hcells zeroH).toArray) ∧ Hid ((Tryd.prog.info? 38).map (fun i => (i.zero, i.size)) = some (some (.agg Z), Z.size)) ∧ Hid (Tryd.prog.built 38 [] = some Z) ∧ Hid (Z.size = 36) :=
  ⟨(hcells zeroH).toArray, hidk rfl, infoH, builtH0, hidk rfl⟩
theorem noughtsS : ∃ Z : Array Value, Hid (Z = (scells zeroS).toArray) ∧ Hid ((Tryd.prog.info? 40).map (fun i => (i.zero, i.size)) = some (some (.agg Z), Z.size)) ∧ Hid (Tryd.prog.built 40 [] = some Z) ∧ Hid (Z.size = 69) :=
  ⟨(scells zeroS).toArray, hidk rfl, infoS, builtS0, hidk rfl⟩
end Go.Proofs.YtdnhnjimhbbababDoor.P7

/- What the document's Tag, Sign and Verify answer. -/
namespace Go.Proofs.YtdnhnjimhbbababDoor.P7
open Go.RowKit Sums Nums
set_option linter.unusedVariables false
set_option linter.unusedSimpArgs false
set_option maxRecDepth 100000
/-- What Sign answers. -/
def signsO (h : HdT) (n : Int) : Bool := rightH h && (decide (1 ≤ n) && decide (n ≤ 3))
def signO (master : List UInt8) (h : HdT) (n : Int) : SgT := if signsO h n = true then ⟨h, n, tagD master h n⟩ else zeroS
def signE (h : HdT) (n : Int) : Int := if signsO h n = true then 0 else 70
theorem signsO_owner (h : HdT) (n : Int) (hs : signsO h n = true) : owner h.r n = true := by
  unfold signsO at hs
  simp only [Bool.and_eq_true, decide_eq_true_eq] at hs
  have := (rightH_iff h).1 hs.1
  exact (owner_iff _ _).2 (by omega)
end Go.Proofs.YtdnhnjimhbbababDoor.P7

/- pack.appendField at whatever tag: its lowest byte. -/
namespace Go.Proofs.YtdnhnjimhbbababDoor.P7
open Go.RowKit Nums
set_option maxRecDepth 100000
/-- Whatever is no row of elements of type T lies as it lay. -/
def Spares (T : TypeId) (w w' : World) : Prop := ∀ (b : Nat) (o : Obj), w.heap[b]? = some o → (∀ c m, o ≠ Obj.cells c T m) → w'.heap[b]? = some o
theorem Spares.refl (T : TypeId) (w : World) : Spares T w w := fun _ _ h _ => h
theorem Spares.trans {T : TypeId} {a b c : World} (h : Spares T a b) (k : Spares T b c) : Spares T a c := fun i o hi ho => k i o (h i o hi ho) ho
theorem Spares.below {T : TypeId} {a b : World} (h : Below a.heap.size a b) : Spares T a b := fun i _ hi _ => (h.block i (Array.getElem?_eq_some_iff.1 hi).1).trans hi
theorem Spares.alloc (T : TypeId) (w : World) (o : Obj) : Spares T w (w.alloc o) := Spares.below ((Below.refl _ _).alloc (Nat.le_refl _) _)
theorem Spares.drew (T : TypeId) (w : World) : Spares T w w.drew := fun _ _ h _ => h
theorem Spares.grown {T : TypeId} {w w' : World} {B size n : Nat} {v : Value} {xs : List Value} (hown : w.ownsRow B T size v n xs) (hg : w.grownBy w' v.ownBlock) : Spares T w w' := by
  intro i o hi ho
  refine (hg.block i (Array.getElem?_eq_some_iff.1 hi).1 ?_).trans hi
  intro e
  rcases hown.2 with ⟨rfl, _⟩ | ⟨g, cap, cur, rfl, _, hgb, _⟩
  · simp [Value.ownBlock] at e
  · obtain rfl : i = g := by simpa [Value.ownBlock] using e
    rw [hgb] at hi
    cases hi
    exact ho _ _ rfl
theorem head_cellsI (tag : Int) (d : ByteArray) (hd : d.size ≤ 65536) :
    [Value.int .u8 (tag % 256), .int .u8 ((d.size : Int) / 65536), .int .u8 ((d.size : Int) / 256 % 256), .int .u8 ((d.size : Int) % 256)] ++ Lib.strCells d = cellsOf (fieldBytesI tag d.data.toList) := by
  have hl : d.data.toList.length = d.size := by simp
  have e1 : tag % 256 = ((UInt8.ofNat (tag % 256).toNat).toNat : Int) := by rw [UInt8.toNat_ofNat']; omega
  have e2 : (d.size : Int) / 65536 = (d.size : Int) / 65536 % 256 := by omega
  rw [cellsOf_str, fieldBytesI, hl, e2]
  simp only [cellsOf, List.map_cons, List.cons_append, List.nil_append, byte_mod, ← e1]
  rfl
set_option maxHeartbeats 1000000 in
theorem appendField_int (v : Value) (l : List UInt8) (B : Nat) (tag : Int) (d : ByteArray) (w : World) (hd : d.size ≤ 65536) (hB : B ≤ w.heap.size) (hl : l.length ≤ 1099511627776)
    (hown : w.ownsRow B 5 1 v l.length (cellsOf l)) :
    Calls Tryd.prog 60 #[v, .agg #[.int .i64 tag, .string d]] w fun e w' => ∃ v', e = .returned v' ∧
      w'.ownsRow B 5 1 v' (l ++ fieldBytesI tag d.data.toList).length (cellsOf (l ++ fieldBytesI tag d.data.toList)) ∧ Below B w w' ∧ Spares 5 w w' := by
  obtain ⟨i0, hi, hz0, hz1, hz2⟩ := info_parts info5
  have HL : Hid (l.length ≤ 1099511627776) := hl
  clear hl
  go_enter Tryd.func60, Tryd.ntmps60
  go_wp2_with (first
    | (at_builtin; refine wpList_append_own _ rfl (.tmp 9) (.tmp 21) 43 rfl B 5 i0 (.int .u8 0) 1 1 Tryd.underlying43 hi hz0 hz1 hz2 rfl (by decide) _ _ _ rfl ((hown.alloc _).alloc _) ⟨w.heap.size + 1, 0, none⟩ 4 4 [.int .u8 (tag % 256), .int .u8 ((d.size : Int) / 65536), .int .u8 ((d.size : Int) / 256 % 256), .int .u8 ((d.size : Int) % 256)] rfl rfl ?c1 ?c2 ?c3 ?c4 ?c5 ?_)
    | fail)
  case c1 =>
    intro j u hj
    match j, hj with
    | 0, hj => simp at hj; subst hj; simp [Addr.add]
    | 1, hj => simp at hj; subst hj; simp [Addr.add]
    | 2, hj => simp at hj; subst hj; simp [Addr.add]
    | 3, hj => simp at hj; subst hj; simp [Addr.add]
  case c2 => intro u hu; simp at hu; rcases hu with rfl | rfl | rfl | rfl <;> rfl
  case c3 => have := HL.out; unfold maxLen; omega
  case c4 => have := HL.out; omega
  case c5 => simp; omega
  intro v1 w1 hown1 hgrow1 _
  have hb1 : Below B w w1 := (((Below.refl _ _).alloc hB _).alloc (by simp; omega) _).grown hgrow1 (by simp; omega) (row_low hown)
  have hs1 : Spares 5 w w1 := ((Spares.alloc 5 w _).trans (Spares.alloc 5 _ _)).trans (Spares.grown ((hown.alloc _).alloc _) hgrow1)
  have HS1 : Hid (Spares 5 w w1) := hs1
  clear hs1
  have hbox : w1.cell? ⟨w.heap.size, 1, none⟩ = some (.string d) := by
    refine hgrow1.cell ?_ ?_
    · simp
    · intro e; have := (hown.lt _ e.symm).2; simp at this
  clear hgrow1
  go_wp2_with (first
    | (at_builtin; refine Lib.wpList_append_own_string _ rfl (.tmp 23) (.tmp 25) 43 9 rfl B 5 i0 Tryd.underlying43 Tryd.underlying9 hi hz0 hz1 hz2 _ _ _ rfl hown1 d rfl ?d1 ?d2 ?d3 ?_)
    | fail)
  case d1 => have := HL.out; unfold maxLen; omega
  case d2 => have := HL.out; omega
  case d3 => exact Nat.le_trans hB hb1.size
  intro v2 w2 hown2 hgrow2 _
  have hb2 : Below B w w2 := hb1.grown hgrow2 (Nat.le_trans hB hb1.size) (row_low hown1)
  have HS2 : Hid (Spares 5 w w2) := HS1.out.trans (Spares.grown hown1 hgrow2)
  have hown3 : w2.ownsRow B 5 1 v2 (l ++ fieldBytesI tag d.data.toList).length (cellsOf (l ++ fieldBytesI tag d.data.toList)) := by
    have e1 : (l ++ fieldBytesI tag d.data.toList).length = l.length + 4 + d.size := by
      rw [List.length_append, fieldBytesI_length]; simp; omega
    rw [e1, cellsOf_append, ← head_cellsI tag d hd]
    simpa only [List.append_assoc, List.cons_append, List.nil_append] using hown2
  clear hown2 hgrow2 hown1 hbox
  go_wp2
  go_ret
  exact ⟨_, rfl, hown3, hb2, HS2.out⟩
end Go.Proofs.YtdnhnjimhbbababDoor.P7
