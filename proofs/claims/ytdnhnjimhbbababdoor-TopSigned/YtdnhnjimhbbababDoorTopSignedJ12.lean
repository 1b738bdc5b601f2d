/- Texts of our own that the row of TopSigned leans on, part 12. -/
import Derived.Test.YtdnhnjimhbbababDoorTopSignedJ1
import Derived.Test.YtdnhnjimhbbababDoorTopSignedJ10
import Derived.Laws.Bits64b
import Derived.Lib.TrailingZeros

/- What math/bits answers: how many bits are 1, how many bits 0 there are at the low end. The tables that fronts read. -/
namespace Go.Proofs.YtdnhnjimhbbababDoor
open Go.RowKit Sums
set_option maxRecDepth 100000
set_option linter.unusedVariables false
set_option linter.unusedSimpArgs false
theorem land3 (a b c x y z : Nat) (ha : a < 256) (hb : b < 256) (hx : x < 256) (hy : y < 256) :
    (65536 * c + 256 * b + a) &&& (65536 * z + 256 * y + x) = 65536 * (c &&& z) + 256 * (b &&& y) + (a &&& x) := by
  have two : ∀ p q r s : Nat, q < 256 → s < 256 → (256 * p + q) &&& (256 * r + s) = 256 * (p &&& r) + (q &&& s) := by
    intro p q r s hq hs
    have hqs : q &&& s < 2 ^ 8 := Nat.and_lt_two_pow _ (by omega)
    apply Nat.eq_of_testBit_eq
    intro i
    rw [Nat.testBit_and, show 256 * p + q = 2 ^ 8 * p + q from rfl, show 256 * r + s = 2 ^ 8 * r + s from rfl, show 256 * (p &&& r) + (q &&& s) = 2 ^ 8 * (p &&& r) + (q &&& s) from rfl,
      Nat.testBit_two_pow_mul_add p (by omega), Nat.testBit_two_pow_mul_add r (by omega), Nat.testBit_two_pow_mul_add _ hqs]
    split <;> simp [Nat.testBit_and]
  rw [show 65536 * c + 256 * b + a = 256 * (256 * c + b) + a by omega, show 65536 * z + 256 * y + x = 256 * (256 * z + y) + x by omega, two _ _ _ _ ha hx, two _ _ _ _ hb hy]
  omega
theorem byte1 : ∀ a, a < 256 → ∀ e, e < 2 → (a / 2 + 128 * e) &&& 85 = (a / 2) &&& 85 := by decide +kernel
theorem byte2 : ∀ a, a < 256 → ∀ e, e < 4 → (a / 4 + 64 * e) &&& 51 = (a / 4) &&& 51 := by decide +kernel
def by1 (a : Nat) : Nat := ((a / 2) &&& 85) + (a &&& 85)
def by2 (a : Nat) : Nat := ((by1 a / 4) &&& 51) + (by1 a &&& 51)
def pop8 (a : Nat) : Nat := a % 2 + a / 2 % 2 + a / 4 % 2 + a / 8 % 2 + a / 16 % 2 + a / 32 % 2 + a / 64 % 2 + a / 128 % 2
theorem by2_at : ∀ a, a < 256 → by1 a < 256 ∧ by2 a % 16 ≤ 4 ∧ by2 a / 16 ≤ 4 ∧ by2 a / 16 + by2 a % 16 = pop8 a := by decide +kernel
theorem byte3 : ∀ s, s < 256 → s &&& 15 = s % 16 := by decide +kernel
theorem mod16 (x k : Nat) (h1 : x % 16 ≤ 4) (h2 : x / 16 ≤ 4) : (x / 16 + x + 16 * k) % 16 = x / 16 + x % 16 := by omega
theorem fold3 (A B c : Nat) (h1 : A ≤ 8) (h2 : B ≤ 8) (h3 : c < 2) : (65536 * c + 256 * B + A + (65536 * c + 256 * B + A) / 256 + (65536 * c + 256 * B + A + (65536 * c + 256 * B + A) / 256) / 65536) % 128 = A + B + c := by
  rw [show (65536 * c + 256 * B + A) / 256 = 256 * c + B by omega, show (65536 * c + 256 * B + A + (256 * c + B)) / 65536 = c by omega]
  omega
theorem ones_steps (n : Nat) (h : n < 131072) : ∃ u1 v1 u2 v2 x3 : Nat, n / 2 &&& 6148914691236517205 = u1 ∧ n &&& 6148914691236517205 = v1 ∧ (u1 + v1) / 4 &&& 3689348814741910323 = u2 ∧ (u1 + v1) &&& 3689348814741910323 = v2 ∧
    ((u2 + v2) / 16 + (u2 + v2)) &&& 1085102592571150095 = x3 ∧ x3 ≤ 1000000 ∧ u1 ≤ 1000000 ∧ v1 ≤ 1000000 ∧ u2 ≤ 1000000 ∧ v2 ≤ 1000000 ∧
    (x3 + x3 / 256 + (x3 + x3 / 256) / 65536) % 128 = pop8 (n % 256) + pop8 (n / 256 % 256) + n / 65536 ∧ x3 + x3 / 256 + (x3 + x3 / 256) / 65536 ≤ 1000000 := by
  obtain ⟨a, ha⟩ : ∃ a, a = n % 256 := ⟨_, rfl⟩
  obtain ⟨b, hb⟩ : ∃ b, b = n / 256 % 256 := ⟨_, rfl⟩
  obtain ⟨c, hc⟩ : ∃ c, c = n / 65536 := ⟨_, rfl⟩
  have hn : n = 65536 * c + 256 * b + a := by omega
  have ha2 : a < 256 := by omega
  have hb2 : b < 256 := by omega
  have hc2 : c < 2 := by omega
  have z0 : ∀ x : Nat, 0 &&& x = 0 := fun x => Nat.zero_and x
  have cM : ∀ c, c < 2 → c &&& 93824992236885 = c ∧ c &&& 56294995342131 = c ∧ c &&& 16557351571215 = c := by decide +kernel
  obtain ⟨hA1, hA2, hA3, hA4⟩ := by2_at a ha2
  obtain ⟨hB1, hB2, hB3, hB4⟩ := by2_at b hb2
  have e1 : n / 2 &&& 6148914691236517205 = 256 * ((b / 2) &&& 85) + ((a / 2) &&& 85) := by
    rw [show n / 2 = 65536 * 0 + 256 * (b / 2 + 128 * c) + (a / 2 + 128 * (b % 2)) by omega, show (6148914691236517205 : Nat) = 65536 * 93824992236885 + 256 * 85 + 85 by rfl, land3 _ _ _ _ _ _ (by omega) (by omega) (by omega) (by omega), byte1 a ha2 _ (by omega), byte1 b hb2 _ hc2, z0]
    omega
  have e2 : n &&& 6148914691236517205 = 65536 * c + 256 * (b &&& 85) + (a &&& 85) := by
    rw [hn, show (6148914691236517205 : Nat) = 65536 * 93824992236885 + 256 * 85 + 85 by rfl, land3 _ _ _ _ _ _ ha2 hb2 (by omega) (by omega), (cM c hc2).1]
  have e12 : 256 * ((b / 2) &&& 85) + ((a / 2) &&& 85) + (65536 * c + 256 * (b &&& 85) + (a &&& 85)) = 65536 * c + 256 * by1 b + by1 a := by unfold by1; omega
  have e3 : (65536 * c + 256 * by1 b + by1 a) / 4 &&& 3689348814741910323 = 256 * ((by1 b / 4) &&& 51) + ((by1 a / 4) &&& 51) := by
    rw [show (65536 * c + 256 * by1 b + by1 a) / 4 = 65536 * 0 + 256 * (by1 b / 4 + 64 * c) + (by1 a / 4 + 64 * (by1 b % 4)) by omega, show (3689348814741910323 : Nat) = 65536 * 56294995342131 + 256 * 51 + 51 by rfl, land3 _ _ _ _ _ _ (by omega) (by omega) (by omega) (by omega), byte2 _ hA1 _ (by omega), byte2 _ hB1 _ (by omega), z0]
    omega
  have e4 : (65536 * c + 256 * by1 b + by1 a) &&& 3689348814741910323 = 65536 * c + 256 * (by1 b &&& 51) + (by1 a &&& 51) := by
    rw [show (3689348814741910323 : Nat) = 65536 * 56294995342131 + 256 * 51 + 51 by rfl, land3 _ _ _ _ _ _ hA1 hB1 (by omega) (by omega), (cM c hc2).2.1]
  have e34 : 256 * ((by1 b / 4) &&& 51) + ((by1 a / 4) &&& 51) + (65536 * c + 256 * (by1 b &&& 51) + (by1 a &&& 51)) = 65536 * c + 256 * by2 b + by2 a := by unfold by2; omega
  have e5 : ((65536 * c + 256 * by2 b + by2 a) / 16 + (65536 * c + 256 * by2 b + by2 a)) &&& 1085102592571150095 = 65536 * c + 256 * pop8 b + pop8 a := by
    rw [show (65536 * c + 256 * by2 b + by2 a) / 16 + (65536 * c + 256 * by2 b + by2 a) = 65536 * c + 256 * (by2 b / 16 + by2 b + 16 * c) + (by2 a / 16 + by2 a + 16 * (by2 b % 16)) by omega, show (1085102592571150095 : Nat) = 65536 * 16557351571215 + 256 * 15 + 15 by rfl, land3 _ _ _ _ _ _ (by omega) (by omega) (by omega) (by omega), (cM c hc2).2.2, byte3 _ (by omega), byte3 _ (by omega), mod16 _ _ hA2 hA3, mod16 _ _ hB2 hB3, hA4, hB4]
  rw [← e12] at e3 e4
  rw [← e34] at e5
  refine ⟨_, _, _, _, _, e1, e2, e3, e4, e5, ?_, ?_, ?_, ?_, ?_, ?_, ?_⟩
  · omega
  · unfold by1 at hA1 hB1; omega
  · unfold by1 at hA1 hB1; omega
  · unfold by2 at hA2 hB2 hA3 hB3; omega
  · unfold by2 at hA2 hB2 hA3 hB3; omega
  · rw [← ha, ← hb, ← hc]
    exact fold3 _ _ _ (by omega) (by omega) hc2
  · omega
theorem many_byte (n : Nat) : many n = pop8 (n % 256) + many (n / 256) := by
  obtain ⟨q, hq⟩ : ∃ q, q = n / 256 := ⟨_, rfl⟩
  obtain ⟨r, hr⟩ : ∃ r, r = n % 256 := ⟨_, rfl⟩
  have hn : n = 256 * q + r := by omega
  have hr2 : r < 256 := by omega
  rw [← hq, ← hr, hn]
  clear hq hr hn
  have e1 : (256 * q + r) / 2 = 128 * q + r / 2 := by omega
  have e2 : (128 * q + r / 2) / 2 = 64 * q + r / 4 := by omega
  have e3 : (64 * q + r / 4) / 2 = 32 * q + r / 8 := by omega
  have e4 : (32 * q + r / 8) / 2 = 16 * q + r / 16 := by omega
  have e5 : (16 * q + r / 16) / 2 = 8 * q + r / 32 := by omega
  have e6 : (8 * q + r / 32) / 2 = 4 * q + r / 64 := by omega
  have e7 : (4 * q + r / 64) / 2 = 2 * q + r / 128 := by omega
  have e8 : (2 * q + r / 128) / 2 = q := by omega
  rw [many_step (256 * q + r), e1, many_step (128 * q + r / 2), e2, many_step (64 * q + r / 4), e3, many_step (32 * q + r / 8), e4, many_step (16 * q + r / 16), e5, many_step (8 * q + r / 32), e6, many_step (4 * q + r / 64), e7, many_step (2 * q + r / 128), e8]
  unfold pop8
  have f0 : (256 * q + r) % 2 = r % 2 := by omega
  have f1 : (128 * q + r / 2) % 2 = r / 2 % 2 := by omega
  have f2 : (64 * q + r / 4) % 2 = r / 4 % 2 := by omega
  have f3 : (32 * q + r / 8) % 2 = r / 8 % 2 := by omega
  have f4 : (16 * q + r / 16) % 2 = r / 16 % 2 := by omega
  have f5 : (8 * q + r / 32) % 2 = r / 32 % 2 := by omega
  have f6 : (4 * q + r / 64) % 2 = r / 64 % 2 := by omega
  have f7 : (2 * q + r / 128) % 2 = r / 128 % 2 := by omega
  rw [f0, f1, f2, f3, f4, f5, f6, f7]
  simp only [Nat.add_assoc]
theorem many_ones (n : Nat) (h : n < 131072) : many n = pop8 (n % 256) + pop8 (n / 256 % 256) + n / 65536 := by
  rw [many_byte n, many_byte (n / 256), show n / 256 / 256 = n / 65536 by omega]
  have : n / 65536 = 0 ∨ n / 65536 = 1 := by omega
  rcases this with e | e <;> rw [e]
  · rw [many_zero]; omega
  · rw [show many 1 = 1 from rfl]; omega
theorem tzF_ctz (f x : Nat) : Lib.ctzFrom f x = tzF f x := by
  induction f generalizing x with
  | zero => rfl
  | succ f ih =>
    unfold Lib.ctzFrom tzF
    rw [ih]
theorem tz_ctz (x : Nat) (h0 : 1 ≤ x) (h : x < 2 ^ 64) : Lib.ctz 64 x = tz x := by
  unfold Lib.ctz tz
  rw [if_neg (by omega), tzF_ctz]
  -- more than 64 changes nothing
  have key : ∀ (f g x : Nat), 1 ≤ x → x < 2 ^ f → x < 2 ^ g → tzF f x = tzF g x := by
    intro f
    induction f with
    | zero => intro g x h0 hf; simp at hf; omega
    | succ f ih =>
      intro g x h0 hf hg
      cases g with
      | zero => simp at hg; omega
      | succ g =>
        unfold tzF
        by_cases h1 : x % 2 = 1
        · rw [if_pos h1, if_pos h1]
        · rw [if_neg h1, if_neg h1, ih g (x / 2) (by omega) (by rw [Nat.pow_succ] at hf; omega) (by rw [Nat.pow_succ] at hg; omega)]
  exact key 64 x x h0 h Nat.lt_two_pow_self
theorem and127 (x : Nat) (h : x ≤ 2000000) : bits .and .i64 (x : Int) 127 = ((x % 128 : Nat) : Int) := by
  have h1 : (BitVec.ofInt 64 (x : Int)).toNat = x := by
    rw [BitVec.ofInt_natCast, BitVec.toNat_ofNat]; exact Nat.mod_eq_of_lt (by omega)
  have h2 : (BitVec.ofInt 64 (127 : Int)).toNat = 127 := by decide
  have h3 : x &&& 127 = x % 128 := Nat.and_two_pow_sub_one_eq_mod x 7
  show IntKind.i64.wrap ((BitVec.ofInt 64 (x : Int) &&& BitVec.ofInt 64 (127 : Int)).toNat : Int) = _
  rw [BitVec.toNat_and, h1, h2, h3]
  exact wrap_int _ (by omega) (by omega)
set_option maxHeartbeats 1000000 in
theorem ones64_any (n : Nat) (w : World) (hn : n ≤ 100000) :
    Calls Tryd.prog 78 #[.int .u64 n] w fun e w' => e = .returned (.int .i64 (many n)) ∧ w = w' := by
  obtain ⟨u1, v1, u2, v2, x3, h1, h2, h3, h4, h5, b3, bu1, bv1, bu2, bv2, h6, b6⟩ := ones_steps n (by omega)
  rw [← many_ones n (by omega)] at h6
  have k1 : bits .and .u64 ((n : Int) / 2) 6148914691236517205 = (u1 : Int) := by
    rw [← h1, show ((n : Int) / 2) = ((n / 2 : Nat) : Int) by omega]
    exact bits_and_u64_nat _ 6148914691236517205 (by omega) (by omega)
  have k2 : bits .and .u64 (n : Int) 6148914691236517205 = (v1 : Int) := by
    rw [← h2]
    exact bits_and_u64_nat _ 6148914691236517205 (by omega) (by omega)
  have k3 : bits .and .u64 (((u1 : Int) + (v1 : Int)) / 4) 3689348814741910323 = (u2 : Int) := by
    rw [← h3, show (((u1 : Int) + (v1 : Int)) / 4) = (((u1 + v1) / 4 : Nat) : Int) by omega]
    exact bits_and_u64_nat _ 3689348814741910323 (by omega) (by omega)
  have k4 : bits .and .u64 ((u1 : Int) + (v1 : Int)) 3689348814741910323 = (v2 : Int) := by
    rw [← h4, show ((u1 : Int) + (v1 : Int)) = ((u1 + v1 : Nat) : Int) by omega]
    exact bits_and_u64_nat _ 3689348814741910323 (by omega) (by omega)
  have k5 : bits .and .u64 (((u2 : Int) + (v2 : Int)) / 16 + ((u2 : Int) + (v2 : Int))) 1085102592571150095 = (x3 : Int) := by
    rw [← h5, show (((u2 : Int) + (v2 : Int)) / 16 + ((u2 : Int) + (v2 : Int))) = (((u2 + v2) / 16 + (u2 + v2) : Nat) : Int) by omega]
    exact bits_and_u64_nat _ 1085102592571150095 (by omega) (by omega)
  have s1 : IntKind.u64.wrap ((u1 : Int) + (v1 : Int)) = (u1 : Int) + (v1 : Int) := by rw [IntKind.wrap_u64]; omega
  have s2 : IntKind.u64.wrap ((u2 : Int) + (v2 : Int)) = (u2 : Int) + (v2 : Int) := by rw [IntKind.wrap_u64]; omega
  have s3 : IntKind.u64.wrap (((u2 : Int) + (v2 : Int)) / 16 + ((u2 : Int) + (v2 : Int))) = ((u2 : Int) + (v2 : Int)) / 16 + ((u2 : Int) + (v2 : Int)) := by rw [IntKind.wrap_u64]; omega
  have s4 : IntKind.u64.wrap ((x3 : Int) + (x3 : Int) / 256) = (x3 : Int) + (x3 : Int) / 256 := by rw [IntKind.wrap_u64]; omega
  have s5 : IntKind.u64.wrap ((x3 : Int) + (x3 : Int) / 256 + ((x3 : Int) + (x3 : Int) / 256) / 65536) = (x3 : Int) + (x3 : Int) / 256 + ((x3 : Int) + (x3 : Int) / 256) / 65536 := by rw [IntKind.wrap_u64]; omega
  obtain ⟨x5, hx5⟩ : ∃ x5, x5 = x3 + x3 / 256 + (x3 + x3 / 256) / 65536 := ⟨_, rfl⟩
  rw [← hx5] at h6 b6
  have e5 : (x3 : Int) + (x3 : Int) / 256 + ((x3 : Int) + (x3 : Int) / 256) / 65536 = (x5 : Int) := by omega
  have s6 : (x5 : Int) / 4294967296 = 0 := by omega
  have s7 := and127 x5 (by omega)
  rw [h6] at s7
  clear h1 h2 h3 h4 h5 h6 hx5
  go_enter Tryd.func78, Tryd.ntmps78
  go_wp2_with (simp only [k1, k2, k3, k4, k5, s1, s2, s3, s4, s5, e5, s6, s7])
  go_ret
  exact ⟨rfl, rfl⟩
set_option maxHeartbeats 1000000 in
theorem ones_any (n : Nat) (w : World) (hn : n ≤ 100000) :
    Calls Tryd.prog 53 #[.int .u64 n] w fun e w' => e = .returned (.int .i64 (many n)) ∧ w = w' := by
  go_enter Tryd.func53, Tryd.ntmps53
  go_wp2_with fail
  refine (ones64_any n _ hn).mono ?_
  rintro e w1 ⟨rfl, rfl⟩
  go_wp2
  go_ret
  exact ⟨rfl, rfl⟩
/-- The table of math/bits, as its text lays it. -/
def BTab (g : Nat) (w : World) : Prop := g < w.heap.size ∧ ∀ k, k < 64 → w.cell? ⟨g, k, none⟩ = some (.int .u8 (Lib.deBruijn64tab.getD k 0))
theorem BTab.low {g B : Nat} {w w' : World} (h : BTab g w) (hb : Below B w w') (hg : g < B) : BTab g w' :=
  ⟨Nat.lt_of_lt_of_le h.1 hb.size, fun k hk => by rw [hb.cell hg]; exact h.2 k hk⟩
/-- Both tables that fronts read. -/
def TabF (w : World) : Prop := Table 0 w ∧ BTab 2 w
theorem TabF.keep {w w' : World} (h : TabF w) (hb : Below w.heap.size w w') : TabF w' := ⟨h.1.keep hb, h.2.low hb h.2.1⟩
theorem TabF.low {B : Nat} {w w' : World} (h : TabF w) (hb : Below B w w') (hg : 0 < B ∧ 2 < B) : TabF w' := ⟨table_low h.1 hb hg.1, h.2.low hb hg.2⟩
theorem TabF.at {w : World} (h : TabF w) : 0 < w.heap.size ∧ 2 < w.heap.size := ⟨h.1.1, h.2.1⟩
theorem tz64_key' (x a : Nat) (hx : x < 18446744073709551616) (hx0 : x ≠ 0) (hlow : x &&& (18446744073709551616 - x) = a) :
    IntKind.u64.wrap (bits BinOp.and IntKind.u64 (x : Int) (IntKind.u64.wrap (-(x : Int))) * 285870213051353865) / 288230376151711744 = ((a * 285870213051353865 % 18446744073709551616 / 288230376151711744 : Nat) : Int) := by
  have e1 : IntKind.u64.wrap (-(x : Int)) = ((18446744073709551616 - x : Nat) : Int) := by rw [IntKind.wrap_u64]; omega
  rw [e1, bits_and_u64_nat x _ hx (by omega), hlow, IntKind.wrap_u64]
  omega
set_option maxHeartbeats 1000000 in
theorem tz64_core (x k idx : Nat) (w : World) (hx0 : ((x : Int) == 0) = false)
    (key : IntKind.u64.wrap (bits BinOp.and IntKind.u64 (x : Int) (IntKind.u64.wrap (-(x : Int))) * 285870213051353865) / 288230376151711744 = (idx : Int))
    (hi : idx < 64) (hk : k < 64) (hcell : w.cell? ⟨2, idx, none⟩ = some (.int .u8 k)) :
    Calls Tryd.prog 80 #[.int .u64 x] w fun e w' => e = .returned (.int .i64 k) ∧ w = w' := by
  go_enter Tryd.func80, Tryd.ntmps80
  go_wp2_with (simp only [key])
  go_ret
  exact ⟨rfl, rfl⟩
theorem tz64_any (x : Nat) (h0 : 1 ≤ x) (h : x ≤ 100000) (w : World) (hT : BTab 2 w) :
    Calls Tryd.prog 80 #[.int .u64 x] w fun e w' => e = .returned (.int .i64 (tz x)) ∧ w = w' := by
  obtain ⟨hlow, hk⟩ := Lib.lowest_bit 64 x (by omega) (by omega)
  obtain ⟨hi, htab⟩ := Lib.deBruijn64_at _ hk
  have hcell := hT.2 _ hi
  rw [htab] at hcell
  rw [← tz_ctz x h0 (by omega)]
  exact tz64_core x _ _ w (by simp; omega) (tz64_key' x _ (by omega) (by omega) hlow) hi hk hcell
set_option maxHeartbeats 1000000 in
theorem tz_any (x : Nat) (h0 : 1 ≤ x) (h : x ≤ 100000) (w : World) (hT : BTab 2 w) :
    Calls Tryd.prog 54 #[.int .u64 x] w fun e w' => e = .returned (.int .i64 (tz x)) ∧ w = w' := by
  have T := hidk (tz64_any x h0 h w hT)
  clear hT
  go_enter Tryd.func54, Tryd.ntmps54
  go_wp2_with fail
  refine T.out.mono ?_
  rintro e w1 ⟨rfl, rfl⟩
  go_wp2
  go_ret
  exact ⟨rfl, rfl⟩
end Go.Proofs.YtdnhnjimhbbababDoor
