/- Digits of base 16: what a digest's digits are, and which digest some digits are. No program is spoken of. -/
import Derived.Lib.Bytealg
namespace Go.Proofs.YtkmndchbmbhlhaaDoor
namespace Digs

def dig : List UInt8 := [48, 49, 50, 51, 52, 53, 54, 55, 56, 57, 97, 98, 99, 100, 101, 102]
def hexC (n : Nat) : UInt8 := dig.getD n 0
def hexL (d : List UInt8) : List UInt8 := d.flatMap fun b => [hexC (b.toNat / 16), hexC (b.toNat % 16)]
def vC (c : UInt8) : Int := Lib.indexByte dig c

def pairs : List UInt8 → Option (List UInt8)
  | [] => some []
  | [_] => none
  | h :: l :: r => if vC h < 0 ∨ vC l < 0 then none else (pairs r).map (UInt8.ofNat (16 * vC h + vC l).toNat :: ·)
def parseO (s : List UInt8) : Option (List UInt8) := if s.length = 64 then pairs s else none
def zeros : List UInt8 := List.replicate 32 0
def parseD (s : List UInt8) : List UInt8 := (parseO s).getD zeros
def parseE (s : List UInt8) : Int := if (parseO s).isSome then 0 else 1

theorem vC_range (c : UInt8) : -1 ≤ vC c ∧ vC c ≤ 15 := by
  have h : ∀ n < 256, -1 ≤ vC (UInt8.ofNat n) ∧ vC (UInt8.ofNat n) ≤ 15 := by decide +kernel
  have := h c.toNat c.toNat_lt
  simpa using this

theorem vC_hexC (n : Nat) (h : n < 16) : vC (hexC n) = n := by
  have : ∀ n < 16, vC (hexC n) = (n : Int) := by decide +kernel
  exact this n h

theorem hexC_vC (c : UInt8) (h : 0 ≤ vC c) : hexC (vC c).toNat = c := by
  have : ∀ n < 256, 0 ≤ vC (UInt8.ofNat n) → hexC (vC (UInt8.ofNat n)).toNat = UInt8.ofNat n := by decide +kernel
  have := this c.toNat c.toNat_lt
  simp only [UInt8.ofNat_toNat] at this
  exact this h

theorem dig_at (k : Nat) (c : UInt8) (hk : k < 16) : hexC k = c ↔ vC c = k := by
  constructor
  · rintro rfl; exact vC_hexC k hk
  · intro h
    have := hexC_vC c (by omega)
    rw [h] at this
    simpa using this

theorem hexL_length (d : List UInt8) : (hexL d).length = 2 * d.length := by
  induction d with
  | nil => rfl
  | cons b d ih => simp [hexL] at ih ⊢; omega

theorem hexL_append (a b : List UInt8) : hexL (a ++ b) = hexL a ++ hexL b := by simp [hexL]

theorem pairs_hexL (d : List UInt8) : pairs (hexL d) = some d := by
  induction d with
  | nil => rfl
  | cons b d ih =>
    have hb := b.toNat_lt
    show pairs (hexC (b.toNat / 16) :: hexC (b.toNat % 16) :: hexL d) = _
    rw [pairs, vC_hexC _ (by omega), vC_hexC _ (by omega), ih]
    rw [if_neg (by omega)]
    simp only [Option.map_some, Option.some.injEq, List.cons.injEq, and_true]
    have : (16 * ((b.toNat / 16 : Nat) : Int) + ((b.toNat % 16 : Nat) : Int)).toNat = b.toNat := by omega
    rw [this]; simp

theorem hexL_pairs : ∀ (s d : List UInt8), pairs s = some d → hexL d = s
  | [], d, h => by simp [pairs] at h; subst h; rfl
  | [_], d, h => by simp [pairs] at h
  | a :: b :: r, d, h => by
    rw [pairs] at h
    split at h
    · cases h
    · rename_i hn
      obtain ⟨e, he, rfl⟩ := Option.map_eq_some_iff.1 h
      have ih := hexL_pairs r e he
      have ha := vC_range a
      have hb := vC_range b
      show hexC _ :: hexC _ :: hexL e = _
      have e1 : (UInt8.ofNat (16 * vC a + vC b).toNat).toNat = (16 * vC a + vC b).toNat := by rw [UInt8.toNat_ofNat']; omega
      rw [ih, e1, show (16 * vC a + vC b).toNat / 16 = (vC a).toNat by omega, show (16 * vC a + vC b).toNat % 16 = (vC b).toNat by omega,
        hexC_vC a (by omega), hexC_vC b (by omega)]

theorem pairs_length : ∀ (s d : List UInt8), pairs s = some d → s.length = 2 * d.length := by
  intro s d h
  rw [← hexL_pairs s d h, hexL_length]

theorem pairs_app : ∀ (a x b : List UInt8), pairs a = some x → pairs (a ++ b) = (pairs b).map (x ++ ·)
  | [], x, b, h => by simp [pairs] at h; subst h; simp
  | [_], x, b, h => by simp [pairs] at h
  | c :: e :: r, x, b, h => by
    rw [pairs] at h
    split at h
    · cases h
    · rename_i hn
      obtain ⟨y, hy, rfl⟩ := Option.map_eq_some_iff.1 h
      have ih := pairs_app r y b hy
      show pairs (c :: e :: (r ++ b)) = _
      rw [pairs, if_neg hn, ih]
      cases pairs b <;> simp

theorem take2 (s : List UInt8) (k : Nat) (h : 2 * k + 1 < s.length) : s.take (2 * (k + 1)) = s.take (2 * k) ++ [s[2 * k], s[2 * k + 1]] := by
  rw [show 2 * (k + 1) = 2 * k + 1 + 1 by omega, List.take_add_one, List.take_add_one, List.getElem?_eq_getElem (show 2 * k < s.length by omega), List.getElem?_eq_getElem h]
  simp only [List.append_assoc, Option.toList_some, List.cons_append, List.nil_append]

/-- One pair more. -/
theorem pairs_next (s x : List UInt8) (k : Nat) (h : 2 * k + 1 < s.length) (hx : pairs (s.take (2 * k)) = some x) (h0 : ¬ vC s[2 * k] < 0) (h1 : ¬ vC s[2 * k + 1] < 0) :
    pairs (s.take (2 * (k + 1))) = some (x ++ [UInt8.ofNat (16 * vC s[2 * k] + vC s[2 * k + 1]).toNat]) := by
  rw [take2 s k h, pairs_app _ x _ hx, pairs, if_neg (by omega)]
  simp [pairs]

/-- A pair that is none. -/
theorem pairs_bad (s x : List UInt8) (k : Nat) (h : 2 * k + 1 < s.length) (hx : pairs (s.take (2 * k)) = some x) (hb : vC s[2 * k] < 0 ∨ vC s[2 * k + 1] < 0) : pairs s = none := by
  have e : s = s.take (2 * k) ++ (s[2 * k] :: s[2 * k + 1] :: s.drop (2 * k + 2)) := by
    rw [← List.drop_eq_getElem_cons h, ← List.drop_eq_getElem_cons (show 2 * k < s.length by omega), List.take_append_drop]
  rw [e, pairs_app _ x _ hx, pairs, if_pos hb]
  rfl

theorem parse_none {s : List UInt8} (h : parseO s = none) : parseD s = zeros ∧ parseE s = 1 := by simp [parseD, parseE, h]
theorem parse_some {s d : List UInt8} (h : parseO s = some d) : parseD s = d ∧ parseE s = 0 := by simp [parseD, parseE, h]
theorem parseD_length (s : List UInt8) : (parseD s).length = 32 := by
  cases h : parseO s with
  | none => rw [(parse_none h).1]; rfl
  | some d =>
    rw [(parse_some h).1]
    unfold parseO at h
    split at h
    · rename_i h64
      have := pairs_length s d h; omega
    · cases h
theorem parse_hexL (d : List UInt8) (h : d.length = 32) : parseD (hexL d) = d ∧ parseE (hexL d) = 0 := by
  apply parse_some
  unfold parseO
  rw [hexL_length, if_pos (by omega), pairs_hexL]
theorem parse_ok {s : List UInt8} (h : parseE s = 0) : hexL (parseD s) = s := by
  cases ho : parseO s with
  | none => rw [(parse_none ho).2] at h; cases h
  | some d =>
    rw [(parse_some ho).1]
    unfold parseO at ho
    split at ho
    · exact hexL_pairs s d ho
    · cases ho
theorem parseE_vals (s : List UInt8) : parseE s = 0 ∨ parseE s = 1 := by unfold parseE; split <;> simp
end Digs
end Go.Proofs.YtkmndchbmbhlhaaDoor
