/- Both Gets answer as one plain function of the bytes. -/
import Derived.Test.YtmfopddmkaecaabRefGet
namespace Go.Proofs.Ytmfopddmkaecaab
open Go.RowKit Nums

/-- A slice of bytes that can be read: its bytes are l. -/
def Reads (w : World) (a : Option Addr) (len cap : Nat) (l : List UInt8) : Prop :=
  l.length = len ∧ len ≤ cap ∧ cap ≤ 9223372036854775807 ∧
  ((a = none ∧ cap = 0) ∨ (∃ ad, a = some ad ∧ len = 0) ∨ ∃ b off, a = some ⟨b, off, none⟩ ∧ b < w.heap.size ∧ ∀ (i : Nat) (h : i < l.length), w.cell? ⟨b, off + i, none⟩ = some (.int .u8 l[i].toNat))

theorem Reads.below {w w' : World} {a : Option Addr} {len cap : Nat} {l : List UInt8} (h : Reads w a len cap l) (hb : Below w.heap.size w w') : Reads w' a len cap l := by
  obtain ⟨h1, h2, h3, h4⟩ := h
  refine ⟨h1, h2, h3, ?_⟩
  rcases h4 with h4 | h4 | ⟨b, off, e, hlt, hc⟩
  · exact .inl h4
  · exact .inr (.inl h4)
  · refine .inr (.inr ?_)
    exact ⟨b, off, e, Nat.lt_of_lt_of_le hlt hb.size, fun i hi => (hb.cell (p := ⟨b, off + i, none⟩) hlt).trans (hc i hi)⟩

def size3 (l : List UInt8) : Nat := 65536 * (l.getD 1 0).toNat + 256 * (l.getD 2 0).toNat + (l.getD 3 0).toNat
def gE (l : List UInt8) : Nat := if l.length < 4 then 10 else if (l.getD 0 0).toNat = 0 ∨ 65536 < size3 l then 11 else if l.length < 4 + size3 l then 10 else 0
def gT (l : List UInt8) : Nat := if gE l = 0 then (l.getD 0 0).toNat else 0
def gD (l : List UInt8) : List UInt8 := if gE l = 0 then (l.drop 4).take (size3 l) else []
def gN (l : List UInt8) : Nat := if gE l = 0 then 4 + size3 l else 0
def gotten (l : List UInt8) : Ending := .returned (.tuple #[.agg #[.int .i64 (gT l), .string ⟨(gD l).toArray⟩], .int .i64 (gN l), .int .i64 (gE l)])

theorem gotten_no {l : List UInt8} {k : Nat} (h : gE l = k) (hk : k ≠ 0) : gotten l = .returned (.tuple #[.agg #[.int .i64 0, .string ⟨#[]⟩], .int .i64 0, .int .i64 k]) := by
  have h0 : gE l ≠ 0 := by omega
  rw [gotten, gT, gD, gN, if_neg h0, if_neg h0, if_neg h0, h]; rfl

theorem gotten_yes {l : List UInt8} (h : gE l = 0) : gotten l = .returned (.tuple #[.agg #[.int .i64 ((l.getD 0 0).toNat : Nat), .string ⟨((l.drop 4).take (size3 l)).toArray⟩], .int .i64 (4 + (size3 l : Int)), .int .i64 0]) := by
  simp [gotten, gT, gD, gN, h]

theorem or_low (a b k p : Nat) (hp : p = 2 ^ k) (hb : b < p) : a * p ||| b = a * p + b := by
  subst hp
  have h := Nat.shiftLeft_add_eq_or_of_lt hb a
  rw [Nat.shiftLeft_eq] at h
  exact h.symm

theorem or3 (c1 c2 c3 : Nat) (h1 : c1 < 256) (h2 : c2 < 256) (h3 : c3 < 256) :
    bits .or .i64 (bits .or .i64 ((c1 : Int) * 65536) ((c2 : Int) * 256)) (c3 : Int) = ((65536 * c1 + 256 * c2 + c3 : Nat) : Int) := by
  have key : ∀ a b : Nat, a < 4294967296 → b < 4294967296 → bits .or .i64 (a : Int) (b : Int) = ((a ||| b : Nat) : Int) := by
    intro a b ha hb
    have hx : a ||| b < 2 ^ 32 := Nat.or_lt_two_pow (by omega) (by omega)
    have h1 : (BitVec.ofInt 64 (a : Int)).toNat = a := by
      rw [BitVec.ofInt_natCast, BitVec.toNat_ofNat]; exact Nat.mod_eq_of_lt (by omega)
    have h2 : (BitVec.ofInt 64 (b : Int)).toNat = b := by
      rw [BitVec.ofInt_natCast, BitVec.toNat_ofNat]; exact Nat.mod_eq_of_lt (by omega)
    show IntKind.i64.wrap ((BitVec.ofInt 64 (a : Int) ||| BitVec.ofInt 64 (b : Int)).toNat : Int) = _
    rw [BitVec.toNat_or, h1, h2, IntKind.wrap_i64]
    omega
  have e1 : (c1 : Int) * 65536 = ((c1 * 65536 : Nat) : Int) := by omega
  have e2 : (c2 : Int) * 256 = ((c2 * 256 : Nat) : Int) := by omega
  rw [e1, e2, key _ _ (by omega) (by omega)]
  rw [or_low c1 (c2 * 256) 16 65536 (by decide) (by omega), key _ _ (by omega) (by omega)]
  have e3 : c1 * 65536 + c2 * 256 = (c1 * 256 + c2) * 256 := by omega
  rw [e3, or_low (c1 * 256 + c2) c3 8 256 (by decide) h3]
  omega

theorem gE_short {l : List UInt8} (h : l.length < 4) : gE l = 10 := by rw [gE, if_pos h]
theorem gE_form {l : List UInt8} (h : ¬ l.length < 4) (h2 : (l.getD 0 0).toNat = 0 ∨ 65536 < size3 l) : gE l = 11 := by rw [gE, if_neg h, if_pos h2]
theorem gE_cut {l : List UInt8} (h : ¬ l.length < 4) (h2 : ¬ ((l.getD 0 0).toNat = 0 ∨ 65536 < size3 l)) (h3 : l.length < 4 + size3 l) : gE l = 10 := by rw [gE, if_neg h, if_neg h2, if_pos h3]
theorem gE_ok {l : List UInt8} (h : ¬ l.length < 4) (h2 : ¬ ((l.getD 0 0).toNat = 0 ∨ 65536 < size3 l)) (h3 : ¬ l.length < 4 + size3 l) : gE l = 0 := by rw [gE, if_neg h, if_neg h2, if_neg h3]

/-- What a walk needs to know of bytes that are long enough. -/
theorem Reads.heads {w : World} {a : Option Addr} {len cap : Nat} {l : List UInt8} (h : Reads w a len cap l) (h4 : 4 ≤ len) :
    ∃ b off, a = some ⟨b, off, none⟩ ∧ b < w.heap.size ∧ w.cell? ⟨b, off, none⟩ = some (.int .u8 (l.getD 0 0).toNat) ∧ w.cell? ⟨b, off + 1, none⟩ = some (.int .u8 (l.getD 1 0).toNat) ∧
      w.cell? ⟨b, off + 2, none⟩ = some (.int .u8 (l.getD 2 0).toNat) ∧ w.cell? ⟨b, off + 3, none⟩ = some (.int .u8 (l.getD 3 0).toNat) ∧
      ∀ (n : Nat), 4 + n ≤ len → ((l.drop 4).take n).length = n ∧ ∀ (j : Nat) (hj : j < ((l.drop 4).take n).length), w.cell? ⟨b, off + 4 + j, none⟩ = some (.int .u8 ((l.drop 4).take n)[j].toNat) := by
  obtain ⟨h1, h2, h3, ⟨_, h0⟩ | ⟨_, _, h0⟩ | ⟨b, off, e, hlt, hc⟩⟩ := h
  · omega
  · omega
  · have hg : ∀ i, i < len → w.cell? ⟨b, off + i, none⟩ = some (.int .u8 (l.getD i 0).toNat) := fun i hi => by
      rw [hc i (by omega), List.getD, List.getElem?_eq_getElem (by omega)]; rfl
    refine ⟨b, off, e, hlt, hg 0 (by omega), hg 1 (by omega), hg 2 (by omega), hg 3 (by omega), ?_⟩
    intro n hn
    refine ⟨by simp; omega, fun j hj => ?_⟩
    have hj' : j < n := by simp at hj; omega
    have := hc (4 + j) (by omega)
    rw [← Nat.add_assoc] at this
    rw [this]
    simp

theorem get_any (a : Option Addr) (len cap : Nat) (l : List UInt8) (w : World) (h : Reads w a len cap l) :
    Calls Try.prog 25 #[.slice a len cap] w fun e w' => e = gotten l ∧ Below w.heap.size w w' := by
  by_cases h4 : len < 4
  · rw [gotten_no (gE_short (by rw [h.1]; exact h4)) (by decide)]
    exact get_short a len cap w h4
  · obtain ⟨b, off, rfl, hlt, h0, h1, h2, h3, hd⟩ := h.heads (by omega)
    have n0 : ¬ l.length < 4 := by rw [h.1]; exact h4
    have b0 := (l.getD 0 0).toNat_lt
    have b1 := (l.getD 1 0).toNat_lt
    have b2 := (l.getD 2 0).toNat_lt
    have b3 := (l.getD 3 0).toNat_lt
    have hb := or3 _ _ _ b1 b2 b3
    change _ = ((size3 l : Nat) : Int) at hb
    have hs : size3 l ≤ 16777215 := by unfold size3; omega
    by_cases hf : (l.getD 0 0).toNat = 0 ∨ 65536 < size3 l
    · rw [gotten_no (gE_form n0 hf) (by decide)]
      exact get_form b off len cap w (by omega) _ _ _ _ (size3 l) hlt h0 h1 h2 h3 (by omega) (by omega) (by omega) (by omega) (by omega) hb (by
        by_cases hz : (l.getD 0 0).toNat = 0
        · left; rw [hz]; rfl
        · right; exact ⟨by simpa using hz, by omega⟩)
    · have hz : (((l.getD 0 0).toNat : Int) == 0) = false := by
        have : ¬ (l.getD 0 0).toNat = 0 := fun h => hf (.inl h)
        simpa using this
      by_cases hc : l.length < 4 + size3 l
      · rw [gotten_no (gE_cut n0 hf hc) (by decide)]
        exact get_cut b off len cap w (by omega) _ _ _ _ (size3 l) hlt h0 h1 h2 h3 (by omega) (by omega) (by omega) (by omega) (by omega) hb hz (by rw [h.1] at hc; omega)
      · rw [gotten_yes (gE_ok n0 hf hc)]
        have hl : 4 + size3 l ≤ len := by rw [h.1] at hc; omega
        exact get_field b off len cap w (by omega) _ _ _ _ (size3 l) hlt h.2.1 h.2.2.1 h0 h1 h2 h3 (by omega) (by omega) (by omega) (by omega) (by omega) hb hz (by omega) _ (hd _ hl).1 (hd _ hl).2

theorem refGet_any (a : Option Addr) (len cap : Nat) (l : List UInt8) (w : World) (h : Reads w a len cap l) :
    Calls Try.prog 21 #[.slice a len cap] w fun e w' => e = gotten l ∧ Below w.heap.size w w' := by
  by_cases h4 : len < 4
  · rw [gotten_no (gE_short (by rw [h.1]; exact h4)) (by decide)]
    exact refGet_short a len cap w h4
  · obtain ⟨b, off, rfl, hlt, h0, h1, h2, h3, hd⟩ := h.heads (by omega)
    have n0 : ¬ l.length < 4 := by rw [h.1]; exact h4
    have b0 := (l.getD 0 0).toNat_lt
    have b1 := (l.getD 1 0).toNat_lt
    have b2 := (l.getD 2 0).toNat_lt
    have b3 := (l.getD 3 0).toNat_lt
    have hb : 65536 * ((l.getD 1 0).toNat : Int) + 256 * ((l.getD 2 0).toNat : Int) + ((l.getD 3 0).toNat : Int) = ((size3 l : Nat) : Int) := by unfold size3; omega
    have hs : size3 l ≤ 16777215 := by unfold size3; omega
    have hcap := h.2.2.1
    have hlc := h.2.1
    by_cases hf : (l.getD 0 0).toNat = 0 ∨ 65536 < size3 l
    · rw [gotten_no (gE_form n0 hf) (by decide)]
      exact refGet_form b off len cap w (by omega) _ _ _ _ (size3 l) hlt h0 h1 h2 h3 (by omega) (by omega) (by omega) (by omega) (by omega) hb (by
        by_cases hz : (l.getD 0 0).toNat = 0
        · left; rw [hz]; rfl
        · right; exact ⟨by simpa using hz, by omega⟩)
    · have hz : (((l.getD 0 0).toNat : Int) == 0) = false := by
        have : ¬ (l.getD 0 0).toNat = 0 := fun h => hf (.inl h)
        simpa using this
      by_cases hc : l.length < 4 + size3 l
      · rw [gotten_no (gE_cut n0 hf hc) (by decide)]
        exact refGet_cut b off len cap w (by omega) (by omega) _ _ _ _ (size3 l) hlt h0 h1 h2 h3 (by omega) (by omega) (by omega) (by omega) (by omega) hb hz (by rw [h.1] at hc; omega)
      · rw [gotten_yes (gE_ok n0 hf hc)]
        have hl : 4 + size3 l ≤ len := by rw [h.1] at hc; omega
        by_cases h44 : cap = 4
        · have hlen : len = 4 := by omega
          have hs0 : size3 l = 0 := by omega
          have e1 : (l.getD 1 0).toNat = 0 := by unfold size3 at hs0; omega
          have e2 : (l.getD 2 0).toNat = 0 := by unfold size3 at hs0; omega
          have e3 : (l.getD 3 0).toNat = 0 := by unfold size3 at hs0; omega
          rw [e1] at h1
          rw [e2] at h2
          rw [e3] at h3
          rw [hs0]
          subst h44 hlen
          exact refGet_four b off w _ hlt h0 h1 h2 h3 (by omega) hz
        · exact refGet_field b off len cap w (by omega) _ _ _ _ (size3 l) hlt hlc hcap h0 h1 h2 h3 (by omega) (by omega) (by omega) (by omega) (by omega) hb hz (by omega) h44 _ (hd _ hl).1 (hd _ hl).2
end Go.Proofs.Ytmfopddmkaecaab
