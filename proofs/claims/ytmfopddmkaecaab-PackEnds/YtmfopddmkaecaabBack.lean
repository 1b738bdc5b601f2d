/- Rows as bytes and back: plain reasoning on lists of bytes. -/
import Derived.Test.YtmfopddmkaecaabSpec
import Derived.Test.YtmfopddmkaecaabRefLay
namespace Go.Proofs.Ytmfopddmkaecaab
open Go.RowKit Nums

theorem got_field (tag : Nat) (d more : List UInt8) (ht : 1 ≤ tag ∧ tag ≤ 255) (hd : d.length ≤ 65536) :
    gE (fieldBytes tag d ++ more) = 0 ∧ gT (fieldBytes tag d ++ more) = tag ∧ gD (fieldBytes tag d ++ more) = d ∧ gN (fieldBytes tag d ++ more) = (fieldBytes tag d).length := by
  have e0 : ((fieldBytes tag d ++ more).getD 0 0).toNat = tag := by
    simp [fieldBytes]; omega
  have es : size3 (fieldBytes tag d ++ more) = d.length := by
    simp [fieldBytes, size3]; omega
  have el : (fieldBytes tag d ++ more).length = 4 + d.length + more.length := by rw [List.length_append, fieldBytes_length]
  have h0 : gE (fieldBytes tag d ++ more) = 0 := gE_ok (by omega) (by rw [e0, es]; omega) (by rw [es, el]; omega)
  refine ⟨h0, by rw [gT, if_pos h0, e0], ?_, by rw [gN, if_pos h0, es, fieldBytes_length]⟩
  rw [gD, if_pos h0, es]
  simp [fieldBytes]

/-- A field that was laid, as it is read. -/
def asPd (f : Int × ByteArray) : Pd := ⟨f.1.toNat, f.2.data.toList, 0⟩

theorem toF_asPd (fs : List (Int × ByteArray)) (h : ∀ f ∈ fs, 0 ≤ f.1) : toF (fs.map asPd) = fs := by
  induction fs with
  | nil => rfl
  | cons f r ih =>
    have h1 := h f List.mem_cons_self
    have h2 := ih (fun g hg => h g (List.mem_cons_of_mem _ hg))
    unfold toF at h2 ⊢
    rw [List.map_cons, List.map_cons, h2]
    congr 1
    obtain ⟨t, d⟩ := f
    simp only [asPd]
    simp only at h1
    congr 1
    omega

theorem lay_cons {last : Int} {f : Int × ByteArray} {r : List (Int × ByteArray)} (h : layE last (f :: r) = 0) : faultOf last f.1 f.2.size = 0 ∧ layE f.1 r = 0 := by
  rw [layE] at h
  by_cases h1 : faultOf last f.1 f.2.size = 0
  · rw [if_pos h1] at h; exact ⟨h1, h⟩
  · rw [if_neg h1] at h; exact absurd h h1

theorem lay_pos : ∀ (last : Int) (fs : List (Int × ByteArray)), 0 ≤ last → layE last fs = 0 → ∀ f ∈ fs, 0 ≤ f.1
  | _, [], _, _, f, hf => by simp at hf
  | last, g :: r, hl, h, f, hf => by
    obtain ⟨h1, h2⟩ := lay_cons h
    have hp := fault_pos hl h1
    rcases List.mem_cons.1 hf with rfl | hf
    · omega
    · exact lay_pos g.1 r (by omega) h2 f hf

/-- The first field of a row's bytes. -/
theorem row_first {last : Nat} {f : Int × ByteArray} {r : List (Int × ByteArray)} {more : List UInt8} (h : faultOf last f.1 f.2.size = 0) (hr : more = rowB r) :
    let l := rowB (f :: r)
    l ≠ [] ∧ gE l = 0 ∧ gT l = f.1.toNat ∧ gD l = f.2.data.toList ∧ l.drop (gN l) = more ∧ pE last l = 0 ∧ gN l = 4 + f.2.data.toList.length := by
  have hp := fault_pos (Int.natCast_nonneg last) h
  have hd : f.2.data.toList.length ≤ 65536 := by simpa using hp.2.2
  have e : rowB (f :: r) = fieldBytes f.1.toNat f.2.data.toList ++ rowB r := by rw [rowB, fieldBytesI_nat _ _ ⟨hp.1, hp.2.1⟩]
  obtain ⟨g1, g2, g3, g4⟩ := got_field f.1.toNat f.2.data.toList (rowB r) (by omega) hd
  intro l
  show rowB (f :: r) ≠ [] ∧ _
  rw [show l = rowB (f :: r) from rfl, e]
  refine ⟨by simp [fieldBytes], g1, g2, g3, by rw [g4, List.drop_left, hr], ?_, by rw [g4, fieldBytes_length]⟩
  refine pE_ok g1 ?_
  rw [g2, g3]
  have e1 : ((f.1.toNat : Nat) : Int) = f.1 := by omega
  have e2 : f.2.data.toList.length = f.2.size := by simp
  rw [e1, e2]
  exact h

theorem parse_row : ∀ (fs : List (Int × ByteArray)) (k last : Nat), layE last fs = 0 → (rowB fs).length ≤ k → parse k last (rowB fs) = fs.map asPd
  | [], k, last, _, _ => by cases k <;> simp [parse, rowB]
  | f :: r, k, last, h, hk => by
    obtain ⟨h1, h2⟩ := lay_cons h
    obtain ⟨ne, g1, g2, g3, g4, g5, g6⟩ := row_first (r := r) h1 rfl
    have hp := fault_pos (Int.natCast_nonneg last) h1
    have hlen : (rowB (f :: r)).length = 4 + f.2.data.toList.length + (rowB r).length := by
      rw [rowB, List.length_append, fieldBytesI_length]
    obtain ⟨k', rfl⟩ : ∃ k', k = k' + 1 := ⟨k - 1, by omega⟩
    rw [parse_cons ne, if_pos g5, g2, g4]
    have ih := parse_row r k' f.1.toNat (by rw [show ((f.1.toNat : Nat) : Int) = f.1 by omega]; exact h2) (by omega)
    rw [ih, List.map_cons]
    congr 1
    unfold pX asPd
    rw [g2, g3, g5]

theorem read_row {fs : List (Int × ByteArray)} (h : layE 0 fs = 0) : readE (rowB fs) = 0 ∧ readF (rowB fs) = fs := by
  have hp := parse_row fs ((rowB fs).length + 1) 0 h (by omega)
  have h0 : readE (rowB fs) = 0 := by
    rw [readE, hp]
    apply firstE_all
    intro x hx
    obtain ⟨f, _, rfl⟩ := List.mem_map.1 hx
    rfl
  refine ⟨h0, ?_⟩
  rw [readF, if_pos h0, hp]
  exact toF_asPd fs (lay_pos 0 fs (by decide) h)

theorem row_inj {a b : List (Int × ByteArray)} (ha : layE 0 a = 0) (hb : layE 0 b = 0) (h : rowB a = rowB b) : a = b := by
  rw [← (read_row ha).2, ← (read_row hb).2, h]

/-- Bytes whose first field is right are that field's and the rest. -/
theorem bytes_first {l : List UInt8} (h : gE l = 0) : l = fieldBytes (gT l) (gD l) ++ l.drop (gN l) ∧ (gD l).length ≤ 65536 := by
  have h0 := h
  have hn := gN_le h
  refine ⟨?_, hn.2.2.2.1⟩
  match l, hn.2.1 with
  | [], hl => simp at hl; omega
  | [_], hl => simp at hl; omega
  | [_, _], hl => simp at hl; omega
  | [_, _, _], hl => simp at hl; omega
  | a :: b :: c :: d :: r, hl =>
    have ht : gT (a :: b :: c :: d :: r) = a.toNat := by rw [gT, if_pos h]; rfl
    have hs : size3 (a :: b :: c :: d :: r) = 65536 * b.toNat + 256 * c.toNat + d.toNat := rfl
    have hN : gN (a :: b :: c :: d :: r) = 4 + size3 (a :: b :: c :: d :: r) := by rw [gN, if_pos h]
    have hD : gD (a :: b :: c :: d :: r) = r.take (size3 (a :: b :: c :: d :: r)) := by rw [gD, if_pos h]; rfl
    have hlr : (r.take (size3 (a :: b :: c :: d :: r))).length = size3 (a :: b :: c :: d :: r) := by
      rw [List.length_take]
      rw [hN] at hl
      simp only [List.length_cons] at hl
      omega
    have hb := b.toNat_lt
    have hc := c.toNat_lt
    have hd := d.toNat_lt
    have ha := a.toNat_lt
    rw [ht, hD, hN, fieldBytes, hlr, hs]
    have e1 : UInt8.ofNat (a.toNat % 256) = a := by rw [Nat.mod_eq_of_lt ha]; exact UInt8.ofNat_toNat
    have e2 : UInt8.ofNat ((65536 * b.toNat + 256 * c.toNat + d.toNat) / 65536 % 256) = b := by
      rw [show (65536 * b.toNat + 256 * c.toNat + d.toNat) / 65536 % 256 = b.toNat by omega]; exact UInt8.ofNat_toNat
    have e3 : UInt8.ofNat ((65536 * b.toNat + 256 * c.toNat + d.toNat) / 256 % 256) = c := by
      rw [show (65536 * b.toNat + 256 * c.toNat + d.toNat) / 256 % 256 = c.toNat by omega]; exact UInt8.ofNat_toNat
    have e4 : UInt8.ofNat ((65536 * b.toNat + 256 * c.toNat + d.toNat) % 256) = d := by
      rw [show (65536 * b.toNat + 256 * c.toNat + d.toNat) % 256 = d.toNat by omega]; exact UInt8.ofNat_toNat
    rw [e1, e2, e3, e4]
    simp only [List.cons_append, List.drop_succ_cons, Nat.add_comm 4]
    rw [List.take_append_drop]

theorem lay_parse : ∀ (k last : Nat) (l : List UInt8), l.length ≤ k → firstE (parse k last l) = 0 → layE last (toF (parse k last l)) = 0 ∧ rowB (toF (parse k last l)) = l ∧ (parse k last l).length + last ≤ 255 + (if parse k last l = [] then last else 0)
  | 0, last, l, hk, _ => by
    have : l = [] := List.eq_nil_of_length_eq_zero (by omega)
    subst this
    simp [parse, toF, layE, rowB]
  | k + 1, last, l, hk, h => by
    by_cases hl : l = []
    · subst hl; simp [parse, toF, layE, rowB]
    · rw [parse_cons hl] at h ⊢
      rw [firstE] at h
      have he : pE last l = 0 := by
        by_cases he : pE last l = 0
        · exact he
        · rw [if_neg (show ¬ (pX last l).e = 0 from he)] at h; exact absurd h he
      rw [if_pos (show (pX last l).e = 0 from he), if_pos he] at h
      rw [if_pos he]
      have hg : gE l = 0 := by
        unfold pE at he
        by_cases h0 : gE l = 0
        · exact h0
        · rw [if_neg h0] at he; exact absurd he h0
      have hf : faultOf last (gT l) (gD l).length = 0 := by
        unfold pE at he
        rw [if_pos hg] at he
        by_cases hf : faultOf last (gT l) (gD l).length = 0
        · exact hf
        · rw [if_neg hf] at he; omega
      have hn := gN_le hg
      obtain ⟨i1, i2, i3⟩ := lay_parse k (gT l) (l.drop (gN l)) (by rw [List.length_drop]; omega) h
      obtain ⟨b1, b2⟩ := bytes_first hg
      have hds : (⟨(gD l).toArray⟩ : ByteArray).size = (gD l).length := by show (gD l).toArray.size = _; simp
      have hrise : (last : Int) < (gT l : Int) := by
        unfold faultOf at hf
        by_cases hh : (gT l : Int) ≤ (last : Int) ∨ 255 < (gT l : Int)
        · rw [if_pos hh] at hf; omega
        · omega
      refine ⟨?_, ?_, ?_⟩
      · show layE last (((gT l : Int), ⟨(gD l).toArray⟩) :: toF (parse k (gT l) (l.drop (gN l)))) = 0
        rw [layE]
        show (if faultOf last (gT l) (⟨(gD l).toArray⟩ : ByteArray).size = 0 then layE (gT l) _ else _) = 0
        rw [hds, if_pos hf]
        exact i1
      · show rowB (((gT l : Int), ⟨(gD l).toArray⟩) :: toF (parse k (gT l) (l.drop (gN l)))) = l
        rw [rowB, i2]
        show fieldBytesI (gT l) (gD l).toArray.toList ++ _ = l
        rw [fieldBytesI_nat _ _ (by omega)]
        exact b1.symm
      · rw [if_neg (by simp), List.length_cons]
        by_cases hnil : parse k (gT l) (l.drop (gN l)) = []
        · rw [hnil]; simp; omega
        · rw [if_neg hnil] at i3; omega

theorem lay_read {bs : List UInt8} (h : readE bs = 0) : layE 0 (readF bs) = 0 ∧ rowOf (readF bs) = bs ∧ (readF bs).length ≤ 255 := by
  obtain ⟨i1, i2, i3⟩ := lay_parse (bs.length + 1) 0 bs (by omega) h
  rw [readF, if_pos h]
  have i1' : layE 0 (toF (parse (bs.length + 1) 0 bs)) = 0 := i1
  refine ⟨i1', by rw [rowOf, if_pos i1']; exact i2, ?_⟩
  rw [toF_length]
  by_cases hnil : parse (bs.length + 1) 0 bs = []
  · rw [hnil]; simp
  · rw [if_neg hnil] at i3; omega
end Go.Proofs.Ytmfopddmkaecaab
