/- A row's bytes that are cut: plain reasoning on lists of bytes. -/
import Derived.Test.YtmfopddmkaecaabPackReadsWalk
namespace Go.Proofs.Ytmfopddmkaecaab
open Go.RowKit Nums

theorem cut_first (tag : Nat) (d : List UInt8) (c : Nat) (ht : 1 ≤ tag ∧ tag ≤ 255) (hd : d.length ≤ 65536) (hc : c < 4 + d.length) : gE ((fieldBytes tag d).take c) = 10 := by
  have hl : ((fieldBytes tag d).take c).length = c := by rw [List.length_take, fieldBytes_length]; omega
  by_cases h4 : c < 4
  · exact gE_short (by omega)
  · obtain ⟨m, rfl⟩ : ∃ m, c = m + 4 := ⟨c - 4, by omega⟩
    have e0 : (((fieldBytes tag d).take (m + 4)).getD 0 0).toNat = tag := by simp [fieldBytes]; omega
    have es : size3 ((fieldBytes tag d).take (m + 4)) = d.length := by simp [fieldBytes, size3]; omega
    exact gE_cut (by omega) (by rw [e0, es]; omega) (by rw [es]; omega)

theorem cut_parse : ∀ (fs : List (Int × ByteArray)) (k last c : Nat), layE last fs = 0 → c ≤ (rowB fs).length → c ≤ k →
    firstE (parse k last ((rowB fs).take c)) = 10 ∨ (firstE (parse k last ((rowB fs).take c)) = 0 ∧ ∃ m, m ≤ fs.length ∧ toF (parse k last ((rowB fs).take c)) = fs.take m)
  | [], k, last, c, _, _, _ => by
    right
    have : parse k last ((rowB []).take c) = [] := by cases k <;> simp [parse, rowB]
    rw [this]
    exact ⟨rfl, 0, Nat.le_refl _, rfl⟩
  | f :: r, k, last, c, h, hc, hk => by
    obtain ⟨h1, h2⟩ := lay_cons h
    have hp := fault_pos (Int.natCast_nonneg last) h1
    have hd : f.2.data.toList.length ≤ 65536 := by simpa using hp.2.2
    have ht : 1 ≤ f.1.toNat ∧ f.1.toNat ≤ 255 := by omega
    have e : rowB (f :: r) = fieldBytes f.1.toNat f.2.data.toList ++ rowB r := by rw [rowB, fieldBytesI_nat _ _ ⟨hp.1, hp.2.1⟩]
    have hF : (fieldBytes f.1.toNat f.2.data.toList).length = 4 + f.2.data.toList.length := fieldBytes_length _ _
    by_cases h0 : c = 0
    · subst h0
      right
      have : parse k last ((rowB (f :: r)).take 0) = [] := by cases k <;> simp [parse]
      rw [this]
      exact ⟨rfl, 0, by simp, rfl⟩
    · obtain ⟨k', rfl⟩ : ∃ k', k = k' + 1 := ⟨k - 1, by omega⟩
      have hlen : ((rowB (f :: r)).take c).length = c := by rw [List.length_take]; omega
      have hne : (rowB (f :: r)).take c ≠ [] := fun h => by rw [h] at hlen; simp at hlen; omega
      by_cases hlt : c < 4 + f.2.data.toList.length
      · left
        have e2 : (rowB (f :: r)).take c = (fieldBytes f.1.toNat f.2.data.toList).take c := by rw [e, List.take_append_of_le_length (by omega)]
        have hg := cut_first f.1.toNat f.2.data.toList c ht hd hlt
        rw [parse_cons hne, firstE, e2]
        have hpe : pE last ((fieldBytes f.1.toNat f.2.data.toList).take c) = 10 := by rw [pE_bad (by rw [hg]; decide), hg]
        show (if pE last _ = 0 then _ else pE last _) = 10
        rw [hpe]
        rfl
      · have e2 : (rowB (f :: r)).take c = fieldBytes f.1.toNat f.2.data.toList ++ (rowB r).take (c - (4 + f.2.data.toList.length)) := by
          rw [e, List.take_append, hF, List.take_of_length_le (by omega)]
        obtain ⟨g1, g2, g3, g4⟩ := got_field f.1.toNat f.2.data.toList ((rowB r).take (c - (4 + f.2.data.toList.length))) ht hd
        have ei : ((f.1.toNat : Nat) : Int) = f.1 := by omega
        have es : f.2.data.toList.length = f.2.size := by simp
        have hpe : pE last (fieldBytes f.1.toNat f.2.data.toList ++ (rowB r).take (c - (4 + f.2.data.toList.length))) = 0 := by
          refine pE_ok g1 ?_
          rw [g2, g3, ei, es]
          exact h1
        have hrl : (rowB (f :: r)).length = 4 + f.2.data.toList.length + (rowB r).length := by rw [e, List.length_append, hF]
        have ih := cut_parse r k' f.1.toNat (c - (4 + f.2.data.toList.length)) (by rw [ei]; exact h2) (by omega) (by omega)
        have ep : parse (k' + 1) last ((rowB (f :: r)).take c) = asPd f :: parse k' f.1.toNat ((rowB r).take (c - (4 + f.2.data.toList.length))) := by
          rw [parse_cons hne, e2, if_pos hpe, g2, g4, List.drop_left]
          congr 1
          unfold pX asPd
          rw [g2, g3, hpe]
        rw [ep, firstE, if_pos (show (asPd f).e = 0 from rfl)]
        rcases ih with ih | ⟨ih, m, hm, hF2⟩
        · exact .inl ih
        · refine .inr ⟨ih, m + 1, by simp; omega, ?_⟩
          have hf1 : toF [asPd f] = [f] := toF_asPd [f] (fun g hg => by simp at hg; subst hg; omega)
          rw [List.take_succ_cons, ← hF2]
          show toF ([asPd f] ++ _) = _
          unfold toF at hf1 ⊢
          rw [List.map_append, hf1]
          rfl

theorem read_cut {fs : List (Int × ByteArray)} {c : Nat} (h : layE 0 fs = 0) (hc : c ≤ (rowB fs).length) :
    readE ((rowB fs).take c) = 10 ∨ (readE ((rowB fs).take c) = 0 ∧ ∃ m, m ≤ fs.length ∧ readF ((rowB fs).take c) = fs.take m) := by
  have hl : ((rowB fs).take c).length = c := by rw [List.length_take]; omega
  have := cut_parse fs (((rowB fs).take c).length + 1) 0 c h hc (by omega)
  rcases this with h1 | ⟨h1, m, hm, h2⟩
  · exact .inl h1
  · exact .inr ⟨h1, m, hm, by rw [readF, if_pos (show readE _ = 0 from h1)]; exact h2⟩

theorem Reads.take {w : World} {a : Option Addr} {len cap : Nat} {l : List UInt8} (h : Reads w a len cap l) {c : Nat} (hc : c ≤ len) : Reads w a c cap (l.take c) := by
  obtain ⟨h1, h2, h3, h4⟩ := h
  refine ⟨by rw [List.length_take]; omega, by omega, h3, ?_⟩
  rcases h4 with ⟨rfl, h0⟩ | ⟨ad, rfl, h0⟩ | ⟨b, off, rfl, hlt, hcl⟩
  · exact .inl ⟨rfl, by omega⟩
  · exact .inr (.inl ⟨ad, rfl, by omega⟩)
  · refine .inr (.inr ⟨b, off, rfl, hlt, fun i hi => ?_⟩)
    have hi' : i < l.length := by rw [List.length_take] at hi; omega
    rw [hcl i hi']
    simp

theorem FReads.take {n : Nat} {w : World} {a : Option Addr} {len cap : Nat} {fs : List (Int × ByteArray)} (h : FReads n w a len cap fs) {c : Nat} (hc : c ≤ len) : FReads n w a c cap (fs.take c) := by
  obtain ⟨h1, h2, h3, h4, h5⟩ := h
  refine ⟨by rw [List.length_take]; omega, by omega, h3, fun f hf => h4 f (List.mem_of_mem_take hf), ?_⟩
  rcases h5 with ⟨rfl, h0⟩ | ⟨ad, rfl, h0⟩ | ⟨b, off, rfl, hlt, hcl⟩
  · exact .inl ⟨rfl, by omega⟩
  · exact .inr (.inl ⟨ad, rfl, by omega⟩)
  · refine .inr (.inr ⟨b, off, rfl, hlt, fun i hi => ?_⟩)
    have hi' : i < fs.length := by rw [List.length_take] at hi; omega
    have := hcl i hi'
    simpa using this
end Go.Proofs.Ytmfopddmkaecaab
