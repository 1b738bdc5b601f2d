/- What the statements' joined answers: some texts as one, or that they are more than is looked at. -/
import Derived.Test.YthkmhfpihkjhnaaDoorSumx
namespace Go.Proofs.YthkmhfpihkjhnaaDoor
open Go.RowKit Sums
set_option linter.unusedVariables false
set_option linter.unusedSimpArgs false

/-- What joined answers. -/
def Fits (ss : List ByteArray) : Prop := ss.length ≤ 500 ∧ total ss ≤ 65536
def Joined (ss : List ByteArray) (e : Ending) : Prop :=
  (Fits ss → e = .returned (.tuple #[.string ⟨(joinL ss).toArray⟩, .bool true])) ∧ (¬ Fits ss → e = .returned (.tuple #[.string ⟨#[]⟩, .bool false]))
theorem bytes_of {t : ByteArray} {l : List UInt8} (h : t.data.toList = l) : t = ⟨l.toArray⟩ := by
  apply ByteArray.ext; apply Array.ext'; simpa using h

set_option maxHeartbeats 1000000 in
theorem joined_any (a : Option Addr) (len cap : Nat) (ss : List ByteArray) (w : World) (hT : Texts w a len ss) (hz : ∀ s ∈ ss, s.size ≤ maxLen) (hlen : len ≤ 9223372036854775807) :
    Calls Tryd.prog 7 #[.slice a len cap] w fun e w' => Joined ss e ∧ w = w' := by
  have HT : Hid (Texts w a len ss) := hT
  have HSL : Hid (ss.length = len) := hT.1
  have HZ : Hid (∀ s ∈ ss, s.size ≤ maxLen) := hz
  clear hT hz
  by_cases h5 : len ≤ 500
  · have h5' : decide ((500 : Int) < (len : Int)) = false := by rw [decide_eq_false_iff_not]; omega
    go_enter Tryd.func7, Tryd.ntmps7
    go_wp2
    go_loop [4, 5] (fun s i => ∃ (k : Nat) (t : ByteArray), k ≤ len ∧ i = .int .i64 k ∧ s = .string t ∧ t.size ≤ 65536 ∧ Hid (t.data.toList = joinL (ss.take k))) (fun _ i => len - (intOf i).toNat)
    case atStart => exact ⟨0, ⟨#[]⟩, by omega, rfl, rfl, by show 0 ≤ 65536; omega, (rfl : _ = _)⟩
    case round =>
      obtain ⟨k, t, hk, rfl, rfl, hts, HJ⟩ := hrel
      by_cases hlt : k < len
      · have hlk : k < ss.length := by have := HSL.out; omega
        obtain ⟨p, HP⟩ : ∃ p, Hid (p = ss[k]) := ⟨_, (rfl : ss[k] = _)⟩
        have hps : p.size ≤ maxLen := by rw [HP.out]; exact HZ.out _ (List.getElem_mem _)
        unfold maxLen at hps
        obtain ⟨b, off, rfl, hcell⟩ : ∃ b off, a = some ⟨b, off, none⟩ ∧ w.cell? ⟨b, off + k, none⟩ = some (.string p) := by
          rcases HT.out.2 with h0 | ⟨b, off, e, _, hc⟩
          · omega
          · exact ⟨b, off, e, by rw [hc k hlk, HP.out]⟩
        have hlt' : (k : Int) < (len : Int) := by omega
        by_cases hfit : t.size + p.size ≤ 65536
        · have hf : ¬ (65536 - (t.size : Int) < (p.size : Int)) := by omega
          have HN : Hid ((t ++ p).data.toList = joinL (ss.take (k + 1))) := by
            show _ = _
            rw [take_succ_parts ss k hlk, joinL_append, ← HP.out, ← HJ.out]
            simp [joinL]
          go_wp2
          go_round
          case rel => exact ⟨k + 1, t ++ p, by omega, by go_num, rfl, by rw [ByteArray.size_append]; omega, HN⟩
          case measure => simp [intOf]; omega
        · have hf : 65536 - (t.size : Int) < (p.size : Int) := by omega
          have HF : Hid (¬ Fits ss) := by
            rintro ⟨_, h2⟩
            have h3 := total_take ss (k + 1)
            rw [total_step ss k hlk, ← HP.out, ← joinL_length, ← HJ.out] at h3
            have h4 : t.data.toList.length = t.size := rfl
            omega
          go_wp2
          go_ret2
          exact ⟨⟨fun h => absurd h HF.out, fun _ => rfl⟩, rfl⟩
      · obtain rfl : len = k := by omega
        go_wp2
        go_ret2
        have h1 := HJ.out
        rw [List.take_of_length_le (by have := HSL.out; omega)] at h1
        have h2 : t.data.toList.length = t.size := rfl
        rw [h1, joinL_length] at h2
        refine ⟨⟨fun _ => by rw [← bytes_of h1]; rfl, fun h => absurd ⟨by rw [HSL.out]; exact h5, by omega⟩ h⟩, rfl⟩
  · have h5' : decide ((500 : Int) < (len : Int)) = true := by rw [decide_eq_true_eq]; omega
    go_enter Tryd.func7, Tryd.ntmps7
    go_wp2
    go_ret2
    exact ⟨⟨fun h => absurd h.1 (by rw [HSL.out]; exact h5), fun _ => rfl⟩, rfl⟩

theorem joined_fits {a : Option Addr} {len : Nat} (cap : Nat) {ss : List ByteArray} {w : World} (hT : Texts w a len ss) (hz : ∀ s ∈ ss, s.size ≤ maxLen) (hlen : len ≤ 9223372036854775807) (hf : Fits ss) :
    Calls Tryd.prog 7 #[.slice a len cap] w fun e w' => e = .returned (.tuple #[.string ⟨(joinL ss).toArray⟩, .bool true]) ∧ w = w' :=
  (joined_any a len cap ss w hT hz hlen).mono fun _ _ h => ⟨h.1.1 hf, h.2⟩
theorem joined_not {a : Option Addr} {len : Nat} (cap : Nat) {ss : List ByteArray} {w : World} (hT : Texts w a len ss) (hz : ∀ s ∈ ss, s.size ≤ maxLen) (hlen : len ≤ 9223372036854775807) (hf : ¬ Fits ss) :
    Calls Tryd.prog 7 #[.slice a len cap] w fun e w' => e = .returned (.tuple #[.string ⟨#[]⟩, .bool false]) ∧ w = w' :=
  (joined_any a len cap ss w hT hz hlen).mono fun _ _ h => ⟨h.1.2 hf, h.2⟩
end Go.Proofs.YthkmhfpihkjhnaaDoor
