/- What the calls of package check answer, at this commit of the code. -/
import Derived.Test.YtehfoeedlchphaaDoorClashm
import Derived.Test.YtehfoeedlchphaaDoorConsm
namespace Go.Proofs.YtehfoeedlchphaaDoor
open Go.RowKit Sums
set_option linter.unusedVariables false

theorem checkC : CheckC := checkC_some fun m old n root proof a len cap w O R HO HR ho hr hm hn hR hK => by
  by_cases h : 0 ≤ n ∧ n ≤ 100000 ∧ 0 ≤ m ∧ m ≤ n
  · by_cases h0 : m = 0
    · subst h0
      exact consistent_none old n root proof a len cap w O R HO HR ho hr (by omega) hR hK.sha
    · obtain ⟨M, rfl⟩ : ∃ M : Nat, m = M := ⟨m.toNat, by omega⟩
      obtain ⟨N, rfl⟩ : ∃ N : Nat, n = N := ⟨n.toNat, by omega⟩
      exact consistent_some M old N root proof a len cap w O R HO HR ho hr (by omega) (by omega) (by omega) hR hK.sha
  · rw [conE_out m old n root proof h]
    exact consistent_out m n a len cap w O R h
end Go.Proofs.YtehfoeedlchphaaDoor
