/- Rows that the call owns, and bytes that can be read: what appends do to them. -/
import Derived.Test.YtmfopddmkaecaabGots
namespace Go.Proofs.Ytmfopddmkaecaab
open Go.RowKit Nums

/-- An append whose run is known, as one step of a region that draws its order. -/
theorem step_append_run {P : Program} {ops : Array Oper} {o : Oper} {a : Act} {w : World} {K : Act → World → Prop} {Q : Exit → Act → World → Prop} {E : Prop}
    (hg : o.guard = none) (s x : Operand) (t u : TypeId) (hop : o.op = Op.call { callee := Callee.builtin Builtin.append, args := #[s, x], argTypes := #[t, u] })
    (vs vx v' : Value) (w' : World) (hs : a.eval s = vs) (hx : a.eval x = vx) (hrun : (Builtin.append_ #[t, u] o.type #[vs, vx]).run P w = .ok v' w')
    (hK : K (a.put o.dst v') w') :
    if Region.wanted o (yielded ops a.tmps) = true then Oper.wp P o a w K Q else E := by
  have hw : Region.wanted o (yielded ops a.tmps) = true := by simp [Region.wanted, hg]
  rw [if_pos hw]
  unfold Oper.wp
  simp [execOp, hop, resolve, invoke, builtin, hs, hx, hrun, Result.andThen]
  exact hK

theorem own_lower {w : World} {B B' e size n : Nat} {v : Value} {xs : List Value} (h : w.ownsRow B e size v n xs) (hB : B' ≤ B) : w.ownsRow B' e size v n xs := by
  refine ⟨h.1, ?_⟩
  rcases h.2 with h2 | ⟨g, cap, cur, e1, hb, r⟩
  · exact .inl h2
  · exact .inr ⟨g, cap, cur, e1, Nat.le_trans hB hb, r⟩

/-- Bytes that can be read, appended within the room of a row that is owned. -/
theorem run_append_reads {w : World} {a : Option Addr} {len cap : Nat} {l : List UInt8} (h : Reads w a len cap l) (B g n c ty : Nat) (xs : List UInt8)
    (hown : w.ownsRow B 5 1 (.slice (some ⟨g, 0, none⟩) n c) n (cellsOf xs)) (hroom : n + len ≤ c) :
    ∃ w', (Builtin.append_ #[24, 24] ty #[.slice (some ⟨g, 0, none⟩) n c, .slice a len cap]).run Try.prog w = .ok (.slice (some ⟨g, 0, none⟩) (n + len) c) w' ∧
      w'.ownsRow B 5 1 (.slice (some ⟨g, 0, none⟩) (n + len) c) (n + len) (cellsOf (xs ++ l)) ∧ w.grownBy w' (some g) := by
  obtain ⟨i0, hi, hz0, hz1, hz2⟩ := info_parts info5
  obtain ⟨h1, h2, h3, ⟨rfl, h0⟩ | ⟨ad, rfl, h0⟩ | ⟨b, off, rfl, hlt, hc⟩⟩ := h
  · have hl0 : len = 0 := by omega
    subst h0 hl0
    have hl : l = [] := List.eq_nil_of_length_eq_zero h1
    subst hl
    refine ⟨w, run_append_owned_none (P := Try.prog) w B 24 ty 5 i0 1 Try.underlying24 hi _ n _ hown, ?_, World.grownBy.refl _ _⟩
    simpa using hown
  · subst h0
    have hl : l = [] := List.eq_nil_of_length_eq_zero h1
    subst hl
    obtain ⟨w', hr, ho, hg⟩ := run_append_fits (P := Try.prog) w B 24 ty 5 i0 1 Try.underlying24 hi hz1 g n c _ hown ad 0 cap [] rfl (by simp) (by simp) hroom
    refine ⟨w', hr, ?_, hg⟩
    simpa using ho
  · obtain ⟨w', hr, ho, hg⟩ := run_append_fits (P := Try.prog) w B 24 ty 5 i0 1 Try.underlying24 hi hz1 g n c _ hown ⟨b, off, none⟩ len cap (cellsOf l) (by rw [cellsOf_length, h1]; omega) (fun j u hj => by
      rw [add_plain]
      have hjl : j < l.length := by
        rcases Nat.lt_or_ge j l.length with h | h
        · exact h
        · rw [List.getElem?_eq_none (by rw [cellsOf_length]; exact h)] at hj; cases hj
      rw [hc j hjl]
      simpa [cellsOf, List.getElem?_eq_getElem hjl] using hj) (cellsOf_one l) hroom
    refine ⟨w', hr, ?_, hg⟩
    rw [cellsOf_append]
    exact ho

theorem reads_none (w : World) : Reads w none 0 0 [] := ⟨rfl, Nat.le_refl _, by decide, .inl ⟨rfl, rfl⟩⟩

/-- What is owned can be read. -/
theorem reads_own {w : World} {B : Nat} {v : Value} {l : List UInt8} (h : w.ownsRow B 5 1 v l.length (cellsOf l)) : ∃ a cap, v = .slice a l.length cap ∧ Reads w a l.length cap l := by
  rcases h.2 with ⟨rfl, h0⟩ | ⟨g, cap, cur, rfl, hb, hg, hn, hm, hs, ht⟩
  · refine ⟨none, 0, by rw [h0], rfl, by omega, by decide, .inl ⟨rfl, rfl⟩⟩
  · have hlt := (h.lt g rfl).2
    refine ⟨_, _, rfl, rfl, hn, by unfold maxLen at hm; omega, .inr (.inr ⟨g, 0, rfl, hlt, fun i hi => ?_⟩)⟩
    have := cells_at h rfl i hi
    rwa [add_plain] at this
end Go.Proofs.Ytmfopddmkaecaab
