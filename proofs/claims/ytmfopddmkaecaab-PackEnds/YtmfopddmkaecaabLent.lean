/- What the keeper's Lent and Kept do: bytes in memory of their own with seven marked places behind them; are they as they were? -/
import Derived.Test.YtmfopddmkaecaabOwn
namespace Go.Proofs.Ytmfopddmkaecaab
open Go.RowKit Nums

theorem wpList_append_run {P : Program} {w : World} {ops : Array Oper} {rest : List Oper} {o : Oper} {a : Act} {Q : Exit → Act → World → Prop} (hgd : o.guard = none) (s x : Operand) (t u : TypeId)
    (ho : o.op = .call { callee := .builtin .append, args := #[s, x], argTypes := #[t, u] }) (vs vx v' : Value) (w' : World) (hs : a.eval s = vs) (hx : a.eval x = vx)
    (hrun : (Builtin.append_ #[t, u] o.type #[vs, vx]).run P w = .ok v' w') (h : wpList P ops Q rest (a.put o.dst v') w') : wpList P ops Q (o :: rest) a w := by
  refine wpList_plain hgd fun K hK => ?_
  unfold Oper.wp execOp
  simp only [ho, resolve, invoke, builtin, Sem.run_bind, Sem.run_pure, Result.andThen_ok, List.map_toArray, List.map_cons, List.map_nil, hs, hx, hrun]
  exact hK _ _ h

/-- Bytes that can be read, appended to a row that is owned, whether there is room or not. -/
theorem run_append_grows {w : World} {a : Option Addr} {len cap : Nat} {l : List UInt8} (h : Reads w a len cap l) (B n ty : Nat) (v : Value) (xs : List UInt8)
    (hown : w.ownsRow B 5 1 v n (cellsOf xs)) (hB : B ≤ w.heap.size) (hb : n + len ≤ 140737488355328) :
    ∃ v' w', (Builtin.append_ #[24, 24] ty #[v, .slice a len cap]).run Try.prog w = .ok v' w' ∧
      w'.ownsRow B 5 1 v' (n + len) (cellsOf (xs ++ l)) ∧ w.grownBy w' v.ownBlock := by
  obtain ⟨i0, hi, hz0, hz1, hz2⟩ := info_parts info5
  obtain ⟨h1, h2, h3, ⟨rfl, h0⟩ | ⟨ad, rfl, h0⟩ | ⟨b, off, rfl, hlt, hc⟩⟩ := h
  · have hl0 : len = 0 := by omega
    subst h0 hl0
    have hl : l = [] := List.eq_nil_of_length_eq_zero h1
    subst hl
    refine ⟨v, w, run_append_owned_none (P := Try.prog) w B 24 ty 5 i0 1 Try.underlying24 hi _ n _ hown, ?_, World.grownBy.refl _ _⟩
    simpa using hown
  · subst h0
    have hl : l = [] := List.eq_nil_of_length_eq_zero h1
    subst hl
    obtain ⟨v', w', hr, ho, hg, _⟩ := run_append_own (P := Try.prog) w B 24 ty 5 i0 (.int .u8 0) 1 1 Try.underlying24 hi hz0 hz1 hz2 rfl (by decide) v n _ hown ad 0 cap [] rfl (by simp) (by simp) (by unfold maxLen; omega) (by omega) hB
    refine ⟨v', w', hr, ?_, hg⟩
    simpa using ho
  · obtain ⟨v', w', hr, ho, hg, _⟩ := run_append_own (P := Try.prog) w B 24 ty 5 i0 (.int .u8 0) 1 1 Try.underlying24 hi hz0 hz1 hz2 rfl (by decide) v n _ hown ⟨b, off, none⟩ len cap (cellsOf l) (by rw [cellsOf_length, h1]; omega) (fun j u hj => by
      rw [add_plain]
      have hjl : j < l.length := by
        rcases Nat.lt_or_ge j l.length with h | h
        · exact h
        · rw [List.getElem?_eq_none (by rw [cellsOf_length]; exact h)] at hj; cases hj
      rw [hc j hjl]
      simpa [cellsOf, List.getElem?_eq_getElem hjl] using hj) (cellsOf_one l) (by unfold maxLen; omega) (by omega) hB
    refine ⟨v', w', hr, ?_, hg⟩
    rw [cellsOf_append]
    exact ho

/-- The marks behind lent bytes. -/
def marks (k : Nat) : List UInt8 := List.replicate k 195

set_option maxHeartbeats 1000000 in
theorem lent_any (a : Option Addr) (len cap : Nat) (l : List UInt8) (w : World) (hr : Reads w a len cap l) (hl : len ≤ 1048576) :
    Calls Try.prog 13 #[.slice a len cap] w fun e w' => ∃ g c, e = .returned (.slice (some ⟨g, 0, none⟩) len c) ∧ w.heap.size ≤ g ∧ len + 7 ≤ c ∧ c ≤ maxLen ∧
      w'.ownsRow w.heap.size 5 1 (.slice (some ⟨g, 0, none⟩) (len + 7) c) (len + 7) (cellsOf (l ++ marks 7)) ∧ Below w.heap.size w w' := by
  obtain ⟨i0, hi, hz0, hz1, hz2⟩ := info_parts info5
  obtain ⟨v1, w1, hrun, hown1, hgrow1⟩ := run_append_grows hr w.heap.size 0 24 (.slice none 0 0) [] (World.ownsRow_nil w _ 5 1) (Nat.le_refl _) (by omega)
  simp only [Nat.zero_add, List.nil_append] at hown1
  have hb1 : Below w.heap.size w w1 := (Below.refl _ _).grown hgrow1 (Nat.le_refl _) (by intro k hk; cases hk)
  have HRUN : Hid _ := hrun
  have HLL : Hid (l.length = len) := hr.1
  clear hrun hgrow1 hr
  go_enter Try.func13, Try.ntmps13
  go_wp2_with (first
    | (at_builtin; refine wpList_append_run (by rfl) (.tmp 5) (.tmp 6) 24 24 (by rfl) _ _ _ _ (by rfl) (by rfl) HRUN.out ?_)
    | fail)
  go_loopw [3, 4] (fun v i wr => ∃ k : Nat, k ≤ 7 ∧ i = .int .i64 k ∧ wr.ownsRow w.heap.size 5 1 v (len + k) (cellsOf (l ++ marks k)) ∧ Below w.heap.size w wr) (fun _ i _ => 7 - (intOf i).toNat)
  case atStart => exact ⟨0, by decide, rfl, by simpa [marks] using hown1, hb1⟩
  case round =>
    obtain ⟨k, hk, rfl, hown, hb⟩ := hrel
    clear hown1 hb1
    by_cases hlt : k < 7
    · go_wp2_with (first
        | (at_builtin; refine wpList_append_own _ rfl (.tmp 12) (.tmp 13) 24 rfl w.heap.size 5 i0 (.int .u8 0) 1 1 Try.underlying24 hi hz0 hz1 hz2 rfl (by decide) _ _ _ rfl (hown.alloc _) ⟨wr.heap.size, 0, none⟩ 1 1 [.int .u8 195] rfl rfl ?c1 ?c2 ?c3 ?c4 ?c5 ?_)
        | fail)
      case c1 =>
        intro j u hj
        match j, hj with
        | 0, hj => simp at hj; subst hj; simp [Addr.add]
      case c2 => intro u hu; simp at hu; subst hu; rfl
      case c3 => unfold maxLen; omega
      case c4 => omega
      case c5 => have := hb.size; simp; omega
      intro v2 w2 hown2 hgrow2 _
      have hb2 : Below w.heap.size w w2 := (hb.alloc hb.size _).grown hgrow2 (by have := hb.size; simp; omega) (row_lt hown)
      have hown3 : w2.ownsRow w.heap.size 5 1 v2 (len + (k + 1)) (cellsOf (l ++ marks (k + 1))) := by
        have e : cellsOf (l ++ marks (k + 1)) = cellsOf (l ++ marks k) ++ [.int .u8 195] := by
          simp [cellsOf, marks, List.replicate_succ']
        rw [e]; exact hown2
      clear hown2 hgrow2 hown hb
      go_wp2
      go_roundw
      case rel => exact ⟨k + 1, by omega, by go_num, hown3, hb2⟩
      case measure => simp [intOf]; omega
    · have hk7 : k = 7 := by omega
      subst hk7
      rcases hown.2 with ⟨_, h0⟩ | ⟨g, c, cur, rfl, hg, _, hc, hm, _⟩
      · omega
      · have hcm : c ≤ 9223372036854775807 := by unfold maxLen at hm; omega
        have HO : Hid _ := hown
        clear hown
        go_wp2
        go_ret
        exact ⟨g, c, rfl, hg, hc, hm, HO.out, hb⟩
end Go.Proofs.Ytmfopddmkaecaab
