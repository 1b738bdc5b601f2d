/- What the statements' Own answers. -/
import Derived.Test.YtehfoeedlchphaaDoorSame
namespace Go.Proofs.YtehfoeedlchphaaDoor
open Go.RowKit Sums
set_option linter.unusedVariables false
set_option linter.unusedSimpArgs false

theorem append_none (w : World) (a : Option Addr) (cap : Nat) : (Builtin.append_ #[24, 24] 24 #[.slice none 0 0, .slice a 0 cap]).run Tryd.prog w = .ok (.slice none 0 0) w := by
  obtain ⟨i0, hi, hz0, hz1, hz2⟩ := info_parts infoD
  cases a <;> simp [Builtin.append_, run_underlying Tryd.underlying24, sizeOf, typeInfo, hi, Builtin.lenOf, Builtin.firstCells, loadCells, loadCellsFrom, storeCells]

set_option maxHeartbeats 1000000 in
theorem own_any (a : Option Addr) (len cap : Nat) (l : List (List UInt8)) (w : World) (hR : LReads w a len cap l) (hl : len ≤ 100000) :
    Calls Tryd.prog 9 #[.slice a len cap] w fun e w' => ∃ v, e = .returned v ∧ w'.ownsRow w.heap.size 23 32 v l.length (cellsOf l.flatten) ∧ Below w.heap.size w w' := by
  by_cases h0 : len = 0
  · have hln : l = [] := List.eq_nil_of_length_eq_zero (by have := hR.1; omega)
    subst hln h0
    have hr := append_none w a cap
    go_enter Tryd.func9, Tryd.ntmps9
    go_wp2_with (first
      | (refine wpList_append_run rfl (.tmp 4) (.tmp 5) 24 24 rfl _ _ _ w rfl rfl hr ?_)
      | fail)
    go_ret
    exact ⟨_, rfl, World.ownsRow_nil _ _ _ _, Below.refl _ _⟩
  · obtain ⟨g, o, rfl, hg⟩ := hR.at (by omega)
    have hlen := hR.1
    have hN : ∀ j u, (cellsOf l.flatten)[j]? = some u → w.cell? ((⟨g, o, none⟩ : Addr).add j) = some u := by
      intro j u hj
      rw [add_plain]
      obtain ⟨h1, h2, h3, h4, h5⟩ := hR
      rcases h5 with h5 | ⟨g', o', e, hly⟩
      · omega
      · cases e
        have hjl : j < l.flatten.length := by
          have := (List.getElem?_eq_some_iff.1 hj).1
          rwa [cellsOf_length] at this
        rw [hly j hjl]
        rw [cellsOf_at _ j hjl] at hj
        exact hj
    obtain ⟨v', w', hr, ho, hgr⟩ := run_append_digs w w.heap.size (.slice none 0 0) [] l (World.ownsRow_nil _ _ _ _) ⟨g, o, none⟩ len cap hlen hR.2.1 hN (Nat.le_refl _) (by simp; omega)
    have HO : Hid (w'.ownsRow w.heap.size 23 32 v' l.length (cellsOf l.flatten) ∧ Below w.heap.size w w') := by
      refine ⟨?_, (Below.refl _ _).grown hgr (Nat.le_refl _) (fun k hk => by simp [Value.ownBlock] at hk)⟩
      rw [← hlen] at ho
      simpa using ho
    clear ho hgr hN hR
    go_enter Tryd.func9, Tryd.ntmps9
    go_wp2_with (first
      | (refine wpList_append_run rfl (.tmp 4) (.tmp 5) 24 24 rfl _ _ v' w' rfl rfl hr ?_)
      | fail)
    go_ret
    exact ⟨v', rfl, HO.out⟩

theorem own_reads (a : Option Addr) (len cap : Nat) (l : List (List UInt8)) (w : World) (hR : LReads w a len cap l) (hl : len ≤ 100000) :
    Calls Tryd.prog 9 #[.slice a len cap] w fun e w' => ∃ x cx, e = .returned (.slice x len cx) ∧ LReads w' x len cx l ∧ Below w.heap.size w w' := by
  refine (own_any a len cap l w hR hl).mono ?_
  rintro e w' ⟨v, rfl, ho, hb⟩
  obtain ⟨x, cx, rfl, hx, _⟩ := LReads.own ho hR.2.1
  have hlen := hR.1
  rw [hlen] at hx ⊢
  exact ⟨x, cx, rfl, hx, hb⟩
end Go.Proofs.YtehfoeedlchphaaDoor
