/- What the document's Of (of fronts) answers. -/
import Derived.Test.YtmpmhfagbcknnaaDoorRefFront
namespace Go.Proofs.YtmpmhfagbcknnaaDoor
open Go.RowKit Sums
set_option linter.unusedVariables false
set_option linter.unusedSimpArgs false

def lenV : Value → Nat
  | .slice _ n _ => n
  | _ => 0
theorem slice_rest (g o len cap k : Nat) (hk : k ≤ len) (hc : len ≤ cap) : ∃ o', (k < len → o' = o + 32 * k) ∧ ∀ W, (Instr.sliceAt 22 (.slice (some ⟨g, o, none⟩) len cap) (some (.int .i64 k)) none none).run Tryd.prog W = .ok (.slice (some ⟨g, o', none⟩) (len - k) (cap - k)) W := by
  by_cases h : k < cap
  · exact ⟨o + 32 * k, fun _ => rfl, fun W => slice_right W g o len cap k hk hc h⟩
  · refine ⟨o, fun h' => by omega, fun W => ?_⟩
    simp [Instr.sliceAt, Instr.slice, Instr.sliceBounds, Instr.sliceBound, asIntOf, run_underlying Tryd.underlying22, sizeOfD, hk]
    omega
theorem LReads.rest {w : World} {g o o' len cap k : Nat} {l : List (List UInt8)} (h : LReads w (some ⟨g, o, none⟩) len cap l) (hk : k ≤ len) (ho : k < len → o' = o + 32 * k) : LReads w (some ⟨g, o', none⟩) (len - k) (cap - k) (l.drop k) := by
  by_cases h0 : k < len
  · rw [ho h0]; exact h.drop k hk
  · exact ⟨by rw [List.length_drop, h.1], h.2.1.drop k, by have := h.2.2.1; omega, by have := h.2.2.2.1; omega, .inl (by omega)⟩

set_option maxHeartbeats 4000000 in
theorem refFrontOf_any (a : Option Addr) (len cap : Nat) (z : List (List UInt8)) (w : World) (hR : LReads w a len cap z) (hl : len ≤ 100000) (hK : Table 0 w) :
    Calls Tryd.prog 18 #[.slice a len cap] w fun e w' => ∃ y cy, e = .returned (.slice y (peaks z).length cy) ∧ LReads w' y (peaks z).length cy (peaks z) ∧ Below w.heap.size w w' := by
  have hlen := hR.1
  have HT : Hid (∀ W, Below w.heap.size w W → Table 0 W) := fun W hb => hK.keep hb
  have HS : Hid (∃ P rest, LReads w a len cap rest ∧ w.ownsRow w.heap.size 29 32 (.slice none 0 0) P.length (cellsOf P.flatten) ∧ P ++ peaks rest = peaks z ∧ Digs32 P ∧ P.length + len ≤ 100000 ∧ Below w.heap.size w w ∧ (∀ g o, a = some ⟨g, o, none⟩ → 0 < len → g < w.heap.size)) :=
    ⟨[], z, hR, World.ownsRow_nil _ _ _ _, rfl, (fun d hd => by cases hd), by simpa using hl, Below.refl _ _, fun g o e h0 => by
      obtain ⟨g', o', e', hg⟩ := hR.at h0
      rw [e] at e'
      cases e'
      exact hg⟩
  clear hK hR hlen
  go_enter Tryd.func18, Tryd.ntmps18
  go_wp2
  go_loopw [0, 3] (fun u v wr => ∃ x n c, u = .slice x n c ∧ n ≤ 100000 ∧ Hid (∃ P rest, LReads wr x n c rest ∧ wr.ownsRow w.heap.size 29 32 v P.length (cellsOf P.flatten) ∧ P ++ peaks rest = peaks z ∧ Digs32 P ∧ P.length + n ≤ 100000 ∧ Below w.heap.size w wr ∧ (∀ g o, x = some ⟨g, o, none⟩ → 0 < n → g < w.heap.size))) (fun u _ _ => lenV u)
  case atStart => exact ⟨a, len, cap, rfl, hl, HS⟩
  case round =>
    clear HS hl
    obtain ⟨x, n, c, rfl, hn, HI⟩ := hrel
    by_cases h0 : 0 < n
    · have hd : decide ((0 : Int) < (n : Int)) = true := by rw [decide_eq_true_eq]; omega
      go_wp2
      go_loopw [4] (fun v wi => ∃ k : Nat, v = .int .i64 k ∧ Hid (∃ j, k = 2 ^ j) ∧ k ≤ n ∧ 1 ≤ k ∧ wr = wi) (fun v _ => n - (intOf v).toNat)
      case atStart => exact ⟨1, rfl, ⟨0, rfl⟩, by omega, by omega, rfl⟩
      case round =>
        obtain ⟨k, rfl, HJ, hkn, hk1, rfl⟩ := hrel
        have e1 := wrap_int (2 * (k : Int)) (by omega) (by omega)
        by_cases hlt : 2 * k ≤ n
        · have hdi : decide (2 * (k : Int) ≤ (n : Int)) = true := by rw [decide_eq_true_eq]; omega
          go_wp2
          go_roundw
          case rel =>
            refine ⟨2 * k, by go_num, ?_, hlt, by omega, by trivial⟩
            obtain ⟨j, hj⟩ := HJ.out
            exact ⟨j + 1, by rw [hj, Nat.pow_succ, Nat.mul_comm]⟩
          case measure => simp [intOf]; omega
        · have hdi : decide (2 * (k : Int) ≤ (n : Int)) = false := by rw [decide_eq_false_iff_not]; omega
          have hk : hiP n = k := by
            obtain ⟨j, hj⟩ := HJ.out
            rw [hj] at hkn hlt ⊢
            exact hiP_uniq n j (by omega) hkn (by omega)
          obtain ⟨P, rest, h1, h2, h3, h4, h5, h6, h7⟩ := HI.out
          obtain ⟨g, o, rfl, hg⟩ := h1.at h0
          have hgw : g < w.heap.size := h7 g o rfl h0
          have hrl := h1.1
          obtain ⟨D, HD⟩ : ∃ D, Hid (D = (cellsOf (root (rest.take k))).toArray) := ⟨_, (rfl : (cellsOf (root (rest.take k))).toArray = _)⟩
          have hdd : (root (rest.take k)).length = 32 := root_length sumD_length _ (h1.2.1.take k)
          have RR : Hid (Calls Tryd.prog 28 #[.slice (some ⟨g, o, none⟩) k c] wr fun e w' => e = .returned (.agg D) ∧ Below wr.heap.size wr w') := refRoot_any _ _ k c (rest.take k) wr rfl (h1.take k hkn) (HT.out wr h6) D HD
          have sl := fun W => slice_left W g o n c k (by have := h1.2.2.1; omega)
          obtain ⟨o', ho', sr⟩ := slice_rest g o n c k hkn h1.2.2.1
          have AP : Hid (∀ w1, Below wr.heap.size wr w1 → ∃ v' w', (Builtin.append_ #[22, 22] 22 #[u3, .slice (some ⟨w1.heap.size, 0, none⟩) 1 1]).run Tryd.prog (w1.alloc (.cells D 29)) = .ok v' w' ∧
              ∃ P' rest', LReads w' (some ⟨g, o', none⟩) (n - k) (c - k) rest' ∧ w'.ownsRow w.heap.size 29 32 v' P'.length (cellsOf P'.flatten) ∧ P' ++ peaks rest' = peaks z ∧ Digs32 P' ∧ P'.length + (n - k) ≤ 100000 ∧ Below w.heap.size w w' ∧ (∀ g1 o1, some (⟨g, o', none⟩ : Addr) = some ⟨g1, o1, none⟩ → 0 < n - k → g1 < w.heap.size)) := fun w1 hb1 => by
            have hal : Below wr.heap.size wr (w1.alloc (.cells D 29)) := hb1.alloc hb1.size _
            have hnew : LReads (w1.alloc (.cells D 29)) (some ⟨w1.heap.size, 0, none⟩) 1 1 [root (rest.take k)] := LReads.new w1 [root (rest.take k)] 1 rfl (.one hdd) (by omega) D (by show _ = _; rw [HD.out]; simp)
            obtain ⟨v', w', hr, ho, hbw⟩ := append_any (w1.alloc (.cells D 29)) w.heap.size u3 P [root (rest.take k)] (own_below h2 hal) _ 1 1 hnew (Nat.le_trans h6.size hal.size) (by omega)
            refine ⟨v', w', hr, P ++ [root (rest.take k)], rest.drop k, ?_, ho, ?_, h4.append (.one hdd), ?_, (h6.trans (hal.mono h6.size)).trans hbw, fun g1 o1 e _ => by cases e; exact hgw⟩
            · refine ((h1.keep hal).rest hkn ho').below hbw fun g1 o1 e _ => ?_
              cases e
              exact hgw
            · rw [← h3, peaks_more rest (by omega), hrl, hk, List.append_assoc]
              rfl
            · rw [List.length_append]
              simp only [List.length_singleton]
              omega
          have HB : Hid (∀ W, (Instr.buildSlice 22 1 #[(0, .agg D)]).run Tryd.prog W = .ok (.slice (some ⟨W.heap.size, 0, none⟩) 1 1) (W.alloc (.cells D 29))) := fun W => build_one W _ hdd D HD
          clear HI h1 h2 h3 h4 h5 h6 h7 HD hdd ho' hrl hk HJ
          go_wp2_with fail
          refine RR.out.mono ?_
          rintro e w1 ⟨rfl, hb1⟩
          obtain ⟨v', w2, hr, HN⟩ := AP.out w1 hb1
          replace hr := hidk hr
          replace HN := hidk HN
          clear hb1 AP RR
          go_wp2_with (first
            | (refine wpList_build_run rfl 22 1 _ rfl #[(0, .agg D)] rfl _ _ (HB.out w1) ?_; try simp only [Act.put, List.setIfInBounds_toArray, List.set_cons_zero, List.set_cons_succ])
            | (refine wpList_append_run rfl (.tmp 15) (.tmp 20) 22 22 rfl _ _ v' w2 rfl rfl hr.out ?_; try simp only [Act.put, List.setIfInBounds_toArray, List.set_cons_zero, List.set_cons_succ])
            | fail)
          go_roundw
          case rel => exact ⟨some ⟨g, o', none⟩, n - k, c - k, rfl, by omega, HN⟩
          case measure => simp [lenV]; omega
    · obtain rfl : n = 0 := by omega
      obtain ⟨P, rest, h1, h2, h3, h4, h5, h6, h7⟩ := HI.out
      rw [peaks_none rest h1.1, List.append_nil] at h3
      subst h3
      obtain ⟨y, cy, hv, hy, _⟩ := LReads.own h2 h4
      have HY : Hid (LReads wr y (peaks z).length cy (peaks z) ∧ Below w.heap.size w wr) := ⟨hy, h6⟩
      subst hv
      clear HI h1 h2 h4 h5 h6 h7 hy
      go_wp2
      go_ret
      exact ⟨y, cy, rfl, HY.out⟩
end Go.Proofs.YtmpmhfagbcknnaaDoor
