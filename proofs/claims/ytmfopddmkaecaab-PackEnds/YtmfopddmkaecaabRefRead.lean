/- What the document's own Read answers: the same as readE, readF tell. -/
import Derived.Test.YtmfopddmkaecaabSpec
import Derived.Test.YtmfopddmkaecaabLent
namespace Go.Proofs.Ytmfopddmkaecaab
open Go.RowKit Nums

theorem fault_rise {last : Nat} {l : List UInt8} (h : gE l = 0) : faultOf last (gT l) (gD l).length = 0 ↔ ¬ (gT l : Int) ≤ (last : Int) := by
  have hn := gN_le h
  unfold faultOf
  by_cases h1 : (gT l : Int) ≤ (last : Int)
  · rw [if_pos (.inl h1)]; simp [h1]
  · rw [if_neg (show ¬ ((gT l : Int) ≤ (last : Int) ∨ 255 < (gT l : Int)) by omega), if_neg (by omega)]
    simp; omega

theorem firstE_append : ∀ (pre r : List Pd), (∀ x ∈ pre, x.e = 0) → firstE (pre ++ r) = firstE r
  | [], _, _ => rfl
  | x :: p, r, h => by rw [List.cons_append, firstE, if_pos (h x List.mem_cons_self)]; exact firstE_append p r (fun y hy => h y (List.mem_cons_of_mem _ hy))

set_option maxHeartbeats 4000000 in
theorem refRead_any (a : Option Addr) (len cap : Nat) (bs : List UInt8) (w : World) (hR : Reads w a len cap bs) (hl : len ≤ 1000000) :
    Calls Try.prog 14 #[.slice a len cap] w fun e W' => ∃ v, e = .returned (.tuple #[v, .int .i64 (readE bs)]) ∧ W'.ownsRow w.heap.size 37 2 v (readF bs).length (fcells (readF bs)) ∧ Below w.heap.size w W' := by
  have HLEN : Hid (bs.length = len) := hR.1
  have HRR : Hid (LReads w.heap.size w a len cap bs) := hR.lreads
  clear hR
  go_enter Try.func14, Try.ntmps14
  go_wp2
  go_loopw [0, 4, 5] (fun s o t wr => ∃ (last : Nat) (pre : List Pd) (ra : Option Addr) (rlen rcap : Nat) (rl : List UInt8), s = .slice ra rlen rcap ∧ t = .int .i64 last ∧ Hid (LReads w.heap.size w ra rlen rcap rl) ∧ rlen + pre.length ≤ len ∧ Hid (parse (len + 1) 0 bs = pre ++ parse (rlen + 1) last rl) ∧ Hid (∀ x ∈ pre, x.e = 0) ∧
      wr.ownsRow w.heap.size 37 2 o (toF pre).length (fcells (toF pre)) ∧ Hid (o = .slice none 0 0 ↔ toF pre = []) ∧ Below w.heap.size w wr)
    (fun s _ _ _ => match s with | .slice _ k _ => k | _ => 0)
  case atStart => exact ⟨0, [], a, len, cap, bs, rfl, rfl, HRR, by simp, by simp [Hid], by simp [Hid], World.ownsRow_nil _ _ _ _, by simp [Hid, toF], Below.refl _ _⟩
  case round =>
    obtain ⟨last, pre, ra, rlen, rcap, rl, rfl, rfl, HR, hle, HP, HZ, hown, HN, hB⟩ := hrel
    have hrc : rlen ≤ rcap := HR.out.2.1
    have hrm : rcap ≤ 9223372036854775807 := HR.out.2.2.1
    have HRE : Hid (readE bs = firstE (parse (rlen + 1) last rl)) := by
      show _ = _
      rw [readE, HLEN.out, HP.out, firstE_append _ _ HZ.out]
    by_cases hz : rlen = 0
    · subst hz
      have hrl : rl = [] := List.eq_nil_of_length_eq_zero HR.out.1
      have HE : Hid (readE bs = 0 ∧ readF bs = toF pre) := by
        have h0 : readE bs = 0 := by rw [HRE.out, hrl]; simp [parse, firstE]
        refine ⟨h0, ?_⟩
        rw [readF, if_pos h0, HLEN.out, HP.out, hrl]
        simp [parse]
      clear hrl
      go_wp2
      go_ret2
      refine ⟨u4, ?_, ?_, hB⟩
      · rw [HE.out.1]; rfl
      · rw [HE.out.2]; exact hown
    · have hpos : (0 : Int) < (rlen : Int) := by omega
      have HNE : Hid (rl ≠ []) := by intro e; have := HR.out.1; rw [e] at this; simp at this; omega
      have HRD : Hid (Reads wr ra rlen rcap rl) := (HR.out.below hB).reads hB.size
      have HEND : Hid (∀ k, pE last rl = k → k ≠ 0 → readE bs = k ∧ readF bs = []) := by
        intro k hk h0
        have h1 : readE bs = k := by
          rw [HRE.out, parse_cons HNE.out, firstE]
          show (if pE last rl = 0 then _ else pE last rl) = k
          rw [hk, if_neg h0]
        exact ⟨h1, by rw [readF, if_neg (by rw [h1]; exact h0)]⟩
      by_cases hE : gE rl = 0
      · have hE1 : ((gE rl : Int) != 0) = false := by simpa using hE
        have hgn := gN_le hE
        obtain ⟨b, off, hra⟩ : ∃ b off, ra = some ⟨b, off, none⟩ := by
          rcases HR.out.2.2.2 with ⟨_, h⟩ | ⟨_, _, h⟩ | ⟨b, off, h, _⟩
          · omega
          · omega
          · exact ⟨b, off, h⟩
        subst hra
        by_cases hF : (gT rl : Int) ≤ (last : Int)
        · have HEE : Hid (readE bs = 11 ∧ readF bs = []) := HEND.out 11 (pE_fault hE (fun h => (fault_rise hE).1 h hF)) (by decide)
          clear hE hgn HEND
          go_wp2_with (first | (go_at_call 21; refine (refGet_any _ _ _ rl _ HRD.out).mono ?_; rintro e W1 ⟨rfl, hb1⟩; unfold gotten) | fail)
          go_ret2
          refine ⟨.slice none 0 0, ?_, ?_, (hB.trans (hb1.mono hB.size)).alloc (Nat.le_trans hB.size hb1.size) _⟩
          · rw [HEE.out.1]; rfl
          · rw [HEE.out.2]; exact World.ownsRow_nil _ _ _ _
        · have HPE : Hid (pE last rl = 0) := pE_ok hE ((fault_rise hE).2 hF)
          have HNX : Hid (parse (len + 1) 0 bs = (pre ++ [pX last rl]) ++ parse (rlen - gN rl + 1) (gT rl) (rl.drop (gN rl))) := by
            show _ = _
            rw [HP.out, parse_cons HNE.out, if_pos HPE.out, parse_fuel (rlen - gN rl + 1) rlen (gT rl) (rl.drop (gN rl)) (by rw [List.length_drop, HR.out.1]; omega) (by omega)]
            simp
          have HDD : Hid (LReads w.heap.size w (if rcap = gN rl then some ⟨b, off, none⟩ else some ⟨b, off + gN rl, none⟩) (rlen - gN rl) (rcap - gN rl) (rl.drop (gN rl))) := HR.out.drop (n := gN rl) (by rw [← HR.out.1]; exact hgn.2.1) (by omega)
          have hgl : gN rl ≤ rlen := by rw [← HR.out.1]; exact hgn.2.1
          have hg4 : 4 ≤ gN rl := hgn.1
          have HZ2 : Hid (∀ x ∈ pre ++ [pX last rl], x.e = 0) := by
            intro y hy
            rcases List.mem_append.1 hy with h | h
            · exact HZ.out y h
            · simp at h; subst h; exact HPE.out
          have HAP : Hid (∀ W1, Below wr.heap.size wr W1 → ∃ v' w2, (Builtin.append_ #[22, 22] 22 #[u4, .slice (some ⟨W1.heap.size + 1, 0, none⟩) 1 1]).run Try.prog ((W1.alloc (.cells #[.int .i64 (gT rl), .string ⟨(gD rl).toArray⟩] 37)).alloc (.cells #[.int .i64 (gT rl), .string ⟨(gD rl).toArray⟩] 37)) = .ok v' w2 ∧
              w2.ownsRow w.heap.size 37 2 v' (toF (pre ++ [pX last rl])).length (fcells (toF (pre ++ [pX last rl]))) ∧ (v' = .slice none 0 0 ↔ toF (pre ++ [pX last rl]) = []) ∧ Below w.heap.size w w2 ∧ w2.cell? ⟨W1.heap.size, 0, none⟩ = some (.int .i64 (gT rl)) ∧ ∃ a' n' c', v' = .slice (some a') n' c') := by
            intro W1 hb1
            have ho1 := (hown.kept (grown_of_below hb1) (by cases u4.ownBlock with | none => exact .inl rfl | some g => exact .inr (by simp))).alloc (.cells #[.int .i64 (gT rl), .string ⟨(gD rl).toArray⟩] 37)
            obtain ⟨v', w2, hr, ho, hbw, hs, hk⟩ := run_append_field (W1.alloc (.cells #[.int .i64 (gT rl), .string ⟨(gD rl).toArray⟩] 37)) w.heap.size u4 (toF pre) ((gT rl : Int), ⟨(gD rl).toArray⟩) ho1 HN.out (by have := hB.size; have := hb1.size; simp; omega) (by rw [toF_length]; omega)
            rw [World.size_alloc] at hr
            have e1 : toF (pre ++ [pX last rl]) = toF pre ++ [((gT rl : Int), ⟨(gD rl).toArray⟩)] := toF_snoc _ _
            have hlen : (toF (pre ++ [pX last rl])).length = (toF pre).length + 1 := by rw [e1]; simp
            have hblk : w2.heap[W1.heap.size]? = some (.cells #[.int .i64 (gT rl), .string ⟨(gD rl).toArray⟩] 37 (0, 0)) := hk _ _ _ _ (World.alloc_heap_new W1 _)
            rw [← e1, ← hlen] at ho
            obtain ⟨a', n', c', hv'⟩ : ∃ a' n' c', v' = .slice (some a') n' c' := by
              rcases ho.2 with ⟨_, h⟩ | ⟨g, cp, _, h, _⟩
              · rw [hlen] at h; omega
              · exact ⟨_, _, _, h⟩
            refine ⟨v', w2, hr, ho, ?_, ((hB.trans (hb1.mono hB.size)).alloc (Nat.le_trans hB.size hb1.size) _).trans hbw, by simp [World.cell?, hblk], a', n', c', hv'⟩
            rw [hv', e1]
            simp
          clear hE hgn HEND
          go_wp2_with (first | (go_at_call 21; refine (refGet_any _ _ _ rl _ HRD.out).mono ?_; rintro e W1 ⟨rfl, hb1⟩; unfold gotten; obtain ⟨v', w2, hrun, ho2, hn2, hB2, hc2, a', n', c', hv'⟩ := HAP.out W1 hb1; have HRUN : Hid _ := hrun; clear hrun; subst hv') | (at_builtin; refine wpList_append_run (by rfl) (.tmp 25) (.tmp 27) 22 22 (by rfl) _ _ _ _ (by rfl) (by rfl) HRUN.out ?_) | fail)
          go_roundw
          case rel => exact ⟨gT rl, pre ++ [pX last rl], _, _, _, rl.drop (gN rl), rfl, rfl, HDD, by rw [List.length_append]; simp; omega, HNX, HZ2, ho2, hn2, hB2⟩
          case measure => simp; omega
      · have HEE : Hid (readE bs = gE rl ∧ readF bs = []) := HEND.out (gE rl) (pE_bad hE) hE
        have hE2 : ((gE rl : Int) != 0) = true := by simpa using hE
        clear hE HEND
        go_wp2_with (first | (go_at_call 21; refine (refGet_any _ _ _ rl _ HRD.out).mono ?_; rintro e W1 ⟨rfl, hb1⟩; unfold gotten) | fail)
        go_ret2
        refine ⟨.slice none 0 0, ?_, ?_, (hB.trans (hb1.mono hB.size)).alloc (Nat.le_trans hB.size hb1.size) _⟩
        · rw [HEE.out.1]; rfl
        · rw [HEE.out.2]; exact World.ownsRow_nil _ _ _ _
end Go.Proofs.Ytmfopddmkaecaab
