/- Texts of our own that the row of KeepChecks leans on, part 37. -/
import Derived.Test.YtjpmmbmhkpgjcaaKeepChecksJ0
import Derived.Test.YtjpmmbmhkpgjcaaKeepChecksJ27
import Derived.Test.YtjpmmbmhkpgjcaaKeepChecksJ31
import Derived.Test.YtjpmmbmhkpgjcaaKeepChecksJ33
import Derived.Test.YtjpmmbmhkpgjcaaKeepChecksJ35
import Derived.Test.YtjpmmbmhkpgjcaaKeepChecksJ36
/- What the statements of keep lean on. -/
namespace Go.Proofs.Ytjpmmbmhkpgjcaa
open Go.RowKit Nums Sums
set_option linter.unusedVariables false
set_option linter.unusedSimpArgs false
set_option maxRecDepth 100000
theorem cmr_zero (w : World) : CmR w zeroRv := ⟨ireads_none w, fun _ => rfl, (fun x h => by cases h), ⟨by show In64 0; unfold In64; decide, ⟨zeroE_in.k, zeroE_in.c, zeroE_in.s, by show 0 ≤ maxLen; exact Nat.zero_le _, zeroE_in.h, zeroE_in.m⟩⟩, zeroC_in, by show In64 0; unfold In64; decide, by show In64 0; unfold In64; decide, by show In64 0; unfold In64; decide⟩
theorem KIn.okk {w : World} {v : KeV} (h : KIn w v) : OkKe v.t := ⟨h.i.its, h.cs, by have := h.i.rd.ln; have := h.il; show v.l.length ≤ 250; omega, by have := h.c.ln; have := h.cl; show v.k.length ≤ 250; omega, h.e, h.g⟩
theorem own_kout {w w' : World} {B : Nat} {v v1 : KeV} (h : KIn w v) (et : v1.t = v.t) (hn : v1.n = v.n) (hm : v1.m = v.m) (ho : OwnKe w' B v1) : KOut w' B v1 :=
  ho.out (by rw [hn, ← h.i.rd.ln]; exact (congrArg (fun t => t.l.length) et).symm) (by rw [hm, ← h.c.ln]; exact (congrArg (fun t => t.k.length) et).symm)
set_option maxHeartbeats 32000000 in
theorem keepChecks_in (C : KeepC) (v : KeV) (w : World) (h : CmK w v) : Calls Try.prog 3 #[.agg (keA v)] w fun e w' => e = .returned (.bool true) ∧ Below w.heap.size w w' := by
  have FX : Hid (Fit Try.prog 25 (keA v)) := keA_fit v
  have FK := hidk keA_fit
  have BR := hidk builtR_0
  obtain ⟨bb, hbb⟩ : ∃ b, bigK v zeroRv = b := ⟨_, rfl⟩
  have WB : Hid (∀ W, Below w.heap.size w W → Calls Try.prog 9 #[.agg (keA v), .agg (reA zeroRv)] W fun e w' => e = .returned (.bool bb) ∧ Below W.heap.size W w') := fun W hb => by rw [← hbb]; exact refBigK_any v zeroRv W (h.keep hb) (cmr_zero W)
  have H := hidk (Sep.start Try.prog w)
  cases bb
  case true =>
    clear h hbb C
    go_enter Try.func3, Try.ntmps3
    go_wp2_with (first
      | ((with_reducible show wpList _ _ _ (⟨_, .box _ _, _, _, _, _⟩ :: _) _ _); refine boxS (by rfl) (by rfl) H (by assumption) ?_; clear H; intro gq W hq H; clear hq; try simp only [Act.put, pS1, pS2, pS3])
      | ((with_reducible show wpList _ _ _ (⟨_, .load _ _, _, _, _, _⟩ :: _) _ _); refine rdS (by rfl) (by rfl) (by decide +kernel) H (by repeat constructor) ?_; try simp only [Act.put, pS1, pS2, pS3])
      | ((with_reducible show wpList _ _ _ (⟨_, .build _ _, _, _, _, _⟩ :: _) _ _); refine bldS (by rfl) (by with_reducible exact BR.out) (by rfl) ?_; try simp only [Act.put, pS1, pS2, pS3])
      | ((with_reducible refine (WB.out _ H.out.b).mono ?_); rintro _ W ⟨rfl, hb⟩; replace H := hidk (H.out.call hb); clear hb; try simp only [Act.put, pS1, pS2, pS3])
      | fail)
    go_ret
    exact ⟨rfl, H.out.b⟩
  obtain ⟨hk, _, _, _, _⟩ := bigK_no h (cmr_zero w) hbb
  obtain ⟨bR, hR⟩ : ∃ b, rightKe v.t = b := ⟨_, rfl⟩
  obtain ⟨E, hE⟩ : ∃ x, kchkE v.t = x := ⟨_, rfl⟩
  have HEE : E = if bR = true then 0 else 1 := by rw [← hE, ← hR]; rfl
  have okk := hk.okk
  have HK := hidk hk
  have WO : Hid (∀ W, Below w.heap.size w W → Calls Try.prog 10 #[.agg (keA v)] W fun x w' => ∃ v', x = .returned (.agg (keA v')) ∧ v'.t = v.t ∧ KOut w' W.heap.size v' ∧ Below W.heap.size W w') := fun W hb => by
    refine (refOwnKe_any v W (hk.keep hb)).mono ?_
    rintro x w' ⟨v', rfl, e, hn, hm, ho, hb2⟩
    exact ⟨v', rfl, e, own_kout hk e hn hm ho, hb2⟩
  have WC : Hid (∀ W, Below w.heap.size w W → Calls Try.prog 11 #[.agg (keA v)] W fun e w' => e = .returned (.int .i64 E) ∧ Below W.heap.size W w') := fun W hb => by rw [← hE]; exact C.check v W (hk.keep hb)
  have WF : Hid (∀ W, Calls Try.prog 12 #[] W fun e w' => e = .returned (.bool true) ∧ Below W.heap.size W w') := fun W => folds_true C W
  have WI : Hid (∀ W u, u.t = v.t → KOut W w.heap.size u → Calls Try.prog 13 #[.agg (keA u)] W fun e w' => e = .returned (.bool bR) ∧ Below W.heap.size W w') := fun W u e ho => by rw [← hR, ← e]; exact refRightKe_any u W (ho.kin_of e okk)
  have WL : Hid (∀ W, Below w.heap.size w W → Calls Try.prog 14 #[.agg (keA v)] W fun e w' => e = .returned (.int .i64 (leaderK v.t)) ∧ Below W.heap.size W w') := fun W hb => C.leader v W (hk.keep hb)
  have WM : Hid (∀ W u, u.t = v.t → KOut W w.heap.size u → Calls Try.prog 15 #[.agg (keA u)] W fun e w' => e = .returned (.int .i64 (leaderK v.t)) ∧ Below W.heap.size W w') := fun W u e ho => by have := refLeader_any u W (ho.kin_of e okk); rw [e] at this; exact this
  have WN : Hid (∀ W, Calls Try.prog 17 #[] W fun e w' => e = .returned (.agg (keA newKv)) ∧ Below W.heap.size W w') := fun W => C.new W
  have WN2 : Hid (∀ W, Calls Try.prog 18 #[] W fun e w' => e = .returned (.agg (keA newKv)) ∧ Below W.heap.size W w') := fun W => refNewK_any W
  have WS : Hid (∀ W, Calls Try.prog 16 #[.agg (keA newKv), .agg (keA newKv)] W fun e w' => e = .returned (.bool true) ∧ Below W.heap.size W w') := fun W => refSameKe_any _ _ W (newKv_in W) (newKv_in W) rfl
  have WT : Hid (∀ W u, u.t = v.t → KOut W w.heap.size u → Below w.heap.size w W → Calls Try.prog 16 #[.agg (keA v), .agg (keA u)] W fun e w' => e = .returned (.bool true) ∧ Below W.heap.size W w') := fun W u e ho hb => refSameKe_any v u W (hk.keep hb) (ho.kin_of e okk) e.symm
  clear h hbb C hR hE hk okk
  go_enter Try.func3, Try.ntmps3
  go_wp2_with (first
    | ((with_reducible show wpList _ _ _ (⟨_, .box _ _, _, _, _, _⟩ :: _) _ _); refine boxS (by rfl) (by rfl) H (by assumption) ?_; clear H; intro gq W hq H; clear hq; try simp only [Act.put, pS1, pS2, pS3])
    | ((with_reducible show wpList _ _ _ (⟨_, .alloc _, _, _, _, _⟩ :: _) _ _); refine newS (by rfl) (by kernel_rfl) H ?_; clear H; intro gq W hq H; clear hq; try simp only [Act.put, pS1, pS2, pS3])
    | ((with_reducible show wpList _ _ _ (⟨_, .load _ _, _, _, _, _⟩ :: _) _ _); refine rdS (by rfl) (by rfl) (by decide +kernel) H (by repeat constructor) ?_; try simp only [Act.put, pS1, pS2, pS3])
    | ((with_reducible show wpList _ _ _ (⟨_, .build _ _, _, _, _, _⟩ :: _) _ _); refine bldS (by rfl) (by with_reducible exact BR.out) (by rfl) ?_; try simp only [Act.put, pS1, pS2, pS3])
    | ((with_reducible show wpList _ _ _ (⟨_, .store _ _ _, _, _, _, _⟩ :: _) _ _); refine setS (by rfl) (by rfl) (by rfl) H (by exact FK.out _) (by repeat first | apply uH | apply uT) ?_; clear H; intro W H; try simp only [Act.put, pS1, pS2, pS3])
    | ((with_reducible refine (WB.out _ H.out.b).mono ?_); rintro _ W ⟨rfl, hb⟩; replace H := hidk (H.out.call hb); clear hb; try simp only [Act.put, pS1, pS2, pS3])
    | ((with_reducible refine (WO.out _ H.out.b).mono ?_); rintro _ W ⟨v1, rfl, et1, ho, hb⟩; obtain ⟨N1, HQ, K1⟩ := H.out.kout hb ho; replace et1 := hidk et1; clear H ho hb; have H := HQ; clear HQ; try simp only [Act.put, pS1, pS2, pS3])
    | ((with_reducible refine (WC.out _ H.out.b).mono ?_); rintro _ W ⟨rfl, hb⟩; replace H := hidk (H.out.call hb); clear hb; try simp only [Act.put, pS1, pS2, pS3])
    | fail)
  cases bR
  all_goals (first | obtain rfl : E = 1 := HEE | obtain rfl : E = 0 := HEE)
  all_goals
    refine region_mix _ [] [0, 5, 18, 20, 24, 25, 26, 31] [] [0, 1, 2, 3, 4, 5, 6, 7, 8, 9, 10, 11, 12, 13, 14, 15, 16, 17, 19, 18, 20, 21, 22, 23, 24, 25, 26, 27, 28, 29, 30, 31, 32, 33] (by kernel_rfl) (by kernel_rfl) (by kernel_rfl) (by rfl) H (List.Sublist.refl _) (List.nil_sublist _) ?_
    clear H
    intro W hne H
    repeat (first
      | (refine mix_skip (by rfl) (by rfl) ?_; try simp only [Act.put, pS1, pS2, pS3])
      | (refine mix_q (by rfl) (by rfl) (by rfl) (by rfl) ?_; intro K hK; first | (refine qR (by rfl) (by decide +kernel) (by repeat constructor) (keA_fit _).s ?_; try simp only [Act.put, pS1, pS2, pS3]; go_big_quiet_on) | (go_big_quiet_op; go_big_quiet_on))
      | (refine mix_e (by rfl) (by rfl) (by rfl) ?_; go_wp2_with (first | ((with_reducible refine (WF.out _).mono ?_); rintro _ W ⟨rfl, hb⟩; replace H := hidk (H.out.call hb); clear hb; try simp only [Act.put, pS1, pS2, pS3]) | ((with_reducible refine (WI.out _ _ et1.out (K1.out _ (by first | exact H.out.has.l | exact H.out.has.r.l | exact H.out.has.r.r.l | exact H.out.has.r.r.r.l | exact H.out.has.r.r.r.r.l | exact H.out.has.r.r.r.r.r.l))).mono ?_); rintro _ W ⟨rfl, hb⟩; replace H := hidk (H.out.call hb); clear hb; try simp only [Act.put, pS1, pS2, pS3]) | ((with_reducible refine (WL.out _ H.out.b).mono ?_); rintro _ W ⟨rfl, hb⟩; replace H := hidk (H.out.call hb); clear hb; try simp only [Act.put, pS1, pS2, pS3]) | ((with_reducible refine (WM.out _ _ et1.out (K1.out _ (by first | exact H.out.has.l | exact H.out.has.r.l | exact H.out.has.r.r.l | exact H.out.has.r.r.r.l | exact H.out.has.r.r.r.r.l | exact H.out.has.r.r.r.r.r.l))).mono ?_); rintro _ W ⟨rfl, hb⟩; replace H := hidk (H.out.call hb); clear hb; try simp only [Act.put, pS1, pS2, pS3]) | ((with_reducible refine (WN.out _).mono ?_); rintro _ W ⟨rfl, hb⟩; replace H := hidk (H.out.call hb); clear hb; try simp only [Act.put, pS1, pS2, pS3]) | ((with_reducible refine (WN2.out _).mono ?_); rintro _ W ⟨rfl, hb⟩; replace H := hidk (H.out.call hb); clear hb; try simp only [Act.put, pS1, pS2, pS3]) | ((with_reducible refine (WS.out _).mono ?_); rintro _ W ⟨rfl, hb⟩; replace H := hidk (H.out.call hb); clear hb; try simp only [Act.put, pS1, pS2, pS3]) | ((with_reducible refine (WT.out _ _ et1.out (K1.out _ (by first | exact H.out.has.l | exact H.out.has.r.l | exact H.out.has.r.r.l | exact H.out.has.r.r.r.l | exact H.out.has.r.r.r.r.l | exact H.out.has.r.r.r.r.r.l)) H.out.b).mono ?_); rintro _ W ⟨rfl, hb⟩; replace H := hidk (H.out.call hb); clear hb; try simp only [Act.put, pS1, pS2, pS3]) | fail); first | refine mix_fin (by rfl) ?_ | refine mix_fin2 ?_ | refine mix_on (by exact H.out.sub (List.Sublist.refl _) (List.nil_sublist _)) ?_ | refine mix_on2 (by exact H.out.sub (List.Sublist.refl _) (List.nil_sublist _)) ?_))
    refine mix_end ?_
    clear hne
    go_wp2
  all_goals (go_ret; exact ⟨rfl, H.out.b⟩)
end Go.Proofs.Ytjpmmbmhkpgjcaa
