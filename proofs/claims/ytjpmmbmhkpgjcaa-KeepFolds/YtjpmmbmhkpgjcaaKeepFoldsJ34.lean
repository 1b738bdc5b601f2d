/- Texts of our own that the row of KeepFolds leans on, part 34. -/
import Derived.Test.YtjpmmbmhkpgjcaaKeepFoldsJ0
import Derived.Test.YtjpmmbmhkpgjcaaKeepFoldsJ25
import Derived.Test.YtjpmmbmhkpgjcaaKeepFoldsJ27
import Derived.Test.YtjpmmbmhkpgjcaaKeepFoldsJ29
/- The document's Right, Leader and New of what is kept. -/
namespace Go.Proofs.Ytjpmmbmhkpgjcaa
open Go.RowKit Nums Sums
set_option linter.unusedVariables false
set_option linter.unusedSimpArgs false
set_option maxRecDepth 100000
theorem refWithin15 (n lo hi : Int) (w : World) : Calls Try.prog 34 #[.int .i64 n, .int .i64 lo, .int .i64 hi] w fun e w' => e = .returned (.bool (decide (lo ≤ n ∧ n ≤ hi))) ∧ w = w' := by
  have e : decide (lo ≤ n ∧ n ≤ hi) = (decide (lo ≤ n) && decide (n ≤ hi)) := by rw [Bool.decide_and]
  rw [e]
  go_enter Try.func34, Try.ntmps34
  by_cases h1 : lo ≤ n
  · have d1 : decide (lo ≤ n) = true := decide_eq_true h1
    rw [d1]
    go_wp2
    go_ret
    exact ⟨by rfl, rfl⟩
  · have d1 : decide (lo ≤ n) = false := decide_eq_false h1
    rw [d1]
    go_wp2
    go_ret
    exact ⟨by rfl, rfl⟩
theorem low_last {l : List ItT} {g : Int} {j : Nat} (h : j + 1 = l.length) : lowB l g = decide (g < (l[j]'(by omega)).p) := lowB_some h
set_option maxHeartbeats 16000000 in
theorem refRightKe_in (e g : Int) (a : Option Addr) (n c : Nat) (l : List ItT) (b : Option Addr) (m d : Nat) (k : List ClT) (X : Array Value) (w : World) (hi : IReads w a n c l) (hc : CReads w b m d k) (hn : n ≤ 1000000) (hm : m ≤ 1000000) (FX : Hid (Fit Try.prog 25 X)) (k0 : Hid (X[0]? = some (.int .i64 e))) (k1 : Hid (X[1]? = some (.int .i64 g))) (k2 : Hid (X[2]? = some (.slice a n c))) (k3 : Hid (X[3]? = some (.slice b m d))) : Calls Try.prog 13 #[.agg X] w fun x w' => x = .returned (.bool (rightKe ⟨e, g, l, k⟩)) ∧ Below w.heap.size w w' := by
  have hmx : n ≤ 9223372036854775807 := by omega
  obtain ⟨b1, h1⟩ : ∃ b, decide (1 ≤ e ∧ e ≤ 900000000) = b := ⟨_, rfl⟩
  obtain ⟨b2, h2⟩ : ∃ b, decide (1 ≤ g ∧ g ≤ e) = b := ⟨_, rfl⟩
  obtain ⟨b3, h3⟩ : ∃ b, rightL l = b := ⟨_, rfl⟩
  obtain ⟨b4, h4⟩ : ∃ b, rightCs k = b := ⟨_, rfl⟩
  have HRES : Hid (rightKe ⟨e, g, l, k⟩ = (b1 && b2 && b3 && b4 && !lowB l g && decide (0 < leadL g l))) := by
    show _ = _
    rw [← h1, ← h2, ← h3, ← h4, Bool.decide_and, Bool.decide_and]
    unfold rightKe
    simp only [Bool.and_assoc]
  have W1 : Hid (∀ W, Calls Try.prog 34 #[.int .i64 e, .int .i64 1, .int .i64 900000000] W fun e w' => e = .returned (.bool b1) ∧ W = w') := fun W => by rw [← h1]; exact refWithin15 _ _ _ W
  have W2 : Hid (∀ W, Calls Try.prog 34 #[.int .i64 g, .int .i64 1, .int .i64 e] W fun e w' => e = .returned (.bool b2) ∧ W = w') := fun W => by rw [← h2]; exact refWithin15 _ _ _ W
  have W3 : Hid (∀ W, Below w.heap.size w W → Calls Try.prog 35 #[.slice a n c] W fun e w' => e = .returned (.bool b3) ∧ Below W.heap.size W w') := fun W hb => by rw [← h3]; exact refRightL_any _ _ _ _ W (hi.keep hb)
  have W4 : Hid (∀ W, Below w.heap.size w W → Calls Try.prog 36 #[.slice b m d] W fun e w' => e = .returned (.bool b4) ∧ Below W.heap.size W w') := fun W hb => by rw [← h4]; exact refRightCs_any _ _ _ _ W (hc.keep hb) hm
  obtain ⟨ld, Hld⟩ : ∃ x, Hid (leadL g l = x) := ⟨_, hidk rfl⟩
  have W5 : Hid (∀ W, Below w.heap.size w W → Calls Try.prog 37 #[.int .i64 g, .slice a n c] W fun e w' => e = .returned (.int .i64 ld) ∧ Below W.heap.size W w') := fun W hb => by rw [← Hld.out]; exact refLead_any _ _ _ _ _ W (hi.keep hb) hn
  have HI := hidk hi
  have HLN := hidk hi.ln
  have H := hidk (Sep.start Try.prog w)
  rw [Hld.out] at HRES
  clear hi hc Hld h1 h2 h3 h4
  go_enter Try.func13, Try.ntmps13
  cases b1
  all_goals try cases b2
  all_goals try cases b3
  all_goals try cases b4
  all_goals
    go_wp2_with (first
      | ((with_reducible show wpList _ _ _ (⟨_, .box _ _, _, _, _, _⟩ :: _) _ _); refine boxS (by rfl) (by rfl) H (by assumption) ?_; clear H; intro gq W hq H; clear hq; try simp only [Act.put, pS1, pS2, pS3])
      | ((with_reducible show wpList _ _ _ (⟨_, .load _ _, _, _, _, _⟩ :: _) _ _); refine fldS (by rfl) (by rfl) (by kernel_rfl) H (by repeat constructor) (by first | exact k0.out | exact k1.out | exact k2.out | exact k3.out) ?_; try simp only [Act.put, pS1, pS2, pS3])
      | ((with_reducible refine (W1.out _).mono ?_); rintro _ _ ⟨rfl, rfl⟩; try simp only [Act.put, pS1, pS2, pS3])
      | ((with_reducible refine (W2.out _).mono ?_); rintro _ _ ⟨rfl, rfl⟩; try simp only [Act.put, pS1, pS2, pS3])
      | ((with_reducible refine (W3.out _ H.out.b).mono ?_); rintro _ W ⟨rfl, hb⟩; replace H := hidk (H.out.call hb); clear hb; try simp only [Act.put, pS1, pS2, pS3])
      | ((with_reducible refine (W4.out _ H.out.b).mono ?_); rintro _ W ⟨rfl, hb⟩; replace H := hidk (H.out.call hb); clear hb; try simp only [Act.put, pS1, pS2, pS3])
      | fail)
  all_goals try (go_ret; exact ⟨by rw [HRES.out]; rfl, H.out.b⟩)
  clear W1 W2 W3 W4
  by_cases h0 : n = 0
  · subst h0
    have hlow : lowB l g = false := lowB_none HLN.out
    refine wp_region_held_drew (S := (fun W => W.cell? ⟨gq, 2, none⟩ = some (.slice a 0 c))) (by kernel_rfl) (H.out.drew.cell (by repeat constructor) k2.out) (fun hHeld => ?_)
    refine zW 0 (.pointer (some ⟨gq, 2, none⟩)) rfl (Or.inl ⟨by rfl, by intro w hSw; go_simp⟩) hHeld ?_
    try simp only [Act.put, pS1, pS2, pS3]
    refine zX 1 (.slice a 0 c) rfl hHeld ?_
    try simp only [Act.put, pS1, pS2, pS3]
    refine zW 2 (.int .i64 0) rfl (Or.inl ⟨by rfl, by intro w hSw; go_simp⟩) hHeld ?_
    try simp only [Act.put, pS1, pS2, pS3]
    refine zW 3 (.bool false) rfl (Or.inl ⟨by rfl, by intro w hSw; go_simp⟩) hHeld ?_
    try simp only [Act.put, pS1, pS2, pS3]
    refine zW 4 (.bool false) rfl (Or.inl ⟨by rfl, by intro w hSw; go_simp⟩) hHeld ?_
    try simp only [Act.put, pS1, pS2, pS3]
    refine zW 5 (undef) rfl (Or.inr ⟨by rfl, rfl⟩) hHeld ?_
    try simp only [Act.put, pS1, pS2, pS3]
    refine zW 6 (undef) rfl (Or.inr ⟨by rfl, rfl⟩) hHeld ?_
    try simp only [Act.put, pS1, pS2, pS3]
    refine zW 7 (undef) rfl (Or.inr ⟨by rfl, rfl⟩) hHeld ?_
    try simp only [Act.put, pS1, pS2, pS3]
    refine zW 8 (undef) rfl (Or.inr ⟨by rfl, rfl⟩) hHeld ?_
    try simp only [Act.put, pS1, pS2, pS3]
    refine zW 9 (undef) rfl (Or.inr ⟨by rfl, rfl⟩) hHeld ?_
    try simp only [Act.put, pS1, pS2, pS3]
    refine zW 10 (undef) rfl (Or.inr ⟨by rfl, rfl⟩) hHeld ?_
    try simp only [Act.put, pS1, pS2, pS3]
    refine zW 11 (undef) rfl (Or.inr ⟨by rfl, rfl⟩) hHeld ?_
    try simp only [Act.put, pS1, pS2, pS3]
    refine zW 12 (undef) rfl (Or.inr ⟨by rfl, rfl⟩) hHeld ?_
    try simp only [Act.put, pS1, pS2, pS3]
    refine zW 13 (undef) rfl (Or.inr ⟨by rfl, rfl⟩) hHeld ?_
    try simp only [Act.put, pS1, pS2, pS3]
    refine zW 14 (undef) rfl (Or.inr ⟨by rfl, rfl⟩) hHeld ?_
    try simp only [Act.put, pS1, pS2, pS3]
    refine zW 15 (undef) rfl (Or.inr ⟨by rfl, rfl⟩) hHeld ?_
    try simp only [Act.put, pS1, pS2, pS3]
    refine zW 16 (undef) rfl (Or.inr ⟨by rfl, rfl⟩) hHeld ?_
    try simp only [Act.put, pS1, pS2, pS3]
    refine zW 17 (.bool false) rfl (Or.inl ⟨by rfl, by intro w hSw; go_simp⟩) hHeld ?_
    try simp only [Act.put, pS1, pS2, pS3]
    refine wpAnyH_done (by kernel_rfl) ?_ _
    replace H := hidk H.out.drew
    go_wp2_with (first
      | ((with_reducible show wpList _ _ _ (⟨_, .load _ _, _, _, _, _⟩ :: _) _ _); refine fldS (by rfl) (by rfl) (by kernel_rfl) H (by repeat constructor) (by first | exact k0.out | exact k1.out | exact k2.out | exact k3.out) ?_; try simp only [Act.put, pS1, pS2, pS3])
      | ((with_reducible refine (W5.out _ H.out.b).mono ?_); rintro _ W ⟨rfl, hb⟩; replace H := hidk (H.out.call hb); clear hb; try simp only [Act.put, pS1, pS2, pS3])
      | fail)
    go_ret
    exact ⟨by rw [HRES.out, hlow]; rfl, H.out.b⟩
  · obtain ⟨j, rfl⟩ : ∃ j, n = j + 1 := ⟨n - 1, by omega⟩
    obtain ⟨ga, o, rfl, hga⟩ := HI.out.at (by omega)
    have hj : j < l.length := by have := HLN.out; omega
    obtain ⟨px, Hpx⟩ : ∃ x, Hid ((l[j]).p = x) := ⟨_, hidk rfl⟩
    have cpx : w.cell? ⟨ga, o + 110 * j, none⟩ = some (.int .i64 px) := by have := HI.out.cell j hj 0 _ (icells_p _); rw [Hpx.out] at this; simpa using this
    have HLB : Hid (lowB l g = decide (g < px)) := by show _ = _; rw [low_last (j := j) (by have := HLN.out; omega), Hpx.out]
    have hj1 : ((j + 1 : Nat) : Int) - 1 = j := by omega
    have hw1 := wrap_int (j : Int) (by omega) (by omega)
    have hd0 : decide ((0 : Int) < ((j + 1 : Nat) : Int)) = true := by rw [decide_eq_true_eq]; omega
    have ix := fun W => index_item W ga o (j + 1) c j .i64 (Nat.lt_succ_self j)
    have cW : W.drew.cell? ⟨ga, o + 110 * j, none⟩ = some (.int .i64 px) := (World.cell?_of_block (a := ⟨ga, o + 110 * j, none⟩) (H.out.drew.b.block ga hga)).trans cpx
    obtain ⟨bl, hbl⟩ : ∃ b, decide (g < px) = b := ⟨_, rfl⟩
    rw [hbl] at HLB
    cases bl
    · 
      refine wp_region_held_drew (S := (fun W => W.cell? ⟨gq, 2, none⟩ = some (.slice (some ⟨ga, o, none⟩) (j + 1) c) ∧ W.cell? ⟨gq, 1, none⟩ = some (.int .i64 g) ∧ W.cell? ⟨ga, o + 110 * j, none⟩ = some (.int .i64 px))) (by kernel_rfl) ⟨H.out.drew.cell (by repeat constructor) k2.out, H.out.drew.cell (by repeat constructor) k1.out, cW⟩ (fun hHeld => ?_)
      refine zW 0 (.pointer (some ⟨gq, 2, none⟩)) rfl (Or.inl ⟨by rfl, by intro w hSw; go_simp⟩) hHeld ?_
      try simp only [Act.put, pS1, pS2, pS3]
      refine zW 1 (.slice (some ⟨ga, o, none⟩) (j + 1) c) rfl (Or.inl ⟨by rfl, by intro W hSw; obtain ⟨e1, e2, e3⟩ := hSw; go_simp⟩) hHeld ?_
      try simp only [Act.put, pS1, pS2, pS3]
      refine zW 2 (.int .i64 ((j + 1 : Nat) : Int)) rfl (Or.inl ⟨by rfl, by intro w hSw; go_simp⟩) hHeld ?_
      try simp only [Act.put, pS1, pS2, pS3]
      refine zW 3 (.bool true) rfl (Or.inl ⟨by rfl, by intro w hSw; go_simp⟩) hHeld ?_
      try simp only [Act.put, pS1, pS2, pS3]
      refine zW 4 (.bool true) rfl (Or.inl ⟨by rfl, by intro w hSw; go_simp⟩) hHeld ?_
      try simp only [Act.put, pS1, pS2, pS3]
      refine zW 5 (.pointer (some ⟨gq, 2, none⟩)) rfl (Or.inl ⟨by rfl, by intro w hSw; go_simp⟩) hHeld ?_
      try simp only [Act.put, pS1, pS2, pS3]
      refine zW 6 (.slice (some ⟨ga, o, none⟩) (j + 1) c) rfl (Or.inl ⟨by rfl, by intro W hSw; obtain ⟨e1, e2, e3⟩ := hSw; go_simp⟩) hHeld ?_
      try simp only [Act.put, pS1, pS2, pS3]
      refine zW 7 (.pointer (some ⟨gq, 2, none⟩)) rfl (Or.inl ⟨by rfl, by intro w hSw; go_simp⟩) hHeld ?_
      try simp only [Act.put, pS1, pS2, pS3]
      refine zW 8 (.slice (some ⟨ga, o, none⟩) (j + 1) c) rfl (Or.inl ⟨by rfl, by intro W hSw; obtain ⟨e1, e2, e3⟩ := hSw; go_simp⟩) hHeld ?_
      try simp only [Act.put, pS1, pS2, pS3]
      refine zW 9 (.int .i64 ((j + 1 : Nat) : Int)) rfl (Or.inl ⟨by rfl, by intro w hSw; go_simp⟩) hHeld ?_
      try simp only [Act.put, pS1, pS2, pS3]
      refine zW 10 (.int .i64 j) rfl (Or.inl ⟨by rfl, by intro w hSw; go_simp⟩) hHeld ?_
      try simp only [Act.put, pS1, pS2, pS3]
      refine zW 11 (.pointer (some ⟨ga, o + 110 * j, none⟩)) rfl (Or.inl ⟨by rfl, by intro W hSw; have := ix W; go_simp⟩) hHeld ?_
      try simp only [Act.put, pS1, pS2, pS3]
      refine zW 12 (.pointer (some ⟨ga, o + 110 * j, none⟩)) rfl (Or.inl ⟨by rfl, by intro w hSw; go_simp⟩) hHeld ?_
      try simp only [Act.put, pS1, pS2, pS3]
      refine zW 13 (.int .i64 px) rfl (Or.inl ⟨by rfl, by intro W hSw; obtain ⟨e1, e2, e3⟩ := hSw; go_simp⟩) hHeld ?_
      try simp only [Act.put, pS1, pS2, pS3]
      refine zW 14 (.pointer (some ⟨gq, 1, none⟩)) rfl (Or.inl ⟨by rfl, by intro w hSw; go_simp⟩) hHeld ?_
      try simp only [Act.put, pS1, pS2, pS3]
      refine zW 15 (.int .i64 g) rfl (Or.inl ⟨by rfl, by intro W hSw; obtain ⟨e1, e2, e3⟩ := hSw; go_simp⟩) hHeld ?_
      try simp only [Act.put, pS1, pS2, pS3]
      refine zW 16 (.bool false) rfl (Or.inl ⟨by rfl, by intro w hSw; go_simp⟩) hHeld ?_
      try simp only [Act.put, pS1, pS2, pS3]
      refine zW 17 (.bool false) rfl (Or.inl ⟨by rfl, by intro w hSw; go_simp⟩) hHeld ?_
      try simp only [Act.put, pS1, pS2, pS3]
      refine wpAnyH_done (by kernel_rfl) ?_ _
      replace H := hidk H.out.drew
      go_wp2_with (first
        | ((with_reducible show wpList _ _ _ (⟨_, .load _ _, _, _, _, _⟩ :: _) _ _); refine fldS (by rfl) (by rfl) (by kernel_rfl) H (by repeat constructor) (by first | exact k0.out | exact k1.out | exact k2.out | exact k3.out) ?_; try simp only [Act.put, pS1, pS2, pS3])
        | ((with_reducible refine (W5.out _ H.out.b).mono ?_); rintro _ W ⟨rfl, hb⟩; replace H := hidk (H.out.call hb); clear hb; try simp only [Act.put, pS1, pS2, pS3])
        | fail)
      go_ret
      exact ⟨by rw [HRES.out, HLB.out]; rfl, H.out.b⟩
    · 
      refine wp_region_held_drew (S := (fun W => W.cell? ⟨gq, 2, none⟩ = some (.slice (some ⟨ga, o, none⟩) (j + 1) c) ∧ W.cell? ⟨gq, 1, none⟩ = some (.int .i64 g) ∧ W.cell? ⟨ga, o + 110 * j, none⟩ = some (.int .i64 px))) (by kernel_rfl) ⟨H.out.drew.cell (by repeat constructor) k2.out, H.out.drew.cell (by repeat constructor) k1.out, cW⟩ (fun hHeld => ?_)
      refine zW 0 (.pointer (some ⟨gq, 2, none⟩)) rfl (Or.inl ⟨by rfl, by intro w hSw; go_simp⟩) hHeld ?_
      try simp only [Act.put, pS1, pS2, pS3]
      refine zW 1 (.slice (some ⟨ga, o, none⟩) (j + 1) c) rfl (Or.inl ⟨by rfl, by intro W hSw; obtain ⟨e1, e2, e3⟩ := hSw; go_simp⟩) hHeld ?_
      try simp only [Act.put, pS1, pS2, pS3]
      refine zW 2 (.int .i64 ((j + 1 : Nat) : Int)) rfl (Or.inl ⟨by rfl, by intro w hSw; go_simp⟩) hHeld ?_
      try simp only [Act.put, pS1, pS2, pS3]
      refine zW 3 (.bool true) rfl (Or.inl ⟨by rfl, by intro w hSw; go_simp⟩) hHeld ?_
      try simp only [Act.put, pS1, pS2, pS3]
      refine zW 4 (.bool true) rfl (Or.inl ⟨by rfl, by intro w hSw; go_simp⟩) hHeld ?_
      try simp only [Act.put, pS1, pS2, pS3]
      refine zW 5 (.pointer (some ⟨gq, 2, none⟩)) rfl (Or.inl ⟨by rfl, by intro w hSw; go_simp⟩) hHeld ?_
      try simp only [Act.put, pS1, pS2, pS3]
      refine zW 6 (.slice (some ⟨ga, o, none⟩) (j + 1) c) rfl (Or.inl ⟨by rfl, by intro W hSw; obtain ⟨e1, e2, e3⟩ := hSw; go_simp⟩) hHeld ?_
      try simp only [Act.put, pS1, pS2, pS3]
      refine zW 7 (.pointer (some ⟨gq, 2, none⟩)) rfl (Or.inl ⟨by rfl, by intro w hSw; go_simp⟩) hHeld ?_
      try simp only [Act.put, pS1, pS2, pS3]
      refine zW 8 (.slice (some ⟨ga, o, none⟩) (j + 1) c) rfl (Or.inl ⟨by rfl, by intro W hSw; obtain ⟨e1, e2, e3⟩ := hSw; go_simp⟩) hHeld ?_
      try simp only [Act.put, pS1, pS2, pS3]
      refine zW 9 (.int .i64 ((j + 1 : Nat) : Int)) rfl (Or.inl ⟨by rfl, by intro w hSw; go_simp⟩) hHeld ?_
      try simp only [Act.put, pS1, pS2, pS3]
      refine zW 10 (.int .i64 j) rfl (Or.inl ⟨by rfl, by intro w hSw; go_simp⟩) hHeld ?_
      try simp only [Act.put, pS1, pS2, pS3]
      refine zW 11 (.pointer (some ⟨ga, o + 110 * j, none⟩)) rfl (Or.inl ⟨by rfl, by intro W hSw; have := ix W; go_simp⟩) hHeld ?_
      try simp only [Act.put, pS1, pS2, pS3]
      refine zW 12 (.pointer (some ⟨ga, o + 110 * j, none⟩)) rfl (Or.inl ⟨by rfl, by intro w hSw; go_simp⟩) hHeld ?_
      try simp only [Act.put, pS1, pS2, pS3]
      refine zW 13 (.int .i64 px) rfl (Or.inl ⟨by rfl, by intro W hSw; obtain ⟨e1, e2, e3⟩ := hSw; go_simp⟩) hHeld ?_
      try simp only [Act.put, pS1, pS2, pS3]
      refine zW 14 (.pointer (some ⟨gq, 1, none⟩)) rfl (Or.inl ⟨by rfl, by intro w hSw; go_simp⟩) hHeld ?_
      try simp only [Act.put, pS1, pS2, pS3]
      refine zW 15 (.int .i64 g) rfl (Or.inl ⟨by rfl, by intro W hSw; obtain ⟨e1, e2, e3⟩ := hSw; go_simp⟩) hHeld ?_
      try simp only [Act.put, pS1, pS2, pS3]
      refine zW 16 (.bool true) rfl (Or.inl ⟨by rfl, by intro w hSw; go_simp⟩) hHeld ?_
      try simp only [Act.put, pS1, pS2, pS3]
      refine zW 17 (.bool true) rfl (Or.inl ⟨by rfl, by intro w hSw; go_simp⟩) hHeld ?_
      try simp only [Act.put, pS1, pS2, pS3]
      refine wpAnyH_done (by kernel_rfl) ?_ _
      replace H := hidk H.out.drew
      go_wp2
      go_ret
      exact ⟨by rw [HRES.out, HLB.out]; rfl, H.out.b⟩
theorem refRightKe_any (v : KeV) (w : World) (h : KIn w v) : Calls Try.prog 13 #[.agg (keA v)] w fun e w' => e = .returned (.bool (rightKe v.t)) ∧ Below w.heap.size w w' :=
  refRightKe_in v.e v.g v.a v.n v.c v.l v.b v.m v.d v.k _ w h.i.rd h.c (by have := h.i.le; omega) (by have := h.cl; omega) (keA_fit v) (keA_0 v) (keA_1 v) (keA_2 v) (keA_3 v)
theorem builtZI : Try.prog.built 40 [] = some (itA zeroI) := by kernel_rfl
theorem builtZC : Try.prog.built 36 [] = some (clA zeroC) := by kernel_rfl
set_option maxHeartbeats 32000000 in
theorem refMayR_any (v : ReV) (w : World) (h : RIn w v) : Calls Try.prog 25 #[.agg (reA v)] w fun x w' => x = .returned (.bool (mayR v.t)) ∧ Below w.heap.size w w' := by
  have ok := h.ok
  have hmx : v.n ≤ 9223372036854775807 := by have := h.i.le; omega
  have FX : Hid (Fit Try.prog 42 (reA v)) := reA_fit v ok
  have FXS := hidk (itA_fit v.x h.xo).s
  have FMS := hidk (clA_fit v.m h.m.d).s
  have r113 := hidk (reA_113 v ok)
  obtain ⟨i0, hi0⟩ : ∃ b, eqIB v.x zeroI = b := ⟨_, rfl⟩
  obtain ⟨m0, hm0⟩ : ∃ b, eqCB v.m zeroC = b := ⟨_, rfl⟩
  obtain ⟨w1, hw1⟩ : ∃ b, decide (1 ≤ v.e ∧ v.e ≤ 900000000) = b := ⟨_, rfl⟩
  obtain ⟨w2, hw2⟩ : ∃ b, decide (0 ≤ v.f ∧ v.f ≤ 2000) = b := ⟨_, rfl⟩
  obtain ⟨e0, he0⟩ : ∃ b, (v.e == (0 : Int)) = b := ⟨_, rfl⟩
  obtain ⟨f0, hf0⟩ : ∃ b, (v.f == (0 : Int)) = b := ⟨_, rfl⟩
  obtain ⟨n0, hn0⟩ : ∃ b, ((v.n : Int) == (0 : Int)) = b := ⟨_, rfl⟩
  obtain ⟨rx, hrx⟩ : ∃ b, rightI v.x = b := ⟨_, rfl⟩
  obtain ⟨rl, hrl⟩ : ∃ b, rightL v.l = b := ⟨_, rfl⟩
  obtain ⟨rc, hrc⟩ : ∃ b, rightC v.m = b := ⟨_, rfl⟩
  obtain ⟨q1, hq1⟩ : ∃ b, (v.k == (1 : Int)) = b := ⟨_, rfl⟩
  obtain ⟨q2, hq2⟩ : ∃ b, (v.k == (2 : Int)) = b := ⟨_, rfl⟩
  obtain ⟨q3, hq3⟩ : ∃ b, (v.k == (3 : Int)) = b := ⟨_, rfl⟩
  obtain ⟨q4, hq4⟩ : ∃ b, (v.k == (4 : Int)) = b := ⟨_, rfl⟩
  have HRES : Hid (mayR v.t = if q1 = true then w1 && f0 && (i0 && m0) && n0 else if q2 = true then e0 && f0 && rx && n0 && m0 else if q3 = true then w1 && w2 && (i0 && m0) && rl else if q4 = true then e0 && f0 && i0 && n0 && rc else false) := by
    show _ = _
    simp only [← hq1, ← hq2, ← hq3, ← hq4, beq_iff_eq]
    have hl : decide (v.l.length = 0) = n0 := by rw [← hn0, h.i.rd.ln]; by_cases q : v.n = 0 <;> simp [q]
    have he : decide (v.e = 0) = e0 := by rw [← he0]; rfl
    have hf : decide (v.f = 0) = f0 := by rw [← hf0]; rfl
    unfold mayR ReV.t
    simp only [hl, he, hf, hi0, hm0, hrx, hrl, hrc, ← hw1, ← hw2, Bool.decide_and]
  have EI : Hid (∀ W, (binOp .eql 40 (.agg (itA v.x)) (.agg (itA zeroI))).run Try.prog W = .ok (.bool i0) W) := fun W => eqItem _ _ h.xo zeroE_ok (itA v.x) (itA zeroI) (hidk rfl) (hidk rfl) i0 (by rw [← hi0, eqIB_iff]) W
  have EM : Hid (∀ W, (binOp .eql 36 (.agg (clA v.m)) (.agg (clA zeroC))).run Try.prog W = .ok (.bool m0) W) := fun W => eqClaim _ _ h.m.d rfl (clA v.m) (clA zeroC) (hidk rfl) (hidk rfl) m0 (by rw [← hm0, eqCB_iff]) W
  have W1 : Hid (∀ W, Calls Try.prog 34 #[.int .i64 v.e, .int .i64 1, .int .i64 900000000] W fun e w' => e = .returned (.bool w1) ∧ W = w') := fun W => by rw [← hw1]; exact refWithin15 _ _ _ W
  have W2 : Hid (∀ W, Calls Try.prog 34 #[.int .i64 v.f, .int .i64 0, .int .i64 2000] W fun e w' => e = .returned (.bool w2) ∧ W = w') := fun W => by rw [← hw2]; exact refWithin15 _ _ _ W
  have W3 : Hid (∀ W, Below w.heap.size w W → Calls Try.prog 35 #[.slice v.a v.n v.c] W fun e w' => e = .returned (.bool rl) ∧ Below W.heap.size W w') := fun W hb => by rw [← hrl]; exact refRightL_any _ _ _ _ W (h.i.rd.keep hb)
  have W4 : Hid (∀ W, Calls Try.prog 49 #[.agg (itA v.x)] W fun e w' => e = .returned (.bool rx) ∧ Below W.heap.size W w') := fun W => by rw [← hrx]; exact refRightI_any v.x h.xo W _ (hidk rfl)
  have W5 : Hid (∀ W, Calls Try.prog 50 #[.agg (clA v.m)] W fun e w' => e = .returned (.bool rc) ∧ Below W.heap.size W w') := fun W => by rw [← hrc]; exact refRightC_any v.m W _ (hidk rfl)
  have H := hidk (Sep.start Try.prog w)
  clear h hi0 hm0 hw1 hw2 hrx hrl hrc
  go_enter Try.func25, Try.ntmps25
  go_wp2_with (first
    | ((with_reducible show wpList _ _ _ (⟨_, .box _ _, _, _, _, _⟩ :: _) _ _); refine boxS (by rfl) (by rfl) H (by assumption) ?_; clear H; intro gq W hq H; clear hq; try simp only [Act.put, pS1, pS2, pS3])
    | ((with_reducible show wpList _ _ _ (⟨_, .binOp .eql 40 _ _ _, _, _, _, _⟩ :: _) _ _); refine binS (by rfl) (by rfl) (by rfl) (by kernel_rfl) (EI.out _) ?_; try simp only [Act.put, pS1, pS2, pS3])
    | ((with_reducible show wpList _ _ _ (⟨_, .binOp .eql 36 _ _ _, _, _, _, _⟩ :: _) _ _); refine binS (by rfl) (by rfl) (by rfl) (by kernel_rfl) (EM.out _) ?_; try simp only [Act.put, pS1, pS2, pS3])
    | ((with_reducible show wpList _ _ _ (⟨_, .load _ _, _, _, _, _⟩ :: _) _ _); refine subS (by rfl) (by rfl) (by kernel_rfl) H (by repeat constructor) (reA_x v) FXS.out ?_; try simp only [Act.put, pS1, pS2, pS3])
    | ((with_reducible show wpList _ _ _ (⟨_, .load _ _, _, _, _, _⟩ :: _) _ _); refine subS (by rfl) (by rfl) (by kernel_rfl) H (by repeat constructor) (reA_m v ok) FMS.out ?_; try simp only [Act.put, pS1, pS2, pS3])
    | ((with_reducible show wpList _ _ _ (⟨_, .build _ _, _, _, _, _⟩ :: _) _ _); refine bldS (by rfl) (by with_reducible exact builtZI) (by rfl) ?_; try simp only [Act.put, pS1, pS2, pS3])
      | ((with_reducible show wpList _ _ _ (⟨_, .build _ _, _, _, _, _⟩ :: _) _ _); refine bldS (by rfl) (by with_reducible exact builtZC) (by rfl) ?_; try simp only [Act.put, pS1, pS2, pS3])
    | ((with_reducible show wpList _ _ _ (⟨_, .load _ _, _, _, _, _⟩ :: _) _ _); refine fldS (by rfl) (by rfl) (by kernel_rfl) H (by repeat constructor) (by first | exact reA_0 _ | exact reA_1 _ | exact reA_2 _ | exact r113.out) ?_; try simp only [Act.put, pS1, pS2, pS3])
    | ((with_reducible refine (W1.out _).mono ?_); rintro _ _ ⟨rfl, rfl⟩; try simp only [Act.put, pS1, pS2, pS3])
    | ((with_reducible refine (W2.out _).mono ?_); rintro _ _ ⟨rfl, rfl⟩; try simp only [Act.put, pS1, pS2, pS3])
    | ((with_reducible refine (W3.out _ H.out.b).mono ?_); rintro _ W ⟨rfl, hb⟩; replace H := hidk (H.out.call hb); clear hb; try simp only [Act.put, pS1, pS2, pS3])
    | ((with_reducible refine (W4.out _).mono ?_); rintro _ W ⟨rfl, hb⟩; replace H := hidk (H.out.call hb); clear hb; try simp only [Act.put, pS1, pS2, pS3])
    | ((with_reducible refine (W5.out _).mono ?_); rintro _ W ⟨rfl, hb⟩; replace H := hidk (H.out.call hb); clear hb; try simp only [Act.put, pS1, pS2, pS3])
    | fail)
  all_goals (go_ret; exact ⟨by rw [HRES.out]; simp [*], H.out.b⟩)
theorem ownI_call {a : Option Addr} {n c : Nat} {l : List ItT} {w : World} (h : InL w a n c l) : Hid (∀ W, Below w.heap.size w W → Calls Try.prog 30 #[.slice a n c] W fun e w' => ∃ a2 c2, e = .returned (.slice a2 n c2) ∧ w'.ownsRow W.heap.size 40 110 (.slice a2 n c2) n (icL l) ∧ Below W.heap.size W w') := fun W hb => by
  refine (refOwn_any a n c l W (h.rd.keep hb) h.nil (by have := h.le; omega)).mono ?_
  rintro e w' ⟨v, rfl, ho, hb2⟩
  obtain ⟨ao, co, rfl, _, _, _⟩ := IReads.own ho (fun x hx => h.rd.ok x hx)
  exact ⟨ao, co, rfl, ho, hb2⟩
theorem ownC_call {a : Option Addr} {n c : Nat} {l : List ClT} {w : World} (h : CReads w a n c l) (hn : a = none → c = 0) (hle : n ≤ 1000000) : Hid (∀ W, Below w.heap.size w W → Calls Try.prog 31 #[.slice a n c] W fun e w' => ∃ a2 c2, e = .returned (.slice a2 n c2) ∧ w'.ownsRow W.heap.size 36 36 (.slice a2 n c2) n (clcL l) ∧ Below W.heap.size W w') := fun W hb => by
  refine (refOwnC_any a n c l W (h.keep hb) hn hle).mono ?_
  rintro e w' ⟨v, rfl, ho, hb2⟩
  obtain ⟨ao, co, rfl, _, _, _⟩ := CReads.own ho (fun x hx => h.ok x hx)
  exact ⟨ao, co, rfl, ho, hb2⟩
set_option maxHeartbeats 8000000 in
theorem refOwnKe_any (v : KeV) (w : World) (h : KIn w v) : Calls Try.prog 10 #[.agg (keA v)] w fun x w' => ∃ v', x = .returned (.agg (keA v')) ∧ v'.t = v.t ∧ v'.n = v.n ∧ v'.m = v.m ∧ OwnKe w' w.heap.size v' ∧ Below w.heap.size w w' := by
  have FX : Hid (Fit Try.prog 25 (keA v)) := keA_fit _
  have FY := hidk keA_fit
  have W1 := ownI_call h.i
  have W2 := ownC_call h.c h.cn (by have := h.cl; omega)
  have H := hidk (Sep.start Try.prog w)
  clear h
  go_enter Try.func10, Try.ntmps10
  go_wp2_with (first
    | ((with_reducible show wpList _ _ _ (⟨_, .box _ _, _, _, _, _⟩ :: _) _ _); refine boxS (by rfl) (by rfl) H (by assumption) ?_; clear H; intro gq W hq H; clear hq; try simp only [Act.put, pS1, pS2, pS3])
    | ((with_reducible show wpList _ _ _ (⟨_, .alloc _, _, _, _, _⟩ :: _) _ _); refine newS (by rfl) (by kernel_rfl) H ?_; clear H; intro gq W hq H; clear hq; try simp only [Act.put, pS1, pS2, pS3])
    | ((with_reducible show wpList _ _ _ (⟨_, .load _ _, _, _, _, _⟩ :: _) _ _); refine rdS (by rfl) (by rfl) (by kernel_rfl) H (by repeat constructor) ?_; try simp only [Act.put, pS1, pS2, pS3])
    | ((with_reducible show wpList _ _ _ (⟨_, .store _ _ _, _, _, _, _⟩ :: _) _ _); refine setS (by rfl) (by rfl) (by rfl) H (by exact FY.out _) (by repeat first | apply uH | apply uT) ?_; clear H; intro W H; try simp only [Act.put, pS1, pS2, pS3])
    | ((with_reducible show wpList _ _ _ (⟨_, .load _ _, _, _, _, _⟩ :: _) _ _); refine fldS (by rfl) (by rfl) (by kernel_rfl) H (by repeat constructor) (by first | exact keA_0 _ | exact keA_1 _ | exact keA_2 _ | exact keA_3 _) ?_; try simp only [Act.put, pS1, pS2, pS3])
    | ((with_reducible show wpList _ _ _ (⟨_, .store _ _ _, _, _, _, _⟩ :: _) _ _); refine putS (by rfl) (by rfl) (by rfl) (by exact ⟨rfl, rfl⟩) (by kernel_rfl) H (by repeat first | apply uH | apply uT) (by rw [keA_size]; omega) (by first | exact keA_s2 _ _ _ _ v.l | exact keA_s3 _ _ _ _ v.k) ?_; clear H; intro W H; try simp only [Act.put, pS1, pS2, pS3])
    | ((with_reducible refine (W1.out _ H.out.b).mono ?_); rintro _ W ⟨a1, c1, rfl, ho, hb⟩; obtain ⟨N1, HQ, F1⟩ := H.out.own hb ho; clear H ho hb; have H := HQ; clear HQ; try simp only [Act.put, pS1, pS2, pS3])
    | ((with_reducible refine (W2.out _ H.out.b).mono ?_); rintro _ W ⟨a2, c2, rfl, ho, hb⟩; obtain ⟨N2, HQ, F2⟩ := H.out.own hb ho; clear H ho hb; have H := HQ; clear HQ; try simp only [Act.put, pS1, pS2, pS3])
    | fail)
  refine bodyPost_ret (resS1 rfl rfl H (by repeat constructor) (by kernel_rfl)) rfl ?_
  exact ⟨_, rfl, rfl, rfl, rfl, ⟨F1.out.2 _ H.out.has.r.l, F2.out.2 _ H.out.has.l⟩, H.out.b⟩
set_option maxHeartbeats 8000000 in
theorem refOwnR_any (v : ReV) (w : World) (h : RIn w v) : Calls Try.prog 19 #[.agg (reA v)] w fun x w' => ∃ v', x = .returned (.agg (reA v')) ∧ v'.t = v.t ∧ v'.n = v.n ∧ w'.ownsRow w.heap.size 40 110 (.slice v'.a v'.n v'.c) v'.n (icL v'.l) ∧ Below w.heap.size w w' := by
  have ok := h.ok
  have FX : Hid (Fit Try.prog 42 (reA v)) := reA_fit v ok
  have FY : Hid (∀ a n c l, Fit Try.prog 42 (reA { v with a := a, n := n, c := c, l := l })) := fun a n c l => reA_fit _ ⟨ok.x, ok.m⟩
  have r113 := hidk (reA_113 v ok)
  have SZ := hidk (reA_size v ok)
  have S113 := hidk (reA_s113 v ok)
  have W1 := ownI_call h.i
  have H := hidk (Sep.start Try.prog w)
  clear h
  go_enter Try.func19, Try.ntmps19
  go_wp2_with (first
    | ((with_reducible show wpList _ _ _ (⟨_, .box _ _, _, _, _, _⟩ :: _) _ _); refine boxS (by rfl) (by rfl) H (by assumption) ?_; clear H; intro gq W hq H; clear hq; try simp only [Act.put, pS1, pS2, pS3])
    | ((with_reducible show wpList _ _ _ (⟨_, .alloc _, _, _, _, _⟩ :: _) _ _); refine newS (by rfl) (by kernel_rfl) H ?_; clear H; intro gq W hq H; clear hq; try simp only [Act.put, pS1, pS2, pS3])
    | ((with_reducible show wpList _ _ _ (⟨_, .load _ _, _, _, _, _⟩ :: _) _ _); refine rdS (by rfl) (by rfl) (by kernel_rfl) H (by repeat constructor) ?_; try simp only [Act.put, pS1, pS2, pS3])
    | ((with_reducible show wpList _ _ _ (⟨_, .store _ _ _, _, _, _, _⟩ :: _) _ _); refine setS (by rfl) (by rfl) (by rfl) H (by exact FY.out _ _ _ _) (by repeat first | apply uH | apply uT) ?_; clear H; intro W H; try simp only [Act.put, pS1, pS2, pS3])
    | ((with_reducible show wpList _ _ _ (⟨_, .load _ _, _, _, _, _⟩ :: _) _ _); refine fldS (by rfl) (by rfl) (by kernel_rfl) H (by repeat constructor) (by exact r113.out) ?_; try simp only [Act.put, pS1, pS2, pS3])
    | ((with_reducible show wpList _ _ _ (⟨_, .store _ _ _, _, _, _, _⟩ :: _) _ _); refine putS (by rfl) (by rfl) (by rfl) (by exact ⟨rfl, rfl⟩) (by kernel_rfl) H (by repeat first | apply uH | apply uT) (by rw [SZ.out]; omega) (by first | exact S113.out _ _ _ v.l) ?_; clear H; intro W H; try simp only [Act.put, pS1, pS2, pS3])
    | ((with_reducible refine (W1.out _ H.out.b).mono ?_); rintro _ W ⟨a1, c1, rfl, ho, hb⟩; obtain ⟨N1, HQ, F1⟩ := H.out.own hb ho; clear H ho hb; have H := HQ; clear HQ; try simp only [Act.put, pS1, pS2, pS3])
    | fail)
  refine bodyPost_ret (resS1 rfl rfl H (by repeat constructor) (by kernel_rfl)) rfl ?_
  exact ⟨_, rfl, rfl, rfl, F1.out.2 _ H.out.has.l, H.out.b⟩
set_option maxHeartbeats 8000000 in
theorem refSameKe_any (u v : KeV) (w : World) (hu : KIn w u) (hv : KIn w v) (ht : u.t = v.t) : Calls Try.prog 16 #[.agg (keA u), .agg (keA v)] w fun x w' => x = .returned (.bool true) ∧ Below w.heap.size w w' := by
  have FX : Hid (Fit Try.prog 25 (keA u)) := keA_fit _
  have FY : Hid (Fit Try.prog 25 (keA v)) := keA_fit _
  have e1 : u.e = v.e := congrArg KeT.e ht
  have e2 : u.g = v.g := congrArg KeT.g ht
  have e3 : u.l = v.l := congrArg KeT.l ht
  have e4 : u.k = v.k := congrArg KeT.k ht
  have e5 : u.n = v.n := by rw [← hu.i.rd.ln, ← hv.i.rd.ln, e3]
  have e6 : u.m = v.m := by rw [← hu.c.ln, ← hv.c.ln, e4]
  have b1 : (u.e == v.e) = true := by rw [beq_iff_eq]; exact e1
  have b2 : (u.g == v.g) = true := by rw [beq_iff_eq]; exact e2
  have W1 : Hid (∀ W, Below w.heap.size w W → Calls Try.prog 23 #[.slice u.a u.n u.c, .slice v.a v.n v.c] W fun e w' => e = .returned (.bool true) ∧ Below W.heap.size W w') := fun W hb => by
    have h1 := hu.i.rd.keep hb
    have h2 := hv.i.rd.keep hb
    rw [← e3, ← e5] at h2
    rw [← e5]
    exact refSame_any _ _ _ _ _ _ W h1 h2
  have W2 : Hid (∀ W, Below w.heap.size w W → Calls Try.prog 39 #[.slice u.b u.m u.d, .slice v.b v.m v.d] W fun e w' => e = .returned (.bool true) ∧ Below W.heap.size W w') := fun W hb => by
    have h1 := hu.c.keep hb
    have h2 := hv.c.keep hb
    rw [← e4, ← e6] at h2
    rw [← e6]
    exact refSameC_any _ _ _ _ _ _ W h1 h2
  have H := hidk (Sep.start Try.prog w)
  clear hu hv ht e1 e2 e3 e4 e5 e6
  go_enter Try.func16, Try.ntmps16
  go_wp2_with (first
    | ((with_reducible show wpList _ _ _ (⟨_, .box _ _, _, _, _, _⟩ :: _) _ _); refine boxS (by rfl) (by rfl) H (by assumption) ?_; clear H; intro gq W hq H; clear hq; try simp only [Act.put, pS1, pS2, pS3])
    | ((with_reducible show wpList _ _ _ (⟨_, .load _ _, _, _, _, _⟩ :: _) _ _); refine fldS (by rfl) (by rfl) (by kernel_rfl) H (by repeat constructor) (by first | exact keA_0 _ | exact keA_1 _ | exact keA_2 _ | exact keA_3 _) ?_; try simp only [Act.put, pS1, pS2, pS3])
    | ((with_reducible refine (W1.out _ H.out.b).mono ?_); rintro _ W ⟨rfl, hb⟩; replace H := hidk (H.out.call hb); clear hb; try simp only [Act.put, pS1, pS2, pS3])
    | ((with_reducible refine (W2.out _ H.out.b).mono ?_); rintro _ W ⟨rfl, hb⟩; replace H := hidk (H.out.call hb); clear hb; try simp only [Act.put, pS1, pS2, pS3])
    | fail)
  all_goals (go_ret; exact ⟨rfl, H.out.b⟩)
end Go.Proofs.Ytjpmmbmhkpgjcaa
