/- Texts of our own that the row of TopJournal leans on, part 49. -/
import Derived.Test.YtgclohgcehhfnabGreatDoorTopJournalJ0
import Derived.Test.YtgclohgcehhfnabGreatDoorTopJournalJ8
import Derived.Test.YtgclohgcehhfnabGreatDoorTopJournalJ44
import Derived.Test.YtgclohgcehhfnabGreatDoorTopJournalJ45
import Derived.Test.YtgclohgcehhfnabGreatDoorTopJournalJ48
import Derived.Lib.AppendStr
import Derived.OwnWalk
import Derived.WalkMore
import Derived.OneCell
import Derived.Defers
import Derived.Recover
/- The program's wal: its small calls. -/
namespace Go.Proofs.YtgclohgcehhfnabGreatDoor
open Go.RowKit Nums
set_option linter.unusedVariables false
set_option linter.unusedSimpArgs false
set_option maxRecDepth 100000
def gaveUp (n : Int) : Ending := .panicked [{ v := .iface 24 (.int .i64 n), recovered := false }]
theorem bMustOk (w : World) : Calls Tryz.prog 43 #[.int .i64 0] w fun e w' => e = .returned (.tuple #[]) ∧ w' = w := by
  go_enter Tryz.func43, Tryz.ntmps43
  go_wp2
  go_end0
  exact ⟨rfl, rfl⟩
theorem bMustNo (w : World) : Calls Tryz.prog 43 #[.int .i64 80] w fun e w' => e = gaveUp 80 ∧ w' = w := by
  go_enter Tryz.func43, Tryz.ntmps43
  go_wp2
  exact ⟨rfl, rfl, rfl⟩
theorem WM.c {w : World} {q p f r : Nat} {V : VW} {T : Nat → Prop} (h : WM w q p f r V T) : w.cell? ⟨q, 0, none⟩ = some (.pointer (some ⟨p, 0, none⟩)) ∧ w.cell? ⟨q, 1, none⟩ = some (.int .i64 f) ∧ w.cell? ⟨q, 2, none⟩ = some (.int .i64 r) ∧ w.cell? ⟨q, 3, none⟩ = some (.int .i64 V.half) ∧ w.cell? ⟨q, 4, none⟩ = some (.int .i64 V.used) ∧ w.cell? ⟨q, 5, none⟩ = some (.int .i64 V.count) :=
  ⟨by rw [cell_of_row w q 0 _ _ (0, 0) h.row]; rfl, by rw [cell_of_row w q 1 _ _ (0, 0) h.row]; rfl, by rw [cell_of_row w q 2 _ _ (0, 0) h.row]; rfl, by rw [cell_of_row w q 3 _ _ (0, 0) h.row]; rfl, by rw [cell_of_row w q 4 _ _ (0, 0) h.row]; rfl, by rw [cell_of_row w q 5 _ _ (0, 0) h.row]; rfl⟩
theorem WM.fz {w : World} {q p f r : Nat} {V : VW} {T : Nat → Prop} (h : WM w q p f r V T) (i : Nat) : w.frozen? ⟨q, i, none⟩ = false := frozen_of_row w q i _ _ h.row
theorem WM.lt {w : World} {q p f r : Nat} {V : VW} {T : Nat → Prop} (h : WM w q p f r V T) : q < w.heap.size := heap_lt h.row
theorem WM.same {w w' : World} {q p f r : Nat} {V : VW} {T : Nat → Prop} (h : WM w q p f r V T) (hb : w'.heap[q]? = w.heap[q]?) : WM w' q p f r V T := ⟨hb.trans h.row, h.mem⟩
theorem WM.below {w w' : World} {q p f r : Nat} {V : VW} {T : Nat → Prop} (h : WM w q p f r V T) (hb : Below w.heap.size w w') : WM w' q p f r V T := h.same (hb.block q h.lt)
set_option maxHeartbeats 1000000 in
theorem bLimit (w : World) (q p f r : Nat) (V : VW) (T : Nat → Prop) (h : WM w q p f r V T) (hr : 64 ≤ r ∧ r ≤ 1000000) : Calls Tryz.prog 27 #[ptr q] w fun e w' => e = .returned (.int .i64 (limN r : Nat)) ∧ w' = w := by
  obtain ⟨c0, c1, c2, c3, c4, c5⟩ := h.c
  have hq : (r : Int).tdiv 2 = ((r / 2 : Nat) : Int) := by rw [Int.tdiv_eq_ediv_of_nonneg (by omega)]; omega
  have hw1 := wrap_int ((r / 2 : Nat) : Int) (by omega) (by omega)
  have hw2 := wrap_int (((r / 2 : Nat) : Int) - 16) (by omega) (by omega)
  have he : ((r / 2 : Nat) : Int) - 16 = ((limN r : Nat) : Int) := by unfold limN; omega
  clear h c0 c1 c3 c4 c5
  unfold ptr
  go_enter Tryz.func27, Tryz.ntmps27
  go_wp2
  go_ret
  refine ⟨?_, rfl⟩
  unfold limN
  first
    | (congr 2; omega)
    | (simp [*]; omega)
theorem bWriteNo (w : World) (q p f r : Nat) (V : VW) (T : Nat → Prop) (D : DkT) (S : Nat → Prop) (h : WM w q p f r V T) (hA : OAt w p D S) (hp : D.puts.length ≤ 1000000) (hd : D.down = true) (at_ : Int) (ha : In64 at_) (a : Option Addr) (len cap : Nat) (bs : List UInt8) (hR : Reads w a len cap bs) (hl : len ≤ 1000000) (hS : ∀ b off, a = some ⟨b, off, none⟩ → 0 < len → ¬ S b) :
    Calls Tryz.prog 31 #[ptr q, .int .i64 at_, .slice a len cap] w fun e w' => e = gaveUp 80 ∧ (∃ S', OAt w' p D S' ∧ ∀ b, S' b → S b ∨ w.heap.size ≤ b) ∧ Away S w w' := by
  obtain ⟨c0, c1, c2, c3, c4, c5⟩ := h.c
  have WR := hidd (diskC.write w p D S hA hp at_ ha a len cap bs hR hl hS)
  rw [(write_no hd).1, (write_no hd).2] at WR
  clear h c1 c2 c3 c4 c5 hA hR hS
  unfold ptr
  unfold ptr at WR
  go_enter Tryz.func31, Tryz.ntmps31
  go_wp2_with fail
  refine WR.out.mono ?_
  rintro e w1 ⟨rfl, h1, h2⟩
  have H1 := hidd h1
  have H2 := hidd h2
  clear WR h1 h2
  have MN := hidd (bMustNo w1)
  go_wp2_with fail
  refine MN.out.mono ?_
  rintro e w2 ⟨rfl, rfl⟩
  exact ⟨rfl, rfl, H1.out, H2.out⟩
theorem bWriteOk (w : World) (q p f r : Nat) (V : VW) (T : Nat → Prop) (D : DkT) (S : Nat → Prop) (h : WM w q p f r V T) (hA : OAt w p D S) (hp : D.puts.length ≤ 1000000) (at_ : Int) (ha : In64 at_) (a : Option Addr) (len cap : Nat) (bs : List UInt8) (hR : Reads w a len cap bs) (hl : len ≤ 1000000) (hS : ∀ b off, a = some ⟨b, off, none⟩ → 0 < len → ¬ S b) (hE : writeE D at_ bs = 0) :
    Calls Tryz.prog 31 #[ptr q, .int .i64 at_, .slice a len cap] w fun e w' => e = .returned (.tuple #[]) ∧ (∃ S', OAt w' p (writeD D at_ bs) S' ∧ ∀ b, S' b → S b ∨ w.heap.size ≤ b) ∧ Away S w w' := by
  obtain ⟨c0, c1, c2, c3, c4, c5⟩ := h.c
  have WR := hidd (diskC.write w p D S hA hp at_ ha a len cap bs hR hl hS)
  rw [hE] at WR
  clear h c1 c2 c3 c4 c5 hA hR hS
  unfold ptr
  unfold ptr at WR
  go_enter Tryz.func31, Tryz.ntmps31
  go_wp2_with fail
  refine WR.out.mono ?_
  rintro e w1 ⟨rfl, h1, h2⟩
  have H1 := hidd h1
  have H2 := hidd h2
  clear WR h1 h2
  have MN := hidd (bMustOk w1)
  go_wp2_with fail
  refine MN.out.mono ?_
  rintro e w2 ⟨rfl, rfl⟩
  go_wp2
  go_end0
  exact ⟨rfl, H1.out, H2.out⟩
theorem WM.drew {w : World} {q p f r : Nat} {V : VW} {T : Nat → Prop} (h : WM w q p f r V T) : WM w.drew q p f r V T := ⟨h.row, h.mem⟩
set_option maxHeartbeats 2000000 in
theorem bPlace (w : World) (q p f r : Nat) (V : VW) (T : Nat → Prop) (h : WM w q p f r V T) (hr : 64 ≤ r ∧ r ≤ 1000000) (hf : f ≤ 1000000) (hh u : Nat) (h2 : hh < 2) (hu : u ≤ 1000000) : Calls Tryz.prog 29 #[ptr q, .int .i64 hh, .int .i64 u] w fun e w' => e = .returned (.int .i64 ((f + (offN r hh + u) : Nat))) ∧ w' = w.drew := by
  obtain ⟨c0, c1, c2, c3, c4, c5⟩ := h.c
  have LM := hidd (bLimit w.drew q p f r V T h.drew hr)
  have hlim : limN r ≤ 500000 := by unfold limN; omega
  obtain ⟨m, Hm⟩ : ∃ m, Hid (m = limN r) := ⟨_, hidd rfl⟩
  have HE : Hid (f + (offN r hh + u) = f + 1 + 29 + hh * (m + 1) + u) := by show _ = _; unfold offN; rw [Hm.out]; omega
  rw [HE.out]
  rw [← Hm.out] at LM hlim
  have w1 := wrap_int ((f : Int) + 1) (by omega) (by omega)
  have w2 := wrap_int ((f : Int) + 1 + 29) (by omega) (by omega)
  have w3 := wrap_int ((m : Int) + 1) (by omega) (by omega)
  have HC := hidd c1
  clear h c0 c1 c2 c3 c4 c5 HE Hm
  unfold ptr
  unfold ptr at LM
  rcases (by omega : hh = 0 ∨ hh = 1) with rfl | rfl
  · have w4 := wrap_int (0 : Int) (by omega) (by omega)
    have w6 := wrap_int ((f : Int) + 1 + 29 + (u : Int)) (by omega) (by omega)
    have HV : Hid ((((f + 1 + 29 + 0 * (m + 1) + u : Nat)) : Int) = (f : Int) + 1 + 29 + (u : Int)) := by show _ = _; omega
    rw [HV.out]
    go_enter Tryz.func29, Tryz.ntmps29
    go_wp2
    refine wp_region_held_drew (S := (fun W => W.cell? ⟨q, 1, none⟩ = some (.int .i64 (f : Int)))) (by kernel_rfl) HC.out (fun hHeld => ?_)
    refine zX 0 (.pointer (some ⟨q, 0, none⟩)) rfl hHeld ?_
    try simp only [Act.put, pS1, pS2, pS3]
    refine zX 1 (.pointer (some ⟨q, 0, none⟩)) rfl hHeld ?_
    try simp only [Act.put, pS1, pS2, pS3]
    refine zX 2 (.pointer (some ⟨q, 1, none⟩)) rfl hHeld ?_
    try simp only [Act.put, pS1, pS2, pS3]
    refine zW 3 (.int .i64 (f : Int)) rfl (Or.inl ⟨by rfl, by intro W hSw; have h1 : W.cell? ⟨q, 1, none⟩ = _ := hSw; go_simp⟩) hHeld ?_
    try simp only [Act.put, pS1, pS2, pS3]
    refine zX 4 (.int .i64 ((f : Int) + 1)) rfl hHeld ?_
    try simp only [Act.put, pS1, pS2, pS3]
    refine zX 5 (.int .i64 ((f : Int) + 1 + 29)) rfl hHeld ?_
    try simp only [Act.put, pS1, pS2, pS3]
    refine zX 6 (.int .i64 0) rfl hHeld ?_
    try simp only [Act.put, pS1, pS2, pS3]
    refine zX 7 (.pointer (some ⟨q, 0, none⟩)) rfl hHeld ?_
    try simp only [Act.put, pS1, pS2, pS3]
    refine zX 12 (.int .i64 (u : Int)) rfl hHeld ?_
    try simp only [Act.put, pS1, pS2, pS3]
    refine wpAnyH_ready (rs := [8]) (by kernel_rfl) (by simp) ?_
    refine (AllReadyH.cons (o := { dst := some 15, op := .call { callee := .value (.func 27), args := #[.tmp 14], argTypes := #[30] }, type := 3, pos := "wal.go:171", after := #[zD 7], guard := none }) rfl (fun K hK => ?_) AllReadyH.nil)
    go_simp
    refine LM.out.mono ?_
    rintro e W1 ⟨rfl, rfl⟩
    go_wp2_with fail
    refine hK.out _ _ hHeld (fun hHeld => ?_)
    clear hK K
    try simp only [Act.put, pS1, pS2, pS3]
    refine zX 9 (.int .i64 ((m : Int) + 1)) rfl hHeld ?_
    try simp only [Act.put, pS1, pS2, pS3]
    refine zX 10 (.int .i64 (0)) rfl hHeld ?_
    try simp only [Act.put, pS1, pS2, pS3]
    refine zX 11 (.int .i64 ((f : Int) + 1 + 29)) rfl hHeld ?_
    try simp only [Act.put, pS1, pS2, pS3]
    refine zX 13 (.int .i64 ((f : Int) + 1 + 29 + (u : Int))) rfl hHeld ?_
    try simp only [Act.put, pS1, pS2, pS3]
    refine zX 14 (.int .i64 ((f : Int) + 1 + 29 + (u : Int))) rfl hHeld ?_
    try simp only [Act.put, pS1, pS2, pS3]
    refine wpAnyH_done (by kernel_rfl) ?_ _
    go_wp2
    go_ret
    exact ⟨rfl, rfl⟩
  · have w5 := wrap_int ((f : Int) + 1 + 29 + ((m : Int) + 1)) (by omega) (by omega)
    have w6 := wrap_int ((f : Int) + 1 + 29 + ((m : Int) + 1) + (u : Int)) (by omega) (by omega)
    have HV : Hid ((((f + 1 + 29 + 1 * (m + 1) + u : Nat)) : Int) = (f : Int) + 1 + 29 + ((m : Int) + 1) + (u : Int)) := by show _ = _; omega
    rw [HV.out]
    go_enter Tryz.func29, Tryz.ntmps29
    go_wp2
    refine wp_region_held_drew (S := (fun W => W.cell? ⟨q, 1, none⟩ = some (.int .i64 (f : Int)))) (by kernel_rfl) HC.out (fun hHeld => ?_)
    refine zX 0 (.pointer (some ⟨q, 0, none⟩)) rfl hHeld ?_
    try simp only [Act.put, pS1, pS2, pS3]
    refine zX 1 (.pointer (some ⟨q, 0, none⟩)) rfl hHeld ?_
    try simp only [Act.put, pS1, pS2, pS3]
    refine zX 2 (.pointer (some ⟨q, 1, none⟩)) rfl hHeld ?_
    try simp only [Act.put, pS1, pS2, pS3]
    refine zW 3 (.int .i64 (f : Int)) rfl (Or.inl ⟨by rfl, by intro W hSw; have h1 : W.cell? ⟨q, 1, none⟩ = _ := hSw; go_simp⟩) hHeld ?_
    try simp only [Act.put, pS1, pS2, pS3]
    refine zX 4 (.int .i64 ((f : Int) + 1)) rfl hHeld ?_
    try simp only [Act.put, pS1, pS2, pS3]
    refine zX 5 (.int .i64 ((f : Int) + 1 + 29)) rfl hHeld ?_
    try simp only [Act.put, pS1, pS2, pS3]
    refine zX 6 (.int .i64 1) rfl hHeld ?_
    try simp only [Act.put, pS1, pS2, pS3]
    refine zX 7 (.pointer (some ⟨q, 0, none⟩)) rfl hHeld ?_
    try simp only [Act.put, pS1, pS2, pS3]
    refine zX 12 (.int .i64 (u : Int)) rfl hHeld ?_
    try simp only [Act.put, pS1, pS2, pS3]
    refine wpAnyH_ready (rs := [8]) (by kernel_rfl) (by simp) ?_
    refine (AllReadyH.cons (o := { dst := some 15, op := .call { callee := .value (.func 27), args := #[.tmp 14], argTypes := #[30] }, type := 3, pos := "wal.go:171", after := #[zD 7], guard := none }) rfl (fun K hK => ?_) AllReadyH.nil)
    go_simp
    refine LM.out.mono ?_
    rintro e W1 ⟨rfl, rfl⟩
    go_wp2_with fail
    refine hK.out _ _ hHeld (fun hHeld => ?_)
    clear hK K
    try simp only [Act.put, pS1, pS2, pS3]
    refine zX 9 (.int .i64 ((m : Int) + 1)) rfl hHeld ?_
    try simp only [Act.put, pS1, pS2, pS3]
    refine zX 10 (.int .i64 ((m : Int) + 1)) rfl hHeld ?_
    try simp only [Act.put, pS1, pS2, pS3]
    refine zX 11 (.int .i64 ((f : Int) + 1 + 29 + ((m : Int) + 1))) rfl hHeld ?_
    try simp only [Act.put, pS1, pS2, pS3]
    refine zX 13 (.int .i64 ((f : Int) + 1 + 29 + ((m : Int) + 1) + (u : Int))) rfl hHeld ?_
    try simp only [Act.put, pS1, pS2, pS3]
    refine zX 14 (.int .i64 ((f : Int) + 1 + 29 + ((m : Int) + 1) + (u : Int))) rfl hHeld ?_
    try simp only [Act.put, pS1, pS2, pS3]
    refine wpAnyH_done (by kernel_rfl) ?_ _
    go_wp2
    go_ret
    exact ⟨rfl, rfl⟩
set_option maxHeartbeats 2000000 in
theorem bCost (a : Option Addr) (len cap : Nat) (l : List ByteArray) (w : World) (hT : Texts w a len l) (hS : Small 1000000 1000000 l) :
    Calls Tryz.prog 26 #[.slice a len cap] w fun e w' => e = .returned (.int .i64 (costN l)) ∧ w' = w := by
  have HT := hidd hT
  have hl := hT.1
  have hlen : len ≤ 1000000 := by have := hS.1; omega
  have hmx0 : len ≤ 9223372036854775807 := by omega
  have HS := hidd hS
  have HL := hidd hl
  obtain ⟨F, HF⟩ : ∃ F : Nat → Nat, Hid (∀ k, F k = costN (l.take k)) := ⟨fun k => costN (l.take k), fun k => rfl⟩
  have HBD : Hid (∀ k, F k ≤ 16 + 1000000 * (8 + 1000000)) := fun k => by
    rw [HF.out]
    have h1 : Small 1000000 1000000 (l.take k) := ⟨by rw [List.length_take]; have := HS.out.1; omega, fun s hs => HS.out.2 s (List.mem_of_mem_take hs)⟩
    have h2 := costN_le h1.2
    have h3 := h1.1
    have h4 : (l.take k).length * (8 + 1000000) ≤ 1000000 * (8 + 1000000) := Nat.mul_le_mul_right _ h3
    exact Nat.le_trans h2 (Nat.add_le_add_left h4 16)
  have HE : Hid (F len = costN l) := by show _ = _; rw [HF.out, List.take_of_length_le (by rw [hl]; omega)]
  have HZ : Hid (F 0 = 16) := by show _ = _; rw [HF.out]; rfl
  clear hT hS hl
  go_enter Tryz.func26, Tryz.ntmps26
  go_wp2
  go_loop [3, 5, 8] (fun s x i => ∃ k : Nat, k ≤ len ∧ i = .int .i64 k ∧ s = .int .i64 (F k)) (fun _ _ i => len - (intOf i).toNat)
  case atStart => exact ⟨0, by omega, rfl, by rw [HZ.out]; rfl⟩
  case round =>
    obtain ⟨k, hk, rfl, rfl⟩ := hrel
    by_cases hlt : k < len
    · obtain ⟨b, off, t, rfl, hc, ht⟩ := HT.out.cell k hlt
      have hkl : k < l.length := by have := HL.out; omega
      have htk : t = l[k] := by rw [List.getElem?_eq_getElem hkl] at ht; exact (Option.some.inj ht).symm
      have hts : t.size ≤ 1000000 := by rw [htk]; exact HS.out.2 _ (List.getElem_mem hkl)
      have HN : Hid (F (k + 1) = F k + (8 + t.size)) := by show _ = _; rw [HF.out, HF.out, costN_take l k hkl, ← htk]; omega
      have hb1 := HBD.out k
      have hd : decide ((k : Int) < (len : Int)) = true := by rw [decide_eq_true_eq]; omega
      have hw1 := wrap_int ((k : Int) + 1) (by omega) (by omega)
      have hw2 := wrap_int (8 + (t.size : Int)) (by omega) (by omega)
      have hw3 := wrap_int ((F k : Int) + (8 + (t.size : Int))) (by omega) (by omega)
      have hmx : t.size ≤ 9223372036854775807 := by omega
      clear ht htk
      go_wp2
      go_round
      case rel => exact ⟨k + 1, by omega, by go_num, by rw [HN.out]; go_num⟩
      case measure => simp [intOf]; omega
    · obtain rfl : len = k := by omega
      have hd : decide ((len : Int) < (len : Int)) = false := by rw [decide_eq_false_iff_not]; omega
      go_wp2
      go_ret
      exact ⟨by rw [HE.out]; rfl, rfl⟩
set_option maxHeartbeats 2000000 in
theorem bIsBatch (a : Option Addr) (len cap : Nat) (l : List ByteArray) (w : World) (hT : Texts w a len l) (hS : Small 30 1000000 l) :
    Calls Tryz.prog 53 #[.slice a len cap] w fun e w' => e = .returned (.bool (batchB l)) ∧ w' = w := by
  have HT := hidd hT
  have HL := hidd hT.1
  have HS := hidd hS
  have hlen : len ≤ 30 := by have := hS.1; have := hT.1; omega
  have hmx : len ≤ 9223372036854775807 := by omega
  clear hT hS
  go_enter Tryz.func53, Tryz.ntmps53
  go_wp2
  go_loop [4, 7] (fun x i => ∃ k : Nat, k ≤ len ∧ i = .int .i64 k ∧ Hid (∀ s ∈ l.take k, s.size ≤ 4000)) (fun _ i => len - (intOf i).toNat)
  case atStart => exact ⟨0, by omega, rfl, fun s hs => by simp at hs⟩
  case round =>
    obtain ⟨k, hk, rfl, HA⟩ := hrel
    by_cases hlt : k < len
    · obtain ⟨b, off, t, rfl, hc, ht⟩ := HT.out.cell k hlt
      have hkl : k < l.length := by have := HL.out; omega
      have htk : t = l[k] := by rw [List.getElem?_eq_getElem hkl] at ht; exact (Option.some.inj ht).symm
      have hts : t.size ≤ 1000000 := by rw [htk]; exact HS.out.2 _ (List.getElem_mem hkl)
      have hd : decide ((k : Int) < (len : Int)) = true := by rw [decide_eq_true_eq]; omega
      have hw1 := wrap_int ((k : Int) + 1) (by omega) (by omega)
      have htm : t.size ≤ 9223372036854775807 := by omega
      by_cases h4 : t.size ≤ 4000
      · have h4' : decide ((4000 : Int) < (t.size : Int)) = false := by rw [decide_eq_false_iff_not]; omega
        have HN : Hid (∀ s ∈ l.take (k + 1), s.size ≤ 4000) := by
          intro s hs
          rw [take_succ_parts l k hkl] at hs
          rcases List.mem_append.1 hs with h | h
          · exact HA.out s h
          · obtain rfl : s = l[k] := by simpa using h
            rw [← htk]; exact h4
        clear ht htk
        go_wp2
        go_round
        case rel => exact ⟨k + 1, by omega, by go_num, HN⟩
        case measure => simp [intOf]; omega
      · have h4' : decide ((4000 : Int) < (t.size : Int)) = true := by rw [decide_eq_true_eq]; omega
        have HN : Hid (batchB l = false) := by
          show _ = _
          unfold batchB
          rw [decide_eq_false_iff_not]
          rintro ⟨_, h⟩
          have := h _ (List.getElem_mem hkl)
          rw [← htk] at this
          omega
        clear ht htk
        go_wp2
        go_ret
        exact ⟨by rw [HN.out]; rfl, rfl⟩
    · obtain rfl : len = k := by omega
      have hd : decide ((len : Int) < (len : Int)) = false := by rw [decide_eq_false_iff_not]; omega
      have hd2 : decide ((len : Int) ≤ 1000) = true := by rw [decide_eq_true_eq]; omega
      have HN : Hid (batchB l = true) := by
        show _ = _
        unfold batchB
        rw [decide_eq_true_eq]
        refine ⟨by have := HL.out; omega, ?_⟩
        have := HA.out
        rw [List.take_of_length_le (by have := HL.out; omega)] at this
        exact this
      go_wp2
      go_ret
      exact ⟨by rw [HN.out]; rfl, rfl⟩
def refW (l : List ByteArray) : Int := if batchB l = true then 0 else 2
set_option maxHeartbeats 2000000 in
theorem bRefusal (q : Nat) (a : Option Addr) (len cap : Nat) (l : List ByteArray) (w : World) (hT : Texts w a len l) (hS : Small 30 1000000 l) :
    Calls Tryz.prog 25 #[ptr q, .slice a len cap] w fun e w' => e = .returned (.int .i64 (refW l)) ∧ w' = w := by
  have HI := hidd (bIsBatch a len cap l w hT hS)
  clear hT hS
  unfold ptr refW
  cases hb : batchB l
  · rw [hb] at HI
    clear hb
    go_enter Tryz.func25, Tryz.ntmps25
    go_wp2_with fail
    refine HI.out.mono ?_
    rintro e W1 ⟨rfl, rfl⟩
    clear HI
    go_wp2
    go_ret
    exact ⟨rfl, rfl⟩
  · rw [hb] at HI
    clear hb
    go_enter Tryz.func25, Tryz.ntmps25
    go_wp2_with fail
    refine HI.out.mono ?_
    rintro e W1 ⟨rfl, rfl⟩
    clear HI
    go_wp2
    go_ret
    exact ⟨rfl, rfl⟩
theorem WM.away {S : Nat → Prop} {w w' : World} {q p f r : Nat} {V : VW} {T : Nat → Prop} (h : WM w q p f r V T) (hw : Away S w w') (hS : ¬ S q) : WM w' q p f r V T := h.same (hw.block q h.lt hS)
theorem went_sync {D : DkT} (ok : OkD D) : WentD D (syncD D) := ⟨syncD_room ok, sync_stops D, by have := syncD_puts D; omega⟩
set_option maxHeartbeats 1000000 in
theorem bSync (w : World) (p : Nat) (D : DkT) (S : Nat → Prop) (h : OAt w p D S) (hp : D.puts.length ≤ 500000) (q f r : Nat) (V : VW) (T : Nat → Prop) (L : LgT) (hM : WM w q p f r V T) (hW : WP f r V D L) (hTS : ∀ b, T b → ¬ S b) :
    Calls Tryz.prog 11 #[ptr q] w fun e w' => ∃ n D' S' V' T' L', e = .returned (.int .i64 n) ∧ ((n = 0 ∧ L' = syncedL L) ∨ (n = 80 ∧ D'.down = true ∧ L' = L)) ∧ OAt w' p D' S' ∧ WM w' q p f r V' T' ∧ WP f r V' D' L' ∧ (∀ b, S' b → S b ∨ w.heap.size ≤ b) ∧ (∀ b, T' b → T b ∨ w.heap.size ≤ b) ∧ (∀ b, T' b → ¬ S' b) ∧ Away (fun b => S b ∨ T b) w w' ∧ WentD D D' ∧
      (∀ f2 r2, (f + r ≤ f2 ∨ f2 + r2 ≤ f) → (∀ V L, WP f2 r2 V D L → WP f2 r2 V D' L) ∧ (∀ L c, PA f2 r2 D L c → PA f2 r2 D' L c)) := by
  have ok := h.ok
  have SY := hidd (diskC.sync w p D S h)
  obtain ⟨c0, c1, c2, c3, c4, c5⟩ := hM.c
  have HF : Hid (∀ w', (∃ S', OAt w' p (syncD D) S' ∧ ∀ b, S' b → S b ∨ w.heap.size ≤ b) → Away S w w' → ∃ n D' S' V' T' L', syncE D = n ∧ ((n = 0 ∧ L' = syncedL L) ∨ (n = 80 ∧ D'.down = true ∧ L' = L)) ∧ OAt w' p D' S' ∧ WM w' q p f r V' T' ∧ WP f r V' D' L' ∧ (∀ b, S' b → S b ∨ w.heap.size ≤ b) ∧ (∀ b, T' b → T b ∨ w.heap.size ≤ b) ∧ (∀ b, T' b → ¬ S' b) ∧ Away (fun b => S b ∨ T b) w w' ∧ WentD D D' ∧
      (∀ f2 r2, (f + r ≤ f2 ∨ f2 + r2 ≤ f) → (∀ V L, WP f2 r2 V D L → WP f2 r2 V D' L) ∧ (∀ L c, PA f2 r2 D L c → PA f2 r2 D' L c))) := by
    rintro w' ⟨S', k1, k2⟩ k3
    have hq : ¬ S q := hTS q ((hM.mem q).2 rfl)
    have hM' := hM.away k3 hq
    have hTS' : ∀ b, T b → ¬ S' b := fun b e e2 => by
      rcases k2 b e2 with e3 | e3
      · exact hTS b e e3
      · have := hM.lt; have := (hM.mem b).1 e; omega
    have aw : Away (fun b => S b ∨ T b) w w' := ⟨k3.os, k3.tape, k3.output, k3.size, fun k hk hn => k3.block k hk (fun e => hn (.inl e))⟩
    have fr := (FrD.sync (f := f) (r := r) ok).both
    by_cases hd : D.down = true
    · have e1 := (sync_no hd).2
      refine ⟨syncE D, syncD D, S', V, T, L, rfl, .inr ⟨(sync_no hd).1, by rw [e1]; exact hd, rfl⟩, k1, hM', by rw [e1]; exact hW, k2, fun b e => .inl e, hTS', aw, went_sync ok, fr⟩
    · have hd : D.down = false := by simpa using hd
      exact ⟨syncE D, syncD D, S', V, T, _, rfl, .inl ⟨sync_ok hd, rfl⟩, k1, hM', sync_one ok hW hd, k2, fun b e => .inl e, hTS', aw, went_sync ok, fr⟩
  clear hM hW hTS h c1 c2 c3 c4 c5 ok
  unfold ptr
  unfold ptr at SY
  go_enter Tryz.func11, Tryz.ntmps11
  go_wp2_with fail
  refine SY.out.mono ?_
  rintro e w1 ⟨rfl, h1, h2⟩
  obtain ⟨n, D', S', V', T', L', e1, k⟩ := HF.out w1 h1 h2
  have HK := hidd k
  have HE := hidd e1
  clear SY h1 h2 HF k e1
  go_wp2
  go_ret
  exact ⟨n, D', S', V', T', L', by rw [HE.out]; rfl, HK.out⟩
theorem be_take_next (N : Nat) : ∀ (p k : Nat), k < p → (be p N).take (p - k) = (be p N).take (p - (k + 1)) ++ [UInt8.ofNat (N / 256 ^ k % 256)]
  | 0, k, h => by omega
  | p + 1, k, h => by
    by_cases e : k = p
    · subst e
      have e1 : k + 1 - k = 1 := by omega
      have e2 : k + 1 - (k + 1) = 0 := by omega
      rw [e1, e2]
      rfl
    · obtain ⟨j, hj⟩ : ∃ j, p - k = j + 1 := ⟨p - k - 1, by omega⟩
      have e1 : p + 1 - k = (p - k) + 1 := by omega
      have e2 : p + 1 - (k + 1) = (p - (k + 1)) + 1 := by omega
      rw [e1, e2]
      show (UInt8.ofNat (N / 256 ^ p % 256) :: be p N).take (p - k + 1) = (UInt8.ofNat (N / 256 ^ p % 256) :: be p N).take (p - (k + 1) + 1) ++ _
      rw [List.take_succ_cons, List.take_succ_cons, be_take_next N p k (by omega)]
      rfl
theorem shr_any (N j : Nat) (hN : N ≤ 1000000) (W : World) : (Op.shift .shr .i64 (N : Int) .i64 (8 * (j : Int))).run Tryz.prog W = .ok (.int .i64 ((N / 256 ^ j : Nat) : Int)) W := by
  unfold Op.shift
  rw [if_neg (by omega)]
  have hb : IntKind.i64.bits = 64 := rfl
  have e1 : (8 * (j : Int)).toNat = 8 * j := by omega
  rw [hb, e1]
  have hp : ∀ n : Nat, (N : Int).fdiv (2 ^ n) = ((N / 2 ^ n : Nat) : Int) := fun n => by
    rw [Int.fdiv_eq_ediv_of_nonneg _ (by exact Int.le_of_lt (Int.pow_pos (by decide)))]
    have : ((2 : Int) ^ n) = ((2 ^ n : Nat) : Int) := by simp
    rw [this]
    rfl
  have h256 : (256 : Nat) ^ j = 2 ^ (8 * j) := by rw [Nat.pow_mul]
  show Result.ok (Value.int .i64 ((N : Int).fdiv (2 ^ min (8 * j) 64))) W = _
  rw [hp, h256]
  by_cases hj : 8 * j ≤ 64
  · rw [Nat.min_eq_left hj]
  · rw [Nat.min_eq_right (by omega)]
    have h1 : N / 2 ^ 64 = 0 := Nat.div_eq_of_lt (by omega)
    have h2 : N / 2 ^ (8 * j) = 0 := Nat.div_eq_of_lt (Nat.lt_of_lt_of_le (by omega : N < 2 ^ 64) (Nat.pow_le_pow_right (by decide) (by omega)))
    rw [h1, h2]
set_option maxHeartbeats 2000000 in
theorem bNumber (B : Nat) (v : Value) (xs : List UInt8) (N places : Nat) (w : World) (hown : w.ownsRow B 5 1 v xs.length (cellsOf xs)) (hB : B ≤ w.heap.size) (hN : N ≤ 1000000) (hp : places ≤ 15) (hx : xs.length ≤ 1000000000) :
    Calls Tryz.prog 54 #[v, .int .i64 N, .int .i64 places] w fun e w' => ∃ v', e = .returned v' ∧ w'.ownsRow B 5 1 v' (xs ++ be places N).length (cellsOf (xs ++ be places N)) ∧ Below B w w' := by
  obtain ⟨i0, hi, hz0, hz1, hz2⟩ := info_parts info5
  obtain ⟨a0, c0, rfl, hr0⟩ := reads_own hown
  have hc0 : c0 ≤ maxLen := hr0.2.2.1
  have hbl := be_length places N
  have wp := wrap_int ((places : Int) - 1) (by omega) (by omega)
  have HO0 := hidd hown
  clear hown hr0
  go_enter Tryz.func54, Tryz.ntmps54
  go_wp2
  go_loopw [0, 7] (fun v i wr => ∃ k : Nat, k ≤ places ∧ i = .int .i64 ((k : Int) - 1) ∧ wr.ownsRow B 5 1 v (xs.length + (places - k)) (cellsOf (xs ++ (be places N).take (places - k))) ∧ Below B w wr) (fun _ i _ => (intOf i + 1).toNat)
  case atStart => exact ⟨places, Nat.le_refl _, rfl, by simpa using HO0.out, Below.refl _ _⟩
  case round =>
    obtain ⟨k, hk, rfl, hown, hb⟩ := hrel
    by_cases hlt : 0 < k
    · obtain ⟨j, rfl⟩ : ∃ j, k = j + 1 := ⟨k - 1, by omega⟩
      have ej : (((j + 1 : Nat) : Int) - 1) = (j : Int) := by omega
      rw [ej]
      have hd : decide ((0 : Int) ≤ (j : Int)) = true := by rw [decide_eq_true_eq]; omega
      have w8 := wrap_int (8 * (j : Int)) (by omega) (by omega)
      have wj := wrap_int ((j : Int) - 1) (by omega) (by omega)
      have hsh := fun W => shr_any N j hN W
      obtain ⟨m, Hm⟩ : ∃ m, Hid (m = N / 256 ^ j) := ⟨_, hidd rfl⟩
      rw [← Hm.out] at hsh
      have hm : m ≤ 1000000 := by rw [Hm.out]; exact Nat.le_trans (Nat.div_le_self _ _) hN
      go_wp2_with (first
        | (at_builtin; refine wpList_append_own _ rfl (.tmp 14) (.tmp 20) 34 rfl B 5 i0 (.int .u8 0) 1 1 Tryz.underlying34 hi hz0 hz1 hz2 rfl (by decide) _ _ _ rfl (hown.alloc _) ⟨wr.heap.size, 0, none⟩ 1 1 [.int .u8 ((m : Int) % 256)] rfl rfl ?c1 ?c2 ?c3 ?c4 ?c5 ?_)
        | fail)
      case c1 =>
        intro i u hj
        match i, hj with
        | 0, hj => simp at hj; subst hj; simp [Addr.add]
      case c2 => intro u hu; simp at hu; subst hu; rfl
      case c3 => unfold maxLen; omega
      case c4 => omega
      case c5 => have := hb.size; simp; omega
      intro v2 w2 hown2 hgrow2 _
      have hbs := hb.size
      have hb2 : Below B w w2 := (hb.alloc (by omega) _).grown hgrow2 (by simp; omega) (row_low hown)
      have hown3 : w2.ownsRow B 5 1 v2 (xs.length + (places - j)) (cellsOf (xs ++ (be places N).take (places - j))) := by
        have e : cellsOf (xs ++ (be places N).take (places - j)) = cellsOf (xs ++ (be places N).take (places - (j + 1))) ++ [.int .u8 ((m : Int) % 256)] := by
          rw [be_take_next N places j (by omega), ← List.append_assoc, cellsOf_append (xs ++ _)]
          congr 1
          rw [← Hm.out]
          have : (UInt8.ofNat (m % 256)).toNat = m % 256 := by rw [UInt8.toNat_ofNat']; omega
          show [Value.int .u8 (((UInt8.ofNat (m % 256)).toNat : Nat) : Int)] = _
          rw [this]
          rfl
        have e2 : xs.length + (places - j) = xs.length + (places - (j + 1)) + 1 := by omega
        rw [e, e2]; exact hown2
      clear hown2 hgrow2 hown hb Hm
      go_wp2
      go_roundw
      case rel => exact ⟨j, by omega, by go_num, hown3, hb2⟩
      case measure => simp [intOf]
    · obtain rfl : k = 0 := by omega
      have hd : decide ((0 : Int) ≤ (((0 : Nat) : Int) - 1)) = false := by rw [decide_eq_false_iff_not]; omega
      have HO := hidd hown
      have HB := hidd hb
      obtain ⟨a1, c1, e1, hr1⟩ : ∃ a c, u0 = .slice a (xs.length + places) c ∧ c ≤ maxLen := by
        rcases hown.2 with ⟨h1, h2⟩ | ⟨g, cap, cur, h1, _, _, _, h3, _⟩
        · exact ⟨none, 0, by rw [h1]; congr 1; omega, by unfold maxLen; omega⟩
        · exact ⟨_, cap, by rw [h1]; congr 1, h3⟩
      subst e1
      clear hown hb hr1
      go_wp2
      go_ret
      refine ⟨_, rfl, ?_, HB.out⟩
      have := HO.out
      rw [Nat.sub_zero, List.take_of_length_le (by omega)] at this
      rw [List.length_append, hbl]
      exact this
theorem own_byte {w : World} {B n : Nat} {v : Value} {xs : List UInt8} {x : UInt8} {z : Int} (hz : (x.toNat : Int) = z) (h : w.ownsRow B 5 1 v (n + 1) (cellsOf xs ++ [.int .u8 z])) : w.ownsRow B 5 1 v (n + 1) (cellsOf (xs ++ [x])) := by
  rw [cellsOf_append]
  subst hz
  exact h
theorem own_slice {w : World} {B t n : Nat} {v : Value} {xs : List Value} (h : w.ownsRow B t 1 v n xs) : ∃ a c, v = .slice a n c ∧ c ≤ maxLen := by
  rcases h.2 with ⟨h1, h2⟩ | ⟨g, cap, cur, h1, _, _, _, h3, _⟩
  · exact ⟨none, 0, by rw [h1, h2], by unfold maxLen; omega⟩
  · exact ⟨_, cap, h1, h3⟩
theorem laid_next (l : List ByteArray) (k : Nat) (h : k < l.length) : (l.take (k + 1)).flatMap textB = (l.take k).flatMap textB ++ (be 8 l[k].size ++ l[k].data.toList) := by
  rw [take_succ_parts l k h, List.flatMap_append]
  simp [textB]
set_option maxHeartbeats 4000000 in
theorem bLaid (a : Option Addr) (len cap : Nat) (l : List ByteArray) (w : World) (hT : Texts w a len l) (hS : Small 30 4000 l) :
    Calls Tryz.prog 30 #[.slice a len cap] w fun e w' => ∃ v, e = .returned v ∧ w'.ownsRow w.heap.size 5 1 v (laidB l ++ [0]).length (cellsOf (laidB l ++ [0])) ∧ Below w.heap.size w w' := by
  obtain ⟨i0, hi, hz0, hz1, hz2⟩ := info_parts info5
  have hl := hT.1
  have hlen : len ≤ 30 := by have := hS.1; omega
  have hmx0 : len ≤ 9223372036854775807 := by omega
  have HT := hidd hT
  have HS := hidd hS
  have HL := hidd hl
  have CO := hidd (bCost a len cap l w hT (hS.mono (by omega) (by omega)))
  have hcl := costN_le hS.2
  have hcb : costN l ≤ 16 + 30 * 4008 := by
    have h4 : l.length * (8 + 4000) ≤ 30 * (8 + 4000) := Nat.mul_le_mul_right _ hS.1
    omega
  obtain ⟨c, Hc⟩ : ∃ c, Hid (c = costN l) := ⟨_, hidd rfl⟩
  rw [← Hc.out] at CO hcb
  have wc := wrap_int ((c : Int) + 1) (by omega) (by omega)
  have HLL : Hid (∀ k, k ≤ len → (1 :: (be 15 len ++ (l.take k).flatMap textB)).length ≤ 16 + 30 * 4008) := fun k hk => by
    have e1 := laid_length (l.take k)
    have e2 : Small 30 4000 (l.take k) := ⟨by rw [List.length_take]; have := HS.out.1; omega, fun s hs => HS.out.2 s (List.mem_of_mem_take hs)⟩
    have e3 := costN_le e2.2
    have h4 : (l.take k).length * (8 + 4000) ≤ 30 * (8 + 4000) := Nat.mul_le_mul_right _ e2.1
    unfold laidB at e1
    rw [List.length_cons, List.length_append, be_length] at e1 ⊢
    omega
  clear hT hS hl hcl
  go_enter Tryz.func30, Tryz.ntmps30
  go_wp2_with fail
  refine CO.out.mono ?_
  rintro e w1 ⟨rfl, rfl⟩
  clear CO
  go_wp2_with (first
    | ((with_reducible show aD 9 _ _ _ _ _ _ _ _ _ _ _); refine wpList_make_own w1 rfl _ _ 34 rfl w1.heap.size 5 i0 (.int .u8 0) 1 Tryz.underlying34 hi hz0 hz1 .i64 .i64 ((c : Int) + 1) (c + 1) rfl rfl (by omega) (by rw [hz2]; omega) (by unfold maxLen; omega) (Nat.le_refl _) ?_; intro w2 ho2 hg2; have HO2 := hidd ho2; have HB2 := hidd ((Below.refl w1.heap.size w1).grown hg2 (Nat.le_refl _) (by intro k hk; cases hk)); clear ho2 hg2; try simp only [Act.put, pS1, pS2, pS3])
    | ((with_reducible show aD 12 _ _ _ _ _ _ _ _ _ _ _); refine wpList_append_own _ rfl (.tmp 10) (.tmp 11) 34 rfl w1.heap.size 5 i0 (.int .u8 0) 1 1 Tryz.underlying34 hi hz0 hz1 hz2 rfl (by decide) _ _ _ rfl (HO2.out.alloc _) ⟨w2.heap.size, 0, none⟩ 1 1 [.int .u8 1] rfl rfl ?c1 ?c2 ?c3 ?c4 ?c5 ?_)
    | fail)
  case c1 =>
    intro i u hj
    match i, hj with
    | 0, hj => simp at hj; subst hj; simp [Addr.add]
  case c2 => intro u hu; simp at hu; subst hu; rfl
  case c3 => unfold maxLen; omega
  case c4 => omega
  case c5 => have := HB2.out.size; simp; omega
  intro v3 w3 ho3 hg3 _
  have hs2 := HB2.out.size
  have HB3 := hidd ((HB2.out.alloc (by omega) _).grown hg3 (by simp; omega) (row_low HO2.out))
  have HO3 : Hid (w3.ownsRow w1.heap.size 5 1 v3 ([1] : List UInt8).length (cellsOf [1])) := ho3
  obtain ⟨a3, c3, rfl, hc3⟩ := own_slice HO3.out
  clear ho3 hg3 HO2 HB2 hs2
  have NB := hidd (bNumber w1.heap.size _ [1] len 15 w3 HO3.out HB3.out.size (by omega) (by omega) (by show 1 ≤ 1000000000; omega))
  simp only [List.length_cons, List.length_nil, Nat.zero_add] at NB
  go_wp2_with fail
  refine NB.out.mono ?_
  rintro e w4 ⟨v4, rfl, ho4, hb4⟩
  have HB4 := hidd (HB3.out.trans hb4)
  have HO4 := hidd ho4
  obtain ⟨a4, c4, rfl, hc4⟩ := own_slice HO4.out
  clear NB ho4 hb4 HO3 HB3 hc3
  go_wp2
  go_loopw [3, 5, 19] (fun v x i wr => ∃ k : Nat, k ≤ len ∧ i = .int .i64 k ∧ wr.ownsRow w1.heap.size 5 1 v (1 :: (be 15 len ++ (l.take k).flatMap textB)).length (cellsOf (1 :: (be 15 len ++ (l.take k).flatMap textB))) ∧ Below w1.heap.size w1 wr) (fun _ _ i _ => len - (intOf i).toNat)
  case atStart => exact ⟨0, by omega, rfl, by simpa using HO4.out, HB4.out⟩
  case round =>
    obtain ⟨k, hk, rfl, hown, hb⟩ := hrel
    have HO := hidd hown
    have HB := hidd hb
    obtain ⟨a5, c5, e5, hc5⟩ := own_slice HO.out
    subst e5
    clear hown hb HO4 HB4 hc4
    by_cases hlt : k < len
    · obtain ⟨b, off, t, ea, hc, ht⟩ := HT.out.cell k hlt
      have hkl : k < l.length := by have := HL.out; omega
      have htk : t = l[k] := by rw [List.getElem?_eq_getElem hkl] at ht; exact (Option.some.inj ht).symm
      have hts : t.size ≤ 4000 := by rw [htk]; exact HS.out.2 _ (List.getElem_mem hkl)
      have hcr := (HB.out.cell (p := ⟨b, off + k, none⟩) (by have := HT.out.blk_lt b ⟨off, ea, by omega⟩; exact this)).trans hc
      have hd : decide ((k : Int) < (len : Int)) = true := by rw [decide_eq_true_eq]; omega
      have hw1 := wrap_int ((k : Int) + 1) (by omega) (by omega)
      have hmx : t.size ≤ 9223372036854775807 := by omega
      have hn1 := HLL.out k (by omega)
      have HNX : Hid (∀ (v2 : Value) (w2 : World), w2.ownsRow w1.heap.size 5 1 v2 (((1 :: (be 15 len ++ (l.take k).flatMap textB)) ++ be 8 t.size).length + t.size) (cellsOf ((1 :: (be 15 len ++ (l.take k).flatMap textB)) ++ be 8 t.size) ++ Lib.strCells t) → w2.ownsRow w1.heap.size 5 1 v2 (1 :: (be 15 len ++ (l.take (k + 1)).flatMap textB)).length (cellsOf (1 :: (be 15 len ++ (l.take (k + 1)).flatMap textB)))) := by
        intro v2 w2 h2
        have e1 : 1 :: (be 15 len ++ (l.take (k + 1)).flatMap textB) = ((1 :: (be 15 len ++ (l.take k).flatMap textB)) ++ be 8 t.size) ++ t.data.toList := by rw [laid_next l k hkl, ← htk]; simp
        have e2 : (((1 :: (be 15 len ++ (l.take k).flatMap textB)) ++ be 8 t.size) ++ t.data.toList).length = ((1 :: (be 15 len ++ (l.take k).flatMap textB)) ++ be 8 t.size).length + t.size := by rw [List.length_append]; rfl
        rw [e1, cellsOf_append (_ ++ be 8 t.size), ← cellsOf_str, e2]
        exact h2
      obtain ⟨ys, HY⟩ : ∃ ys, Hid (ys = 1 :: (be 15 len ++ (l.take k).flatMap textB)) := ⟨_, hidd rfl⟩
      rw [← HY.out] at HO HNX hn1
      rw [← HY.out]
      subst ea
      have NB := hidd (bNumber w1.heap.size _ ys t.size 8 wr HO.out HB.out.size (by omega) (by omega) (by omega))
      have hl6 : (ys ++ be 8 t.size).length ≤ 200000 := by rw [List.length_append, be_length]; omega
      obtain ⟨zs, HZ⟩ : ∃ zs, Hid (zs = ys ++ be 8 t.size) := ⟨_, hidd rfl⟩
      rw [← HZ.out] at NB HNX hl6
      clear ht htk
      go_wp2_with fail
      refine NB.out.mono ?_
      rintro e w6 ⟨v6, rfl, ho6, hb6⟩
      have HB6 := hidd (HB.out.trans hb6)
      have HO6 := hidd ho6
      obtain ⟨a6, c6, rfl, hc6⟩ := own_slice HO6.out
      clear NB ho6 hb6 HO HB hc5
      go_wp2_with (first
        | ((with_reducible show aD 29 _ _ _ _ _ _ _ _ _ _ _); refine Lib.wpList_append_own_string _ rfl (.tmp 27) (.tmp 28) 34 9 rfl w1.heap.size 5 i0 Tryz.underlying34 Tryz.underlying9 hi hz0 hz1 hz2 _ _ _ rfl HO6.out t rfl (by unfold maxLen; omega) (by omega) HB6.out.size ?_; intro v7 w7 ho7 hg7 _; have HO7 := hidd (HNX.out _ _ ho7); have HB7 := hidd (HB6.out.grown hg7 HB6.out.size (row_low HO6.out)); clear ho7 hg7; try simp only [Act.put, pS1, pS2, pS3])
        | fail)
      go_roundw
      case rel => exact ⟨k + 1, by omega, by go_num, HO7.out, HB7.out⟩
      case measure => simp [intOf]; omega
    · obtain rfl : len = k := by omega
      have hd : decide ((len : Int) < (len : Int)) = false := by rw [decide_eq_false_iff_not]; omega
      have HE : Hid (1 :: (be 15 len ++ (l.take len).flatMap textB) = laidB l) := by show _ = _; rw [List.take_of_length_le (by have := HL.out; omega)]; unfold laidB; rw [HL.out]
      have hn1 := HLL.out len (by omega)
      rw [HE.out] at HO hn1
      rw [HE.out]
      obtain ⟨ys, HY⟩ : ∃ ys, Hid (ys = laidB l) := ⟨_, hidd rfl⟩
      rw [← HY.out] at HO hn1
      rw [← HY.out]
      have hbs := HB.out.size
      go_wp2_with (first
        | ((with_reducible show aD 33 _ _ _ _ _ _ _ _ _ _ _); refine wpList_append_own _ rfl (.tmp 31) (.tmp 32) 34 rfl w1.heap.size 5 i0 (.int .u8 0) 1 1 Tryz.underlying34 hi hz0 hz1 hz2 rfl (by decide) _ _ _ rfl (HO.out.alloc _) ⟨wr.heap.size, 0, none⟩ 1 1 [.int .u8 0] rfl rfl ?c1 ?c2 ?c3 ?c4 ?c5 ?_)
        | fail)
      case c1 =>
        intro i u hj
        match i, hj with
        | 0, hj => simp at hj; subst hj; simp [Addr.add]
      case c2 => intro u hu; simp at hu; subst hu; rfl
      case c3 => unfold maxLen; omega
      case c4 => omega
      case c5 => simp; omega
      intro v8 w8 ho8 hg8 _
      have HB8 := hidd ((HB.out.alloc (by omega) _).grown hg8 (by simp; omega) (row_low HO.out))
      have HO8 := hidd (own_byte (x := 0) (z := 0) rfl ho8)
      obtain ⟨a8, c8, rfl, hc8⟩ := own_slice HO8.out
      clear ho8 hg8 HO HB hc5
      go_wp2
      go_ret
      refine ⟨.slice a8 (ys.length + 1) c8, rfl, ?_, HB8.out⟩
      rw [← HY.out, List.length_append]
      exact HO8.out
theorem bits_or_i64 (a b : Nat) (ha : a < 4294967296) (hb : b < 4294967296) : bits .or .i64 (a : Int) (b : Int) = ((a ||| b : Nat) : Int) := by
  have hx : a ||| b < 2 ^ 32 := Nat.or_lt_two_pow (by omega) (by omega)
  have h1 : (BitVec.ofInt 64 (a : Int)).toNat = a := by
    rw [BitVec.ofInt_natCast, BitVec.toNat_ofNat]; exact Nat.mod_eq_of_lt (by omega)
  have h2 : (BitVec.ofInt 64 (b : Int)).toNat = b := by
    rw [BitVec.ofInt_natCast, BitVec.toNat_ofNat]; exact Nat.mod_eq_of_lt (by omega)
  show IntKind.i64.wrap ((BitVec.ofInt 64 (a : Int) ||| BitVec.ofInt 64 (b : Int)).toNat : Int) = _
  rw [BitVec.toNat_or, h1, h2]
  exact wrap_int _ (by omega) (by omega)
theorem or_next (V b : Nat) (hV : V < 65536) (hb : b < 256) : bits .or .i64 ((V : Int) * 256) (b : Int) = ((256 * V + b : Nat) : Int) := by
  have e : ((V : Int) * 256) = ((V * 256 : Nat) : Int) := by simp
  rw [e, bits_or_i64 _ _ (by omega) (by omega)]
  have h := Nat.shiftLeft_add_eq_or_of_lt (show b < 2 ^ 8 from hb) V
  rw [Nat.shiftLeft_eq] at h
  rw [show V * 256 = V * 2 ^ 8 from rfl, ← h]
  congr 1
  omega
theorem val_take_be (N : Nat) : ∀ (p k : Nat), k ≤ p → val ((be p N).take k) = N / 256 ^ (p - k) % 256 ^ k := by
  intro p k h
  have e : (be p N).take k = be k (N / 256 ^ (p - k)) := by
    induction p generalizing k with
    | zero => obtain rfl : k = 0 := by omega
              rfl
    | succ p ih =>
      cases k with
      | zero => rfl
      | succ k =>
        show (UInt8.ofNat (N / 256 ^ p % 256) :: be p N).take (k + 1) = UInt8.ofNat (N / 256 ^ (p + 1 - (k + 1)) / 256 ^ k % 256) :: be k (N / 256 ^ (p + 1 - (k + 1)))
        have e1 : p + 1 - (k + 1) = p - k := by omega
        have e2 : N / 256 ^ (p - k) / 256 ^ k = N / 256 ^ p := by rw [Nat.div_div_eq_div_mul, ← Nat.pow_add]; congr 2; omega
        rw [List.take_succ_cons, ih k (by omega), e1, e2]
  rw [e, val_be]
theorem val_take_leW (N p k : Nat) (h : k ≤ p) : val ((be p N).take k) ≤ N := by
  rw [val_take_be N p k h]
  exact Nat.le_trans (Nat.mod_le _ _) (Nat.div_le_self _ _)
theorem Reads.byte {w : World} {a : Option Addr} {len cap : Nat} {l : List UInt8} (h : Reads w a len cap l) (k : Nat) (hk : k < len) : ∃ b off x, a = some ⟨b, off, none⟩ ∧ w.cell? ⟨b, off + k, none⟩ = some (.int .u8 ((x : UInt8).toNat : Int)) ∧ l[k]? = some x := by
  obtain ⟨h1, h2, h3, ⟨_, h4⟩ | ⟨_, _, h4⟩ | ⟨b, off, e, hlt, hc⟩⟩ := h
  · omega
  · omega
  · exact ⟨b, off, l[k]'(by omega), e, hc k (by omega), List.getElem?_eq_getElem _⟩
set_option maxHeartbeats 2000000 in
theorem bValue (a : Option Addr) (cap p N most : Nat) (w : World) (hR : Reads w a p cap (be p N)) (hp : p ≤ 15) (hN : N ≤ most) (hm : most ≤ 4000) (hf : N < 256 ^ p) :
    Calls Tryz.prog 94 #[.slice a p cap, .int .i64 most] w fun e w' => e = .returned (.int .i64 N) ∧ w' = w := by
  have HR := hidd hR
  have hmx : p ≤ 9223372036854775807 := by omega
  have HF : Hid (∀ k, k ≤ p → val ((be p N).take k) ≤ N) := fun k hk => val_take_leW N p k hk
  have HE : Hid (val ((be p N).take p) = N) := by
    show _ = _
    rw [List.take_of_length_le (by rw [be_length]; exact Nat.le_refl _), val_be, Nat.mod_eq_of_lt hf]
  clear hR hf
  go_enter Tryz.func94, Tryz.ntmps94
  go_wp2
  go_loop [5, 7, 10] (fun n x i => ∃ k : Nat, k ≤ p ∧ i = .int .i64 k ∧ n = .int .i64 (val ((be p N).take k) : Nat)) (fun _ _ i => p - (intOf i).toNat)
  case atStart => exact ⟨0, by omega, rfl, rfl⟩
  case round =>
    obtain ⟨k, hk, rfl, rfl⟩ := hrel
    by_cases hlt : k < p
    · obtain ⟨b, off, x, rfl, hc, hx⟩ := HR.out.byte k hlt
      have hV := HF.out k hk
      have hV2 := HF.out (k + 1) (by omega)
      have hxl : x.toNat < 256 := x.toNat_lt
      have HN : Hid (val ((be p N).take (k + 1)) = 256 * val ((be p N).take k) + x.toNat) := by
        show _ = _
        have e : (be p N).take (k + 1) = (be p N).take k ++ [x] := by rw [List.take_add_one, hx]; rfl
        rw [e, val_snoc]
      obtain ⟨V, HV⟩ : ∃ V, Hid (V = val ((be p N).take k)) := ⟨_, hidd rfl⟩
      rw [HN.out] at hV2
      rw [← HV.out] at hV hV2 HN
      rw [← HV.out]
      obtain ⟨y, Hy⟩ : ∃ y, Hid (y = x.toNat) := ⟨_, hidd rfl⟩
      rw [← Hy.out] at hxl hV2 HN hc
      have hor := or_next V y (by omega) hxl
      have hd : decide ((k : Int) < (p : Int)) = true := by rw [decide_eq_true_eq]; omega
      have hd2 : decide ((most : Int) < ((256 * V + y : Nat) : Int)) = false := by rw [decide_eq_false_iff_not]; omega
      have hw1 := wrap_int ((k : Int) + 1) (by omega) (by omega)
      have hw2 := wrap_int ((V : Int) * 256) (by omega) (by omega)
      have hw3 := wrap_int (y : Int) (by omega) (by omega)
      clear hx HV Hy
      go_wp2
      go_round
      case rel => exact ⟨k + 1, by omega, by go_num, by rw [HN.out]; go_num⟩
      case measure => simp [intOf]; omega
    · obtain rfl : p = k := by omega
      have hd : decide ((p : Int) < (p : Int)) = false := by rw [decide_eq_false_iff_not]; omega
      go_wp2
      go_ret
      exact ⟨by rw [HE.out]; rfl, rfl⟩
theorem subA_zero (a : Option Addr) (cap : Nat) : subA a cap 0 = a := by
  unfold subA
  cases a with
  | none => split <;> rfl
  | some ad =>
    split
    · rfl
    · cases ad; rfl
theorem Reads.first {W : World} {a : Option Addr} {len cap : Nat} {l : List UInt8} (h : Reads W a len cap l) (n : Nat) (hn : n ≤ len) : Reads W a n cap (l.take n) := by
  have := h.part 0 n (Nat.zero_le _) hn
  rw [subA_zero, Nat.sub_zero, Nat.sub_zero, List.drop_zero] at this
  exact this
theorem Reads.rest {W : World} {a : Option Addr} {len cap : Nat} {l : List UInt8} (h : Reads W a len cap l) (n : Nat) (hn : n ≤ len) : Reads W (subA a cap n) (len - n) (cap - n) (l.drop n) := by
  have := h.part n len hn (Nat.le_refl _)
  rw [List.take_of_length_le (by rw [List.length_drop]; have := h.1; omega)] at this
  exact this
theorem Reads.drew {W : World} {a : Option Addr} {len cap : Nat} {l : List UInt8} (h : Reads W a len cap l) : Reads W.drew a len cap l := h.below ((Below.refl _ _).drew)
set_option maxHeartbeats 2000000 in
theorem bCut (a : Option Addr) (len cap n : Nat) (l : List UInt8) (w : World) (hR : Reads w a len cap l) (hn : n ≤ len) (hl : len ≤ 1000000) :
    Calls Tryz.prog 93 #[.slice a len cap, .int .i64 n] w fun e w' => e = .returned (.tuple #[.slice a n cap, .slice (subA a cap n) (len - n) (cap - n)]) ∧ w' = w.drew := by
  have hc := hR.2.1
  have hmx : len ≤ 9223372036854775807 := by omega
  have hd : decide ((len : Int) < (n : Int)) = false := by rw [decide_eq_false_iff_not]; omega
  have S1 : Hid (∀ W, (Instr.sliceAt 34 (.slice a len cap) none (some (.int .i64 (n : Int))) none).run Tryz.prog W = .ok (.slice a n cap) W) := fun W => by
    have := slice_front W a len cap n (by omega)
    rw [subA_zero] at this
    exact this
  have S2 : Hid (∀ W, (Instr.sliceAt 34 (.slice a len cap) (some (.int .i64 (n : Int))) none none).run Tryz.prog W = .ok (.slice (subA a cap n) (len - n) (cap - n)) W) := fun W => slice_back W a len cap n hn hc
  obtain ⟨a2, H2⟩ : ∃ a2, Hid (a2 = subA a cap n) := ⟨_, hidd rfl⟩
  obtain ⟨m2, Hm2⟩ : ∃ m2, Hid (m2 = len - n) := ⟨_, hidd rfl⟩
  obtain ⟨c2, Hc2⟩ : ∃ c2, Hid (c2 = cap - n) := ⟨_, hidd rfl⟩
  rw [← H2.out, ← Hm2.out, ← Hc2.out] at S2
  rw [← H2.out, ← Hm2.out, ← Hc2.out]
  clear hR H2 Hm2 Hc2
  go_enter Tryz.func93, Tryz.ntmps93
  go_wp2
  refine wp_region_held_drew (S := (fun _ => True)) (by kernel_rfl) trivial (fun hHeld => ?_)
  refine zX 0 (.slice a len cap) rfl hHeld ?_
  try simp only [Act.put, pS1, pS2, pS3]
  refine zX 1 (.int .i64 (n : Int)) rfl hHeld ?_
  try simp only [Act.put, pS1, pS2, pS3]
  refine zW 2 (.slice a n cap) rfl (Or.inl ⟨by rfl, by intro W hSw; have h1 := S1.out W; go_simp⟩) hHeld ?_
  try simp only [Act.put, pS1, pS2, pS3]
  refine zX 3 (.slice a len cap) rfl hHeld ?_
  try simp only [Act.put, pS1, pS2, pS3]
  refine zX 4 (.int .i64 (n : Int)) rfl hHeld ?_
  try simp only [Act.put, pS1, pS2, pS3]
  refine zW 5 (.slice a2 m2 c2) rfl (Or.inl ⟨by rfl, by intro W hSw; have h1 := S2.out W; go_simp⟩) hHeld ?_
  try simp only [Act.put, pS1, pS2, pS3]
  refine zX 6 (.slice a n cap) rfl hHeld ?_
  try simp only [Act.put, pS1, pS2, pS3]
  refine zX 7 (.slice a2 m2 c2) rfl hHeld ?_
  try simp only [Act.put, pS1, pS2, pS3]
  refine wpAnyH_done (by kernel_rfl) ?_ _
  go_wp2
  go_ret2
  exact ⟨rfl, rfl⟩
theorem row_lowT {w : World} {B t n : Nat} {v : Value} {xs : List Value} (h : w.ownsRow B t 1 v n xs) : ∀ k, v.ownBlock = some k → B ≤ k := by
  intro k hk
  rcases h.2 with ⟨rfl, _⟩ | ⟨g, cap, cur, rfl, hb, _⟩
  · cases hk
  · obtain rfl : g = k := Option.some.inj hk
    exact hb
set_option maxHeartbeats 4000000 in
theorem bBatch (a : Option Addr) (len cap : Nat) (l : List ByteArray) (rest : List UInt8) (w : World) (hR : Reads w a len cap (laidB l ++ rest)) (hB : batchB l = true) (hl : len ≤ 1000000) :
    Calls Tryz.prog 73 #[.slice a len cap] w fun e w' => ∃ v, e = .returned v ∧ w'.ownsRow w.heap.size 9 1 v l.length (strL l) ∧ Below w.heap.size w w' := by
  obtain ⟨i0, hi, hz0, hz1, hz2⟩ := info_parts info9T
  obtain ⟨hb1, hb2⟩ := of_decide_eq_true hB
  have hlb := laid_length l
  have hcp := costN_pos l
  have hlen : (laidB l ++ rest).length = len := hR.1
  rw [List.length_append] at hlen
  have HB2 := hidd hb2
  have hcl := hR.2.1
  have CU := hidd (bCut a len cap 16 (laidB l ++ rest) w hR (by omega) hl)
  have e15 := be_length 15 l.length
  have ha : laidB l ++ rest = 1 :: (be 15 l.length ++ (l.flatMap textB ++ rest)) := by unfold laidB; simp
  have hH : Reads w (subA a cap 1) 15 (cap - 1) (be 15 l.length) := by
    have h1 := (hR.first 16 (by omega)).rest 1 (by omega)
    rw [ha, List.take_succ_cons, List.drop_succ_cons, List.drop_zero, List.take_left' (by rw [e15])] at h1
    exact h1
  have VA := hidd (bValue (subA a cap 1) (cap - 1) 15 l.length 1000 w.drew hH.drew (by omega) hb1 (by omega) (by omega))
  have SL : Hid (∀ W, (Instr.sliceAt 34 (.slice a 16 cap) (some (.int .i64 1)) none none).run Tryz.prog W = .ok (.slice (subA a cap 1) 15 (cap - 1)) W) := fun W => slice_back W a 16 cap 1 (by omega) (by omega)
  have HR0 : Hid (Reads w (subA a cap 16) (len - 16) (cap - 16) (l.flatMap textB ++ rest)) := by
    have h1 := hR.rest 16 (by omega)
    rw [ha, List.drop_succ_cons, List.drop_left' (by rw [e15])] at h1
    exact h1
  have hmx : l.length ≤ 9223372036854775807 := by omega
  obtain ⟨n, Hn⟩ : ∃ n, Hid (n = l.length) := ⟨_, hidd rfl⟩
  obtain ⟨a1, A1⟩ : ∃ x, Hid (x = subA a cap 1) := ⟨_, hidd rfl⟩
  obtain ⟨c1, C1⟩ : ∃ x, Hid (x = cap - 1) := ⟨_, hidd rfl⟩
  obtain ⟨a2, A2⟩ : ∃ x, Hid (x = subA a cap 16) := ⟨_, hidd rfl⟩
  obtain ⟨m2, M2⟩ : ∃ x, Hid (x = len - 16) := ⟨_, hidd rfl⟩
  obtain ⟨c2, C2⟩ : ∃ x, Hid (x = cap - 16) := ⟨_, hidd rfl⟩
  have hm2 : m2 ≤ 1000000 := by rw [M2.out]; omega
  rw [← A1.out, ← C1.out] at SL VA
  rw [← A2.out, ← M2.out, ← C2.out] at HR0 CU
  rw [← Hn.out] at VA hmx hb1
  have hn : n ≤ 1000 := hb1
  have hb1 : n ≤ 1000 := hn
  clear hR hB hb2 hlb hcp hlen hcl e15 ha hH A1 C1 A2 M2 C2 hl hn
  go_enter Tryz.func73, Tryz.ntmps73
  go_wp2_with fail
  refine CU.out.mono ?_
  rintro e w1 ⟨rfl, rfl⟩
  clear CU
  have SLo := SL.out
  go_wp2_with fail
  refine VA.out.mono ?_
  rintro e w1 ⟨rfl, rfl⟩
  clear VA SL SLo
  go_wp2
  go_loopw [0, 3, 5, 6, 15] (fun b v x y i wr => ∃ (k : Nat) (aa : Option Addr) (mm cc : Nat), k ≤ n ∧ i = .int .i64 k ∧ b = .slice aa mm cc ∧ mm ≤ 1000000 ∧ Hid (Reads w aa mm cc ((l.drop k).flatMap textB ++ rest)) ∧ Hid (wr.ownsRow w.heap.size 9 1 v k (strL (l.take k))) ∧ Hid (Below w.heap.size w wr)) (fun _ _ _ _ i _ => n - (intOf i).toNat)
  case atStart => exact ⟨0, a2, m2, c2, by omega, rfl, rfl, hm2, HR0, World.ownsRow_nil _ _ 9 1, (Below.refl _ _).drew⟩
  case round =>
    obtain ⟨k, aa, mm, cc, hk, rfl, rfl, hmm, HR, HO, HB⟩ := hrel
    clear HR0 hm2
    by_cases hlt : k < n
    · have hkl : k < l.length := by rw [← Hn.out]; exact hlt
      obtain ⟨s, Hs⟩ : ∃ s, Hid (s = l[k]) := ⟨_, hidd rfl⟩
      have hs4 : s.size ≤ 4000 := by rw [Hs.out]; exact HB2.out _ (List.getElem_mem hkl)
      have hsl : s.data.toList.length = s.size := rfl
      have e8 := be_length 8 s.size
      have eY : (l.drop k).flatMap textB ++ rest = be 8 s.size ++ (s.data.toList ++ ((l.drop (k + 1)).flatMap textB ++ rest)) := by
        rw [List.drop_eq_getElem_cons hkl, List.flatMap_cons, ← Hs.out]
        unfold textB
        simp
      have hlenY : ((l.drop k).flatMap textB ++ rest).length = mm := HR.out.1
      rw [eY, List.length_append, List.length_append, e8, hsl] at hlenY
      have hcc := HR.out.2.1
      have hR2 := HR.out
      rw [eY] at hR2
      have r1 := hR2.first 8 (by omega)
      rw [List.take_left' (by rw [e8])] at r1
      have r2 := hR2.rest 8 (by omega)
      rw [List.drop_left' (by rw [e8])] at r2
      have C1 := hidd (bCut aa mm cc 8 _ wr (hR2.below HB.out) (by omega) hmm)
      have V1 := hidd (bValue aa cc 8 s.size 4000 wr.drew (r1.below HB.out).drew (by omega) hs4 (by omega) (by omega))
      have C2 := hidd (bCut (subA aa cc 8) (mm - 8) (cc - 8) s.size _ wr.drew (r2.below HB.out).drew (by omega) (by omega))
      have r3 := r2.first s.size (by omega)
      rw [List.take_left' hsl] at r3
      have r4 := r2.rest s.size (by omega)
      rw [List.drop_left' hsl] at r4
      have CV := hidd (conv_reads ((r3.below HB.out).drew.drew))
      have hsb : (⟨s.data.toList.toArray⟩ : ByteArray) = s := by cases s; simp
      rw [hsb] at CV
      have hd : decide ((k : Int) < (n : Int)) = true := by rw [decide_eq_true_eq]; omega
      have hw1 := wrap_int ((k : Int) + 1) (by omega) (by omega)
      have HBd := hidd (HB.out.drew.drew)
      have HOd : Hid (wr.drew.drew.ownsRow w.heap.size 9 1 u3 k (strL (l.take k))) := HO.out
      have HR4 := hidd r4
      obtain ⟨m4, M4⟩ : ∃ x, Hid (x = mm - 8 - s.size) := ⟨_, hidd rfl⟩
      obtain ⟨c4, C4⟩ : ∃ x, Hid (x = cc - 8 - s.size) := ⟨_, hidd rfl⟩
      obtain ⟨a4, A4⟩ : ∃ x, Hid (x = subA (subA aa cc 8) (cc - 8) s.size) := ⟨_, hidd rfl⟩
      have hm4 : m4 ≤ 1000000 := by rw [M4.out]; omega
      rw [← A4.out, ← M4.out, ← C4.out] at HR4 C2
      obtain ⟨a3, A3⟩ : ∃ x, Hid (x = subA aa cc 8) := ⟨_, hidd rfl⟩
      obtain ⟨m3, M3⟩ : ∃ x, Hid (x = mm - 8) := ⟨_, hidd rfl⟩
      obtain ⟨c3, C3⟩ : ∃ x, Hid (x = cc - 8) := ⟨_, hidd rfl⟩
      rw [← A3.out, ← M3.out, ← C3.out] at C1 C2
      rw [← A3.out, ← C3.out] at CV
      obtain ⟨a5, c5, e5, hc5⟩ := own_slice HO.out
      subst e5
      have HS1 : Hid (strL (l.take (k + 1)) = strL (l.take k) ++ [.string s]) := by show _ = _; rw [take_succ_parts l k hkl, strL_append, ← Hs.out]; rfl
      have hbs : w.heap.size ≤ wr.heap.size := HBd.out.size
      clear HR HO HB hR2 r1 r2 r3 r4 eY hlenY hsl e8 hsb hcc A3 M3 C3 A4 M4 C4 Hs hkl
      go_wp2_with fail
      refine C1.out.mono ?_
      rintro e w1 ⟨rfl, rfl⟩
      clear C1
      go_wp2_with fail
      refine V1.out.mono ?_
      rintro e w1 ⟨rfl, rfl⟩
      clear V1
      go_wp2_with fail
      refine C2.out.mono ?_
      rintro e w1 ⟨rfl, rfl⟩
      clear C2
      have CVo := CV.out
      go_wp2_with (first
        | ((with_reducible show aD 33 _ _ _ _ _ _ _ _ _ _ _); refine wpList_append_own _ rfl (.tmp 29) (.tmp 32) 31 rfl w.heap.size 9 i0 (.string ⟨#[]⟩) 1 16 Tryz.underlying31 hi hz0 hz1 hz2 rfl (by decide) _ _ _ rfl (HOd.out.alloc _) ⟨wr.heap.size, 0, none⟩ 1 1 [.string s] rfl rfl ?c1 ?c2 ?c3 ?c4 ?c5 ?_)
        | fail)
      case c1 =>
        intro i u hj
        match i, hj with
        | 0, hj => simp at hj; subst hj; simp [Addr.add]
      case c2 => intro u hu; simp at hu; subst hu; rfl
      case c3 => unfold maxLen; omega
      case c4 => omega
      case c5 => simp; omega
      intro v7 w7 ho7 hg7 _
      have HB7 := hidd ((HBd.out.alloc hbs _).grown hg7 (by simp; omega) (row_lowT HOd.out))
      have HO7 : Hid (w7.ownsRow w.heap.size 9 1 v7 (k + 1) (strL (l.take (k + 1)))) := by
        have := ho7
        rw [← HS1.out] at this
        exact this
      obtain ⟨a7, c7, e7, hc7⟩ := own_slice HO7.out
      subst e7
      clear ho7 hg7 CV CVo HOd HBd HS1 hc5
      go_wp2
      go_roundw
      case rel => exact ⟨k + 1, a4, m4, c4, by omega, by go_num, rfl, hm4, HR4, HO7, HB7⟩
      case measure => simp [intOf]; omega
    · obtain rfl : n = k := by omega
      have hd : decide ((n : Int) < (n : Int)) = false := by rw [decide_eq_false_iff_not]; omega
      obtain ⟨a5, c5, e5, hc5⟩ := own_slice HO.out
      subst e5
      clear HR
      go_wp2
      go_ret
      refine ⟨.slice a5 n c5, rfl, ?_, HB.out⟩
      have := HO.out
      rw [List.take_of_length_le (by rw [← Hn.out]; exact Nat.le_refl _)] at this
      rw [← Hn.out]
      exact this
theorem lay_split (bs : List (List ByteArray)) (k : Nat) (h : k < bs.length) : layB bs = layB (bs.take k) ++ (laidB bs[k] ++ layB (bs.drop (k + 1))) := by
  have e : bs = bs.take k ++ bs[k] :: bs.drop (k + 1) := by rw [← List.drop_eq_getElem_cons h, List.take_append_drop]
  have e2 : layB bs = layB (bs.take k ++ bs[k] :: bs.drop (k + 1)) := congrArg layB e
  rw [e2, lay_append]
  rfl
theorem take_next (bs : List (List ByteArray)) (k : Nat) (h : k < bs.length) : bs.take (k + 1) = bs.take k ++ [bs[k]] := by
  rw [List.take_add_one, List.getElem?_eq_getElem h]
  rfl
theorem sumC_take (bs : List (List ByteArray)) (k : Nat) (h : k < bs.length) : sumC (bs.take (k + 1)) = sumC (bs.take k) + costN bs[k] := by rw [take_next bs k h, sumC_append, sumC_one]
theorem sumC_le (bs : List (List ByteArray)) (k : Nat) : sumC (bs.take k) ≤ sumC bs := by
  have := sumC_append (bs.take k) (bs.drop k)
  rw [List.take_append_drop] at this
  omega
theorem own_inT {w : World} {B n : Nat} {t : TypeId} {v : Value} {xs : List Value} (h : w.ownsRow B t 1 v n xs) : ∀ b, v.ownBlock = some b → b < w.heap.size := by
  intro b e
  rcases h.2 with ⟨rfl, _⟩ | ⟨g, cap, cur, rfl, _, hg, _⟩
  · cases e
  · obtain rfl : g = b := Option.some.inj e
    exact heap_lt hg
theorem own_keepT {w w' : World} {B n : Nat} {t : TypeId} {v : Value} {xs : List Value} (h : w.ownsRow B t 1 v n xs) (hb : ∀ b, v.ownBlock = some b → w'.heap[b]? = w.heap[b]?) : w'.ownsRow B t 1 v n xs := by
  refine ⟨h.1, ?_⟩
  rcases h.2 with ⟨rfl, h2⟩ | ⟨g, cap, cur, rfl, h0, hg, h3⟩
  · exact .inl ⟨rfl, h2⟩
  · exact .inr ⟨g, cap, cur, rfl, h0, (hb g rfl).trans hg, h3⟩
theorem small_batch {l : List ByteArray} (h : batchB l = true) : Small 1000000 1000000 l := by
  obtain ⟨h1, h2⟩ := of_decide_eq_true h
  exact ⟨by omega, fun s hs => by have := h2 s hs; omega⟩
set_option maxHeartbeats 4000000 in
theorem bBatches (a : Option Addr) (len cap : Nat) (bs : List (List ByteArray)) (rest : List UInt8) (w : World) (hR : Reads w a len cap (layB bs ++ 0 :: rest)) (hB : ∀ b ∈ bs, batchB b = true) (hl : len ≤ 1000000) :
    Calls Tryz.prog 48 #[.slice a len cap] w fun e w' => ∃ v, e = .returned (.tuple #[v, .int .i64 (sumC bs : Nat)]) ∧ w'.ownsRow w.heap.size 9 1 v bs.flatten.length (strL bs.flatten) ∧ Below w.heap.size w w' := by
  have hlen : (layB bs ++ 0 :: rest).length = len := hR.1
  rw [List.length_append, lay_length, List.length_cons] at hlen
  have HR := hidd hR
  have HB := hidd hB
  have hmx : len ≤ 9223372036854775807 := by omega
  have hcl := hR.2.1
  have wl := wrap_int ((len : Int) - 1) (by omega) (by omega)
  have HLN := hidd hlen
  clear hR hB hlen
  go_enter Tryz.func48, Tryz.ntmps48
  go_wp2
  go_step3
  go_wp2
  go_step3
  go_wp2
  go_loopw [4, 5, 6] (fun v u x wr => ∃ k : Nat, k ≤ bs.length ∧ u = .int .i64 (sumC (bs.take k) : Nat) ∧ Hid (wr.ownsRow w.heap.size 9 1 v (bs.take k).flatten.length (strL (bs.take k).flatten)) ∧ Hid (Below w.heap.size w wr)) (fun _ u _ _ => len - (intOf u).toNat)
  case atStart => exact ⟨0, by omega, rfl, World.ownsRow_nil _ _ 9 1, Below.refl _ _⟩
  case round =>
    obtain ⟨k, hk, rfl, HO, HBW⟩ := hrel
    have hsl := sumC_le bs k
    have hln := HLN.out
    obtain ⟨b, off, x, ea, hc, hx⟩ := HR.out.byte (sumC (bs.take k)) (by omega)
    subst ea
    have hbl : b < w.heap.size := by
      have hcell := hc
      exact World.block_lt_of_cell? _ _ hcell
    replace hc := (HBW.out.cell (p := ⟨b, off + sumC (bs.take k), none⟩) hbl).trans hc
    by_cases hlt : k < bs.length
    · have hbt := HB.out _ (List.getElem_mem hlt)
      have hsn := sumC_take bs k hlt
      have hsl2 := sumC_le bs (k + 1)
      have hcp := costN_pos bs[k]
      have eH : layB bs ++ 0 :: rest = layB (bs.take k) ++ (laidB bs[k] ++ (layB (bs.drop (k + 1)) ++ 0 :: rest)) := by rw [lay_split bs k hlt]; simp
      have hx1 : x = 1 := by
        rw [eH, List.getElem?_append_right (by rw [lay_length]; exact Nat.le_refl _), lay_length, Nat.sub_self] at hx
        exact (Option.some.inj hx).symm
      subst hx1
      have hrd := HR.out.part (sumC (bs.take k)) (len - 1) (by omega) (by omega)
      have eD : ((layB bs ++ 0 :: rest).drop (sumC (bs.take k))).take (len - 1 - sumC (bs.take k)) = laidB bs[k] ++ (layB (bs.drop (k + 1)) ++ 0 :: rest).take (len - 1 - sumC (bs.take k) - costN bs[k]) := by
        rw [eH, List.drop_left' (lay_length _), List.take_append, laid_length, List.take_of_length_le (by rw [laid_length]; omega)]
      rw [eD] at hrd
      obtain ⟨l, Hl⟩ : ∃ l, Hid (l = bs[k]) := ⟨_, hidd rfl⟩
      rw [← Hl.out] at hrd hbt hsn hcp
      have BA := hidd (bBatch _ _ _ l _ wr (hrd.below HBW.out) hbt (by omega))
      have SL : Hid (∀ W, (Instr.sliceAt 34 (.slice (some ⟨b, off, none⟩) len cap) (some (.int .i64 (sumC (bs.take k) : Nat))) (some (.int .i64 ((len : Int) - 1))) none).run Tryz.prog W = .ok (.slice (subA (some ⟨b, off, none⟩) cap (sumC (bs.take k))) (len - 1 - sumC (bs.take k)) (cap - sumC (bs.take k))) W) := fun W => by
        have e1 : ((len : Int) - 1) = ((len - 1 : Nat) : Int) := by omega
        rw [e1]
        exact slice_mid W _ len cap _ (len - 1) (by omega) (by omega)
      have HS1 : Hid ((bs.take (k + 1)).flatten = (bs.take k).flatten ++ l) := by show _ = _; rw [take_next bs k hlt, List.flatten_append, ← Hl.out]; simp
      have hfl := flat_count (bs.take k)
      have hll : l.length ≤ 1000 := (of_decide_eq_true hbt).1
      obtain ⟨u, Hu⟩ : ∃ u, Hid (u = sumC (bs.take k)) := ⟨_, hidd rfl⟩
      obtain ⟨a1, A1⟩ : ∃ z, Hid (z = subA (some ⟨b, off, none⟩) cap (sumC (bs.take k))) := ⟨_, hidd rfl⟩
      obtain ⟨m1, M1⟩ : ∃ z, Hid (z = len - 1 - sumC (bs.take k)) := ⟨_, hidd rfl⟩
      obtain ⟨c1, C1⟩ : ∃ z, Hid (z = cap - sumC (bs.take k)) := ⟨_, hidd rfl⟩
      rw [← A1.out, ← M1.out, ← C1.out] at BA SL
      rw [← Hu.out] at SL hc hsn hsl hfl
      rw [← Hu.out]
      obtain ⟨c, Hc⟩ : ∃ c, Hid (c = costN l) := ⟨_, hidd rfl⟩
      rw [← Hc.out] at hsn hcp
      have wu := wrap_int ((u : Int) + (c : Int)) (by omega) (by omega)
      have CO : Hid (∀ W a n cc, Texts W a n l → Calls Tryz.prog 26 #[.slice a n cc] W fun e w' => e = .returned (.int .i64 (c : Nat)) ∧ w' = W) := fun W a n cc hT => by
        rw [Hc.out]
        exact bCost a n cc l W hT (small_batch hbt)
      have hsz := HBW.out.size
      have hd0 : (((1 : UInt8).toNat : Int) == 0) = false := rfl
      have hc1 : wr.cell? ⟨b, off + u, none⟩ = some (.int .u8 1) := hc
      have hul : u < len := by omega
      obtain ⟨F, HF⟩ : ∃ F, Hid (F = (bs.take k).flatten) := ⟨_, hidd rfl⟩
      rw [← HF.out] at HO hfl HS1
      obtain ⟨a5, c5, e5, hc5⟩ := own_slice HO.out
      subst e5
      clear hx hrd eD eH hc hln HR A1 M1 C1 Hl Hc
      have SLo := SL.out
      go_wp2_with fail
      refine BA.out.mono ?_
      rintro e w2 ⟨v2, rfl, ho2, hb2⟩
      have HT2 := hidd (texts_ownT ho2)
      obtain ⟨a2, c2, rfl, ht2, hn2, hm2, hbl2⟩ := HT2.out
      have HB2 := hidd (HBW.out.trans (hb2.mono hsz))
      have HO1 : Hid (w2.ownsRow w.heap.size 9 1 (.slice a5 F.length c5) F.length (strL F)) := own_keepT HO.out fun g e => hb2.block g (own_inT HO.out g e)
      obtain ⟨v3, w3, hr3, ho3, hg3⟩ := run_append_texts ht2 hn2 w.heap.size F.length 31 _ _ HO1.out (by have := HB2.out.size; omega) (by omega)
      have HB3 := hidd (HB2.out.grown hg3 HB2.out.size (row_lowT HO1.out))
      have HT3 : Hid (Texts w3 a2 l.length l) := ht2.same hg3.size (fun g e => hg3.block g (ht2.blk_lt g e) (fun e3 => by
        have h4 := own_inT HO.out g e3.symm
        have h5 := (hbl2 g e).1
        omega))
      have HO3 : Hid (w3.ownsRow w.heap.size 9 1 v3 (bs.take (k + 1)).flatten.length (strL (bs.take (k + 1)).flatten)) := by
        rw [HS1.out, List.length_append]
        exact ho3
      have hlm : l.length ≤ 9223372036854775807 := by omega
      have HRUN := hidd hr3
      obtain ⟨a3, c3, e3, hc3⟩ := own_slice ho3
      subst e3
      clear BA ho2 hb2 HT2 ht2 hn2 hm2 hbl2 HO HO1 hr3 ho3 hg3 hc5 SL SLo hc1 HBW HS1
      have CO3 := hidd (CO.out w3 a2 l.length c2 HT3.out)
      clear CO
      go_wp2_with (first
        | ((with_reducible show aD 25 _ _ _ _ _ _ _ _ _ _ _); refine wpList_append_run (by rfl) (.tmp 23) (.tmp 24) 31 31 (by rfl) _ _ _ _ (by rfl) (by rfl) HRUN.out ?_)
        | fail)
      refine CO3.out.mono ?_
      rintro e w4 ⟨rfl, rfl⟩
      clear CO3 HRUN
      have HU : Hid (sumC (bs.take (k + 1)) = u + c) := hsn
      clear hsn
      go_wp2
      go_roundw
      case rel => exact ⟨k + 1, by omega, by rw [HU.out]; go_num, HO3, HB3⟩
      case measure => simp [intOf]; omega
    · obtain rfl : k = bs.length := by omega
      have hx0 : x = 0 := by
        rw [List.take_length, List.getElem?_append_right (by rw [lay_length]; exact Nat.le_refl _), lay_length, Nat.sub_self] at hx
        exact (Option.some.inj hx).symm
      subst hx0
      have HOx := HO
      have HU : Hid (sumC (bs.take bs.length) = sumC bs) := by show _ = _; rw [List.take_length]
      have hsb : sumC bs ≤ 1000000 := by omega
      rw [List.take_length] at hc HO
      obtain ⟨u, Hu⟩ : ∃ u, Hid (u = sumC bs) := ⟨_, hidd rfl⟩
      rw [HU.out, ← Hu.out]
      rw [← Hu.out] at hc hln hsb
      rw [HU.out, ← Hu.out] at hsl
      have hul : u < len := by omega
      have hc0 : wr.cell? ⟨b, off + u, none⟩ = some (.int .u8 0) := hc
      obtain ⟨F, HF⟩ : ∃ F, Hid (F = bs.flatten) := ⟨_, hidd rfl⟩
      rw [← HF.out] at HO
      obtain ⟨a5, c5, e5, hc5⟩ := own_slice HO.out
      subst e5
      clear hc hx HOx HR hln hlt
      go_wp2
      try rw [Exit.noGoto_ret]
      go_ret2
      refine ⟨.slice a5 F.length c5, ?_, ?_, HBW.out⟩
      · rw [← Hu.out]; rfl
      · rw [← HF.out]; exact HO.out
theorem assert_errno (x : Int) (W : World) : (Instr.typeAssert (.iface 24 (.int .i64 x)) 20 24 false).run Tryz.prog W = .ok (.int .i64 x) W := by
  simp [Instr.typeAssert, run_underlying Tryz.underlying24]
theorem bCatchNo (p : Addr) (x : Int) (older : List PanicEntry) (w : World) (hc : w.cell? p = some (.int .i64 x)) (hz : w.frozen? p = false) :
    CallsD Tryz.prog 41 #[.pointer (some p)] (.panicking ({ v := .iface 24 (.int .i64 80), recovered := false } :: older)) w fun e u' w' =>
      e = .returned (.tuple #[]) ∧ u' = .panicking ({ v := .iface 24 (.int .i64 80), recovered := true } :: older) ∧ w' = w.setCell p (.int .i64 80) := by
  refine callsD_of_wpS Tryz.func41 rfl fun c₀ cs hu => ?_
  apply wpS_seq
  apply wpS_region
  simp [wpOpsS, go_sem, recoverD, hu, Tryz.ntmps41, Exit.thenS]
  apply wpS_seq
  apply wpS_region
  simp [wpOpsS, go_sem, hu, Exit.thenS]
  refine wpS_cond (t := true) (by simp [Act.eval, Array.replicate]) ?_
  simp only [if_true]
  apply wpS_region
  have hta := assert_errno 80 w
  simp [wpOpsS, go_sem, hc, hz, hta, bodyPostS, results, Tryz.results41]
theorem bCatchOk (p : Addr) (w : World) :
    CallsD Tryz.prog 41 #[.pointer (some p)] .returning w fun e u' w' => e = .returned (.tuple #[]) ∧ u' = .returning ∧ w' = w := by
  refine callsD_of_wpS Tryz.func41 rfl fun c₀ cs hu => ?_
  apply wpS_seq
  apply wpS_region
  simp [wpOpsS, go_sem, recoverD, hu, Tryz.ntmps41, Exit.thenS]
  apply wpS_seq
  apply wpS_region
  simp [wpOpsS, go_sem, hu, Exit.thenS]
  refine wpS_cond (t := false) (by simp [Act.eval, Array.replicate]) ?_
  simp only [Bool.false_eq_true, if_false]
  refine wpS_of_wp (wp_skip ?_)
  cases c₀
  simp_all [bodyPostS, results, Tryz.results41]
set_option maxHeartbeats 1000000 in
theorem bTriedOk (n : Nat) (caps : Array Value) (w : World) (Q : World → Prop) (hn : ∀ W, (callFunc n caps).run Tryz.prog W = .ok (.enter n caps) W) (hc : Hid (Calls Tryz.prog n caps (w.alloc (.cells #[.int .i64 0] 24)) fun e w' => e = .returned (.tuple #[]) ∧ w'.heap[w.heap.size]? = some (.cells #[.int .i64 0] 24 (0, 0)) ∧ Q w')) :
    Calls Tryz.prog 18 #[.func (.func n) #[] caps] w fun e w' => e = .returned (.int .i64 0) ∧ ∃ w0, Q w0 ∧ w' = w0.setCell ⟨w.heap.size, 0, none⟩ (.int .i64 0) := by
  have hmf : ∀ (fn : Fn) (first cap : Array Value) (w : World), (Instr.makeFunc fn first cap).run Tryz.prog w = .ok (.func fn first cap) w := fun _ _ _ _ => rfl
  go_enter_defers Tryz.func18, Tryz.ntmps18
  go_wp2_with fail
  refine hc.out.mono ?_
  rintro e w2 ⟨rfl, h2, hQ⟩
  have HQ := hidd hQ
  clear hQ hc
  have hc2 := cell_of_one h2
  have hf2 := free_of_one h2
  go_wp2
  refine leaves_cons (f := 41) (args := #[.pointer (some ⟨w.heap.size, 0, none⟩)]) (by simp) (by simp [go_sem]) ?_
  refine (bCatchOk ⟨w.heap.size, 0, none⟩ _).mono ?_
  rintro e u' w3 ⟨rfl, rfl, rfl⟩
  have h3 := one_setCell (u := .int .i64 0) h2
  have hc3 := cell_of_one h3
  have hF : ∃ w0, Q w0 ∧ w2.setCell ⟨w.heap.size, 0, none⟩ (.int .i64 0) = w0.setCell ⟨w.heap.size, 0, none⟩ (.int .i64 0) := ⟨w2, HQ.out, rfl⟩
  simp [Leaves, settle, results, Tryz.results18, go_sem, hc3]
  exact hF
set_option maxHeartbeats 1000000 in
theorem bTriedNo (n : Nat) (caps : Array Value) (w : World) (Q : World → Prop) (hn : ∀ W, (callFunc n caps).run Tryz.prog W = .ok (.enter n caps) W) (hc : Hid (Calls Tryz.prog n caps (w.alloc (.cells #[.int .i64 0] 24)) fun e w' => e = gaveUp 80 ∧ w'.heap[w.heap.size]? = some (.cells #[.int .i64 0] 24 (0, 0)) ∧ Q w')) :
    Calls Tryz.prog 18 #[.func (.func n) #[] caps] w fun e w' => e = .returned (.int .i64 80) ∧ ∃ w0, Q w0 ∧ w' = w0.setCell ⟨w.heap.size, 0, none⟩ (.int .i64 80) := by
  have hmf : ∀ (fn : Fn) (first cap : Array Value) (w : World), (Instr.makeFunc fn first cap).run Tryz.prog w = .ok (.func fn first cap) w := fun _ _ _ _ => rfl
  go_enter_defers Tryz.func18, Tryz.ntmps18
  go_wp2_with fail
  refine hc.out.mono ?_
  rintro e w2 ⟨rfl, h2, hQ⟩
  have HQ := hidd hQ
  clear hQ hc
  unfold gaveUp
  refine leaves_cons (f := 41) (args := #[.pointer (some ⟨w.heap.size, 0, none⟩)]) (by simp) (by simp [go_sem]) ?_
  refine (bCatchNo ⟨w.heap.size, 0, none⟩ 0 [] _ (cell_of_one h2) (free_of_one h2)).mono ?_
  rintro e u' w3 ⟨rfl, rfl, rfl⟩
  have h3 := one_setCell (u := .int .i64 80) h2
  have hc3 := cell_of_one h3
  have hF : ∃ w0, Q w0 ∧ w2.setCell ⟨w.heap.size, 0, none⟩ (.int .i64 80) = w0.setCell ⟨w.heap.size, 0, none⟩ (.int .i64 80) := ⟨w2, HQ.out, rfl⟩
  simp [Leaves, settle, results, Tryz.results18, go_sem, hc3]
  exact hF
end Go.Proofs.YtgclohgcehhfnabGreatDoor
