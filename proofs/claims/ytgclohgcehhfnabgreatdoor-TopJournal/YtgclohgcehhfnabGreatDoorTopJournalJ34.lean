/- Texts of our own that the row of TopJournal leans on, part 34. -/
import Derived.Test.YtgclohgcehhfnabGreatDoorTopJournalJ1
import Derived.Test.YtgclohgcehhfnabGreatDoorTopJournalJ8
import Derived.Lib.BufferWrite
import Derived.Laws.AppendOwn
/- The document's disk in memory: what lies at its block; its in, its step. -/
namespace Go.Proofs.YtgclohgcehhfnabGreatDoor
open Go.RowKit Nums
set_option linter.unusedVariables false
set_option linter.unusedSimpArgs false
set_option maxRecDepth 100000
theorem away_grown {w w' : World} {p : Nat} {S : Nat → Prop} (hg : w.grownBy w' (some p)) (hS : S p) : Away S w w' :=
  ⟨hg.os, hg.tape, hg.output, hg.size, fun k hk hs => hg.block k hk (fun e => hs (by rw [Option.some.inj e]; exact hS))⟩
theorem gr_trans {a b c : World} {r : Option Nat} (h : a.grownBy b r) (k : b.grownBy c r) : a.grownBy c r :=
  ⟨k.os.trans h.os, k.tape.trans h.tape, k.output.trans h.output, Nat.le_trans h.size k.size, fun i hi hr => (k.block i (Nat.lt_of_lt_of_le hi h.size) hr).trans (h.block i hi hr)⟩
def foldK (D : DkT) (k : Nat) : List UInt8 := (D.puts.take k).foldl doneB D.safe
theorem foldK_next (D : DkT) (k : Nat) (h : k < D.puts.length) : foldK D (k + 1) = doneB (foldK D k) D.puts[k] := by
  unfold foldK
  rw [List.take_add_one, List.getElem?_eq_getElem h, List.foldl_append]
  rfl
theorem foldK_all (D : DkT) : foldK D D.puts.length = nowB D := by unfold foldK nowB; rw [List.take_of_length_le (Nat.le_refl _)]
theorem foldK_length {D : DkT} (ok : OkD D) (k : Nat) : (foldK D k).length = D.safe.length := fold_length _ _ fun p hp => ok.puts p (List.mem_of_mem_take hp)
end Go.Proofs.YtgclohgcehhfnabGreatDoor
/- What a write wrote over, and going back. -/
namespace Go.Proofs.YtgclohgcehhfnabGreatDoor
set_option linter.unusedVariables false
set_option maxRecDepth 100000
def oldB (s : List UInt8) (p : Nat × List UInt8) : List UInt8 := (s.drop p.1).take p.2.length
theorem oldB_length {s : List UInt8} {p : Nat × List UInt8} (h : p.1 + p.2.length ≤ s.length) : (oldB s p).length = p.2.length := by
  unfold oldB
  rw [List.length_take, List.length_drop]
  omega
theorem doneB_get {s : List UInt8} {p : Nat × List UInt8} (h : p.1 + p.2.length ≤ s.length) (k : Nat) : (doneB s p)[k]? = if p.1 ≤ k ∧ k < p.1 + p.2.length then p.2[k - p.1]? else s[k]? := by
  by_cases hk : p.1 ≤ k ∧ k < p.1 + p.2.length
  · rw [if_pos hk]
    unfold doneB
    have hl : (s.take p.1).length = p.1 := by rw [List.length_take]; omega
    rw [List.append_assoc, List.getElem?_append_right (by omega), hl, List.getElem?_append_left (by omega)]
  · rw [if_neg hk]
    exact doneB_at h k (by omega)
theorem oldB_get {s : List UInt8} {p : Nat × List UInt8} (k : Nat) (hk : k < p.2.length) : (oldB s p)[k]? = s[p.1 + k]? := by
  unfold oldB
  rw [List.getElem?_take_of_lt hk, List.getElem?_drop]
theorem undo_part {s : List UInt8} {p : Nat × List UInt8} (h : p.1 + p.2.length ≤ s.length) (t : Nat) (ht : t ≤ p.2.length) : doneB (doneB s p) (p.1 + t, (oldB s p).drop t) = doneB s (p.1, p.2.take t) := by
  have ho := oldB_length h
  have hl := doneB_length h
  have h1 : (p.1 + t, (oldB s p).drop t).1 + (p.1 + t, (oldB s p).drop t).2.length ≤ (doneB s p).length := by
    show p.1 + t + ((oldB s p).drop t).length ≤ _
    rw [List.length_drop]; omega
  have h2 : (p.1, p.2.take t).1 + (p.1, p.2.take t).2.length ≤ s.length := by
    show p.1 + (p.2.take t).length ≤ _
    rw [List.length_take]; omega
  apply List.ext_getElem?
  intro k
  rw [doneB_get h1 k, doneB_get h2 k, doneB_get h k]
  simp only [List.length_drop, List.length_take, ho]
  have hmin : min t p.2.length = t := by omega
  rw [hmin]
  by_cases a1 : p.1 + t ≤ k ∧ k < p.1 + t + (p.2.length - t)
  · rw [if_pos a1, if_neg (by omega), List.getElem?_drop, oldB_get _ (by omega)]
    congr 1
    omega
  · rw [if_neg a1]
    by_cases a2 : p.1 ≤ k ∧ k < p.1 + t
    · rw [if_pos (by omega), if_pos a2, List.getElem?_take_of_lt (by omega)]
    · rw [if_neg (by omega), if_neg a2]
theorem done_none (s : List UInt8) (q : Nat) : doneB s (q, []) = s := by
  unfold doneB
  show s.take q ++ [] ++ s.drop (q + 0) = s
  simp
theorem undo_done {s : List UInt8} {p : Nat × List UInt8} (h : p.1 + p.2.length ≤ s.length) : doneB (doneB s p) (p.1, oldB s p) = s := by
  have := undo_part h 0 (Nat.zero_le _)
  rw [List.drop_zero, List.take_zero, Nat.add_zero, done_none] at this
  exact this
theorem tornB_nat (b : List UInt8) (torn : Int) : tornB b torn = b.take (max (min torn ((b.length : Int) - 1)) 0).toNat := by
  unfold tornB
  congr 1
  omega
theorem crashL_cut (keep torn : Int) (K : Nat) (hK : (K : Int) = max keep 0) : ∀ (l : List (Nat × List UInt8)) (i : Nat) (s : List UInt8), i ≤ K →
    crashL keep torn i s l = match l[K - i]? with | none => l.foldl doneB s | some p => doneB ((l.take (K - i)).foldl doneB s) (p.1, tornB p.2 torn)
  | [], i, s, _ => rfl
  | p :: r, i, s, hi => by
    show crashL keep torn (i + 1) (crashS keep torn i s p) r = _
    by_cases e : i = K
    · subst e
      have e0 : i - i = 0 := by omega
      rw [e0]
      have hs : crashS keep torn i s p = doneB s (p.1, tornB p.2 torn) := by
        unfold crashS
        rw [if_neg (by omega)]
        by_cases h0 : 0 < p.2.length
        · rw [if_pos ⟨hK, h0⟩]
        · rw [if_neg (fun h => h0 h.2)]
          have : p.2 = [] := List.length_eq_zero_iff.1 (by omega)
          rw [this]
          show s = doneB s (p.1, ([] : List UInt8).take _)
          rw [List.take_nil, done_none]
      rw [hs]
      show crashL keep torn (i + 1) (doneB s (p.1, tornB p.2 torn)) r = doneB s (p.1, tornB p.2 torn)
      have rest : ∀ (r : List (Nat × List UInt8)) (j : Nat) (t : List UInt8), i < j → crashL keep torn j t r = t := by
        intro r
        induction r with
        | nil => intro j t _; rfl
        | cons q r ih =>
          intro j t hj
          show crashL keep torn (j + 1) (crashS keep torn j t q) r = t
          have : crashS keep torn j t q = t := by unfold crashS; rw [if_neg (by omega), if_neg (by omega)]
          rw [this]
          exact ih (j + 1) t (by omega)
      exact rest r (i + 1) _ (by omega)
    · have hs : crashS keep torn i s p = doneB s p := by unfold crashS; rw [if_pos (by omega)]
      rw [hs, crashL_cut keep torn K hK r (i + 1) (doneB s p) (by omega)]
      have e1 : K - i = (K - (i + 1)) + 1 := by omega
      rw [e1, List.getElem?_cons_succ, List.take_succ_cons]
      rfl
theorem crashB_cut (D : DkT) (keep torn : Int) (K : Nat) (hK : (K : Int) = max keep 0) : crashB D keep torn = match D.puts[K]? with | none => nowB D | some p => doneB (foldK D K) (p.1, tornB p.2 torn) := by
  have := crashL_cut keep torn K hK D.puts 0 D.safe (Nat.zero_le _)
  rw [Nat.sub_zero] at this
  exact this
theorem foldK_back {D : DkT} (ok : OkD D) (k : Nat) (h : k < D.puts.length) : doneB (foldK D (k + 1)) (D.puts[k].1, oldB (foldK D k) D.puts[k]) = foldK D k := by
  rw [foldK_next D k h]
  exact undo_done (by rw [foldK_length ok]; exact ok.puts _ (List.getElem_mem h))
theorem foldK_torn {D : DkT} (ok : OkD D) (k : Nat) (h : k < D.puts.length) (t : Nat) (ht : t ≤ D.puts[k].2.length) : doneB (foldK D (k + 1)) (D.puts[k].1 + t, (oldB (foldK D k) D.puts[k]).drop t) = doneB (foldK D k) (D.puts[k].1, D.puts[k].2.take t) := by
  rw [foldK_next D k h]
  exact undo_part (by rw [foldK_length ok]; exact ok.puts _ (List.getElem_mem h)) t ht
def Poss (D : DkT) (s : List UInt8) : Prop := ∃ k t : Int, s = crashB D k t
theorem poss_now (D : DkT) : Poss D (nowB D) := ⟨D.puts.length, 0, (crashB_all 0 (Int.le_refl _)).symm⟩
theorem poss_safe (D : DkT) : Poss D D.safe := ⟨0, 0, (crashB_none D).symm⟩
theorem poss_ext {D D' : DkT} (h1 : D'.safe = D.safe) (h2 : D'.puts = D.puts) {s : List UInt8} (h : Poss D' s) : Poss D s := by
  obtain ⟨k, t, rfl⟩ := h
  exact ⟨k, t, by unfold crashB; rw [h1, h2]⟩
theorem poss_none {D : DkT} (h : D.puts = []) {s : List UInt8} (hs : Poss D s) : s = D.safe := by
  obtain ⟨k, t, rfl⟩ := hs
  unfold crashB
  rw [h]
  rfl
theorem crashL_behind (k t : Int) : ∀ (l : List (Nat × List UInt8)) (i : Nat) (s : List UInt8) (p : Nat × List UInt8), crashL k t i s (l ++ [p]) = crashS k t (i + l.length) (crashL k t i s l) p
  | [], i, s, p => rfl
  | q :: r, i, s, p => by
    show crashL k t (i + 1) (crashS k t i s q) (r ++ [p]) = crashS k t (i + (r.length + 1)) (crashL k t (i + 1) (crashS k t i s q) r) p
    rw [crashL_behind k t r (i + 1)]
    congr 1
    omega
theorem poss_put {D : DkT} {a : Int} {b s : List UInt8} (h : Poss (putD D a b) s) : Poss D s ∨ ∃ t, t ≤ b.length ∧ s = doneB (nowB D) (a.toNat, b.take t) := by
  obtain ⟨k, t, rfl⟩ := h
  have e : crashB (putD D a b) k t = crashS k t D.puts.length (crashB D k t) (a.toNat, b) := by
    show crashL k t 0 D.safe (D.puts ++ [_]) = _
    rw [crashL_behind, Nat.zero_add]
    rfl
  rw [e]
  unfold crashS
  by_cases h1 : (D.puts.length : Int) < k
  · rw [if_pos h1, crashB_all t (by omega)]
    exact .inr ⟨b.length, Nat.le_refl _, by rw [List.take_length]⟩
  · rw [if_neg h1]
    by_cases h2 : (D.puts.length : Int) = max k 0 ∧ 0 < (a.toNat, b).2.length
    · rw [if_pos h2]
      have hn : crashB D k t = nowB D := by
        by_cases hk : (D.puts.length : Int) ≤ k
        · exact crashB_all t hk
        · have h0 : D.puts = [] := List.length_eq_zero_iff.1 (by omega)
          unfold crashB nowB
          rw [h0]
          rfl
      rw [hn]
      exact .inr ⟨(min (max t 0) ((b.length : Int) - 1)).toNat, by omega, rfl⟩
    · rw [if_neg h2]
      exact .inl ⟨k, t, rfl⟩
theorem poss_write {D : DkT} {a : Int} {b s : List UInt8} (h0 : writeE D a b = 0) (h : Poss (writeD D a b) s) : Poss D s ∨ ∃ t, t ≤ b.length ∧ s = doneB (nowB D) (a.toNat, b.take t) := by
  unfold writeD at h
  rw [if_pos h0] at h
  exact poss_put (poss_ext (stepD_safe _).1 (stepD_safe _).2.1 h)
theorem poss_sync {D : DkT} (hd : D.down = false) {s : List UInt8} (h : Poss (syncD D) s) : s = nowB D := by
  unfold syncD at h
  rw [if_neg (by rw [hd]; decide)] at h
  have h' := poss_ext (stepD_safe _).1 (stepD_safe _).2.1 h
  exact poss_none (D := { D with safe := nowB D, puts := [] }) rfl h'
theorem poss_crash {D : DkT} {k t : Int} {s : List UInt8} (h : Poss (crashD D k t) s) : s = crashB D k t := poss_none (D := crashD D k t) rfl h
theorem poss_stop {D : DkT} {n : Int} {s : List UInt8} (h : Poss (stopD D n) s) : Poss D s := poss_ext (stopD_safe D n).1 (stopD_safe D n).2 h
theorem write_down {D : DkT} {a : Int} {b : List UInt8} (h : (writeD D a b).down = false) : D.down = false := by
  rcases writeE_two D a b with ⟨_, hd, _⟩ | ⟨h0, hd⟩ | ⟨_, hd, _⟩
  · exact hd
  · rw [nowB_refused (by omega)] at h; exact h
  · exact hd
theorem sync_down {D : DkT} (h : (syncD D).down = false) : D.down = false := by
  unfold syncD at h
  split at h
  · exact h
  · rename_i hd; simpa using hd
theorem stop_down {D : DkT} {n : Int} (h : (stopD D n).down = false) : D.down = false := by
  unfold stopD at h
  split at h
  · rename_i h0
    unfold stopE at h0
    by_cases hd : D.down = true
    · rw [if_pos hd] at h0; omega
    · simpa using hd
  · exact h
theorem write_ok {D : DkT} {a : Nat} {b : List UInt8} (hd : D.down = false) (ha : a + b.length ≤ D.safe.length) : writeE D a b = 0 := by
  unfold writeE
  rw [if_neg (by rw [hd]; decide), if_pos ((inB_iff _ _ _).2 (by omega))]
theorem write_no {D : DkT} {a : Int} {b : List UInt8} (hd : D.down = true) : writeE D a b = 80 ∧ writeD D a b = D := by
  have h : writeE D a b = 80 := by unfold writeE; rw [if_pos hd]
  exact ⟨h, nowB_refused (by omega)⟩
theorem sync_ok {D : DkT} (hd : D.down = false) : syncE D = 0 := by unfold syncE; rw [if_neg (by rw [hd]; decide)]
theorem sync_no {D : DkT} (hd : D.down = true) : syncE D = 80 ∧ syncD D = D := by unfold syncE syncD; rw [if_pos hd, if_pos hd]; exact ⟨rfl, rfl⟩
theorem write_stops (D : DkT) (a : Int) (b : List UInt8) : (writeD D a b).stops = D.stops := by
  unfold writeD; split
  · exact (stepD_safe _).2.2
  · rfl
theorem sync_stops (D : DkT) : (syncD D).stops = D.stops := by
  unfold syncD; split
  · rfl
  · exact (stepD_safe _).2.2
def sub (s : List UInt8) (f r : Nat) : List UInt8 := (s.drop f).take r
theorem sub_length {s : List UInt8} {f r : Nat} (h : f + r ≤ s.length) : (sub s f r).length = r := by
  unfold sub
  rw [List.length_take, List.length_drop]
  omega
theorem sub_get {s : List UInt8} {f r i : Nat} (h : i < r) : (sub s f r)[i]? = s[f + i]? := by
  unfold sub
  rw [List.getElem?_take_of_lt h, List.getElem?_drop]
theorem sub_done_in {s : List UInt8} {f r a : Nat} {b : List UInt8} (h : f + r ≤ s.length) (ha : a + b.length ≤ r) : sub (doneB s (f + a, b)) f r = doneB (sub s f r) (a, b) := by
  have h1 : (f + a, b).1 + (f + a, b).2.length ≤ s.length := by show f + a + b.length ≤ _; omega
  have h2 : (a, b).1 + (a, b).2.length ≤ (sub s f r).length := by rw [sub_length h]; exact ha
  have hl := doneB_length h1
  apply List.ext_getElem?
  intro i
  by_cases hi : i < r
  · rw [sub_get hi, doneB_get h1, doneB_get h2, sub_get hi]
    show (if f + a ≤ f + i ∧ f + i < f + a + b.length then b[f + i - (f + a)]? else s[f + i]?) = if a ≤ i ∧ i < a + b.length then b[i - a]? else s[f + i]?
    by_cases hc : a ≤ i ∧ i < a + b.length
    · rw [if_pos (by omega), if_pos hc]
      congr 1
      omega
    · rw [if_neg (by omega), if_neg hc]
  · rw [List.getElem?_eq_none (by rw [sub_length (by rw [hl]; exact h)]; omega), List.getElem?_eq_none (by rw [doneB_length h2, sub_length h]; omega)]
theorem sub_done_out {s : List UInt8} {f r a : Nat} {b : List UInt8} (hs : a + b.length ≤ s.length) (h : f + r ≤ a ∨ a + b.length ≤ f) : sub (doneB s (a, b)) f r = sub s f r := by
  unfold sub
  exact part_same f r fun k h1 h2 => doneB_at hs k (by show k < a ∨ a + b.length ≤ k; omega)
structure FrD (f r : Nat) (D D' : DkT) : Prop where
  len : D'.safe.length = D.safe.length
  down : D'.down = false → D.down = false
  poss : ∀ s', Poss D' s' → ∃ s, Poss D s ∧ ∀ f2 r2, (f + r ≤ f2 ∨ f2 + r2 ≤ f) → sub s' f2 r2 = sub s f2 r2
  now : ∀ f2 r2, (f + r ≤ f2 ∨ f2 + r2 ≤ f) → sub (nowB D') f2 r2 = sub (nowB D) f2 r2
theorem FrD.refl (f r : Nat) (D : DkT) : FrD f r D D := ⟨rfl, id, fun s h => ⟨s, h, fun _ _ _ => rfl⟩, fun _ _ _ => rfl⟩
theorem FrD.trans {f r : Nat} {D D1 D2 : DkT} (h : FrD f r D D1) (k : FrD f r D1 D2) : FrD f r D D2 :=
  ⟨k.len.trans h.len, fun e => h.down (k.down e), fun s hs => by
    obtain ⟨s1, h1, e1⟩ := k.poss s hs
    obtain ⟨s2, h2, e2⟩ := h.poss s1 h1
    exact ⟨s2, h2, fun f2 r2 hd => (e1 f2 r2 hd).trans (e2 f2 r2 hd)⟩, fun f2 r2 hd => (k.now f2 r2 hd).trans (h.now f2 r2 hd)⟩
theorem FrD.write {f r : Nat} {D : DkT} (ok : OkD D) (a : Nat) (b : List UInt8) (h1 : f ≤ a) (h2 : a + b.length ≤ f + r) (h3 : f + r ≤ D.safe.length) : FrD f r D (writeD D a b) := by
  by_cases hd : D.down = true
  · rw [(write_no hd).2]; exact FrD.refl f r D
  have hd : D.down = false := by simpa using hd
  have h0 := write_ok (a := a) (b := b) hd (by omega)
  have hn := nowB_length ok
  refine ⟨by rw [writeD_room], write_down, fun s hs => ?_, fun f2 r2 hf => ?_⟩
  · rcases poss_write h0 hs with hs | ⟨t, ht, rfl⟩
    · exact ⟨s, hs, fun _ _ _ => rfl⟩
    · refine ⟨nowB D, poss_now D, fun f2 r2 hf => ?_⟩
      have hl : (b.take t).length ≤ b.length := by rw [List.length_take]; omega
      rw [Int.toNat_natCast]
      exact sub_done_out (by omega) (by omega)
  · rw [nowB_write h0, Int.toNat_natCast]
    exact sub_done_out (by omega) (by omega)
theorem FrD.sync {f r : Nat} {D : DkT} (ok : OkD D) : FrD f r D (syncD D) := by
  by_cases hd : D.down = true
  · rw [(sync_no hd).2]; exact FrD.refl f r D
  have hd : D.down = false := by simpa using hd
  exact ⟨syncD_room ok, sync_down, fun s hs => ⟨nowB D, poss_now D, fun _ _ _ => by rw [poss_sync hd hs]⟩, fun _ _ _ => by rw [nowB_sync]⟩
end Go.Proofs.YtgclohgcehhfnabGreatDoor
