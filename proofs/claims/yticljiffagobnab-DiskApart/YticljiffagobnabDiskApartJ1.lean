/- Texts of our own that the row of DiskApart leans on, part 1. -/
import Derived.Test.YticljiffagobnabProg

/- A disk as the document defines it: what is safe, the writes behind it; whether it has stopped. -/
namespace Go.Proofs.Yticljiffagobnab
set_option linter.unusedVariables false
set_option maxRecDepth 100000
structure DkT where
  safe : List UInt8
  puts : List (Nat × List UInt8)
  down : Bool
  stops : Bool
  left : Int
def newD (n : Nat) : DkT := ⟨List.replicate n 0, [], false, false, 0⟩
/-- Bytes behind a write. -/
def doneB (s : List UInt8) (p : Nat × List UInt8) : List UInt8 := s.take p.1 ++ p.2 ++ s.drop (p.1 + p.2.length)
def nowB (D : DkT) : List UInt8 := D.puts.foldl doneB D.safe
def inB (room : Nat) (at_ n : Int) : Bool := decide (0 ≤ at_ ∧ 0 ≤ n ∧ at_ ≤ room ∧ n ≤ room - at_)
theorem inB_iff (room : Nat) (at_ n : Int) : inB room at_ n = true ↔ (0 ≤ at_ ∧ 0 ≤ n ∧ at_ ≤ room ∧ n ≤ room - at_) := by unfold inB; rw [decide_eq_true_eq]
def stepD (D : DkT) : DkT := if D.stops = true then { D with left := D.left - 1, down := decide (D.left - 1 ≤ 0) } else D
def writeE (D : DkT) (at_ : Int) (b : List UInt8) : Int := if D.down = true then 80 else if inB D.safe.length at_ b.length = true then 0 else 81
def putD (D : DkT) (at_ : Int) (b : List UInt8) : DkT := { D with puts := D.puts ++ [(at_.toNat, b)] }
def writeD (D : DkT) (at_ : Int) (b : List UInt8) : DkT := if writeE D at_ b = 0 then stepD (putD D at_ b) else D
def syncE (D : DkT) : Int := if D.down = true then 80 else 0
def syncD (D : DkT) : DkT := if D.down = true then D else stepD { D with safe := nowB D, puts := [] }
def rdE (D : DkT) (at_ n : Int) : Int := if inB D.safe.length at_ n = true then 0 else 81
def rdB (D : DkT) (at_ n : Int) : List UInt8 := if inB D.safe.length at_ n = true then ((nowB D).drop at_.toNat).take n.toNat else []
def stopE (D : DkT) (n : Int) : Int := if D.down = true then 80 else if 0 ≤ n ∧ n ≤ 1000000 then 0 else 1
def stopD (D : DkT) (n : Int) : DkT := if stopE D n = 0 then { D with stops := true, left := n, down := decide (n = 0) } else D
/-- What a crash does with the pending write number i. -/
def tornB (b : List UInt8) (torn : Int) : List UInt8 := b.take (min (max torn 0) ((b.length : Int) - 1)).toNat
def crashS (keep torn : Int) (i : Nat) (s : List UInt8) (p : Nat × List UInt8) : List UInt8 :=
  if (i : Int) < keep then doneB s p else if (i : Int) = max keep 0 ∧ 0 < p.2.length then doneB s (p.1, tornB p.2 torn) else s
def crashL (keep torn : Int) : Nat → List UInt8 → List (Nat × List UInt8) → List UInt8
  | _, s, [] => s
  | i, s, p :: r => crashL keep torn (i + 1) (crashS keep torn i s p) r
def crashB (D : DkT) (keep torn : Int) : List UInt8 := crashL keep torn 0 D.safe D.puts
def crashD (D : DkT) (keep torn : Int) : DkT := { D with safe := crashB D keep torn, puts := [], down := false, stops := false }
/-! What a disk keeps to. -/
structure OkD (D : DkT) : Prop where
  room : 1 ≤ D.safe.length ∧ D.safe.length ≤ 1000000
  puts : ∀ p ∈ D.puts, p.1 + p.2.length ≤ D.safe.length
  left : 0 ≤ D.left ∧ D.left ≤ 1000000
  stop : D.stops = true → D.down = false → 1 ≤ D.left
theorem doneB_length {s : List UInt8} {p : Nat × List UInt8} (h : p.1 + p.2.length ≤ s.length) : (doneB s p).length = s.length := by
  unfold doneB
  rw [List.length_append, List.length_append, List.length_take, List.length_drop]
  omega
theorem fold_length : ∀ (l : List (Nat × List UInt8)) (s : List UInt8), (∀ p ∈ l, p.1 + p.2.length ≤ s.length) → (l.foldl doneB s).length = s.length
  | [], _, _ => rfl
  | p :: r, s, h => by
    have h1 := doneB_length (h p (List.mem_cons_self ..))
    show (r.foldl doneB (doneB s p)).length = _
    rw [fold_length r (doneB s p) fun q hq => by rw [h1]; exact h q (List.mem_cons_of_mem _ hq), h1]
theorem nowB_length {D : DkT} (h : OkD D) : (nowB D).length = D.safe.length := fold_length _ _ h.puts
theorem newD_ok (n : Nat) (h : 1 ≤ n ∧ n ≤ 1000000) : OkD (newD n) :=
  ⟨by show 1 ≤ (List.replicate n (0 : UInt8)).length ∧ (List.replicate n (0 : UInt8)).length ≤ _; rw [List.length_replicate]; exact h, (fun p hp => by cases hp), ⟨Int.le_refl _, by show (0 : Int) ≤ 1000000; omega⟩, fun hs => by cases hs⟩
theorem stepD_ok {D : DkT} (h : OkD D) (hd : D.down = false) : OkD (stepD D) := by
  unfold stepD
  split
  · rename_i hs
    have h1 := h.stop hs hd
    have h2 := h.left
    exact ⟨h.room, h.puts, ⟨by show 0 ≤ D.left - 1; omega, by show D.left - 1 ≤ _; omega⟩, fun _ hh => by
      have : ¬ D.left - 1 ≤ 0 := by simpa using hh
      show 1 ≤ D.left - 1; omega⟩
  · exact h
theorem stepD_safe (D : DkT) : (stepD D).safe = D.safe ∧ (stepD D).puts = D.puts ∧ (stepD D).stops = D.stops := by
  unfold stepD; split <;> exact ⟨rfl, rfl, rfl⟩
theorem stepD_now (D : DkT) : nowB (stepD D) = nowB D := by unfold nowB; rw [(stepD_safe D).1, (stepD_safe D).2.1]
theorem writeE_two (D : DkT) (at_ : Int) (b : List UInt8) : (writeE D at_ b = 0 ∧ D.down = false ∧ inB D.safe.length at_ b.length = true) ∨ (writeE D at_ b = 80 ∧ D.down = true) ∨ (writeE D at_ b = 81 ∧ D.down = false ∧ inB D.safe.length at_ b.length = false) := by
  unfold writeE
  cases D.down
  · cases inB D.safe.length at_ b.length
    · exact .inr (.inr ⟨rfl, rfl, rfl⟩)
    · exact .inl ⟨rfl, rfl, rfl⟩
  · exact .inr (.inl ⟨rfl, rfl⟩)
theorem putD_ok {D : DkT} (h : OkD D) (at_ : Int) (b : List UInt8) (hi : inB D.safe.length at_ b.length = true) : OkD (putD D at_ b) := by
  refine ⟨h.room, fun p hp => ?_, h.left, h.stop⟩
  rcases List.mem_append.1 hp with hp | hp
  · exact h.puts p hp
  · obtain rfl : p = (at_.toNat, b) := by simpa using hp
    have := (inB_iff _ _ _).1 hi
    show at_.toNat + b.length ≤ D.safe.length
    omega
theorem writeD_ok {D : DkT} (h : OkD D) (at_ : Int) (b : List UInt8) : OkD (writeD D at_ b) := by
  unfold writeD
  rcases writeE_two D at_ b with ⟨h0, hd, hi⟩ | ⟨h0, _⟩ | ⟨h0, _⟩
  · rw [if_pos h0]; exact stepD_ok (putD_ok h at_ b hi) hd
  · rw [if_neg (by omega)]; exact h
  · rw [if_neg (by omega)]; exact h
theorem syncD_ok {D : DkT} (h : OkD D) : OkD (syncD D) := by
  unfold syncD
  split
  · exact h
  · rename_i hd
    have hl := nowB_length h
    exact stepD_ok (D := { D with safe := nowB D, puts := [] }) ⟨by show 1 ≤ (nowB D).length ∧ (nowB D).length ≤ _; rw [hl]; exact h.room, (fun p hp => by cases hp), h.left, h.stop⟩ (by simpa using hd)
theorem stopD_ok {D : DkT} (h : OkD D) (n : Int) : OkD (stopD D n) := by
  unfold stopD
  split
  · rename_i h0
    have hn : 0 ≤ n ∧ n ≤ 1000000 := by
      unfold stopE at h0
      by_cases hd : D.down = true
      · rw [if_pos hd] at h0; omega
      · rw [if_neg hd] at h0
        by_cases hh : 0 ≤ n ∧ n ≤ 1000000
        · exact hh
        · rw [if_neg hh] at h0; omega
    exact ⟨h.room, h.puts, hn, fun _ hh => by
      have : ¬ n = 0 := by simpa using hh
      show 1 ≤ n; omega⟩
  · exact h
theorem tornB_length (b : List UInt8) (torn : Int) : (tornB b torn).length ≤ b.length := by unfold tornB; rw [List.length_take]; omega
theorem crashS_length {keep torn : Int} {i : Nat} {s : List UInt8} {p : Nat × List UInt8} (h : p.1 + p.2.length ≤ s.length) : (crashS keep torn i s p).length = s.length := by
  have := tornB_length p.2 torn
  unfold crashS
  split
  · exact doneB_length h
  · split
    · exact doneB_length (by show p.1 + (tornB p.2 torn).length ≤ _; omega)
    · rfl
theorem crashL_length (keep torn : Int) : ∀ (l : List (Nat × List UInt8)) (i : Nat) (s : List UInt8), (∀ p ∈ l, p.1 + p.2.length ≤ s.length) → (crashL keep torn i s l).length = s.length
  | [], _, _, _ => rfl
  | p :: r, i, s, h => by
    have h1 := crashS_length (keep := keep) (torn := torn) (i := i) (h p (List.mem_cons_self ..))
    show (crashL keep torn (i + 1) (crashS keep torn i s p) r).length = _
    rw [crashL_length keep torn r (i + 1) _ fun q hq => by rw [h1]; exact h q (List.mem_cons_of_mem _ hq), h1]
theorem crashB_length {D : DkT} (h : OkD D) (keep torn : Int) : (crashB D keep torn).length = D.safe.length := crashL_length keep torn _ 0 _ h.puts
theorem crashD_ok {D : DkT} (h : OkD D) (keep torn : Int) : OkD (crashD D keep torn) :=
  ⟨by show 1 ≤ (crashB D keep torn).length ∧ (crashB D keep torn).length ≤ _; rw [crashB_length h]; exact h.room, (fun p hp => by cases hp), h.left, fun hs => by cases hs⟩
/-! The room stays. -/
theorem writeD_room (D : DkT) (at_ : Int) (b : List UInt8) : (writeD D at_ b).safe = D.safe := by
  unfold writeD; split
  · exact (stepD_safe _).1
  · rfl
theorem syncD_room {D : DkT} (h : OkD D) : (syncD D).safe.length = D.safe.length := by
  unfold syncD; split
  · rfl
  · rw [(stepD_safe _).1]; exact nowB_length h
theorem stopD_safe (D : DkT) (n : Int) : (stopD D n).safe = D.safe ∧ (stopD D n).puts = D.puts := by unfold stopD; split <;> exact ⟨rfl, rfl⟩
theorem crashD_room {D : DkT} (h : OkD D) (keep torn : Int) : (crashD D keep torn).safe.length = D.safe.length := crashB_length h keep torn
theorem writeD_puts (D : DkT) (at_ : Int) (b : List UInt8) : (writeD D at_ b).puts.length ≤ D.puts.length + 1 := by
  unfold writeD; split
  · rw [(stepD_safe _).2.1]; show (D.puts ++ [_]).length ≤ _; rw [List.length_append]; exact Nat.le_refl _
  · omega
theorem syncD_puts (D : DkT) : (syncD D).puts.length ≤ D.puts.length := by
  unfold syncD; split
  · exact Nat.le_refl _
  · rw [(stepD_safe _).2.1]; exact Nat.zero_le _
/-! Reading what was written. -/
theorem nowB_put (D : DkT) (at_ : Int) (b : List UInt8) : nowB (putD D at_ b) = doneB (nowB D) (at_.toNat, b) := by
  unfold nowB putD
  show (D.puts ++ [_]).foldl doneB D.safe = _
  rw [List.foldl_append]
  rfl
theorem nowB_write {D : DkT} {at_ : Int} {b : List UInt8} (h : writeE D at_ b = 0) : nowB (writeD D at_ b) = doneB (nowB D) (at_.toNat, b) := by
  unfold writeD; rw [if_pos h, stepD_now, nowB_put]
theorem nowB_refused {D : DkT} {at_ : Int} {b : List UInt8} (h : writeE D at_ b ≠ 0) : writeD D at_ b = D := by
  unfold writeD; rw [if_neg h]
/-- A place within a write, one outside it. -/
theorem doneB_in {s : List UInt8} {p : Nat × List UInt8} (h : p.1 + p.2.length ≤ s.length) : ((doneB s p).drop p.1).take p.2.length = p.2 := by
  unfold doneB
  rw [List.append_assoc, List.drop_left' (by rw [List.length_take]; omega), List.take_left' rfl]
theorem doneB_at {s : List UInt8} {p : Nat × List UInt8} (h : p.1 + p.2.length ≤ s.length) (k : Nat) (hk : k < p.1 ∨ p.1 + p.2.length ≤ k) : (doneB s p)[k]? = s[k]? := by
  unfold doneB
  have hl : (s.take p.1).length = p.1 := by rw [List.length_take]; omega
  rcases hk with hk | hk
  · rw [List.append_assoc, List.getElem?_append_left (by omega), List.getElem?_take_of_lt hk]
  · rw [List.getElem?_append_right (by rw [List.length_append]; omega), List.length_append, hl, List.getElem?_drop]
    congr 1
    omega
/-- A part that no write touches. -/
theorem part_same {a b : List UInt8} (n m : Nat) (h : ∀ k, n ≤ k → k < n + m → a[k]? = b[k]?) : (a.drop n).take m = (b.drop n).take m := by
  apply List.ext_getElem?
  intro i
  by_cases hi : i < m
  · rw [List.getElem?_take_of_lt hi, List.getElem?_take_of_lt hi, List.getElem?_drop, List.getElem?_drop]
    exact h (n + i) (by omega) (by omega)
  · rw [List.getElem?_eq_none (by rw [List.length_take]; omega), List.getElem?_eq_none (by rw [List.length_take]; omega)]
end Go.Proofs.Yticljiffagobnab

/- Numbers that an int holds. -/
namespace Go.Proofs.Yticljiffagobnab
set_option maxRecDepth 100000
def In64 (z : Int) : Prop := -9223372036854775808 ≤ z ∧ z ≤ 9223372036854775807
end Go.Proofs.Yticljiffagobnab
