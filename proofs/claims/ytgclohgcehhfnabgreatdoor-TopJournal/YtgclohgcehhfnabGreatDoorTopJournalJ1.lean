/- Texts of our own that the row of TopJournal leans on, part 1. -/
import Derived.Test.YtgclohgcehhfnabGreatDoorProg
/- A disk as the document defines it: what is safe, the writes behind it; whether it has stopped. -/
namespace Go.Proofs.YtgclohgcehhfnabGreatDoor
set_option linter.unusedVariables false
set_option maxRecDepth 100000
structure DkT where
  safe : List UInt8
  puts : List (Nat × List UInt8)
  down : Bool
  stops : Bool
  left : Int
def newD (n : Nat) : DkT := ⟨List.replicate n 0, [], false, false, 0⟩
def doneB (s : List UInt8) (p : Nat × List UInt8) : List UInt8 := s.take p.1 ++ p.2 ++ s.drop (p.1 + p.2.length)
def nowB (D : DkT) : List UInt8 := D.puts.foldl doneB D.safe
def inB (room : Nat) (at_ n : Int) : Bool := decide (0 ≤ at_ ∧ 0 ≤ n ∧ at_ ≤ room ∧ n ≤ room - at_)
theorem inB_iff (room : Nat) (at_ n : Int) : inB room at_ n = true ↔ (0 ≤ at_ ∧ 0 ≤ n ∧ at_ ≤ room ∧ n ≤ room - at_) := by unfold inB; rw [decide_eq_true_eq]
def stepD (D : DkT) : DkT := if D.stops = true then { D with left := D.left - 1, down := decide (D.left - 1 ≤ 0) } else D
def writeE (D : DkT) (at_ : Int) (b : List UInt8) : Int := if D.down = true then 80 else if inB D.safe.length at_ b.length = true then 0 else 81
def putD (D : DkT) (at_ : Int) (b : List UInt8) : DkT := { D with puts := D.puts ++ [(at_.toNat, b)] }
def writeD (D : DkT) (at_ : Int) (b : List UInt8) : DkT := if writeE D at_ b = 0 then stepD (putD D at_ b) else D
def syncE (D : DkT) : Int := if D.down = true then 80 else 0
def syncD (D : DkT) : DkT := if D.down = true then D else stepD { D with safe := nowB D, puts := [] }
def rdE (D : DkT) (at_ n : Int) : Int := if inB D.safe.length at_ n = true then 0 else 81
def rdB (D : DkT) (at_ n : Int) : List UInt8 := if inB D.safe.length at_ n = true then ((nowB D).drop at_.toNat).take n.toNat else []
def stopE (D : DkT) (n : Int) : Int := if D.down = true then 80 else if 0 ≤ n ∧ n ≤ 1000000 then 0 else 1
def stopD (D : DkT) (n : Int) : DkT := if stopE D n = 0 then { D with stops := true, left := n, down := decide (n = 0) } else D
def tornB (b : List UInt8) (torn : Int) : List UInt8 := b.take (min (max torn 0) ((b.length : Int) - 1)).toNat
def crashS (keep torn : Int) (i : Nat) (s : List UInt8) (p : Nat × List UInt8) : List UInt8 :=
  if (i : Int) < keep then doneB s p else if (i : Int) = max keep 0 ∧ 0 < p.2.length then doneB s (p.1, tornB p.2 torn) else s
def crashL (keep torn : Int) : Nat → List UInt8 → List (Nat × List UInt8) → List UInt8
  | _, s, [] => s
  | i, s, p :: r => crashL keep torn (i + 1) (crashS keep torn i s p) r
def crashB (D : DkT) (keep torn : Int) : List UInt8 := crashL keep torn 0 D.safe D.puts
def crashD (D : DkT) (keep torn : Int) : DkT := { D with safe := crashB D keep torn, puts := [], down := false, stops := false }
structure OkD (D : DkT) : Prop where
  room : 1 ≤ D.safe.length ∧ D.safe.length ≤ 1000000
  puts : ∀ p ∈ D.puts, p.1 + p.2.length ≤ D.safe.length
  left : 0 ≤ D.left ∧ D.left ≤ 1000000
  stop : D.stops = true → D.down = false → 1 ≤ D.left
theorem doneB_length {s : List UInt8} {p : Nat × List UInt8} (h : p.1 + p.2.length ≤ s.length) : (doneB s p).length = s.length := by
  unfold doneB
  rw [List.length_append, List.length_append, List.length_take, List.length_drop]
  omega
theorem fold_length : ∀ (l : List (Nat × List UInt8)) (s : List UInt8), (∀ p ∈ l, p.1 + p.2.length ≤ s.length) → (l.foldl doneB s).length = s.length
  | [], _, _ => rfl
  | p :: r, s, h => by
    have h1 := doneB_length (h p (List.mem_cons_self ..))
    show (r.foldl doneB (doneB s p)).length = _
    rw [fold_length r (doneB s p) fun q hq => by rw [h1]; exact h q (List.mem_cons_of_mem _ hq), h1]
theorem nowB_length {D : DkT} (h : OkD D) : (nowB D).length = D.safe.length := fold_length _ _ h.puts
theorem newD_ok (n : Nat) (h : 1 ≤ n ∧ n ≤ 1000000) : OkD (newD n) :=
  ⟨by show 1 ≤ (List.replicate n (0 : UInt8)).length ∧ (List.replicate n (0 : UInt8)).length ≤ _; rw [List.length_replicate]; exact h, (fun p hp => by cases hp), ⟨Int.le_refl _, by show (0 : Int) ≤ 1000000; omega⟩, fun hs => by cases hs⟩
theorem stepD_ok {D : DkT} (h : OkD D) (hd : D.down = false) : OkD (stepD D) := by
  unfold stepD
  split
  · rename_i hs
    have h1 := h.stop hs hd
    have h2 := h.left
    exact ⟨h.room, h.puts, ⟨by show 0 ≤ D.left - 1; omega, by show D.left - 1 ≤ _; omega⟩, fun _ hh => by
      have : ¬ D.left - 1 ≤ 0 := by simpa using hh
      show 1 ≤ D.left - 1; omega⟩
  · exact h
theorem stepD_safe (D : DkT) : (stepD D).safe = D.safe ∧ (stepD D).puts = D.puts ∧ (stepD D).stops = D.stops := by
  unfold stepD; split <;> exact ⟨rfl, rfl, rfl⟩
theorem stepD_now (D : DkT) : nowB (stepD D) = nowB D := by unfold nowB; rw [(stepD_safe D).1, (stepD_safe D).2.1]
theorem writeE_two (D : DkT) (at_ : Int) (b : List UInt8) : (writeE D at_ b = 0 ∧ D.down = false ∧ inB D.safe.length at_ b.length = true) ∨ (writeE D at_ b = 80 ∧ D.down = true) ∨ (writeE D at_ b = 81 ∧ D.down = false ∧ inB D.safe.length at_ b.length = false) := by
  unfold writeE
  cases D.down
  · cases inB D.safe.length at_ b.length
    · exact .inr (.inr ⟨rfl, rfl, rfl⟩)
    · exact .inl ⟨rfl, rfl, rfl⟩
  · exact .inr (.inl ⟨rfl, rfl⟩)
theorem putD_ok {D : DkT} (h : OkD D) (at_ : Int) (b : List UInt8) (hi : inB D.safe.length at_ b.length = true) : OkD (putD D at_ b) := by
  refine ⟨h.room, fun p hp => ?_, h.left, h.stop⟩
  rcases List.mem_append.1 hp with hp | hp
  · exact h.puts p hp
  · obtain rfl : p = (at_.toNat, b) := by simpa using hp
    have := (inB_iff _ _ _).1 hi
    show at_.toNat + b.length ≤ D.safe.length
    omega
theorem writeD_ok {D : DkT} (h : OkD D) (at_ : Int) (b : List UInt8) : OkD (writeD D at_ b) := by
  unfold writeD
  rcases writeE_two D at_ b with ⟨h0, hd, hi⟩ | ⟨h0, _⟩ | ⟨h0, _⟩
  · rw [if_pos h0]; exact stepD_ok (putD_ok h at_ b hi) hd
  · rw [if_neg (by omega)]; exact h
  · rw [if_neg (by omega)]; exact h
theorem syncD_ok {D : DkT} (h : OkD D) : OkD (syncD D) := by
  unfold syncD
  split
  · exact h
  · rename_i hd
    have hl := nowB_length h
    exact stepD_ok (D := { D with safe := nowB D, puts := [] }) ⟨by show 1 ≤ (nowB D).length ∧ (nowB D).length ≤ _; rw [hl]; exact h.room, (fun p hp => by cases hp), h.left, h.stop⟩ (by simpa using hd)
theorem tornB_length (b : List UInt8) (torn : Int) : (tornB b torn).length ≤ b.length := by unfold tornB; rw [List.length_take]; omega
theorem crashS_length {keep torn : Int} {i : Nat} {s : List UInt8} {p : Nat × List UInt8} (h : p.1 + p.2.length ≤ s.length) : (crashS keep torn i s p).length = s.length := by
  have := tornB_length p.2 torn
  unfold crashS
  split
  · exact doneB_length h
  · split
    · exact doneB_length (by show p.1 + (tornB p.2 torn).length ≤ _; omega)
    · rfl
theorem crashL_length (keep torn : Int) : ∀ (l : List (Nat × List UInt8)) (i : Nat) (s : List UInt8), (∀ p ∈ l, p.1 + p.2.length ≤ s.length) → (crashL keep torn i s l).length = s.length
  | [], _, _, _ => rfl
  | p :: r, i, s, h => by
    have h1 := crashS_length (keep := keep) (torn := torn) (i := i) (h p (List.mem_cons_self ..))
    show (crashL keep torn (i + 1) (crashS keep torn i s p) r).length = _
    rw [crashL_length keep torn r (i + 1) _ fun q hq => by rw [h1]; exact h q (List.mem_cons_of_mem _ hq), h1]
theorem crashB_length {D : DkT} (h : OkD D) (keep torn : Int) : (crashB D keep torn).length = D.safe.length := crashL_length keep torn _ 0 _ h.puts
theorem crashD_ok {D : DkT} (h : OkD D) (keep torn : Int) : OkD (crashD D keep torn) :=
  ⟨by show 1 ≤ (crashB D keep torn).length ∧ (crashB D keep torn).length ≤ _; rw [crashB_length h]; exact h.room, (fun p hp => by cases hp), h.left, fun hs => by cases hs⟩
theorem writeD_room (D : DkT) (at_ : Int) (b : List UInt8) : (writeD D at_ b).safe = D.safe := by
  unfold writeD; split
  · exact (stepD_safe _).1
  · rfl
theorem syncD_room {D : DkT} (h : OkD D) : (syncD D).safe.length = D.safe.length := by
  unfold syncD; split
  · rfl
  · rw [(stepD_safe _).1]; exact nowB_length h
theorem stopD_safe (D : DkT) (n : Int) : (stopD D n).safe = D.safe ∧ (stopD D n).puts = D.puts := by unfold stopD; split <;> exact ⟨rfl, rfl⟩
theorem crashD_room {D : DkT} (h : OkD D) (keep torn : Int) : (crashD D keep torn).safe.length = D.safe.length := crashB_length h keep torn
theorem writeD_puts (D : DkT) (at_ : Int) (b : List UInt8) : (writeD D at_ b).puts.length ≤ D.puts.length + 1 := by
  unfold writeD; split
  · rw [(stepD_safe _).2.1]; show (D.puts ++ [_]).length ≤ _; rw [List.length_append]; exact Nat.le_refl _
  · omega
theorem syncD_puts (D : DkT) : (syncD D).puts.length ≤ D.puts.length := by
  unfold syncD; split
  · exact Nat.le_refl _
  · rw [(stepD_safe _).2.1]; exact Nat.zero_le _
theorem nowB_put (D : DkT) (at_ : Int) (b : List UInt8) : nowB (putD D at_ b) = doneB (nowB D) (at_.toNat, b) := by
  unfold nowB putD
  show (D.puts ++ [_]).foldl doneB D.safe = _
  rw [List.foldl_append]
  rfl
theorem nowB_write {D : DkT} {at_ : Int} {b : List UInt8} (h : writeE D at_ b = 0) : nowB (writeD D at_ b) = doneB (nowB D) (at_.toNat, b) := by
  unfold writeD; rw [if_pos h, stepD_now, nowB_put]
theorem nowB_refused {D : DkT} {at_ : Int} {b : List UInt8} (h : writeE D at_ b ≠ 0) : writeD D at_ b = D := by
  unfold writeD; rw [if_neg h]
theorem nowB_stop (D : DkT) (n : Int) : nowB (stopD D n) = nowB D := by unfold nowB; rw [(stopD_safe D n).1, (stopD_safe D n).2]
theorem nowB_sync (D : DkT) : nowB (syncD D) = nowB D := by
  unfold syncD; split
  · rfl
  · rw [stepD_now]; rfl
theorem doneB_at {s : List UInt8} {p : Nat × List UInt8} (h : p.1 + p.2.length ≤ s.length) (k : Nat) (hk : k < p.1 ∨ p.1 + p.2.length ≤ k) : (doneB s p)[k]? = s[k]? := by
  unfold doneB
  have hl : (s.take p.1).length = p.1 := by rw [List.length_take]; omega
  rcases hk with hk | hk
  · rw [List.append_assoc, List.getElem?_append_left (by omega), List.getElem?_take_of_lt hk]
  · rw [List.getElem?_append_right (by rw [List.length_append]; omega), List.length_append, hl, List.getElem?_drop]
    congr 1
    omega
theorem part_same {a b : List UInt8} (n m : Nat) (h : ∀ k, n ≤ k → k < n + m → a[k]? = b[k]?) : (a.drop n).take m = (b.drop n).take m := by
  apply List.ext_getElem?
  intro i
  by_cases hi : i < m
  · rw [List.getElem?_take_of_lt hi, List.getElem?_take_of_lt hi, List.getElem?_drop, List.getElem?_drop]
    exact h (n + i) (by omega) (by omega)
  · rw [List.getElem?_eq_none (by rw [List.length_take]; omega), List.getElem?_eq_none (by rw [List.length_take]; omega)]
theorem crashL_all (keep torn : Int) : ∀ (l : List (Nat × List UInt8)) (i : Nat) (s : List UInt8), (i : Int) + l.length ≤ keep → crashL keep torn i s l = l.foldl doneB s
  | [], _, _, _ => rfl
  | p :: r, i, s, h => by
    have hl : (p :: r).length = r.length + 1 := rfl
    show crashL keep torn (i + 1) (crashS keep torn i s p) r = r.foldl doneB (doneB s p)
    have e : crashS keep torn i s p = doneB s p := by unfold crashS; rw [if_pos (by omega)]
    rw [e]
    exact crashL_all keep torn r (i + 1) _ (by omega)
theorem crashL_none (torn : Int) : ∀ (l : List (Nat × List UInt8)) (i : Nat) (s : List UInt8), 1 ≤ i → crashL 0 torn i s l = s
  | [], _, _, _ => rfl
  | p :: r, i, s, h => by
    show crashL 0 torn (i + 1) (crashS 0 torn i s p) r = s
    have e : crashS 0 torn i s p = s := by unfold crashS; rw [if_neg (by omega), if_neg (by omega)]
    rw [e]
    exact crashL_none torn r (i + 1) s (by omega)
theorem crashB_all {D : DkT} {keep : Int} (torn : Int) (h : (D.puts.length : Int) ≤ keep) : crashB D keep torn = nowB D := crashL_all keep torn D.puts 0 D.safe (by simpa using h)
theorem crashB_none (D : DkT) : crashB D 0 0 = D.safe := by
  unfold crashB
  cases D.puts with
  | nil => rfl
  | cons p r =>
    show crashL 0 0 1 (crashS 0 0 0 D.safe p) r = _
    have e : crashS 0 0 0 D.safe p = D.safe := by
      unfold crashS
      rw [if_neg (by omega)]
      split
      · unfold tornB doneB
        have e0 : (min (max (0 : Int) 0) ((p.2.length : Int) - 1)).toNat = 0 := by omega
        rw [e0]
        show D.safe.take p.1 ++ (p.2.take 0) ++ D.safe.drop (p.1 + (p.2.take 0).length) = _
        rw [List.take_zero]
        simp
      · rfl
    rw [e, crashL_none 0 r 1 _ (Nat.le_refl _)]
structure StT where
  recs : List ByteArray
  cost : Nat
structure LgT where
  olds : List StT
  now : StT
  may : StT
  maybe : Bool
def statesL (L : LgT) : List StT := L.olds ++ [L.now]
def newL : LgT := ⟨[], ⟨[], 0⟩, ⟨[], 0⟩, false⟩
def batchB (l : List ByteArray) : Bool := decide (l.length ≤ 1000 ∧ ∀ s ∈ l, s.size ≤ 4000)
def costN : List ByteArray → Nat
  | [] => 16
  | s :: r => costN r + 8 + s.size
def committed (L : LgT) (l : List ByteArray) : StT := ⟨L.now.recs ++ l, L.now.cost + costN l⟩
def wasS (l : List ByteArray) : StT := ⟨l, costN l⟩
def toL (L : LgT) (x : StT) (e : Int) : LgT :=
  if e = 0 then { L with olds := statesL L, now := x } else if e = 80 then (if L.maybe = true then L else { L with may := x, maybe := true }) else L
def syncedL (L : LgT) : LgT := { L with olds := [], maybe := false }
def findS (r : List ByteArray) : List StT → Option StT
  | [] => none
  | s :: t => if s.recs = r then some s else findS r t
def dearer (r : List ByteArray) (x s : StT) : StT := if s.recs = r ∧ x.cost < s.cost then s else x
def pickS (L : LgT) (r : List ByteArray) (c : Bool) : StT × Bool :=
  if r = L.now.recs then (L.now, true) else
  if c = true then match findS r (statesL L) with
    | some s => (s, true)
    | none => if L.maybe = true then (L.may, decide (r = L.may.recs)) else (L.now, false)
  else (L.now, false)
def opensB (L : LgT) (r : List ByteArray) (c : Bool) : Bool := (pickS L r c).2
def opensX (L : LgT) (r : List ByteArray) (c : Bool) : StT :=
  if c = true then (let y := (statesL L).foldl (dearer r) (pickS L r c).1; if L.maybe = true then dearer r y L.may else y) else (pickS L r c).1
def opensL (L : LgT) (r : List ByteArray) (c : Bool) : LgT := { L with olds := [], now := opensX L r c, maybe := false }
theorem statesL_mem (L : LgT) (s : StT) : s ∈ statesL L ↔ s ∈ L.olds ∨ s = L.now := by unfold statesL; simp
theorem findS_some {r : List ByteArray} : ∀ {l : List StT} {s : StT}, findS r l = some s → s ∈ l ∧ s.recs = r
  | [], s, h => by cases h
  | x :: t, s, h => by
    unfold findS at h
    by_cases e : x.recs = r
    · rw [if_pos e] at h
      obtain rfl := Option.some.inj h
      exact ⟨List.mem_cons_self .., e⟩
    · rw [if_neg e] at h
      have := findS_some h
      exact ⟨List.mem_cons_of_mem _ this.1, this.2⟩
theorem findS_none {r : List ByteArray} : ∀ {l : List StT}, findS r l = none → ∀ s ∈ l, s.recs ≠ r
  | [], _, s, hs => by cases hs
  | x :: t, h, s, hs => by
    unfold findS at h
    by_cases e : x.recs = r
    · rw [if_pos e] at h; cases h
    · rw [if_neg e] at h
      rcases List.mem_cons.1 hs with rfl | hs
      · exact e
      · exact findS_none h s hs
theorem opensB_calm (L : LgT) (r : List ByteArray) : opensB L r false = true ↔ r = L.now.recs := by
  unfold opensB pickS
  by_cases e : r = L.now.recs
  · rw [if_pos e]; exact ⟨fun _ => e, fun _ => rfl⟩
  · rw [if_neg e, if_neg (by decide)]; exact ⟨(fun h => by cases h), fun h => absurd h e⟩
theorem opensB_crash (L : LgT) (r : List ByteArray) : opensB L r true = true ↔ (∃ s ∈ statesL L, s.recs = r) ∨ (L.maybe = true ∧ r = L.may.recs) := by
  unfold opensB pickS
  by_cases e : r = L.now.recs
  · rw [if_pos e]; exact ⟨fun _ => .inl ⟨L.now, (statesL_mem L _).2 (.inr rfl), e.symm⟩, fun _ => rfl⟩
  · rw [if_neg e, if_pos rfl]
    cases hf : findS r (statesL L) with
    | some s => exact ⟨fun _ => .inl ⟨s, (findS_some hf).1, (findS_some hf).2⟩, fun _ => rfl⟩
    | none =>
      have hn := findS_none hf
      show (if L.maybe = true then (L.may, decide (r = L.may.recs)) else (L.now, false)).2 = true ↔ _
      by_cases hm : L.maybe = true
      · rw [if_pos hm]
        show decide (r = L.may.recs) = true ↔ _
        rw [decide_eq_true_eq]
        exact ⟨fun h => .inr ⟨hm, h⟩, fun h => by
          rcases h with ⟨s, h1, h2⟩ | ⟨_, h⟩
          · exact absurd h2 (hn s h1)
          · exact h⟩
      · rw [if_neg hm]
        refine ⟨(fun h => by cases h), fun h => ?_⟩
        rcases h with ⟨s, h1, h2⟩ | ⟨h, _⟩
        · exact absurd h2 (hn s h1)
        · exact absurd h hm
theorem dearer_recs {r : List ByteArray} {x : StT} (h : x.recs = r) (s : StT) : (dearer r x s).recs = r := by
  unfold dearer
  split
  · rename_i e; exact e.1
  · exact h
theorem dearer_fold {r : List ByteArray} : ∀ (l : List StT) {x : StT}, x.recs = r → (l.foldl (dearer r) x).recs = r
  | [], _, h => h
  | s :: t, _, h => dearer_fold t (dearer_recs h s)
theorem pickS_recs {L : LgT} {r : List ByteArray} {c : Bool} (h : opensB L r c = true) : (pickS L r c).1.recs = r := by
  unfold opensB at h
  unfold pickS at h ⊢
  by_cases e : r = L.now.recs
  · rw [if_pos e]; exact e.symm
  · rw [if_neg e] at h ⊢
    by_cases hc : c = true
    · rw [if_pos hc] at h ⊢
      cases hf : findS r (statesL L) with
      | some s => exact (findS_some hf).2
      | none =>
        rw [hf] at h
        show (if L.maybe = true then (L.may, decide (r = L.may.recs)) else (L.now, false)).1.recs = r
        have h' : (if L.maybe = true then (L.may, decide (r = L.may.recs)) else (L.now, false)).2 = true := h
        by_cases hm : L.maybe = true
        · rw [if_pos hm] at h' ⊢
          exact (of_decide_eq_true h').symm
        · rw [if_neg hm] at h'; cases h'
    · rw [if_neg hc] at h; cases h
theorem opensX_recs {L : LgT} {r : List ByteArray} {c : Bool} (h : opensB L r c = true) : (opensX L r c).recs = r := by
  have h0 := pickS_recs h
  unfold opensX
  split
  · have h1 := dearer_fold (statesL L) h0
    show (if L.maybe = true then dearer r ((statesL L).foldl (dearer r) (pickS L r c).1) L.may else (statesL L).foldl (dearer r) (pickS L r c).1).recs = r
    split
    · exact dearer_recs h1 _
    · exact h1
  · exact h0
theorem statesL_synced (L : LgT) : statesL (syncedL L) = [L.now] := rfl
theorem statesL_to (L : LgT) (x : StT) : statesL (toL L x 0) = statesL L ++ [x] := rfl
end Go.Proofs.YtgclohgcehhfnabGreatDoor
/- Numbers that an int holds. -/
namespace Go.Proofs.YtgclohgcehhfnabGreatDoor
set_option maxRecDepth 100000
def In64 (z : Int) : Prop := -9223372036854775808 ≤ z ∧ z ≤ 9223372036854775807
end Go.Proofs.YtgclohgcehhfnabGreatDoor
