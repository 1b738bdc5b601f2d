/- Texts of our own that the row of DiskApart leans on, part 8. -/
import Derived.Test.YticljiffagobnabDiskApartJ1
import Derived.Test.YticljiffagobnabDiskApartJ3
import Derived.Test.YticljiffagobnabDiskApartJ7
import Derived.Deep.QuietTactic
import Derived.BigQuiet
import Derived.BigRegion
import Derived.Deep.RegionHeld3

/- What pack.Get answers. -/
namespace Go.Proofs.Yticljiffagobnab
open Go.RowKit Nums
set_option maxRecDepth 100000

end Go.Proofs.Yticljiffagobnab

/- What the document's own Get answers. -/
namespace Go.Proofs.Yticljiffagobnab
open Go.RowKit Nums
set_option maxRecDepth 100000

end Go.Proofs.Yticljiffagobnab

/- Both Gets answer as one plain function of the bytes. -/
namespace Go.Proofs.Yticljiffagobnab
open Go.RowKit Nums
set_option maxRecDepth 100000
/-- A slice of bytes that can be read: its bytes are l. -/
def Reads (w : World) (a : Option Addr) (len cap : Nat) (l : List UInt8) : Prop :=
  l.length = len ∧ len ≤ cap ∧ cap ≤ 9223372036854775807 ∧
  ((a = none ∧ cap = 0) ∨ (∃ ad, a = some ad ∧ len = 0) ∨ ∃ b off, a = some ⟨b, off, none⟩ ∧ b < w.heap.size ∧ ∀ (i : Nat) (h : i < l.length), w.cell? ⟨b, off + i, none⟩ = some (.int .u8 l[i].toNat))
theorem Reads.below {w w' : World} {a : Option Addr} {len cap : Nat} {l : List UInt8} (h : Reads w a len cap l) (hb : Below w.heap.size w w') : Reads w' a len cap l := by
  obtain ⟨h1, h2, h3, h4⟩ := h
  refine ⟨h1, h2, h3, ?_⟩
  rcases h4 with h4 | h4 | ⟨b, off, e, hlt, hc⟩
  · exact .inl h4
  · exact .inr (.inl h4)
  · refine .inr (.inr ?_)
    exact ⟨b, off, e, Nat.lt_of_lt_of_le hlt hb.size, fun i hi => (hb.cell (p := ⟨b, off + i, none⟩) hlt).trans (hc i hi)⟩
end Go.Proofs.Yticljiffagobnab

/- Rows that the call owns, and bytes that can be read: what appends do to them. -/
namespace Go.Proofs.Yticljiffagobnab
open Go.RowKit Nums
set_option maxRecDepth 100000
theorem reads_none (w : World) : Reads w none 0 0 [] := ⟨rfl, Nat.le_refl _, by decide, .inl ⟨rfl, rfl⟩⟩
/-- What is owned can be read. -/
theorem reads_own {w : World} {B : Nat} {v : Value} {l : List UInt8} (h : w.ownsRow B 5 1 v l.length (cellsOf l)) : ∃ a cap, v = .slice a l.length cap ∧ Reads w a l.length cap l := by
  rcases h.2 with ⟨rfl, h0⟩ | ⟨g, cap, cur, rfl, hb, hg, hn, hm, hs, ht⟩
  · refine ⟨none, 0, by rw [h0], rfl, by omega, by decide, .inl ⟨rfl, rfl⟩⟩
  · have hlt := (h.lt g rfl).2
    refine ⟨_, _, rfl, rfl, hn, by unfold maxLen at hm; omega, .inr (.inr ⟨g, 0, rfl, hlt, fun i hi => ?_⟩)⟩
    have := cells_at h rfl i hi
    rwa [add_plain] at this
end Go.Proofs.Yticljiffagobnab

/- What the calls of package disk answer, as the document says (their proofs are of one commit of the code). -/
namespace Go.Proofs.Yticljiffagobnab
open Go.RowKit Nums
set_option linter.unusedVariables false
set_option maxRecDepth 100000
theorem hidd {p : Prop} (h : p) : Hid p := h
/-- What was there is as it was, but for the blocks of S. -/
structure Away (S : Nat → Prop) (w w' : World) : Prop where
  os : w'.os = w.os
  tape : w'.tape = w.tape
  output : w'.output = w.output
  size : w.heap.size ≤ w'.heap.size
  block : ∀ k, k < w.heap.size → ¬ S k → w'.heap[k]? = w.heap[k]?
theorem Away.refl (S : Nat → Prop) (w : World) : Away S w w := ⟨rfl, rfl, rfl, Nat.le_refl _, fun _ _ _ => rfl⟩
theorem Away.of_below {S : Nat → Prop} {w w' : World} (h : Below w.heap.size w w') : Away S w w' := ⟨h.os, h.tape, h.output, h.size, fun k hk _ => h.block k hk⟩
/-- Two such steps; the second one may turn new blocks besides. -/
theorem Away.trans {S T : Nat → Prop} {a b c : World} (h : Away S a b) (k : Away T b c) (hT : ∀ x, T x → S x ∨ a.heap.size ≤ x) : Away S a c :=
  ⟨k.os.trans h.os, k.tape.trans h.tape, k.output.trans h.output, Nat.le_trans h.size k.size, fun i hi hs => (k.block i (Nat.lt_of_lt_of_le hi h.size) (fun ht => by rcases hT i ht with h1 | h1; exact hs h1; omega)).trans (h.block i hi hs)⟩
theorem Away.below {S : Nat → Prop} {B : Nat} {a w w' : World} (h : Away S w w') (hb : Below B a w) (hB : B ≤ w.heap.size) (hS : ∀ x, S x → B ≤ x) : Below B a w' :=
  ⟨h.os.trans hb.os, h.tape.trans hb.tape, h.output.trans hb.output, Nat.le_trans hb.size h.size, fun k hk => (h.block k (Nat.lt_of_lt_of_le hk hB) (fun hs => by have := hS k hs; omega)).trans (hb.block k hk)⟩
theorem Reads.away {S : Nat → Prop} {w w' : World} {a : Option Addr} {len cap : Nat} {l : List UInt8} (h : Reads w a len cap l) (hw : Away S w w') (hS : ∀ b off, a = some ⟨b, off, none⟩ → 0 < len → ¬ S b) : Reads w' a len cap l := by
  obtain ⟨h1, h2, h3, h4⟩ := h
  refine ⟨h1, h2, h3, ?_⟩
  rcases h4 with h4 | h4 | ⟨b, off, e, hlt, hc⟩
  · exact .inl h4
  · exact .inr (.inl h4)
  · by_cases h0 : len = 0
    · exact .inr (.inl ⟨_, e, h0⟩)
    have hk := hw.block b hlt (hS b off e (by omega))
    exact .inr (.inr ⟨b, off, e, Nat.lt_of_lt_of_le hlt hw.size, fun i hi => (World.cell?_of_block (a := ⟨b, off + i, none⟩) hk).trans (hc i hi)⟩)
/-- Bytes that came out: new ones, that may be written. -/
def OutB (base : Nat) (w : World) (a : Option Addr) (cap : Nat) (l : List UInt8) : Prop :=
  Reads w a l.length cap l ∧ (l = [] ∨ ∃ g off, a = some ⟨g, off, none⟩ ∧ base ≤ g ∧ ∀ i, i < l.length → w.frozen? ⟨g, off + i, none⟩ = false)
def ptr (p : Nat) : Value := .pointer (some ⟨p, 0, none⟩)
/-- What the calls of package disk answer: At w p D S: at block p lies a disk that is D, its memory the blocks of S. -/
structure DiskC (At : World → Nat → DkT → (Nat → Prop) → Prop) : Prop where
  ok : ∀ {w : World} {p : Nat} {D : DkT} {S : Nat → Prop}, At w p D S → OkD D
  lt : ∀ {w : World} {p : Nat} {D : DkT} {S : Nat → Prop}, At w p D S → ∀ b, S b → b < w.heap.size
  keep : ∀ {w w' : World} {p : Nat} {D : DkT} {S : Nat → Prop}, At w p D S → w.heap.size ≤ w'.heap.size → (∀ b, S b → w'.heap[b]? = w.heap[b]?) → At w' p D S
  new : ∀ (n : Nat) (hn : 1 ≤ n ∧ n ≤ 1000000) (w : World),
    Calls Try.prog 5 #[.int .i64 n] w fun e w' => ∃ p S, e = .returned (.tuple #[ptr p, .int .i64 0]) ∧ At w' p (newD n) S ∧ (∀ b, S b → w.heap.size ≤ b) ∧ Below w.heap.size w w'
  newNo : ∀ (n : Int) (hn : ¬ (1 ≤ n ∧ n ≤ 1000000)) (w : World),
    Calls Try.prog 5 #[.int .i64 n] w fun e w' => e = .returned (.tuple #[.pointer none, .int .i64 1]) ∧ Below w.heap.size w w'
  room : ∀ (w : World) (p : Nat) (D : DkT) (S : Nat → Prop) (h : At w p D S),
    Calls Try.prog 25 #[ptr p] w fun e w' => e = .returned (.int .i64 D.safe.length) ∧ Below w.heap.size w w'
  write : ∀ (w : World) (p : Nat) (D : DkT) (S : Nat → Prop) (h : At w p D S) (hp : D.puts.length ≤ 1000000) (at_ : Int) (ha : In64 at_) (a : Option Addr) (len cap : Nat) (bs : List UInt8) (hR : Reads w a len cap bs) (hl : len ≤ 1000000) (hS : ∀ b off, a = some ⟨b, off, none⟩ → 0 < len → ¬ S b),
    Calls Try.prog 9 #[ptr p, .int .i64 at_, .slice a len cap] w fun e w' => e = .returned (.int .i64 (writeE D at_ bs)) ∧ (∃ S', At w' p (writeD D at_ bs) S' ∧ ∀ b, S' b → S b ∨ w.heap.size ≤ b) ∧ Away S w w'
  sync : ∀ (w : World) (p : Nat) (D : DkT) (S : Nat → Prop) (h : At w p D S),
    Calls Try.prog 14 #[ptr p] w fun e w' => e = .returned (.int .i64 (syncE D)) ∧ (∃ S', At w' p (syncD D) S' ∧ ∀ b, S' b → S b ∨ w.heap.size ≤ b) ∧ Away S w w'
  read : ∀ (w : World) (p : Nat) (D : DkT) (S : Nat → Prop) (h : At w p D S) (at_ n : Int) (ha : In64 at_) (hn : In64 n),
    Calls Try.prog 8 #[ptr p, .int .i64 at_, .int .i64 n] w fun e w' => (∃ a cap, e = .returned (.tuple #[.slice a (rdB D at_ n).length cap, .int .i64 (rdE D at_ n)]) ∧ OutB w.heap.size w' a cap (rdB D at_ n)) ∧ Below w.heap.size w w'
  stop : ∀ (w : World) (p : Nat) (D : DkT) (S : Nat → Prop) (h : At w p D S) (n : Int) (hn : In64 n),
    Calls Try.prog 17 #[ptr p, .int .i64 n] w fun e w' => e = .returned (.int .i64 (stopE D n)) ∧ (∃ S', At w' p (stopD D n) S' ∧ ∀ b, S' b → S b ∨ w.heap.size ≤ b) ∧ Away S w w'
  down : ∀ (w : World) (p : Nat) (D : DkT) (S : Nat → Prop) (h : At w p D S),
    Calls Try.prog 33 #[ptr p] w fun e w' => e = .returned (.bool D.down) ∧ Below w.heap.size w w'
  crash : ∀ (w : World) (p : Nat) (D : DkT) (S : Nat → Prop) (h : At w p D S) (hp : D.puts.length ≤ 1000000) (keep torn : Int) (hk : In64 keep) (ht : In64 torn),
    Calls Try.prog 20 #[ptr p, .int .i64 keep, .int .i64 torn] w fun e w' => e = .returned (.int .i64 0) ∧ (∃ S', At w' p (crashD D keep torn) S' ∧ ∀ b, S' b → S b ∨ w.heap.size ≤ b) ∧ Away S w w'
end Go.Proofs.Yticljiffagobnab

/- What the keeper's Lent and Kept do: bytes in memory of their own with seven marked places behind them; are they as they were? -/
namespace Go.Proofs.Yticljiffagobnab
open Go.RowKit Nums
set_option maxRecDepth 100000
theorem wpList_append_run {P : Program} {w : World} {ops : Array Oper} {rest : List Oper} {o : Oper} {a : Act} {Q : Exit → Act → World → Prop} (hgd : o.guard = none) (s x : Operand) (t u : TypeId)
    (ho : o.op = .call { callee := .builtin .append, args := #[s, x], argTypes := #[t, u] }) (vs vx v' : Value) (w' : World) (hs : a.eval s = vs) (hx : a.eval x = vx)
    (hrun : (Builtin.append_ #[t, u] o.type #[vs, vx]).run P w = .ok v' w') (h : wpList P ops Q rest (a.put o.dst v') w') : wpList P ops Q (o :: rest) a w := by
  refine wpList_plain hgd fun K hK => ?_
  unfold Oper.wp execOp
  simp only [ho, resolve, invoke, builtin, Sem.run_bind, Sem.run_pure, Result.andThen_ok, List.map_toArray, List.map_cons, List.map_nil, hs, hx, hrun]
  exact hK _ _ h
/-- Bytes that can be read, appended to a row that is owned, whether there is room or not. -/
theorem run_append_grows {w : World} {a : Option Addr} {len cap : Nat} {l : List UInt8} (h : Reads w a len cap l) (B n ty : Nat) (v : Value) (xs : List UInt8)
    (hown : w.ownsRow B 5 1 v n (cellsOf xs)) (hB : B ≤ w.heap.size) (hb : n + len ≤ 140737488355328) :
    ∃ v' w', (Builtin.append_ #[23, 23] ty #[v, .slice a len cap]).run Try.prog w = .ok v' w' ∧
      w'.ownsRow B 5 1 v' (n + len) (cellsOf (xs ++ l)) ∧ w.grownBy w' v.ownBlock := by
  obtain ⟨i0, hi, hz0, hz1, hz2⟩ := info_parts info5
  obtain ⟨h1, h2, h3, ⟨rfl, h0⟩ | ⟨ad, rfl, h0⟩ | ⟨b, off, rfl, hlt, hc⟩⟩ := h
  · have hl0 : len = 0 := by omega
    subst h0 hl0
    have hl : l = [] := List.eq_nil_of_length_eq_zero h1
    subst hl
    refine ⟨v, w, run_append_owned_none (P := Try.prog) w B 23 ty 5 i0 1 Try.underlying23 hi _ n _ hown, ?_, World.grownBy.refl _ _⟩
    simpa using hown
  · subst h0
    have hl : l = [] := List.eq_nil_of_length_eq_zero h1
    subst hl
    obtain ⟨v', w', hr, ho, hg, _⟩ := run_append_own (P := Try.prog) w B 23 ty 5 i0 (.int .u8 0) 1 1 Try.underlying23 hi hz0 hz1 hz2 rfl (by decide) v n _ hown ad 0 cap [] rfl (by simp) (by simp) (by unfold maxLen; omega) (by omega) hB
    refine ⟨v', w', hr, ?_, hg⟩
    simpa using ho
  · obtain ⟨v', w', hr, ho, hg, _⟩ := run_append_own (P := Try.prog) w B 23 ty 5 i0 (.int .u8 0) 1 1 Try.underlying23 hi hz0 hz1 hz2 rfl (by decide) v n _ hown ⟨b, off, none⟩ len cap (cellsOf l) (by rw [cellsOf_length, h1]; omega) (fun j u hj => by
      rw [add_plain]
      have hjl : j < l.length := by
        rcases Nat.lt_or_ge j l.length with h | h
        · exact h
        · rw [List.getElem?_eq_none (by rw [cellsOf_length]; exact h)] at hj; cases hj
      rw [hc j hjl]
      simpa [cellsOf, List.getElem?_eq_getElem hjl] using hj) (cellsOf_one l) (by unfold maxLen; omega) (by omega) hB
    refine ⟨v', w', hr, ?_, hg⟩
    rw [cellsOf_append]
    exact ho
/-- The marks behind lent bytes. -/
def marks (k : Nat) : List UInt8 := List.replicate k 195
set_option maxHeartbeats 1000000 in
theorem lent_any (a : Option Addr) (len cap : Nat) (l : List UInt8) (w : World) (hr : Reads w a len cap l) (hl : len ≤ 1048576) :
    Calls Try.prog 11 #[.slice a len cap] w fun e w' => ∃ g c, e = .returned (.slice (some ⟨g, 0, none⟩) len c) ∧ w.heap.size ≤ g ∧ len + 7 ≤ c ∧ c ≤ maxLen ∧
      w'.ownsRow w.heap.size 5 1 (.slice (some ⟨g, 0, none⟩) (len + 7) c) (len + 7) (cellsOf (l ++ marks 7)) ∧ Below w.heap.size w w' := by
  obtain ⟨i0, hi, hz0, hz1, hz2⟩ := info_parts info5
  obtain ⟨v1, w1, hrun, hown1, hgrow1⟩ := run_append_grows hr w.heap.size 0 23 (.slice none 0 0) [] (World.ownsRow_nil w _ 5 1) (Nat.le_refl _) (by omega)
  simp only [Nat.zero_add, List.nil_append] at hown1
  have hb1 : Below w.heap.size w w1 := (Below.refl _ _).grown hgrow1 (Nat.le_refl _) (by intro k hk; cases hk)
  have HRUN : Hid _ := hrun
  have HLL : Hid (l.length = len) := hr.1
  clear hrun hgrow1 hr
  go_enter Try.func11, Try.ntmps11
  go_wp2_with (first
    | (at_builtin; refine wpList_append_run (by rfl) (.tmp 5) (.tmp 6) 23 23 (by rfl) _ _ _ _ (by rfl) (by rfl) HRUN.out ?_)
    | fail)
  go_loopw [3, 4] (fun v i wr => ∃ k : Nat, k ≤ 7 ∧ i = .int .i64 k ∧ wr.ownsRow w.heap.size 5 1 v (len + k) (cellsOf (l ++ marks k)) ∧ Below w.heap.size w wr) (fun _ i _ => 7 - (intOf i).toNat)
  case atStart => exact ⟨0, by decide, rfl, by simpa [marks] using hown1, hb1⟩
  case round =>
    obtain ⟨k, hk, rfl, hown, hb⟩ := hrel
    clear hown1 hb1
    by_cases hlt : k < 7
    · go_wp2_with (first
        | (at_builtin; refine wpList_append_own _ rfl (.tmp 12) (.tmp 13) 23 rfl w.heap.size 5 i0 (.int .u8 0) 1 1 Try.underlying23 hi hz0 hz1 hz2 rfl (by decide) _ _ _ rfl (hown.alloc _) ⟨wr.heap.size, 0, none⟩ 1 1 [.int .u8 195] rfl rfl ?c1 ?c2 ?c3 ?c4 ?c5 ?_)
        | fail)
      case c1 =>
        intro j u hj
        match j, hj with
        | 0, hj => simp at hj; subst hj; simp [Addr.add]
      case c2 => intro u hu; simp at hu; subst hu; rfl
      case c3 => unfold maxLen; omega
      case c4 => omega
      case c5 => have := hb.size; simp; omega
      intro v2 w2 hown2 hgrow2 _
      have hb2 : Below w.heap.size w w2 := (hb.alloc hb.size _).grown hgrow2 (by have := hb.size; simp; omega) (row_low hown)
      have hown3 : w2.ownsRow w.heap.size 5 1 v2 (len + (k + 1)) (cellsOf (l ++ marks (k + 1))) := by
        have e : cellsOf (l ++ marks (k + 1)) = cellsOf (l ++ marks k) ++ [.int .u8 195] := by
          simp [cellsOf, marks, List.replicate_succ']
        rw [e]; exact hown2
      clear hown2 hgrow2 hown hb
      go_wp2
      go_roundw
      case rel => exact ⟨k + 1, by omega, by go_num, hown3, hb2⟩
      case measure => simp [intOf]; omega
    · have hk7 : k = 7 := by omega
      subst hk7
      rcases hown.2 with ⟨_, h0⟩ | ⟨g, c, cur, rfl, hg, _, hc, hm, _⟩
      · omega
      · have hcm : c ≤ 9223372036854775807 := by unfold maxLen at hm; omega
        have HO : Hid _ := hown
        clear hown
        go_wp2
        go_ret
        exact ⟨g, c, rfl, hg, hc, hm, HO.out, hb⟩
end Go.Proofs.Yticljiffagobnab

/- The keeper's Kept answers true where lent bytes and the marks behind them are as they were. -/
namespace Go.Proofs.Yticljiffagobnab
open Go.RowKit Nums
set_option maxRecDepth 100000
theorem conv_reads {w : World} {a : Option Addr} {len cap : Nat} {l : List UInt8} (h : Reads w a len cap l) :
    Sem.run Try.prog (convert 23 9 (.slice a len cap)) w = .ok (.string ⟨l.toArray⟩) w := by
  obtain ⟨h1, h2, h3, ⟨rfl, h0⟩ | ⟨ad, rfl, h0⟩ | ⟨b, off, rfl, hlt, hc⟩⟩ := h
  · have hl : l = [] := List.eq_nil_of_length_eq_zero (by omega)
    subst hl
    exact run_convert_bytes_nil (P := Try.prog) w 23 5 Try.underlying23 Try.underlying5 len cap 9 Try.underlying9
  · subst h1
    exact run_convert_bytes_back (P := Try.prog) w 23 9 5 ad cap l Try.underlying23 Try.underlying5 Try.underlying9 (fun j hj => by omega)
  · subst h1
    exact run_convert_bytes_back (P := Try.prog) w 23 9 5 ⟨b, off, none⟩ cap l Try.underlying23 Try.underlying5 Try.underlying9 (fun j hj => by rw [add_plain]; exact hc j hj)
theorem reads_front {w : World} {g len k c : Nat} {l m : List UInt8} (h : Reads w (some ⟨g, 0, none⟩) (len + k) c (l ++ m)) (hl : l.length = len) : Reads w (some ⟨g, 0, none⟩) len c l := by
  obtain ⟨h1, h2, h3, ⟨h0, _⟩ | ⟨ad, _, h0⟩ | ⟨b, off, e, hlt, hc⟩⟩ := h
  · cases h0
  · exact ⟨hl, by omega, h3, .inr (.inl ⟨_, rfl, by omega⟩)⟩
  · refine ⟨hl, by omega, h3, .inr (.inr ⟨b, off, e, hlt, fun i hi => ?_⟩)⟩
    have := hc i (by simp; omega)
    rwa [List.getElem_append_left hi] at this
theorem marks_get (k j : Nat) (h : j < (marks k).length) : (marks k)[j] = 195 := by
  unfold marks; exact List.getElem_replicate _
theorem reads_mark {w : World} {g len c : Nat} {l : List UInt8} (h : Reads w (some ⟨g, 0, none⟩) (len + 7) c (l ++ marks 7)) (hl : l.length = len) (i : Nat) (h0 : len ≤ i) (hi : i < len + 7) :
    w.cell? ⟨g, i, none⟩ = some (.int .u8 195) := by
  obtain ⟨h1, h2, h3, ⟨h0, _⟩ | ⟨ad, _, h0⟩ | ⟨b, off, e, hlt, hc⟩⟩ := h
  · cases h0
  · omega
  · cases e
    have := hc i (by omega)
    rw [Nat.zero_add] at this
    rw [this, List.getElem_append_right (by omega), marks_get]
    rfl
set_option maxHeartbeats 1000000 in
theorem kept_any (g c : Nat) (a : Option Addr) (len cap : Nat) (l : List UInt8) (w : World) (ho : Reads w (some ⟨g, 0, none⟩) (len + 7) c (l ++ marks 7)) (hr : Reads w a len cap l) (hl : len ≤ 1048576) :
    Calls Try.prog 12 #[.slice (some ⟨g, 0, none⟩) len c, .slice a len cap] w fun e w' => e = .returned (.bool true) ∧ w = w' := by
  have c1 := conv_reads (reads_front ho hr.1)
  have c2 := conv_reads hr
  have hc1 : len + 7 ≤ c := ho.2.1
  have hc2 : c ≤ 9223372036854775807 := ho.2.2.1
  have HM : Hid (∀ i, len ≤ i → i < len + 7 → w.cell? ⟨g, i, none⟩ = some (.int .u8 195)) := fun i => reads_mark ho hr.1 i
  clear ho hr
  go_enter Try.func12, Try.ntmps12
  go_wp2
  go_loop [6] (fun i => ∃ k : Nat, len ≤ k ∧ k ≤ len + 7 ∧ i = .int .i64 k) (fun i => len + 7 - (intOf i).toNat)
  case atStart => exact ⟨len, Nat.le_refl _, by omega, rfl⟩
  case round =>
    obtain ⟨k, hk1, hk2, rfl⟩ := hrel
    clear c1 c2
    by_cases hlt : k < len + 7
    · have hcell := HM.out k hk1 hlt
      go_wp2
      go_round
      case rel => exact ⟨k + 1, by omega, by omega, by go_num⟩
      case measure => simp [intOf]; omega
    · go_wp2
      go_ret
      exact ⟨rfl, rfl⟩
end Go.Proofs.Yticljiffagobnab

/- The document's disk in memory; its done, in and step. -/
namespace Go.Proofs.Yticljiffagobnab
open Go.RowKit Nums
set_option linter.unusedVariables false
set_option linter.unusedSimpArgs false
set_option maxRecDepth 100000
def bD (l : List UInt8) : ByteArray := ⟨l.toArray⟩
theorem bD_size (l : List UInt8) : (bD l).size = l.length := by show l.toArray.size = _; simp
theorem bD_of (b : ByteArray) : bD b.data.toList = b := by cases b; simp [bD]
theorem bD_append (a b : List UInt8) : bD a ++ bD b = bD (a ++ b) := by
  rw [← bD_of (bD a ++ bD b)]
  congr 1
theorem bD_extract (l : List UInt8) (i j : Nat) : (bD l).extract i j = bD ((l.drop i).take (j - i)) := by
  rw [← bD_of ((bD l).extract i j)]
  congr 1
  rw [ByteArray.data_extract]
  show (l.toArray.extract i j).toList = _
  simp [List.drop_take]
/-! Texts that are cut. -/
theorem str_hi {W : World} (s : ByteArray) (n : Nat) (h : n ≤ s.size) : (Instr.sliceAt 9 (.string s) none (some (.int .i64 n)) none).run Try.prog W = .ok (.string (s.extract 0 n)) W := by
  simp [Instr.sliceAt, Instr.slice, Instr.sliceBounds, Instr.sliceBound, asIntOf, run_underlying Try.underlying9]
  intro hh
  omega
theorem str_lo {W : World} (s : ByteArray) (n : Nat) (h : n ≤ s.size) : (Instr.sliceAt 9 (.string s) (some (.int .i64 n)) none none).run Try.prog W = .ok (.string (s.extract n s.size)) W := by
  simp [Instr.sliceAt, Instr.slice, Instr.sliceBounds, Instr.sliceBound, asIntOf, run_underlying Try.underlying9]
  intro hh
  omega
theorem str_both {W : World} (s : ByteArray) (n m : Nat) (h : n ≤ m) (hm : m ≤ s.size) : (Instr.sliceAt 9 (.string s) (some (.int .i64 n)) (some (.int .i64 m)) none).run Try.prog W = .ok (.string (s.extract n m)) W := by
  simp [Instr.sliceAt, Instr.slice, Instr.sliceBounds, Instr.sliceBound, asIntOf, run_underlying Try.underlying9]
  simp [h, hm]
theorem doneB_cut (s b : List UInt8) (n : Nat) (h : n + b.length ≤ s.length) : (bD s).extract 0 n ++ bD b ++ (bD s).extract (n + b.length) (bD s).size = bD (doneB s (n, b)) := by
  rw [bD_extract, bD_extract, bD_append, bD_append, bD_size]
  congr 1
  unfold doneB
  rw [List.drop_zero, Nat.sub_zero, List.take_of_length_le (l := s.drop (n + b.length)) (by rw [List.length_drop]; omega)]
set_option maxHeartbeats 4000000 in
theorem refDone_any (s b : List UInt8) (n : Nat) (h : n + b.length ≤ s.length) (hs : s.length ≤ 1000000) (T : ByteArray) (HT : Hid (T = bD (doneB s (n, b)))) (A B : ByteArray) (HA : Hid (A = bD s)) (HB : Hid (B = bD b)) (w : World) :
    Calls Try.prog 29 #[.string A, .agg #[.int .i64 n, .string B]] w fun e w' => e = .returned (.string T) ∧ Below w.heap.size w w' := by
  have hsA : A.size = s.length := by rw [HA.out, bD_size]
  have hsB : B.size = b.length := by rw [HB.out, bD_size]
  obtain ⟨X, HX⟩ : ∃ X, Hid (X = A.extract 0 n) := ⟨_, hidd rfl⟩
  obtain ⟨Y, HY⟩ : ∃ X, Hid (X = A.extract (n + B.size) A.size) := ⟨_, hidd rfl⟩
  have R1 : Hid (∀ W : World, (Instr.sliceAt 9 (.string A) none (some (.int .i64 n)) none).run Try.prog W = .ok (.string X) W) := fun W => by rw [HX.out]; exact str_hi A n (by omega)
  have R2 : Hid (∀ W : World, (Instr.sliceAt 9 (.string A) (some (.int .i64 ((n : Int) + (B.size : Int)))) none none).run Try.prog W = .ok (.string Y) W) := fun W => by rw [HY.out]; have := str_lo (W := W) A (n + B.size) (by omega); simpa using this
  have HXY : Hid (X ++ B ++ Y = T) := by show _ = _; rw [HX.out, HY.out, HT.out, hsB, HA.out, HB.out]; exact doneB_cut s b n h
  have hw1 := wrap_int ((n : Int) + (B.size : Int)) (by omega) (by omega)
  have HW : Hid (Below w.heap.size w (w.alloc (.cells #[.int .i64 n, .string B] 60))) := (Below.refl _ _).alloc (Nat.le_refl _) _
  have hg := heap_alloc_new w (.cells #[.int .i64 (n : Int), .string B] 60)
  have c0 : (w.alloc (.cells #[.int .i64 (n : Int), .string B] 60)).cell? ⟨w.heap.size, 0, none⟩ = some (.int .i64 n) := by rw [cell_of_row _ _ 0 _ _ (0, 0) hg]; rfl
  have c1 : (w.alloc (.cells #[.int .i64 (n : Int), .string B] 60)).cell? ⟨w.heap.size, 1, none⟩ = some (.string B) := by rw [cell_of_row _ _ 1 _ _ (0, 0) hg]; rfl
  have hx1 : X.size + B.size ≤ 9223372036854775807 := by rw [HX.out, ByteArray.size_extract]; omega
  have hx2 : X.size + B.size + Y.size ≤ 9223372036854775807 := by rw [HX.out, HY.out, ByteArray.size_extract, ByteArray.size_extract]; omega
  clear HT HA HB HX HY hg hsA hsB
  go_enter Try.func29, Try.ntmps29
  go_wp2
  refine wp_region_held_drew (S := (fun W => W.cell? ⟨w.heap.size, 0, none⟩ = some (.int .i64 (n : Int)) ∧ W.cell? ⟨w.heap.size, 1, none⟩ = some (.string B))) (by kernel_rfl) ⟨c0, c1⟩ (fun hHeld => ?_)
  refine wpAnyH_take (i := 0) (oi := { dst := some 5, op := Op.move (Operand.tmp 0), type := 9, pos := "ref.go:30", after := #[], guard := none }) (v := .string A) rfl (by kernel_rfl) (by kernel_rfl) (by kernel_rfl) (fun _ _ _ h => h) (Or.inl ⟨by rfl, by intro W hSw; go_simp⟩) hHeld ?_
  try simp only [Act.put, List.setIfInBounds_toArray, List.set_cons_zero, List.set_cons_succ]
  refine wpAnyH_take (i := 1) (oi := { dst := some 6, op := Op.fieldAddr 60 (Operand.tmp 3) 0, type := 0, pos := "ref.go:30", after := #[], guard := none }) (v := .pointer (some ⟨w.heap.size, 0, none⟩)) rfl (by kernel_rfl) (by kernel_rfl) (by kernel_rfl) (fun _ _ _ h => h) (Or.inl ⟨by rfl, by intro W hSw; go_simp⟩) hHeld ?_
  try simp only [Act.put, List.setIfInBounds_toArray, List.set_cons_zero, List.set_cons_succ]
  refine wpAnyH_take (i := 2) (oi := { dst := some 7, op := Op.load 3 (Operand.tmp 6), type := 3, pos := "ref.go:30", after := #[{ on := 1, ground := Ground.data }], guard := none }) (v := .int .i64 n) rfl (by kernel_rfl) (by kernel_rfl) (by kernel_rfl) (fun _ _ _ h => h) (Or.inl ⟨by rfl, by intro W hSw; have h1 := hSw.1; go_simp⟩) hHeld ?_
  try simp only [Act.put, List.setIfInBounds_toArray, List.set_cons_zero, List.set_cons_succ]
  refine wpAnyH_take (i := 3) (oi := { dst := some 8, op := Op.slice 9 (Operand.tmp 5) none (some (Operand.tmp 7)) none, type := 9, pos := "ref.go:30", after := #[{ on := 0, ground := Ground.data }, { on := 2, ground := Ground.data }], guard := none }) (v := .string X) rfl (by kernel_rfl) (by kernel_rfl) (by kernel_rfl) (fun _ _ _ h => h) (Or.inl ⟨by rfl, by intro W hSw; have h1 := R1.out W; go_simp⟩) hHeld ?_
  try simp only [Act.put, List.setIfInBounds_toArray, List.set_cons_zero, List.set_cons_succ]
  refine wpAnyH_take (i := 4) (oi := { dst := some 9, op := Op.fieldAddr 60 (Operand.tmp 3) 1, type := 0, pos := "ref.go:30", after := #[], guard := none }) (v := .pointer (some ⟨w.heap.size, 1, none⟩)) rfl (by kernel_rfl) (by kernel_rfl) (by kernel_rfl) (fun _ _ _ h => h) (Or.inl ⟨by rfl, by intro W hSw; go_simp⟩) hHeld ?_
  try simp only [Act.put, List.setIfInBounds_toArray, List.set_cons_zero, List.set_cons_succ]
  refine wpAnyH_take (i := 5) (oi := { dst := some 10, op := Op.load 9 (Operand.tmp 9), type := 9, pos := "ref.go:30", after := #[{ on := 4, ground := Ground.data }], guard := none }) (v := .string B) rfl (by kernel_rfl) (by kernel_rfl) (by kernel_rfl) (fun _ _ _ h => h) (Or.inl ⟨by rfl, by intro W hSw; have h1 := hSw.2; go_simp⟩) hHeld ?_
  try simp only [Act.put, List.setIfInBounds_toArray, List.set_cons_zero, List.set_cons_succ]
  refine wpAnyH_take (i := 6) (oi := { dst := some 11, op := Op.binOp BinOp.add 9 (Operand.tmp 8) (Operand.tmp 10) 9, type := 9, pos := "ref.go:30", after := #[{ on := 3, ground := Ground.data }, { on := 5, ground := Ground.data }], guard := none }) (v := .string (X ++ B)) rfl (by kernel_rfl) (by kernel_rfl) (by kernel_rfl) (fun _ _ _ h => h) (Or.inl ⟨by rfl, by intro W hSw; go_simp⟩) hHeld ?_
  try simp only [Act.put, List.setIfInBounds_toArray, List.set_cons_zero, List.set_cons_succ]
  refine wpAnyH_take (i := 7) (oi := { dst := some 12, op := Op.move (Operand.tmp 0), type := 9, pos := "ref.go:30", after := #[], guard := none }) (v := .string A) rfl (by kernel_rfl) (by kernel_rfl) (by kernel_rfl) (fun _ _ _ h => h) (Or.inl ⟨by rfl, by intro W hSw; go_simp⟩) hHeld ?_
  try simp only [Act.put, List.setIfInBounds_toArray, List.set_cons_zero, List.set_cons_succ]
  refine wpAnyH_take (i := 8) (oi := { dst := some 13, op := Op.fieldAddr 60 (Operand.tmp 3) 0, type := 0, pos := "ref.go:30", after := #[], guard := none }) (v := .pointer (some ⟨w.heap.size, 0, none⟩)) rfl (by kernel_rfl) (by kernel_rfl) (by kernel_rfl) (fun _ _ _ h => h) (Or.inl ⟨by rfl, by intro W hSw; go_simp⟩) hHeld ?_
  try simp only [Act.put, List.setIfInBounds_toArray, List.set_cons_zero, List.set_cons_succ]
  refine wpAnyH_take (i := 9) (oi := { dst := some 14, op := Op.load 3 (Operand.tmp 13), type := 3, pos := "ref.go:30", after := #[{ on := 8, ground := Ground.data }], guard := none }) (v := .int .i64 n) rfl (by kernel_rfl) (by kernel_rfl) (by kernel_rfl) (fun _ _ _ h => h) (Or.inl ⟨by rfl, by intro W hSw; have h1 := hSw.1; go_simp⟩) hHeld ?_
  try simp only [Act.put, List.setIfInBounds_toArray, List.set_cons_zero, List.set_cons_succ]
  refine wpAnyH_take (i := 10) (oi := { dst := some 15, op := Op.fieldAddr 60 (Operand.tmp 3) 1, type := 0, pos := "ref.go:30", after := #[], guard := none }) (v := .pointer (some ⟨w.heap.size, 1, none⟩)) rfl (by kernel_rfl) (by kernel_rfl) (by kernel_rfl) (fun _ _ _ h => h) (Or.inl ⟨by rfl, by intro W hSw; go_simp⟩) hHeld ?_
  try simp only [Act.put, List.setIfInBounds_toArray, List.set_cons_zero, List.set_cons_succ]
  refine wpAnyH_take (i := 11) (oi := { dst := some 16, op := Op.load 9 (Operand.tmp 15), type := 9, pos := "ref.go:30", after := #[{ on := 10, ground := Ground.data }], guard := none }) (v := .string B) rfl (by kernel_rfl) (by kernel_rfl) (by kernel_rfl) (fun _ _ _ h => h) (Or.inl ⟨by rfl, by intro W hSw; have h1 := hSw.2; go_simp⟩) hHeld ?_
  try simp only [Act.put, List.setIfInBounds_toArray, List.set_cons_zero, List.set_cons_succ]
  refine wpAnyH_take (i := 12) (oi := { dst := some 17, op := Op.call { callee := Callee.builtin Builtin.len, args := #[Operand.tmp 16], argTypes := #[9] }, type := 3, pos := "ref.go:30", after := #[{ on := 11, ground := Ground.data }], guard := none }) (v := .int .i64 B.size) rfl (by kernel_rfl) (by kernel_rfl) (by kernel_rfl) (fun _ _ _ h => h) (Or.inl ⟨by rfl, by intro W hSw; go_simp⟩) hHeld ?_
  try simp only [Act.put, List.setIfInBounds_toArray, List.set_cons_zero, List.set_cons_succ]
  refine wpAnyH_take (i := 13) (oi := { dst := some 18, op := Op.binOp BinOp.add 3 (Operand.tmp 14) (Operand.tmp 17) 3, type := 3, pos := "ref.go:30", after := #[{ on := 9, ground := Ground.data }, { on := 12, ground := Ground.data }], guard := none }) (v := .int .i64 ((n : Int) + (B.size : Int))) rfl (by kernel_rfl) (by kernel_rfl) (by kernel_rfl) (fun _ _ _ h => h) (Or.inl ⟨by rfl, by intro W hSw; go_simp⟩) hHeld ?_
  try simp only [Act.put, List.setIfInBounds_toArray, List.set_cons_zero, List.set_cons_succ]
  refine wpAnyH_take (i := 14) (oi := { dst := some 19, op := Op.slice 9 (Operand.tmp 12) (some (Operand.tmp 18)) none none, type := 9, pos := "ref.go:30", after := #[{ on := 7, ground := Ground.data }, { on := 13, ground := Ground.data }], guard := none }) (v := .string Y) rfl (by kernel_rfl) (by kernel_rfl) (by kernel_rfl) (fun _ _ _ h => h) (Or.inl ⟨by rfl, by intro W hSw; have h1 := R2.out W; go_simp⟩) hHeld ?_
  try simp only [Act.put, List.setIfInBounds_toArray, List.set_cons_zero, List.set_cons_succ]
  refine wpAnyH_take (i := 15) (oi := { dst := some 20, op := Op.binOp BinOp.add 9 (Operand.tmp 11) (Operand.tmp 19) 9, type := 9, pos := "ref.go:30", after := #[{ on := 6, ground := Ground.data }, { on := 14, ground := Ground.data }], guard := none }) (v := .string (X ++ B ++ Y)) rfl (by kernel_rfl) (by kernel_rfl) (by kernel_rfl) (fun _ _ _ h => h) (Or.inl ⟨by rfl, by intro W hSw; go_simp⟩) hHeld ?_
  try simp only [Act.put, List.setIfInBounds_toArray, List.set_cons_zero, List.set_cons_succ]
  refine wpAnyH_take (i := 16) (oi := { dst := some 4, op := Op.assign (Operand.tmp 20), type := 9, pos := "ref.go:30", after := #[{ on := 15, ground := Ground.data }, { on := 0, ground := Ground.phase }, { on := 1, ground := Ground.phase }, { on := 2, ground := Ground.phase }, { on := 3, ground := Ground.phase }, { on := 4, ground := Ground.phase }, { on := 5, ground := Ground.phase }, { on := 6, ground := Ground.phase }, { on := 7, ground := Ground.phase }, { on := 8, ground := Ground.phase }, { on := 9, ground := Ground.phase }, { on := 10, ground := Ground.phase }, { on := 11, ground := Ground.phase }, { on := 12, ground := Ground.phase }, { on := 13, ground := Ground.phase }, { on := 14, ground := Ground.phase }, { on := 15, ground := Ground.phase }], guard := none }) (v := .string (X ++ B ++ Y)) rfl (by kernel_rfl) (by kernel_rfl) (by kernel_rfl) (fun _ _ _ h => h) (Or.inl ⟨by rfl, by intro W hSw; go_simp⟩) hHeld ?_
  try simp only [Act.put, List.setIfInBounds_toArray, List.set_cons_zero, List.set_cons_succ]
  refine wpAnyH_done (by kernel_rfl) ?_ _
  go_wp2
  go_ret
  exact ⟨by simp [HXY.out], HW.out.drew⟩
end Go.Proofs.Yticljiffagobnab
