/- Texts of our own that the row of WalRuns leans on, part 8. -/
import Derived.Test.YtdnnhmihigdnkaaDoorWalRunsJ1
import Derived.Test.YtdnnhmihigdnkaaDoorWalRunsJ3
import Derived.Test.YtdnnhmihigdnkaaDoorWalRunsJ7
import Derived.Deep.QuietTactic
import Derived.BigQuiet
import Derived.BigRegion
import Derived.Deep.RegionHeld3

/- What pack.Get answers. -/
namespace Go.Proofs.YtdnnhmihigdnkaaDoor
open Go.RowKit Nums
set_option maxRecDepth 100000

end Go.Proofs.YtdnnhmihigdnkaaDoor

/- What the document's own Get answers. -/
namespace Go.Proofs.YtdnnhmihigdnkaaDoor
open Go.RowKit Nums
set_option maxRecDepth 100000

end Go.Proofs.YtdnnhmihigdnkaaDoor

/- Both Gets answer as one plain function of the bytes. -/
namespace Go.Proofs.YtdnnhmihigdnkaaDoor
open Go.RowKit Nums
set_option maxRecDepth 100000
/-- A slice of bytes that can be read: its bytes are l. -/
def Reads (w : World) (a : Option Addr) (len cap : Nat) (l : List UInt8) : Prop :=
  l.length = len ∧ len ≤ cap ∧ cap ≤ 9223372036854775807 ∧
  ((a = none ∧ cap = 0) ∨ (∃ ad, a = some ad ∧ len = 0) ∨ ∃ b off, a = some ⟨b, off, none⟩ ∧ b < w.heap.size ∧ ∀ (i : Nat) (h : i < l.length), w.cell? ⟨b, off + i, none⟩ = some (.int .u8 l[i].toNat))
theorem Reads.below {w w' : World} {a : Option Addr} {len cap : Nat} {l : List UInt8} (h : Reads w a len cap l) (hb : Below w.heap.size w w') : Reads w' a len cap l := by
  obtain ⟨h1, h2, h3, h4⟩ := h
  refine ⟨h1, h2, h3, ?_⟩
  rcases h4 with h4 | h4 | ⟨b, off, e, hlt, hc⟩
  · exact .inl h4
  · exact .inr (.inl h4)
  · refine .inr (.inr ?_)
    exact ⟨b, off, e, Nat.lt_of_lt_of_le hlt hb.size, fun i hi => (hb.cell (p := ⟨b, off + i, none⟩) hlt).trans (hc i hi)⟩
end Go.Proofs.YtdnnhmihigdnkaaDoor

/- Rows that the call owns, and bytes that can be read: what appends do to them. -/
namespace Go.Proofs.YtdnnhmihigdnkaaDoor
open Go.RowKit Nums
set_option maxRecDepth 100000
theorem own_lower {w : World} {B B' e size n : Nat} {v : Value} {xs : List Value} (h : w.ownsRow B e size v n xs) (hB : B' ≤ B) : w.ownsRow B' e size v n xs := by
  refine ⟨h.1, ?_⟩
  rcases h.2 with h2 | ⟨g, cap, cur, e1, hb, r⟩
  · exact .inl h2
  · exact .inr ⟨g, cap, cur, e1, Nat.le_trans hB hb, r⟩
theorem reads_none (w : World) : Reads w none 0 0 [] := ⟨rfl, Nat.le_refl _, by decide, .inl ⟨rfl, rfl⟩⟩
/-- What is owned can be read. -/
theorem reads_own {w : World} {B : Nat} {v : Value} {l : List UInt8} (h : w.ownsRow B 5 1 v l.length (cellsOf l)) : ∃ a cap, v = .slice a l.length cap ∧ Reads w a l.length cap l := by
  rcases h.2 with ⟨rfl, h0⟩ | ⟨g, cap, cur, rfl, hb, hg, hn, hm, hs, ht⟩
  · refine ⟨none, 0, by rw [h0], rfl, by omega, by decide, .inl ⟨rfl, rfl⟩⟩
  · have hlt := (h.lt g rfl).2
    refine ⟨_, _, rfl, rfl, hn, by unfold maxLen at hm; omega, .inr (.inr ⟨g, 0, rfl, hlt, fun i hi => ?_⟩)⟩
    have := cells_at h rfl i hi
    rwa [add_plain] at this
end Go.Proofs.YtdnnhmihigdnkaaDoor

/- What the calls of package disk answer, as the document says (their proofs are of one commit of the code). -/
namespace Go.Proofs.YtdnnhmihigdnkaaDoor
open Go.RowKit Nums
set_option linter.unusedVariables false
set_option maxRecDepth 100000
theorem hidd {p : Prop} (h : p) : Hid p := h
/-- What was there is as it was, but for the blocks of S. -/
structure Away (S : Nat → Prop) (w w' : World) : Prop where
  os : w'.os = w.os
  tape : w'.tape = w.tape
  output : w'.output = w.output
  size : w.heap.size ≤ w'.heap.size
  block : ∀ k, k < w.heap.size → ¬ S k → w'.heap[k]? = w.heap[k]?
theorem Away.refl (S : Nat → Prop) (w : World) : Away S w w := ⟨rfl, rfl, rfl, Nat.le_refl _, fun _ _ _ => rfl⟩
theorem Away.of_below {S : Nat → Prop} {w w' : World} (h : Below w.heap.size w w') : Away S w w' := ⟨h.os, h.tape, h.output, h.size, fun k hk _ => h.block k hk⟩
/-- Two such steps; the second one may turn new blocks besides. -/
theorem Away.trans {S T : Nat → Prop} {a b c : World} (h : Away S a b) (k : Away T b c) (hT : ∀ x, T x → S x ∨ a.heap.size ≤ x) : Away S a c :=
  ⟨k.os.trans h.os, k.tape.trans h.tape, k.output.trans h.output, Nat.le_trans h.size k.size, fun i hi hs => (k.block i (Nat.lt_of_lt_of_le hi h.size) (fun ht => by rcases hT i ht with h1 | h1; exact hs h1; omega)).trans (h.block i hi hs)⟩
theorem Away.below {S : Nat → Prop} {B : Nat} {a w w' : World} (h : Away S w w') (hb : Below B a w) (hB : B ≤ w.heap.size) (hS : ∀ x, S x → B ≤ x) : Below B a w' :=
  ⟨h.os.trans hb.os, h.tape.trans hb.tape, h.output.trans hb.output, Nat.le_trans hb.size h.size, fun k hk => (h.block k (Nat.lt_of_lt_of_le hk hB) (fun hs => by have := hS k hs; omega)).trans (hb.block k hk)⟩
theorem Reads.away {S : Nat → Prop} {w w' : World} {a : Option Addr} {len cap : Nat} {l : List UInt8} (h : Reads w a len cap l) (hw : Away S w w') (hS : ∀ b off, a = some ⟨b, off, none⟩ → 0 < len → ¬ S b) : Reads w' a len cap l := by
  obtain ⟨h1, h2, h3, h4⟩ := h
  refine ⟨h1, h2, h3, ?_⟩
  rcases h4 with h4 | h4 | ⟨b, off, e, hlt, hc⟩
  · exact .inl h4
  · exact .inr (.inl h4)
  · by_cases h0 : len = 0
    · exact .inr (.inl ⟨_, e, h0⟩)
    have hk := hw.block b hlt (hS b off e (by omega))
    exact .inr (.inr ⟨b, off, e, Nat.lt_of_lt_of_le hlt hw.size, fun i hi => (World.cell?_of_block (a := ⟨b, off + i, none⟩) hk).trans (hc i hi)⟩)
/-- Bytes that came out: new ones, that may be written. -/
def OutB (base : Nat) (w : World) (a : Option Addr) (cap : Nat) (l : List UInt8) : Prop :=
  Reads w a l.length cap l ∧ (l = [] ∨ ∃ g off, a = some ⟨g, off, none⟩ ∧ base ≤ g ∧ ∀ i, i < l.length → w.frozen? ⟨g, off + i, none⟩ = false)
def ptr (p : Nat) : Value := .pointer (some ⟨p, 0, none⟩)
/-- What the calls of package disk answer: At w p D S: at block p lies a disk that is D, its memory the blocks of S. -/
structure DiskC (At : World → Nat → DkT → (Nat → Prop) → Prop) : Prop where
  ok : ∀ {w : World} {p : Nat} {D : DkT} {S : Nat → Prop}, At w p D S → OkD D
  lt : ∀ {w : World} {p : Nat} {D : DkT} {S : Nat → Prop}, At w p D S → ∀ b, S b → b < w.heap.size
  keep : ∀ {w w' : World} {p : Nat} {D : DkT} {S : Nat → Prop}, At w p D S → w.heap.size ≤ w'.heap.size → (∀ b, S b → w'.heap[b]? = w.heap[b]?) → At w' p D S
  calm : ∀ {w : World} {p : Nat} {D : DkT} {S : Nat → Prop}, At w p D S → D.stops = false → D.down = false
  new : ∀ (n : Nat) (hn : 1 ≤ n ∧ n ≤ 1000000) (w : World),
    Calls Tryd.prog 29 #[.int .i64 n] w fun e w' => ∃ p S, e = .returned (.tuple #[ptr p, .int .i64 0]) ∧ At w' p (newD n) S ∧ (∀ b, S b → w.heap.size ≤ b) ∧ Below w.heap.size w w'
  newNo : ∀ (n : Int) (hn : ¬ (1 ≤ n ∧ n ≤ 1000000)) (w : World),
    Calls Tryd.prog 29 #[.int .i64 n] w fun e w' => e = .returned (.tuple #[.pointer none, .int .i64 1]) ∧ Below w.heap.size w w'
  room : ∀ (w : World) (p : Nat) (D : DkT) (S : Nat → Prop) (h : At w p D S),
    Calls Tryd.prog 30 #[ptr p] w fun e w' => e = .returned (.int .i64 D.safe.length) ∧ Below w.heap.size w w'
  write : ∀ (w : World) (p : Nat) (D : DkT) (S : Nat → Prop) (h : At w p D S) (hp : D.puts.length ≤ 1000000) (at_ : Int) (ha : In64 at_) (a : Option Addr) (len cap : Nat) (bs : List UInt8) (hR : Reads w a len cap bs) (hl : len ≤ 1000000) (hS : ∀ b off, a = some ⟨b, off, none⟩ → 0 < len → ¬ S b),
    Calls Tryd.prog 62 #[ptr p, .int .i64 at_, .slice a len cap] w fun e w' => e = .returned (.int .i64 (writeE D at_ bs)) ∧ (∃ S', At w' p (writeD D at_ bs) S' ∧ ∀ b, S' b → S b ∨ w.heap.size ≤ b) ∧ Away S w w'
  sync : ∀ (w : World) (p : Nat) (D : DkT) (S : Nat → Prop) (h : At w p D S),
    Calls Tryd.prog 37 #[ptr p] w fun e w' => e = .returned (.int .i64 (syncE D)) ∧ (∃ S', At w' p (syncD D) S' ∧ ∀ b, S' b → S b ∨ w.heap.size ≤ b) ∧ Away S w w'
  read : ∀ (w : World) (p : Nat) (D : DkT) (S : Nat → Prop) (h : At w p D S) (at_ n : Int) (ha : In64 at_) (hn : In64 n),
    Calls Tryd.prog 54 #[ptr p, .int .i64 at_, .int .i64 n] w fun e w' => (∃ a cap, e = .returned (.tuple #[.slice a (rdB D at_ n).length cap, .int .i64 (rdE D at_ n)]) ∧ OutB w.heap.size w' a cap (rdB D at_ n)) ∧ Below w.heap.size w w'
  stop : ∀ (w : World) (p : Nat) (D : DkT) (S : Nat → Prop) (h : At w p D S) (n : Int) (hn : In64 n),
    Calls Tryd.prog 19 #[ptr p, .int .i64 n] w fun e w' => e = .returned (.int .i64 (stopE D n)) ∧ (∃ S', At w' p (stopD D n) S' ∧ ∀ b, S' b → S b ∨ w.heap.size ≤ b) ∧ Away S w w'
  down : ∀ (w : World) (p : Nat) (D : DkT) (S : Nat → Prop) (h : At w p D S),
    Calls Tryd.prog 38 #[ptr p] w fun e w' => e = .returned (.bool D.down) ∧ Below w.heap.size w w'
  crash : ∀ (w : World) (p : Nat) (D : DkT) (S : Nat → Prop) (h : At w p D S) (hp : D.puts.length ≤ 1000000) (keep torn : Int) (hk : In64 keep) (ht : In64 torn),
    Calls Tryd.prog 26 #[ptr p, .int .i64 keep, .int .i64 torn] w fun e w' => e = .returned (.int .i64 0) ∧ (∃ S', At w' p (crashD D keep torn) S' ∧ ∀ b, S' b → S b ∨ w.heap.size ≤ b) ∧ Away S w w'
end Go.Proofs.YtdnnhmihigdnkaaDoor

/- What the keeper's Lent and Kept do: bytes in memory of their own with seven marked places behind them; are they as they were? -/
namespace Go.Proofs.YtdnnhmihigdnkaaDoor
open Go.RowKit Nums
set_option maxRecDepth 100000
theorem wpList_append_run {P : Program} {w : World} {ops : Array Oper} {rest : List Oper} {o : Oper} {a : Act} {Q : Exit → Act → World → Prop} (hgd : o.guard = none) (s x : Operand) (t u : TypeId)
    (ho : o.op = .call { callee := .builtin .append, args := #[s, x], argTypes := #[t, u] }) (vs vx v' : Value) (w' : World) (hs : a.eval s = vs) (hx : a.eval x = vx)
    (hrun : (Builtin.append_ #[t, u] o.type #[vs, vx]).run P w = .ok v' w') (h : wpList P ops Q rest (a.put o.dst v') w') : wpList P ops Q (o :: rest) a w := by
  refine wpList_plain hgd fun K hK => ?_
  unfold Oper.wp execOp
  simp only [ho, resolve, invoke, builtin, Sem.run_bind, Sem.run_pure, Result.andThen_ok, List.map_toArray, List.map_cons, List.map_nil, hs, hx, hrun]
  exact hK _ _ h
end Go.Proofs.YtdnnhmihigdnkaaDoor

/- The keeper's Kept answers true where lent bytes and the marks behind them are as they were. -/
namespace Go.Proofs.YtdnnhmihigdnkaaDoor
open Go.RowKit Nums
set_option maxRecDepth 100000
theorem conv_reads {w : World} {a : Option Addr} {len cap : Nat} {l : List UInt8} (h : Reads w a len cap l) :
    Sem.run Tryd.prog (convert 69 9 (.slice a len cap)) w = .ok (.string ⟨l.toArray⟩) w := by
  obtain ⟨h1, h2, h3, ⟨rfl, h0⟩ | ⟨ad, rfl, h0⟩ | ⟨b, off, rfl, hlt, hc⟩⟩ := h
  · have hl : l = [] := List.eq_nil_of_length_eq_zero (by omega)
    subst hl
    exact run_convert_bytes_nil (P := Tryd.prog) w 69 5 Tryd.underlying69 Tryd.underlying5 len cap 9 Tryd.underlying9
  · subst h1
    exact run_convert_bytes_back (P := Tryd.prog) w 69 9 5 ad cap l Tryd.underlying69 Tryd.underlying5 Tryd.underlying9 (fun j hj => by omega)
  · subst h1
    exact run_convert_bytes_back (P := Tryd.prog) w 69 9 5 ⟨b, off, none⟩ cap l Tryd.underlying69 Tryd.underlying5 Tryd.underlying9 (fun j hj => by rw [add_plain]; exact hc j hj)
end Go.Proofs.YtdnnhmihigdnkaaDoor

/- The document's disk in memory; its done, in and step. -/
namespace Go.Proofs.YtdnnhmihigdnkaaDoor
open Go.RowKit Nums
set_option linter.unusedVariables false
set_option linter.unusedSimpArgs false
set_option maxRecDepth 100000
def bD (l : List UInt8) : ByteArray := ⟨l.toArray⟩
end Go.Proofs.YtdnnhmihigdnkaaDoor
