/- Texts of our own that the row of KeepReads leans on, part 17. -/
import Derived.Test.YtjpmmbmhkpgjcaaKeepReadsJ3
import Derived.Test.YtjpmmbmhkpgjcaaKeepReadsJ9
import Derived.Deep.QuietTactic
import Derived.BigQuiet
import Derived.BigRegion

/- What pack.Get answers. -/
namespace Go.Proofs.Ytjpmmbmhkpgjcaa
open Go.RowKit Nums
set_option maxRecDepth 100000
theorem get_short (a : Option Addr) (len cap : Nat) (w : World) (h : len < 4) :
    Calls Try.prog 81 #[.slice a len cap] w fun e w' => e = .returned (.tuple #[.agg #[.int .i64 0, .string ⟨#[]⟩], .int .i64 0, .int .i64 10]) ∧ Below w.heap.size w w' := by
  go_enter Try.func81, Try.ntmps81
  go_wp2
  refine bodyPost_ret (v := .tuple #[.agg #[.int .i64 0, .string ⟨#[]⟩], .int .i64 0, .int .i64 10]) (by simp [results, Try.results81, go_sem]) rfl ⟨rfl, ?_⟩
  exact (Below.refl _ _).alloc (Nat.le_refl _) _
/-- The world in which Get's answer lies: a block of its own. -/
theorem below_get (w : World) (nq : Nat) (x y : Value) :
    Below w.heap.size w ((((w.alloc (.cells #[.int .i64 0, .string ⟨#[]⟩] 85)).drewN nq).setCell ⟨w.heap.size, 0, none⟩ x).setCell ⟨w.heap.size, 1, none⟩ y) :=
  ((below_drewN ((Below.refl _ _).alloc (Nat.le_refl _) _) nq).setCell (Nat.le_refl _) _).setCell (Nat.le_refl _) _
set_option maxHeartbeats 1000000 in
theorem get_form (b off len cap : Nat) (w : World) (h : 4 ≤ len) (c0 c1 c2 c3 N : Nat) (hb : b < w.heap.size)
    (h0 : w.cell? ⟨b, off, none⟩ = some (.int .u8 c0)) (h1 : w.cell? ⟨b, off + 1, none⟩ = some (.int .u8 c1))
    (h2 : w.cell? ⟨b, off + 2, none⟩ = some (.int .u8 c2)) (h3 : w.cell? ⟨b, off + 3, none⟩ = some (.int .u8 c3))
    (g0 : (c0 : Int) ≤ 255) (g1 : (c1 : Int) ≤ 255) (g2 : (c2 : Int) ≤ 255) (g3 : (c3 : Int) ≤ 255) (hN : (N : Int) ≤ 16777215)
    (hbits : bits .or .i64 (bits .or .i64 ((c1 : Int) * 65536) ((c2 : Int) * 256)) (c3 : Int) = (N : Int))
    (hc : ((c0 : Int) == 0) = true ∨ (((c0 : Int) == 0) = false ∧ (65536 : Int) < (N : Int))) :
    Calls Try.prog 81 #[.slice (some ⟨b, off, none⟩) len cap] w fun e w' => e = .returned (.tuple #[.agg #[.int .i64 0, .string ⟨#[]⟩], .int .i64 0, .int .i64 11]) ∧ Below w.heap.size w w' := by
  have l0 : (0 : Int) < (len : Int) := by omega
  have l1 : (1 : Int) < (len : Int) := by omega
  have l2 : (2 : Int) < (len : Int) := by omega
  have l3 : (3 : Int) < (len : Int) := by omega
  rcases hc with hc | ⟨hc, hc2⟩
  all_goals
    go_enter Try.func81, Try.ntmps81
    go_wp2
    go_quiet (fail)
    go_wp2
    exact bodyPost_ret (v := .tuple #[.agg #[.int .i64 0, .string ⟨#[]⟩], .int .i64 0, .int .i64 11]) (by simp [results, Try.results81, go_sem]) rfl ⟨rfl, below_get _ _ _ _⟩
set_option maxHeartbeats 1000000 in
theorem get_cut (b off len cap : Nat) (w : World) (h : 4 ≤ len) (c0 c1 c2 c3 N : Nat) (hb : b < w.heap.size)
    (h0 : w.cell? ⟨b, off, none⟩ = some (.int .u8 c0)) (h1 : w.cell? ⟨b, off + 1, none⟩ = some (.int .u8 c1))
    (h2 : w.cell? ⟨b, off + 2, none⟩ = some (.int .u8 c2)) (h3 : w.cell? ⟨b, off + 3, none⟩ = some (.int .u8 c3))
    (g0 : (c0 : Int) ≤ 255) (g1 : (c1 : Int) ≤ 255) (g2 : (c2 : Int) ≤ 255) (g3 : (c3 : Int) ≤ 255) (hN : (N : Int) ≤ 65536)
    (hbits : bits .or .i64 (bits .or .i64 ((c1 : Int) * 65536) ((c2 : Int) * 256)) (c3 : Int) = (N : Int))
    (hc : ((c0 : Int) == 0) = false) (hl : (len : Int) < 4 + (N : Int)) :
    Calls Try.prog 81 #[.slice (some ⟨b, off, none⟩) len cap] w fun e w' => e = .returned (.tuple #[.agg #[.int .i64 0, .string ⟨#[]⟩], .int .i64 0, .int .i64 10]) ∧ Below w.heap.size w w' := by
  have l0 : (0 : Int) < (len : Int) := by omega
  have l1 : (1 : Int) < (len : Int) := by omega
  have l2 : (2 : Int) < (len : Int) := by omega
  have l3 : (3 : Int) < (len : Int) := by omega
  have hn : ¬ (65536 : Int) < (N : Int) := by omega
  go_enter Try.func81, Try.ntmps81
  go_wp2
  go_quiet (fail)
  go_wp2
  exact bodyPost_ret (v := .tuple #[.agg #[.int .i64 0, .string ⟨#[]⟩], .int .i64 0, .int .i64 10]) (by simp [results, Try.results81, go_sem]) rfl ⟨rfl, below_get _ _ _ _⟩
set_option maxHeartbeats 1000000 in
theorem get_field (b off len cap : Nat) (w : World) (h : 4 ≤ len) (c0 c1 c2 c3 N : Nat) (hb : b < w.heap.size) (hlc : len ≤ cap) (hcm : cap ≤ 9223372036854775807)
    (h0 : w.cell? ⟨b, off, none⟩ = some (.int .u8 c0)) (h1 : w.cell? ⟨b, off + 1, none⟩ = some (.int .u8 c1))
    (h2 : w.cell? ⟨b, off + 2, none⟩ = some (.int .u8 c2)) (h3 : w.cell? ⟨b, off + 3, none⟩ = some (.int .u8 c3))
    (g0 : (c0 : Int) ≤ 255) (g1 : (c1 : Int) ≤ 255) (g2 : (c2 : Int) ≤ 255) (g3 : (c3 : Int) ≤ 255) (hN : (N : Int) ≤ 65536)
    (hbits : bits .or .i64 (bits .or .i64 ((c1 : Int) * 65536) ((c2 : Int) * 256)) (c3 : Int) = (N : Int))
    (hc : ((c0 : Int) == 0) = false) (hl : 4 + (N : Int) ≤ (len : Int)) (d : List UInt8) (hd : d.length = N) (hdata : ∀ (j : Nat) (hj : j < d.length), w.cell? ⟨b, off + 4 + j, none⟩ = some (.int .u8 d[j].toNat)) :
    Calls Try.prog 81 #[.slice (some ⟨b, off, none⟩) len cap] w fun e w' => e = .returned (.tuple #[.agg #[.int .i64 c0, .string ⟨d.toArray⟩], .int .i64 (4 + N), .int .i64 0]) ∧ Below w.heap.size w w' := by
  have l0 : (0 : Int) < (len : Int) := by omega
  have l1 : (1 : Int) < (len : Int) := by omega
  have l2 : (2 : Int) < (len : Int) := by omega
  have l3 : (3 : Int) < (len : Int) := by omega
  have hn : ¬ (65536 : Int) < (N : Int) := by omega
  have hl' : ¬ (len : Int) < 4 + (N : Int) := by omega
  by_cases hcap : cap = 4
  · have hlen : len = 4 := by omega
    have hN0 : N = 0 := by omega
    subst hN0 hlen hcap
    have hd0 : d = [] := List.eq_nil_of_length_eq_zero hd
    subst hd0
    have hconv : ∀ nq, Sem.run Try.prog (convert 61 9 (.slice (some ⟨b, off, none⟩) 0 0)) ((w.alloc (.cells #[.int .i64 0, .string ⟨#[]⟩] 85)).drewN nq) = .ok (.string ⟨#[]⟩) ((w.alloc (.cells #[.int .i64 0, .string ⟨#[]⟩] 85)).drewN nq) :=
      fun nq => run_convert_bytes_back (P := Try.prog) _ 61 9 5 ⟨b, off, none⟩ 0 [] Try.underlying61 Try.underlying5 Try.underlying9 (fun j hj => by simp at hj)
    clear hdata hd
    go_enter Try.func81, Try.ntmps81
    go_wp2
    go_quiet (fail)
    go_wp2
    exact bodyPost_ret (v := .tuple #[.agg #[.int .i64 c0, .string ⟨#[]⟩], .int .i64 4, .int .i64 0]) (by simp [results, Try.results81, go_sem]) rfl ⟨rfl, below_get _ _ _ _⟩
  · have hconv : ∀ nq, Sem.run Try.prog (convert 61 9 (.slice (some ⟨b, off + 4, none⟩) N (cap - 4))) ((w.alloc (.cells #[.int .i64 0, .string ⟨#[]⟩] 85)).drewN nq) = .ok (.string ⟨d.toArray⟩) ((w.alloc (.cells #[.int .i64 0, .string ⟨#[]⟩] 85)).drewN nq) := by
      intro nq
      have := run_convert_bytes_back (P := Try.prog) ((w.alloc (.cells #[.int .i64 0, .string ⟨#[]⟩] 85)).drewN nq) 61 9 5 ⟨b, off + 4, none⟩ (cap - 4) d Try.underlying61 Try.underlying5 Try.underlying9 (fun j hj => by
        rw [add_plain]
        have h1 : Below w.heap.size w ((w.alloc (.cells #[.int .i64 0, .string ⟨#[]⟩] 85)).drewN nq) := below_drewN ((Below.refl _ _).alloc (Nat.le_refl _) _) nq
        rw [h1.cell (p := ⟨b, off + 4 + j, none⟩) hb]
        exact hdata j hj)
      rw [hd] at this
      exact this
    clear hdata hd
    go_enter Try.func81, Try.ntmps81
    go_wp2
    go_quiet (fail)
    go_wp2
    exact bodyPost_ret (v := .tuple #[.agg #[.int .i64 c0, .string ⟨d.toArray⟩], .int .i64 (4 + N), .int .i64 0]) (by simp [results, Try.results81, go_sem]) rfl ⟨rfl, below_get _ _ _ _⟩
end Go.Proofs.Ytjpmmbmhkpgjcaa

/- What the document's own Get answers. -/
namespace Go.Proofs.Ytjpmmbmhkpgjcaa
open Go.RowKit Nums
set_option maxRecDepth 100000

end Go.Proofs.Ytjpmmbmhkpgjcaa

/- Both Gets answer as one plain function of the bytes. -/
namespace Go.Proofs.Ytjpmmbmhkpgjcaa
open Go.RowKit Nums
set_option maxRecDepth 100000
/-- A slice of bytes that can be read: its bytes are l. -/
def Reads (w : World) (a : Option Addr) (len cap : Nat) (l : List UInt8) : Prop :=
  l.length = len ∧ len ≤ cap ∧ cap ≤ 9223372036854775807 ∧
  ((a = none ∧ cap = 0) ∨ (∃ ad, a = some ad ∧ len = 0) ∨ ∃ b off, a = some ⟨b, off, none⟩ ∧ b < w.heap.size ∧ ∀ (i : Nat) (h : i < l.length), w.cell? ⟨b, off + i, none⟩ = some (.int .u8 l[i].toNat))
theorem Reads.below {w w' : World} {a : Option Addr} {len cap : Nat} {l : List UInt8} (h : Reads w a len cap l) (hb : Below w.heap.size w w') : Reads w' a len cap l := by
  obtain ⟨h1, h2, h3, h4⟩ := h
  refine ⟨h1, h2, h3, ?_⟩
  rcases h4 with h4 | h4 | ⟨b, off, e, hlt, hc⟩
  · exact .inl h4
  · exact .inr (.inl h4)
  · refine .inr (.inr ?_)
    exact ⟨b, off, e, Nat.lt_of_lt_of_le hlt hb.size, fun i hi => (hb.cell (p := ⟨b, off + i, none⟩) hlt).trans (hc i hi)⟩
def gotten (l : List UInt8) : Ending := .returned (.tuple #[.agg #[.int .i64 (gT l), .string ⟨(gD l).toArray⟩], .int .i64 (gN l), .int .i64 (gE l)])
theorem gotten_no {l : List UInt8} {k : Nat} (h : gE l = k) (hk : k ≠ 0) : gotten l = .returned (.tuple #[.agg #[.int .i64 0, .string ⟨#[]⟩], .int .i64 0, .int .i64 k]) := by
  have h0 : gE l ≠ 0 := by omega
  rw [gotten, gT, gD, gN, if_neg h0, if_neg h0, if_neg h0, h]; rfl
theorem gotten_yes {l : List UInt8} (h : gE l = 0) : gotten l = .returned (.tuple #[.agg #[.int .i64 ((l.getD 0 0).toNat : Nat), .string ⟨((l.drop 4).take (size3 l)).toArray⟩], .int .i64 (4 + (size3 l : Int)), .int .i64 0]) := by
  simp [gotten, gT, gD, gN, h]
/-- What a walk needs to know of bytes that are long enough. -/
theorem Reads.heads {w : World} {a : Option Addr} {len cap : Nat} {l : List UInt8} (h : Reads w a len cap l) (h4 : 4 ≤ len) :
    ∃ b off, a = some ⟨b, off, none⟩ ∧ b < w.heap.size ∧ w.cell? ⟨b, off, none⟩ = some (.int .u8 (l.getD 0 0).toNat) ∧ w.cell? ⟨b, off + 1, none⟩ = some (.int .u8 (l.getD 1 0).toNat) ∧
      w.cell? ⟨b, off + 2, none⟩ = some (.int .u8 (l.getD 2 0).toNat) ∧ w.cell? ⟨b, off + 3, none⟩ = some (.int .u8 (l.getD 3 0).toNat) ∧
      ∀ (n : Nat), 4 + n ≤ len → ((l.drop 4).take n).length = n ∧ ∀ (j : Nat) (hj : j < ((l.drop 4).take n).length), w.cell? ⟨b, off + 4 + j, none⟩ = some (.int .u8 ((l.drop 4).take n)[j].toNat) := by
  obtain ⟨h1, h2, h3, ⟨_, h0⟩ | ⟨_, _, h0⟩ | ⟨b, off, e, hlt, hc⟩⟩ := h
  · omega
  · omega
  · have hg : ∀ i, i < len → w.cell? ⟨b, off + i, none⟩ = some (.int .u8 (l.getD i 0).toNat) := fun i hi => by
      rw [hc i (by omega), List.getD, List.getElem?_eq_getElem (by omega)]; rfl
    refine ⟨b, off, e, hlt, hg 0 (by omega), hg 1 (by omega), hg 2 (by omega), hg 3 (by omega), ?_⟩
    intro n hn
    refine ⟨by simp; omega, fun j hj => ?_⟩
    have hj' : j < n := by simp at hj; omega
    have := hc (4 + j) (by omega)
    rw [← Nat.add_assoc] at this
    rw [this]
    simp
theorem get_any (a : Option Addr) (len cap : Nat) (l : List UInt8) (w : World) (h : Reads w a len cap l) :
    Calls Try.prog 81 #[.slice a len cap] w fun e w' => e = gotten l ∧ Below w.heap.size w w' := by
  by_cases h4 : len < 4
  · rw [gotten_no (gE_short (by rw [h.1]; exact h4)) (by decide)]
    exact get_short a len cap w h4
  · obtain ⟨b, off, rfl, hlt, h0, h1, h2, h3, hd⟩ := h.heads (by omega)
    have n0 : ¬ l.length < 4 := by rw [h.1]; exact h4
    have b0 := (l.getD 0 0).toNat_lt
    have b1 := (l.getD 1 0).toNat_lt
    have b2 := (l.getD 2 0).toNat_lt
    have b3 := (l.getD 3 0).toNat_lt
    have hb := or3 _ _ _ b1 b2 b3
    change _ = ((size3 l : Nat) : Int) at hb
    have hs : size3 l ≤ 16777215 := by unfold size3; omega
    by_cases hf : (l.getD 0 0).toNat = 0 ∨ 65536 < size3 l
    · rw [gotten_no (gE_form n0 hf) (by decide)]
      exact get_form b off len cap w (by omega) _ _ _ _ (size3 l) hlt h0 h1 h2 h3 (by omega) (by omega) (by omega) (by omega) (by omega) hb (by
        by_cases hz : (l.getD 0 0).toNat = 0
        · left; rw [hz]; rfl
        · right; exact ⟨by simpa using hz, by omega⟩)
    · have hz : (((l.getD 0 0).toNat : Int) == 0) = false := by
        have : ¬ (l.getD 0 0).toNat = 0 := fun h => hf (.inl h)
        simpa using this
      by_cases hc : l.length < 4 + size3 l
      · rw [gotten_no (gE_cut n0 hf hc) (by decide)]
        exact get_cut b off len cap w (by omega) _ _ _ _ (size3 l) hlt h0 h1 h2 h3 (by omega) (by omega) (by omega) (by omega) (by omega) hb hz (by rw [h.1] at hc; omega)
      · rw [gotten_yes (gE_ok n0 hf hc)]
        have hl : 4 + size3 l ≤ len := by rw [h.1] at hc; omega
        exact get_field b off len cap w (by omega) _ _ _ _ (size3 l) hlt h.2.1 h.2.2.1 h0 h1 h2 h3 (by omega) (by omega) (by omega) (by omega) (by omega) hb hz (by omega) _ (hd _ hl).1 (hd _ hl).2
end Go.Proofs.Ytjpmmbmhkpgjcaa

/- Rows that the call owns, and bytes that can be read: what appends do to them. -/
namespace Go.Proofs.Ytjpmmbmhkpgjcaa
open Go.RowKit Nums
set_option maxRecDepth 100000
theorem own_lower {w : World} {B B' e size n : Nat} {v : Value} {xs : List Value} (h : w.ownsRow B e size v n xs) (hB : B' ≤ B) : w.ownsRow B' e size v n xs := by
  refine ⟨h.1, ?_⟩
  rcases h.2 with h2 | ⟨g, cap, cur, e1, hb, r⟩
  · exact .inl h2
  · exact .inr ⟨g, cap, cur, e1, Nat.le_trans hB hb, r⟩
/-- What is owned can be read. -/
theorem reads_own {w : World} {B : Nat} {v : Value} {l : List UInt8} (h : w.ownsRow B 5 1 v l.length (cellsOf l)) : ∃ a cap, v = .slice a l.length cap ∧ Reads w a l.length cap l := by
  rcases h.2 with ⟨rfl, h0⟩ | ⟨g, cap, cur, rfl, hb, hg, hn, hm, hs, ht⟩
  · refine ⟨none, 0, by rw [h0], rfl, by omega, by decide, .inl ⟨rfl, rfl⟩⟩
  · have hlt := (h.lt g rfl).2
    refine ⟨_, _, rfl, rfl, hn, by unfold maxLen at hm; omega, .inr (.inr ⟨g, 0, rfl, hlt, fun i hi => ?_⟩)⟩
    have := cells_at h rfl i hi
    rwa [add_plain] at this
end Go.Proofs.Ytjpmmbmhkpgjcaa

/- What the document's own Bytes answers. -/
namespace Go.Proofs.Ytjpmmbmhkpgjcaa
open Go.RowKit Nums

set_option maxRecDepth 100000

end Go.Proofs.Ytjpmmbmhkpgjcaa

/- What the keeper's Lent and Kept do: bytes in memory of their own with seven marked places behind them; are they as they were? -/
namespace Go.Proofs.Ytjpmmbmhkpgjcaa
open Go.RowKit Nums
set_option maxRecDepth 100000
theorem wpList_append_run {P : Program} {w : World} {ops : Array Oper} {rest : List Oper} {o : Oper} {a : Act} {Q : Exit → Act → World → Prop} (hgd : o.guard = none) (s x : Operand) (t u : TypeId)
    (ho : o.op = .call { callee := .builtin .append, args := #[s, x], argTypes := #[t, u] }) (vs vx v' : Value) (w' : World) (hs : a.eval s = vs) (hx : a.eval x = vx)
    (hrun : (Builtin.append_ #[t, u] o.type #[vs, vx]).run P w = .ok v' w') (h : wpList P ops Q rest (a.put o.dst v') w') : wpList P ops Q (o :: rest) a w := by
  refine wpList_plain hgd fun K hK => ?_
  unfold Oper.wp execOp
  simp only [ho, resolve, invoke, builtin, Sem.run_bind, Sem.run_pure, Result.andThen_ok, List.map_toArray, List.map_cons, List.map_nil, hs, hx, hrun]
  exact hK _ _ h
end Go.Proofs.Ytjpmmbmhkpgjcaa

/- The keeper's Kept answers true where lent bytes and the marks behind them are as they were. -/
namespace Go.Proofs.Ytjpmmbmhkpgjcaa
open Go.RowKit Nums
set_option maxRecDepth 100000
theorem conv_reads {w : World} {a : Option Addr} {len cap : Nat} {l : List UInt8} (h : Reads w a len cap l) :
    Sem.run Try.prog (convert 61 9 (.slice a len cap)) w = .ok (.string ⟨l.toArray⟩) w := by
  obtain ⟨h1, h2, h3, ⟨rfl, h0⟩ | ⟨ad, rfl, h0⟩ | ⟨b, off, rfl, hlt, hc⟩⟩ := h
  · have hl : l = [] := List.eq_nil_of_length_eq_zero (by omega)
    subst hl
    exact run_convert_bytes_nil (P := Try.prog) w 61 5 Try.underlying61 Try.underlying5 len cap 9 Try.underlying9
  · subst h1
    exact run_convert_bytes_back (P := Try.prog) w 61 9 5 ad cap l Try.underlying61 Try.underlying5 Try.underlying9 (fun j hj => by omega)
  · subst h1
    exact run_convert_bytes_back (P := Try.prog) w 61 9 5 ⟨b, off, none⟩ cap l Try.underlying61 Try.underlying5 Try.underlying9 (fun j hj => by rw [add_plain]; exact hc j hj)
end Go.Proofs.Ytjpmmbmhkpgjcaa

/- What the document's own May and Bytes answer. -/
namespace Go.Proofs.Ytjpmmbmhkpgjcaa
open Go.RowKit Nums
set_option maxRecDepth 100000

end Go.Proofs.Ytjpmmbmhkpgjcaa
