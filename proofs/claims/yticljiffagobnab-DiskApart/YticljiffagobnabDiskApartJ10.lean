/- Texts of our own that the row of DiskApart leans on, part 10. -/
import Derived.Test.YticljiffagobnabDiskApartJ8
import Derived.Lib.BufferWrite
import Derived.Laws.AppendOwn

/- The document's disk in memory: what lies at its block; its in, its step. -/
namespace Go.Proofs.Yticljiffagobnab
open Go.RowKit Nums
set_option linter.unusedVariables false
set_option linter.unusedSimpArgs false
set_option maxRecDepth 100000
def pcells : List (Nat × List UInt8) → List Value
  | [] => []
  | p :: r => .int .i64 p.1 :: .string (bD p.2) :: pcells r
theorem pcells_append : ∀ (a b : List (Nat × List UInt8)), pcells (a ++ b) = pcells a ++ pcells b
  | [], _ => rfl
  | p :: r, b => by show _ :: _ :: pcells (r ++ b) = _; rw [pcells_append r b]; rfl
theorem pcells_length : ∀ (a : List (Nat × List UInt8)), (pcells a).length = a.length * 2
  | [] => rfl
  | p :: r => by show (pcells r).length + 1 + 1 = (r.length + 1) * 2; rw [pcells_length r]; omega
theorem pcells_one : ∀ (a : List (Nat × List UInt8)), ∀ v ∈ pcells a, v.oneCell' = true
  | [], v, h => by simp [pcells] at h
  | p :: r, v, h => by
    simp only [pcells, List.mem_cons] at h
    rcases h with rfl | rfl | h
    · rfl
    · rfl
    · exact pcells_one r v h
theorem pcells_at : ∀ (a : List (Nat × List UInt8)) (i : Nat) (h : i < a.length), (pcells a)[i * 2]? = some (.int .i64 a[i].1) ∧ (pcells a)[i * 2 + 1]? = some (.string (bD a[i].2))
  | p :: r, 0, _ => ⟨rfl, rfl⟩
  | p :: r, i + 1, h => by
    have := pcells_at r i (by simpa using h)
    rw [show (i + 1) * 2 = i * 2 + 1 + 1 by omega]
    exact this
def mCells (D : DkT) (v : Value) : Array Value := #[.string (bD D.safe), v, .bool D.down, .bool D.stops, .int .i64 D.left]
def MRow (w : World) (p : Nat) (D : DkT) (v : Value) : Prop :=
  w.heap[p]? = some (.cells (mCells D v) 45 (0, 0)) ∧ w.ownsRow 0 60 2 v D.puts.length (pcells D.puts)
/-- At block p lies the document's disk D; its memory is S. -/
structure MAt (w : World) (p : Nat) (D : DkT) (S : Nat → Prop) : Prop where
  ok : OkD D
  row : ∃ v, MRow w p D v ∧ ∀ b, S b ↔ (b = p ∨ v.ownBlock = some b)
theorem MRow.apart {w : World} {p : Nat} {D : DkT} {v : Value} (h : MRow w p D v) : v.ownBlock ≠ some p := by
  intro e
  rcases h.2.2 with ⟨rfl, _⟩ | ⟨g, cap, cur, rfl, _, hg, _⟩
  · cases e
  · obtain rfl : g = p := Option.some.inj e
    rw [h.1] at hg
    have := Option.some.inj hg
    injection this with _ ht
    revert ht
    decide
theorem MRow.lt {w : World} {p : Nat} {D : DkT} {v : Value} (h : MRow w p D v) : p < w.heap.size ∧ ∀ b, v.ownBlock = some b → b < w.heap.size := by
  refine ⟨heap_lt h.1, fun b e => ?_⟩
  rcases h.2.2 with ⟨rfl, _⟩ | ⟨g, cap, cur, rfl, _, hg, _⟩
  · cases e
  · obtain rfl : g = b := Option.some.inj e
    exact heap_lt hg
theorem MAt.lt {w : World} {p : Nat} {D : DkT} {S : Nat → Prop} (h : MAt w p D S) : ∀ b, S b → b < w.heap.size := by
  obtain ⟨ok, v, hr, hS⟩ := h
  intro b hb
  rcases (hS b).1 hb with rfl | e
  · exact hr.lt.1
  · exact hr.lt.2 b e
theorem MRow.keep {w w' : World} {p : Nat} {D : DkT} {v : Value} (h : MRow w p D v) (hb : ∀ b, (b = p ∨ v.ownBlock = some b) → w'.heap[b]? = w.heap[b]?) : MRow w' p D v := by
  refine ⟨(hb p (.inl rfl)).trans h.1, h.2.1, ?_⟩
  rcases h.2.2 with h0 | ⟨g, cap, cur, rfl, h1, hg, h2⟩
  · exact .inl h0
  · exact .inr ⟨g, cap, cur, rfl, h1, (hb g (.inr rfl)).trans hg, h2⟩
theorem MAt.keep {w w' : World} {p : Nat} {D : DkT} {S : Nat → Prop} (h : MAt w p D S) (hb : ∀ b, S b → w'.heap[b]? = w.heap[b]?) : MAt w' p D S := by
  obtain ⟨ok, v, hr, hS⟩ := h
  exact ⟨ok, v, hr.keep fun b e => hb b ((hS b).2 e), hS⟩
theorem MAt.below {w w' : World} {p : Nat} {D : DkT} {S : Nat → Prop} (h : MAt w p D S) (hb : Below w.heap.size w w') : MAt w' p D S := h.keep fun b e => hb.block b (h.lt b e)
theorem MAt.away {w w' : World} {p : Nat} {D : DkT} {S T : Nat → Prop} (h : MAt w p D S) (hw : Away T w w') (hT : ∀ b, S b → ¬ T b) : MAt w' p D S := h.keep fun b e => hw.block b (h.lt b e) (hT b e)
/-- The disk's own block is written, nothing else. -/
theorem MRow.set {w w' : World} {p : Nat} {D D' : DkT} {v : Value} (h : MRow w p D v) (hr : w'.heap[p]? = some (.cells (mCells D' v) 45 (0, 0))) (hg : w.grownBy w' (some p)) (hp : D'.puts = D.puts) : MRow w' p D' v := by
  refine ⟨hr, ?_⟩
  rw [hp]
  exact h.2.kept hg (.inr h.apart)
theorem away_grown {w w' : World} {p : Nat} {S : Nat → Prop} (hg : w.grownBy w' (some p)) (hS : S p) : Away S w w' :=
  ⟨hg.os, hg.tape, hg.output, hg.size, fun k hk hs => hg.block k hk (fun e => hs (by rw [Option.some.inj e]; exact hS))⟩
theorem gr_trans {a b c : World} {r : Option Nat} (h : a.grownBy b r) (k : b.grownBy c r) : a.grownBy c r :=
  ⟨k.os.trans h.os, k.tape.trans h.tape, k.output.trans h.output, Nat.le_trans h.size k.size, fun i hi hr => (k.block i (Nat.lt_of_lt_of_le hi h.size) hr).trans (h.block i hi hr)⟩
theorem MRow.c0 {w : World} {p : Nat} {D : DkT} {v : Value} (h : MRow w p D v) : w.cell? ⟨p, 0, none⟩ = some (.string (bD D.safe)) := by rw [cell_of_row w p 0 _ _ (0, 0) h.1]; rfl
theorem MRow.c1 {w : World} {p : Nat} {D : DkT} {v : Value} (h : MRow w p D v) : w.cell? ⟨p, 1, none⟩ = some v := by rw [cell_of_row w p 1 _ _ (0, 0) h.1]; rfl
theorem MRow.c2 {w : World} {p : Nat} {D : DkT} {v : Value} (h : MRow w p D v) : w.cell? ⟨p, 2, none⟩ = some (.bool D.down) := by rw [cell_of_row w p 2 _ _ (0, 0) h.1]; rfl
theorem MRow.c3 {w : World} {p : Nat} {D : DkT} {v : Value} (h : MRow w p D v) : w.cell? ⟨p, 3, none⟩ = some (.bool D.stops) := by rw [cell_of_row w p 3 _ _ (0, 0) h.1]; rfl
theorem MRow.c4 {w : World} {p : Nat} {D : DkT} {v : Value} (h : MRow w p D v) : w.cell? ⟨p, 4, none⟩ = some (.int .i64 D.left) := by rw [cell_of_row w p 4 _ _ (0, 0) h.1]; rfl
theorem MRow.fz {w : World} {p : Nat} {D : DkT} {v : Value} (h : MRow w p D v) (i : Nat) : w.frozen? ⟨p, i, none⟩ = false := frozen_of_row w p i _ _ h.1
set_option maxHeartbeats 2000000 in
theorem refIn_any (w : World) (p : Nat) (D : DkT) (v : Value) (h : MRow w p D v) (hr : D.safe.length ≤ 1000000) (a n : Int) (ha : In64 a) (hn : In64 n) :
    Calls Try.prog 26 #[ptr p, .int .i64 a, .int .i64 n] w fun e w' => e = .returned (.bool (inB D.safe.length a n)) ∧ w' = w := by
  have c0 := h.c0
  have hz := bD_size D.safe
  obtain ⟨A, hA⟩ : ∃ A, A = bD D.safe := ⟨_, rfl⟩
  rw [← hA] at c0 hz
  unfold In64 at ha hn
  unfold ptr inB
  rw [← hz]
  rw [← hz] at hr
  clear h hA hz
  by_cases h1 : 0 ≤ a
  · by_cases h2 : 0 ≤ n
    · by_cases h3 : a ≤ (A.size : Int)
      · have hw1 := wrap_int ((A.size : Int) - a) (by omega) (by omega)
        by_cases h4 : n ≤ (A.size : Int) - a
        · have hx : decide (0 ≤ a ∧ 0 ≤ n ∧ a ≤ (A.size : Int) ∧ n ≤ (A.size : Int) - a) = true := by rw [decide_eq_true_eq]; exact ⟨h1, h2, h3, h4⟩
          rw [hx]
          clear hx
          go_enter Try.func26, Try.ntmps26
          go_wp2
          go_ret
          exact ⟨by simp [h4], rfl⟩
        · have hx : decide (0 ≤ a ∧ 0 ≤ n ∧ a ≤ (A.size : Int) ∧ n ≤ (A.size : Int) - a) = false := by rw [decide_eq_false_iff_not]; omega
          rw [hx]
          clear hx
          go_enter Try.func26, Try.ntmps26
          go_wp2
          go_ret
          exact ⟨by simp [h4], rfl⟩
      · have hx : decide (0 ≤ a ∧ 0 ≤ n ∧ a ≤ (A.size : Int) ∧ n ≤ (A.size : Int) - a) = false := by rw [decide_eq_false_iff_not]; omega
        rw [hx]
        clear hx
        go_enter Try.func26, Try.ntmps26
        go_wp2
        go_ret
        exact ⟨rfl, rfl⟩
    · have hx : decide (0 ≤ a ∧ 0 ≤ n ∧ a ≤ (A.size : Int) ∧ n ≤ (A.size : Int) - a) = false := by rw [decide_eq_false_iff_not]; omega
      rw [hx]
      clear hx
      go_enter Try.func26, Try.ntmps26
      go_wp2
      go_ret
      exact ⟨rfl, rfl⟩
  · have hx : decide (0 ≤ a ∧ 0 ≤ n ∧ a ≤ (A.size : Int) ∧ n ≤ (A.size : Int) - a) = false := by rw [decide_eq_false_iff_not]; omega
    rw [hx]
    clear hx
    go_enter Try.func26, Try.ntmps26
    go_wp2
    go_ret
    exact ⟨rfl, rfl⟩
set_option maxHeartbeats 2000000 in
theorem refStep_any (w : World) (p : Nat) (D : DkT) (v : Value) (h : MRow w p D v) (ok : OkD D) :
    Calls Try.prog 27 #[ptr p] w fun e w' => e = .returned (.int .i64 0) ∧ MRow w' p (stepD D) v ∧ w.grownBy w' (some p) := by
  have HR := hidd h
  have c3 := h.c3
  have c4 := h.c4
  have f2 := h.fz 2
  have f4 := h.fz 4
  have c2 := h.c2
  have hl := ok.left
  unfold ptr stepD
  cases hs : D.stops
  · rw [hs] at c3
    rw [if_neg (by simp)]
    clear h ok hs c4 c2 f2 f4
    go_enter Try.func27, Try.ntmps27
    go_wp2
    go_ret
    exact ⟨rfl, HR.out, World.grownBy.refl _ _⟩
  · rw [hs] at c3
    rw [if_pos rfl]
    have hw1 := wrap_int (D.left - 1) (by omega) (by omega)
    obtain ⟨l, hll⟩ : ∃ l, l = D.left := ⟨_, rfl⟩
    have h1 := Go.heap_setCell_same w p 4 _ _ (.int .i64 (D.left - 1)) h.1
    have h2 := Go.heap_setCell_same _ p 2 _ _ (.bool (decide (D.left - 1 ≤ 0))) h1
    have HG := hidd (gr_trans (Lib.grownBy_setCell w p 4 (.int .i64 (D.left - 1))) (Lib.grownBy_setCell _ p 2 (.bool (decide (D.left - 1 ≤ 0)))))
    have HM : Hid (MRow ((w.setCell ⟨p, 4, none⟩ (.int .i64 (D.left - 1))).setCell ⟨p, 2, none⟩ (.bool (decide (D.left - 1 ≤ 0)))) p { D with left := D.left - 1, down := decide (D.left - 1 ≤ 0), stops := true } v) := by
      refine HR.out.set ?_ HG.out rfl
      rw [h2]
      simp [mCells, hs]
    clear h1 h2
    rw [← hll] at c4 hw1 hl HG HM ⊢
    obtain ⟨d, hd⟩ : ∃ d, d = D.down := ⟨_, rfl⟩
    rw [← hd] at c2
    clear h ok hs HR hll hd
    go_enter Try.func27, Try.ntmps27
    go_wp2
    go_ret
    exact ⟨rfl, HM.out, HG.out⟩
end Go.Proofs.Yticljiffagobnab

/- What the document's Now, New, Read, Write, Sync and Stop answer. -/
namespace Go.Proofs.Yticljiffagobnab
open Go.RowKit Nums
set_option linter.unusedVariables false
set_option linter.unusedSimpArgs false
set_option maxRecDepth 100000
def foldK (D : DkT) (k : Nat) : List UInt8 := (D.puts.take k).foldl doneB D.safe
theorem foldK_next (D : DkT) (k : Nat) (h : k < D.puts.length) : foldK D (k + 1) = doneB (foldK D k) D.puts[k] := by
  unfold foldK
  rw [List.take_add_one, List.getElem?_eq_getElem h, List.foldl_append]
  rfl
theorem foldK_all (D : DkT) : foldK D D.puts.length = nowB D := by unfold foldK nowB; rw [List.take_of_length_le (Nat.le_refl _)]
theorem foldK_length {D : DkT} (ok : OkD D) (k : Nat) : (foldK D k).length = D.safe.length := fold_length _ _ fun p hp => ok.puts p (List.mem_of_mem_take hp)
/-- The slice of writes, read. -/
theorem MRow.at {w : World} {p : Nat} {D : DkT} {v : Value} (h : MRow w p D v) (k : Nat) (hk : k < D.puts.length) :
    ∃ g cap, v = .slice (some ⟨g, 0, none⟩) D.puts.length cap ∧ w.cell? ⟨g, k * 2, none⟩ = some (.int .i64 D.puts[k].1) ∧ w.cell? ⟨g, k * 2 + 1, none⟩ = some (.string (bD D.puts[k].2)) ∧ g < w.heap.size := by
  rcases h.2.2 with ⟨_, h0⟩ | ⟨g, cap, cur, rfl, _, hg, hnc, hcm, hcs, htk⟩
  · omega
  · have hp := pcells_at D.puts k hk
    have hl := pcells_length D.puts
    have e : ∀ j, j < D.puts.length * 2 → cur[j]? = (pcells D.puts)[j]? := fun j hj => by
      rw [← htk, List.getElem?_take_of_lt hj, Array.getElem?_toList]
    refine ⟨g, cap, rfl, ?_, ?_, heap_lt hg⟩
    · rw [cell_of_row w g (k * 2) cur _ (0, 0) hg, e _ (by omega)]; exact hp.1
    · rw [cell_of_row w g (k * 2 + 1) cur _ (0, 0) hg, e _ (by omega)]; exact hp.2
theorem MRow.len {w : World} {p : Nat} {D : DkT} {v : Value} (h : MRow w p D v) : ∃ a cap, v = .slice a D.puts.length cap ∧ D.puts.length ≤ maxLen := by
  rcases h.2.2 with ⟨rfl, h0⟩ | ⟨g, cap, cur, rfl, _, hg, hnc, hcm, hcs, htk⟩
  · exact ⟨none, 0, by rw [h0], by rw [h0]; exact Nat.zero_le _⟩
  · exact ⟨_, cap, rfl, by omega⟩
theorem MRow.below {w w' : World} {p : Nat} {D : DkT} {v : Value} (h : MRow w p D v) (hb : Below w.heap.size w w') : MRow w' p D v := h.keep fun b e => hb.block b (by rcases e with rfl | e; exact h.lt.1; exact h.lt.2 b e)
set_option maxHeartbeats 4000000 in
theorem refNow_any (w : World) (p : Nat) (D : DkT) (v : Value) (h : MRow w p D v) (ok : OkD D) (T : ByteArray) (HT : Hid (T = bD (nowB D))) :
    Calls Try.prog 28 #[ptr p] w fun e w' => e = .returned (.string T) ∧ Below w.heap.size w w' := by
  have HR := hidd h
  have c0 := h.c0
  obtain ⟨a, cap, rfl, hml⟩ := h.len
  obtain ⟨n, Hn⟩ : ∃ n, Hid (n = D.puts.length) := ⟨_, hidd rfl⟩
  obtain ⟨F, HF⟩ : ∃ F : Nat → ByteArray, Hid (∀ k, F k = bD (foldK D k)) := ⟨_, (fun k => rfl : ∀ k, bD (foldK D k) = _)⟩
  have hF0 : bD D.safe = F 0 := by rw [HF.out]; rfl
  rw [hF0] at c0
  have HFN : Hid (F n = T) := by show _ = _; rw [HF.out, HT.out, Hn.out, foldK_all]
  have hnm : n ≤ maxLen := by rw [Hn.out]; exact hml
  unfold maxLen at hnm
  have HC1 : Hid (∀ W, Below w.heap.size w W → W.cell? ⟨p, 1, none⟩ = some (.slice a n cap)) := fun W hb => by rw [Hn.out]; exact (HR.out.below hb).c1
  have ND : Hid (∀ W k, k < n → Below w.heap.size w W → ∃ g at_ B, a = some ⟨g, 0, none⟩ ∧ W.cell? ⟨g, k * 2, none⟩ = some (.int .i64 (at_ : Nat)) ∧ W.cell? ⟨g, k * 2 + 1, none⟩ = some (.string B) ∧
      ∀ V : World, Calls Try.prog 29 #[.string (F k), .agg #[.int .i64 (at_ : Nat), .string B]] V fun e w' => e = .returned (.string (F (k + 1))) ∧ Below V.heap.size V w') := fun W k hk hb => by
    rw [Hn.out] at hk
    obtain ⟨g, cap', e, h1, h2, _⟩ := (HR.out.below hb).at k hk
    have hl := foldK_length ok k
    have hp := ok.puts D.puts[k] (List.getElem_mem hk)
    have hrm := ok.room.2
    cases e
    refine ⟨g, D.puts[k].1, bD D.puts[k].2, rfl, h1, h2, fun V => ?_⟩
    exact refDone_any (foldK D k) D.puts[k].2 D.puts[k].1 (by omega) (by omega) (F (k + 1)) (by show _ = _; rw [HF.out, foldK_next D k hk]) (F k) (bD D.puts[k].2) (HF.out k) (hidd rfl) V
  rw [← HFN.out]
  have hz : ∀ w, (sizeOf 60).run Try.prog w = .ok 2 w := fun w => by
    have h : (Try.prog.info? 60).map (·.size) = some 2 := by kernel_rfl
    cases hq : Try.prog.info? 60 with
    | none => rw [hq] at h; cases h
    | some i =>
      rw [hq] at h
      simp only [Option.map_some, Option.some.injEq] at h
      simp [sizeOf, typeInfo, hq, h]
  unfold ptr
  clear h ok HT hF0 HFN HF HR hml Hn
  go_enter Try.func28, Try.ntmps28
  go_wp2
  go_loopw [3, 4] (fun s i wr => ∃ k : Nat, k ≤ n ∧ i = .int .i64 k ∧ s = .string (F k) ∧ Hid (Below w.heap.size w wr)) (fun _ i _ => n - (intOf i).toNat)
  case atStart => exact ⟨0, by omega, rfl, rfl, Below.refl _ _⟩
  case round =>
    obtain ⟨k, hk, rfl, rfl, HB⟩ := hrel
    have c1 := HC1.out wr HB.out
    by_cases hlt : k < n
    · have hdk : decide ((k : Int) < (n : Int)) = true := by rw [decide_eq_true_eq]; omega
      have hw := wrap_int ((k : Int) + 1) (by omega) (by omega)
      obtain ⟨g, at_, B, rfl, d1, d2, hcall⟩ := ND.out wr k hlt HB.out
      have HCL := hidd hcall
      have ix : ∀ W, (Instr.indexAt 43 (.slice (some ⟨g, 0, none⟩) n cap) (.int .i64 (k : Int))).run Try.prog W = .ok (.pointer (some ⟨g, k * 2, none⟩)) W := fun W => by
        simp [Instr.indexAt, asIntOf, run_underlying Try.underlying43, hz, hlt]
        rw [add_plain, Nat.zero_add]
      clear hcall ND HC1
      go_wp2_with fail
      refine (HCL.out _).mono ?_
      rintro e w2 ⟨rfl, hb2⟩
      have HB2 := hidd (HB.out.trans (hb2.mono HB.out.size))
      clear hb2
      go_wp2
      go_roundw
      case rel => exact ⟨k + 1, by omega, by go_num, rfl, HB2⟩
      case measure => simp [intOf]; omega
    · obtain rfl : n = k := by omega
      have hdk : decide ((n : Int) < (n : Int)) = false := by rw [decide_eq_false_iff_not]; omega
      go_wp2
      go_ret
      exact ⟨rfl, HB.out⟩
end Go.Proofs.Yticljiffagobnab

/- What a write wrote over, and going back. -/
namespace Go.Proofs.Yticljiffagobnab
set_option linter.unusedVariables false
set_option maxRecDepth 100000
/-- What a write writes over. -/
def oldB (s : List UInt8) (p : Nat × List UInt8) : List UInt8 := (s.drop p.1).take p.2.length
theorem oldB_length {s : List UInt8} {p : Nat × List UInt8} (h : p.1 + p.2.length ≤ s.length) : (oldB s p).length = p.2.length := by
  unfold oldB
  rw [List.length_take, List.length_drop]
  omega
theorem doneB_get {s : List UInt8} {p : Nat × List UInt8} (h : p.1 + p.2.length ≤ s.length) (k : Nat) : (doneB s p)[k]? = if p.1 ≤ k ∧ k < p.1 + p.2.length then p.2[k - p.1]? else s[k]? := by
  by_cases hk : p.1 ≤ k ∧ k < p.1 + p.2.length
  · rw [if_pos hk]
    unfold doneB
    have hl : (s.take p.1).length = p.1 := by rw [List.length_take]; omega
    rw [List.append_assoc, List.getElem?_append_right (by omega), hl, List.getElem?_append_left (by omega)]
  · rw [if_neg hk]
    exact doneB_at h k (by omega)
theorem oldB_get {s : List UInt8} {p : Nat × List UInt8} (k : Nat) (hk : k < p.2.length) : (oldB s p)[k]? = s[p.1 + k]? := by
  unfold oldB
  rw [List.getElem?_take_of_lt hk, List.getElem?_drop]
/-- Back from place t of a write on: the write's first t bytes are left. -/
theorem undo_part {s : List UInt8} {p : Nat × List UInt8} (h : p.1 + p.2.length ≤ s.length) (t : Nat) (ht : t ≤ p.2.length) : doneB (doneB s p) (p.1 + t, (oldB s p).drop t) = doneB s (p.1, p.2.take t) := by
  have ho := oldB_length h
  have hl := doneB_length h
  have h1 : (p.1 + t, (oldB s p).drop t).1 + (p.1 + t, (oldB s p).drop t).2.length ≤ (doneB s p).length := by
    show p.1 + t + ((oldB s p).drop t).length ≤ _
    rw [List.length_drop]; omega
  have h2 : (p.1, p.2.take t).1 + (p.1, p.2.take t).2.length ≤ s.length := by
    show p.1 + (p.2.take t).length ≤ _
    rw [List.length_take]; omega
  apply List.ext_getElem?
  intro k
  rw [doneB_get h1 k, doneB_get h2 k, doneB_get h k]
  simp only [List.length_drop, List.length_take, ho]
  have hmin : min t p.2.length = t := by omega
  rw [hmin]
  by_cases a1 : p.1 + t ≤ k ∧ k < p.1 + t + (p.2.length - t)
  · rw [if_pos a1, if_neg (by omega), List.getElem?_drop, oldB_get _ (by omega)]
    congr 1
    omega
  · rw [if_neg a1]
    by_cases a2 : p.1 ≤ k ∧ k < p.1 + t
    · rw [if_pos (by omega), if_pos a2, List.getElem?_take_of_lt (by omega)]
    · rw [if_neg (by omega), if_neg a2]
theorem done_none (s : List UInt8) (q : Nat) : doneB s (q, []) = s := by
  unfold doneB
  show s.take q ++ [] ++ s.drop (q + 0) = s
  simp
/-- The whole way back. -/
theorem undo_done {s : List UInt8} {p : Nat × List UInt8} (h : p.1 + p.2.length ≤ s.length) : doneB (doneB s p) (p.1, oldB s p) = s := by
  have := undo_part h 0 (Nat.zero_le _)
  rw [List.drop_zero, List.take_zero, Nat.add_zero, done_none] at this
  exact this
theorem tornB_nat (b : List UInt8) (torn : Int) : tornB b torn = b.take (max (min torn ((b.length : Int) - 1)) 0).toNat := by
  unfold tornB
  congr 1
  omega
/-- A crash, told by what the writes had made up to the one that is torn. -/
theorem crashL_cut (keep torn : Int) (K : Nat) (hK : (K : Int) = max keep 0) : ∀ (l : List (Nat × List UInt8)) (i : Nat) (s : List UInt8), i ≤ K →
    crashL keep torn i s l = match l[K - i]? with | none => l.foldl doneB s | some p => doneB ((l.take (K - i)).foldl doneB s) (p.1, tornB p.2 torn)
  | [], i, s, _ => rfl
  | p :: r, i, s, hi => by
    show crashL keep torn (i + 1) (crashS keep torn i s p) r = _
    by_cases e : i = K
    · subst e
      have e0 : i - i = 0 := by omega
      rw [e0]
      have hs : crashS keep torn i s p = doneB s (p.1, tornB p.2 torn) := by
        unfold crashS
        rw [if_neg (by omega)]
        by_cases h0 : 0 < p.2.length
        · rw [if_pos ⟨hK, h0⟩]
        · rw [if_neg (fun h => h0 h.2)]
          have : p.2 = [] := List.length_eq_zero_iff.1 (by omega)
          rw [this]
          show s = doneB s (p.1, ([] : List UInt8).take _)
          rw [List.take_nil, done_none]
      rw [hs]
      show crashL keep torn (i + 1) (doneB s (p.1, tornB p.2 torn)) r = doneB s (p.1, tornB p.2 torn)
      have rest : ∀ (r : List (Nat × List UInt8)) (j : Nat) (t : List UInt8), i < j → crashL keep torn j t r = t := by
        intro r
        induction r with
        | nil => intro j t _; rfl
        | cons q r ih =>
          intro j t hj
          show crashL keep torn (j + 1) (crashS keep torn j t q) r = t
          have : crashS keep torn j t q = t := by unfold crashS; rw [if_neg (by omega), if_neg (by omega)]
          rw [this]
          exact ih (j + 1) t (by omega)
      exact rest r (i + 1) _ (by omega)
    · have hs : crashS keep torn i s p = doneB s p := by unfold crashS; rw [if_pos (by omega)]
      rw [hs, crashL_cut keep torn K hK r (i + 1) (doneB s p) (by omega)]
      have e1 : K - i = (K - (i + 1)) + 1 := by omega
      rw [e1, List.getElem?_cons_succ, List.take_succ_cons]
      rfl
theorem crashB_cut (D : DkT) (keep torn : Int) (K : Nat) (hK : (K : Int) = max keep 0) : crashB D keep torn = match D.puts[K]? with | none => nowB D | some p => doneB (foldK D K) (p.1, tornB p.2 torn) := by
  have := crashL_cut keep torn K hK D.puts 0 D.safe (Nat.zero_le _)
  rw [Nat.sub_zero] at this
  exact this
/-- One step back from behind write number k. -/
theorem foldK_back {D : DkT} (ok : OkD D) (k : Nat) (h : k < D.puts.length) : doneB (foldK D (k + 1)) (D.puts[k].1, oldB (foldK D k) D.puts[k]) = foldK D k := by
  rw [foldK_next D k h]
  exact undo_done (by rw [foldK_length ok]; exact ok.puts _ (List.getElem_mem h))
/-- The torn write: back from its place t on. -/
theorem foldK_torn {D : DkT} (ok : OkD D) (k : Nat) (h : k < D.puts.length) (t : Nat) (ht : t ≤ D.puts[k].2.length) : doneB (foldK D (k + 1)) (D.puts[k].1 + t, (oldB (foldK D k) D.puts[k]).drop t) = doneB (foldK D k) (D.puts[k].1, D.puts[k].2.take t) := by
  rw [foldK_next D k h]
  exact undo_part (by rw [foldK_length ok]; exact ok.puts _ (List.getElem_mem h)) t ht
end Go.Proofs.Yticljiffagobnab
