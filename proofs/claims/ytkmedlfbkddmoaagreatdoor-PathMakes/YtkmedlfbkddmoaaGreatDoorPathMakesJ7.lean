/- Texts of our own that the row of PathMakes leans on, part 7. -/
import Derived.Test.YtkmedlfbkddmoaaGreatDoorPathMakesJ6
import Derived.Lib.BufferWrite
import Derived.OwnWalk
import Derived.Lib.AppendStr
/- What sha.message answers: the parts' bytes, and what fills them up to whole blocks. -/
namespace Go.Proofs.YtkmedlfbkddmoaaGreatDoor
open Go.RowKit Sums
set_option maxRecDepth 100000
set_option linter.unusedVariables false
set_option linter.unusedSimpArgs false
theorem info5' : (Tryz.prog.info? 5).map (fun i => (i.zero, i.size, i.bytes)) = some (some (.int .u8 0), 1, 1) := by kernel_rfl
theorem size5' : (Tryz.prog.info? 5).map (·.size) = some 1 := by kernel_rfl
def total : List ByteArray → Nat
  | [] => 0
  | s :: r => s.size + total r
def joinL (ss : List ByteArray) : List UInt8 := ss.flatMap fun s => s.data.toList
theorem joinL_length (ss : List ByteArray) : (joinL ss).length = total ss := by
  induction ss with
  | nil => rfl
  | cons s r ih => simp [joinL, total] at ih ⊢; rw [ih]
theorem joinL_append (a b : List ByteArray) : joinL (a ++ b) = joinL a ++ joinL b := by simp [joinL]
theorem total_append (a b : List ByteArray) : total (a ++ b) = total a + total b := by
  induction a with
  | nil => simp [total]
  | cons s r ih => simp [total, ih]; omega
theorem take_succ_parts (ss : List ByteArray) (k : Nat) (h : k < ss.length) : ss.take (k + 1) = ss.take k ++ [ss[k]] := by
  rw [List.take_add_one, List.getElem?_eq_getElem h]; rfl
theorem total_take (ss : List ByteArray) (k : Nat) : total (ss.take k) ≤ total ss := by
  have h := total_append (ss.take k) (ss.drop k)
  rw [List.take_append_drop] at h
  omega
theorem total_step (ss : List ByteArray) (k : Nat) (h : k < ss.length) : total (ss.take (k + 1)) = total (ss.take k) + ss[k].size := by
  rw [take_succ_parts ss k h, total_append]; rfl
def Texts (w : World) (a : Option Addr) (len : Nat) (ss : List ByteArray) : Prop :=
  ss.length = len ∧ (len = 0 ∨ ∃ b off, a = some ⟨b, off, none⟩ ∧ b < w.heap.size ∧ ∀ i, (hi : i < ss.length) → w.cell? ⟨b, off + i, none⟩ = some (.string ss[i]))
theorem Texts.keep {w w' : World} {a : Option Addr} {len : Nat} {ss : List ByteArray} (h : Texts w a len ss) (hb : Below w.heap.size w w') : Texts w' a len ss := by
  refine ⟨h.1, ?_⟩
  rcases h.2 with h0 | ⟨b, off, rfl, hlt, hc⟩
  · exact .inl h0
  · exact .inr ⟨b, off, rfl, Nat.lt_of_lt_of_le hlt hb.size, fun i hi => by rw [hb.cell (p := ⟨b, off + i, none⟩) hlt]; exact hc i hi⟩
theorem own_row {w : World} {B g n : Nat} {l : List UInt8} (h : w.ownsRow B 5 1 (.slice (some ⟨g, 0, none⟩) n n) n (cellsOf l)) : w.heap[g]? = some (.cells (cellsOf l).toArray 5 (0, 0)) := by
  rcases h.2 with ⟨h0, _⟩ | ⟨g', cap, cur, hv, _, hg, _, _, hsz, ht⟩
  · cases h0
  · cases hv
    rw [hg]
    have : cur.toList = cellsOf l := by
      rw [← ht, List.take_of_length_le]
      simp [hsz]
    rw [← this]
theorem cells_made (n : Nat) : (madeCells #[Value.int .u8 0] n).toList = cellsOf (List.replicate n 0) := by
  rw [toList_madeCells_one]; simp [cellsOf]
def filled (l : List UInt8) (n : Nat) : List UInt8 := l ++ List.replicate (n - l.length) 0
theorem filled_length (l : List UInt8) (n : Nat) (h : l.length ≤ n) : (filled l n).length = n := by simp [filled]; omega
theorem filled_copy (l x : List UInt8) (n : Nat) (h : l.length + x.length ≤ n) :
    (cellsOf (filled l n)).take l.length ++ cellsOf x ++ (cellsOf (filled l n)).drop (l.length + x.length) = cellsOf (filled (l ++ x) n) := by
  unfold filled
  rw [cellsOf_append, List.take_left' (by rw [cellsOf_length]), ← List.drop_drop, List.drop_left' (by rw [cellsOf_length]), cellsOf_append, cellsOf_append]
  simp [cellsOf, Nat.sub_sub]
theorem be8_bytes (n : Nat) (h : n < 18446744073709551616) : be8 n = bytes4 ((n / 4294967296 : Nat) : Int) ++ bytes4 ((n % 4294967296 : Nat) : Int) := by
  unfold be8 bytes4
  have e : ∀ a b : Nat, a % 256 = b % 256 → UInt8.ofNat a = UInt8.ofNat b := fun a b h => by
    apply UInt8.toNat_inj.mp
    rw [UInt8.toNat_ofNat', UInt8.toNat_ofNat']
    exact h
  simp only [List.cons_append, List.nil_append, List.cons.injEq, and_true]
  refine ⟨e _ _ (by omega), e _ _ (by omega), e _ _ (by omega), e _ _ (by omega), e _ _ (by omega), e _ _ (by omega), e _ _ (by omega), e _ _ (by omega)⟩
theorem pad_puts (l : List UInt8) (h : l.length ≤ 1000000) :
    put4 (put4 ((filled l (64 * nBlocks l.length)).set l.length 128) (64 * nBlocks l.length - 8) (((8 * l.length) / 4294967296 : Nat) : Int)) (64 * nBlocks l.length - 4) (((8 * l.length) % 4294967296 : Nat) : Int) = pad l := by
  have hn : l.length + 9 ≤ 64 * nBlocks l.length := by unfold nBlocks; omega
  unfold pad
  generalize 64 * nBlocks l.length = N at hn ⊢
  have e0 : (filled l N).set l.length 128 = l ++ 128 :: List.replicate (N - 9 - l.length) 0 ++ List.replicate 8 0 := by
    unfold filled
    rw [List.set_append, if_neg (by omega), Nat.sub_self, show N - l.length = (N - 9 - l.length) + 8 + 1 by omega, List.replicate_succ, List.set_cons_zero, List.append_assoc, List.cons_append, List.replicate_append_replicate]
  have pa : ∀ (A B : List UInt8) (o : Nat) (z : Int), o = A.length → put4 (A ++ B) o z = A ++ bytes4 z ++ B.drop 4 := by
    intro A B o z ho
    subst ho
    unfold put4
    rw [List.take_left' rfl, ← List.drop_drop, List.drop_left' rfl]
  rw [e0, pa _ _ _ _ (by simp; omega), pa _ _ _ _ (by simp [bytes4]; omega)]
  rw [be8_bytes _ (by omega)]
  simp
set_option maxHeartbeats 2000000 in
set_option maxRecDepth 100000 in
theorem message_any (a : Option Addr) (len cap : Nat) (ss : List ByteArray) (w : World) (hT : Texts w a len ss) (ht : total ss ≤ 1000000) (hlen : len ≤ 9223372036854775807) :
    Calls Tryz.prog 117 #[.slice a len cap] w fun e w' => ∃ g, e = .returned (.slice (some ⟨g, 0, none⟩) (64 * nBlocks (total ss)) (64 * nBlocks (total ss))) ∧
      w'.heap[g]? = some (.cells (cellsOf (pad (joinL ss))).toArray 5 (0, 0)) ∧ w.heap.size ≤ g ∧ Below w.heap.size w w' := by
  obtain ⟨i0, hi, hz0, hz1, hz2⟩ := info_parts info5'
  have HT : Hid (Texts w a len ss) := hT
  have HSL : Hid (ss.length = len) := hT.1
  have HTT : Hid (total ss ≤ 1000000) := ht
  have HI : Hid _ := hi
  have HZ : Hid (i0.zero = some (.int .u8 0) ∧ i0.size = 1 ∧ i0.bytes = 1) := ⟨hz0, hz1, hz2⟩
  clear hT ht hi hz0 hz1 hz2
  go_enter Tryz.func117, Tryz.ntmps117
  go_wp2
  go_loop [3, 14] (fun v i => ∃ k t : Nat, k ≤ len ∧ t ≤ 1000000 ∧ i = .int .i64 k ∧ v = .int .i64 t ∧ Hid (t = total (ss.take k))) (fun _ i => len - (intOf i).toNat)
  case atStart => exact ⟨0, 0, by omega, by omega, rfl, rfl, (rfl : 0 = _)⟩
  case round =>
    obtain ⟨k, t, hk, ht, rfl, rfl, HTK⟩ := hrel
    by_cases hlt : k < len
    · have hlk : k < ss.length := by have := HSL.out; omega
      obtain ⟨p, HP⟩ : ∃ p, Hid (p = ss[k]) := ⟨_, (rfl : ss[k] = _)⟩
      have HN : Hid (t + p.size = total (ss.take (k + 1))) := by
        show _ = _
        rw [total_step ss k hlk, HTK.out, HP.out]
      have hps : t + p.size ≤ 1000000 := by
        have h1 := total_take ss (k + 1)
        have h2 := HN.out
        have h3 := HTT.out
        omega
      obtain ⟨b, off, rfl, hcell⟩ : ∃ b off, a = some ⟨b, off, none⟩ ∧ w.cell? ⟨b, off + k, none⟩ = some (.string p) := by
        rcases HT.out.2 with h0 | ⟨b, off, e, _, hc⟩
        · omega
        · exact ⟨b, off, e, by rw [hc k hlk, HP.out]⟩
      have hlt' : (k : Int) < (len : Int) := by omega
      go_wp2
      go_round
      case rel => exact ⟨k + 1, t + p.size, by omega, by omega, by go_num, by go_num, HN⟩
      case measure => simp [intOf]; omega
    · obtain rfl : len = k := by omega
      have HTA : Hid (t = total ss) := by
        have := HTK.out
        rw [List.take_of_length_le (by have := HSL.out; omega)] at this
        exact this
      clear HTK
      obtain ⟨N, HN⟩ : ∃ N, Hid (N = 64 * nBlocks t) := ⟨_, (rfl : 64 * nBlocks t = _)⟩
      have hN9 : t + 9 ≤ N := by have := HN.out; unfold nBlocks at this; omega
      have hNm : N ≤ 1000100 := by have := HN.out; unfold nBlocks at this; omega
      have HNI : Hid (((t : Int) + 1 + 8 + 64 - 1) / 64 * 64 = (N : Int)) := by
        show _ = _
        have := HN.out
        unfold nBlocks at this
        omega
      go_wp2_with (first
        | (at_make; refine wpList_make_full _ rfl (.tmp 30) (.tmp 30) 69 rfl w.heap.size 5 i0 (.int .u8 0) 1 Tryz.underlying69 HI.out HZ.out.1 HZ.out.2.1 .i64 .i64 _ _ N rfl rfl ?c1 ?c2 ?c3 ?c4 ?c5 ?_)
        | fail)
      case c1 => exact HNI.out
      case c2 => exact HNI.out
      case c3 => rw [HZ.out.2.2]; omega
      case c4 => unfold maxLen; omega
      intro w1 hown hgrow
      have HG1 : Hid (w1.heap[w.heap.size]? = some (.cells (cellsOf (filled [] N)).toArray 5 (0, 0))) := by
        have h1 : w1.ownsRow w.heap.size 5 1 (.slice (some ⟨w.heap.size, 0, none⟩) N N) N (cellsOf (filled [] N)) := by
          have h2 := hown
          rw [cells_made] at h2
          exact h2
        exact own_row h1
      have hB1 : Below w.heap.size w w1 := (Below.refl _ _).grown hgrow (Nat.le_refl _) (by intro k hk; cases hk)
      clear hown hgrow HNI
      go_wp2
      go_loopw [8, 34] (fun v i wr => ∃ k q : Nat, k ≤ len ∧ q ≤ t ∧ i = .int .i64 k ∧ v = .int .i64 q ∧ Hid (q = total (ss.take k)) ∧ Hid (wr.heap[w.heap.size]? = some (.cells (cellsOf (filled (joinL (ss.take k)) N)).toArray 5 (0, 0))) ∧ Below w.heap.size w wr)
        (fun _ i _ => len - (intOf i).toNat)
      case atStart => exact ⟨0, 0, by omega, by omega, rfl, rfl, (rfl : 0 = _), HG1, hB1⟩
      case round =>
        clear HG1 hB1
        obtain ⟨k, q, hk, hq, rfl, rfl, HQ, HG, hB⟩ := hrel
        by_cases hlt : k < len
        · have hlk : k < ss.length := by have := HSL.out; omega
          obtain ⟨p, HP⟩ : ∃ p, Hid (p = ss[k]) := ⟨_, (rfl : ss[k] = _)⟩
          have HQ2 : Hid (q + p.size = total (ss.take (k + 1))) := by
            show _ = _
            rw [total_step ss k hlk, HQ.out, HP.out]
          have hps : q + p.size ≤ t := by
            have h1 := total_take ss (k + 1)
            have h2 := HQ2.out
            have h3 := HTA.out
            omega
          obtain ⟨b, off, rfl, hcell⟩ : ∃ b off, a = some ⟨b, off, none⟩ ∧ wr.cell? ⟨b, off + k, none⟩ = some (.string p) := by
            rcases (HT.out.keep hB).2 with h0 | ⟨b, off, e, _, hc⟩
            · omega
            · exact ⟨b, off, e, by rw [hc k hlk, HP.out]⟩
          have hlt' : (k : Int) < (len : Int) := by omega
          have HJ : Hid ((joinL (ss.take k)).length = q) := by show _ = _; rw [joinL_length, HQ.out]
          have hcopy := fun ty => Lib.run_copy_row_string (P := Tryz.prog) wr 69 9 ty 5 w.heap.size q (N - q) (N - q) p _ 5 Tryz.underlying69 size5' HG.out (by omega) (by
            have := filled_length (joinL (ss.take k)) N (by rw [HJ.out]; omega)
            simp [cellsOf_length, this]; omega)
          have HC : Hid ((List.take q (cellsOf (filled (joinL (ss.take k)) N)) ++ Lib.byteCells p.data.toList ++ List.drop (q + p.size) (cellsOf (filled (joinL (ss.take k)) N))).toArray = (cellsOf (filled (joinL (ss.take (k + 1))) N)).toArray) := by
            show _ = _
            have h1 := filled_copy (joinL (ss.take k)) p.data.toList N (by rw [HJ.out]; show q + p.size ≤ N; omega)
            rw [HJ.out] at h1
            have e : joinL (ss.take (k + 1)) = joinL (ss.take k) ++ p.data.toList := by
              rw [take_succ_parts ss k hlk, joinL_append, HP.out]
              simp [joinL]
            rw [e, ← h1]
            rfl
          rw [show (cellsOf (filled (joinL (ss.take k)) N)).toArray.toList = cellsOf (filled (joinL (ss.take k)) N) by simp, HC.out] at hcopy
          go_wp2
          go_roundw
          case rel => exact ⟨k + 1, q + p.size, by omega, by omega, by go_num, by go_num, HQ2, setRow_heap _ _ _ _ 5 _ HG.out, below_setRow hB (Nat.le_refl _) _⟩
          case measure => simp [intOf]; omega
        · obtain rfl : len = k := by omega
          obtain ⟨J, HJ⟩ : ∃ J, Hid (J = joinL ss) := ⟨_, (rfl : joinL ss = _)⟩
          have HJL : Hid (J.length = t) := by show _ = _; rw [HJ.out, joinL_length, HTA.out]
          have hqt : t = q := by
            have := HQ.out
            rw [List.take_of_length_le (by have := HSL.out; omega)] at this
            rw [this, HTA.out]
          subst hqt
          have HF : Hid (wr.heap[w.heap.size]? = some (.cells (cellsOf (filled J N)).toArray 5 (0, 0))) := by
            have := HG.out
            rw [List.take_of_length_le (by have := HSL.out; omega), ← HJ.out] at this
            exact this
          have HFL : Hid ((filled J N).length = N) := filled_length J N (by rw [HJL.out]; omega)
          have hcell : wr.cell? ⟨w.heap.size, t, none⟩ = some (.int .u8 (((filled J N)[t]'(by rw [HFL.out]; omega)).toNat : Int)) := by
            rw [cell_of_row wr _ _ _ 5 (0, 0) HF.out]; simp [cellsOf_at (filled J N) t (by rw [HFL.out]; omega)]
          have hfz : wr.frozen? ⟨w.heap.size, t, none⟩ = false := frozen_of_row wr _ _ _ 5 HF.out
          have HF2 : Hid ((wr.setCell ⟨w.heap.size, t, none⟩ (.int .u8 128)).heap[w.heap.size]? = some (.cells (cellsOf ((filled J N).set t 128)).toArray 5 (0, 0))) := by
            show _ = _
            have := row_set HF.out t 128
            rw [show ((128 : UInt8).toNat : Int) = 128 from rfl] at this
            rw [this]
            exact setRow_heap _ _ _ _ 5 _ HF.out
          clear HQ HG HSL
          have HL2 : Hid (((filled J N).set t 128).length = N) := by show _ = _; rw [List.length_set, HFL.out]
          go_wp2_with fail
          refine (putWord_any w.heap.size (N - 8) _ _ 5 ((filled J N).set t 128) _ _ (by omega) (by rw [HL2.out]; omega) (by omega) (by omega) HF2.out).mono ?_
          rintro e w3 ⟨rfl, rfl⟩
          have HF3 := setRow_heap _ _ _ (cellsOf (put4 ((filled J N).set t 128) (N - 8) ((t : Int) * 8 / 4294967296))).toArray 5 _ HF2.out
          have HL3 : Hid ((put4 ((filled J N).set t 128) (N - 8) ((t : Int) * 8 / 4294967296)).length = N) := by show _ = _; rw [put4_length _ _ _ (by rw [HL2.out]; omega), HL2.out]
          have HF4 : Hid _ := HF3
          clear HF3
          go_wp2_with fail
          refine (putWord_any w.heap.size (N - 4) _ _ 5 (put4 ((filled J N).set t 128) (N - 8) ((t : Int) * 8 / 4294967296)) _ _ (by omega) (by rw [HL3.out]; omega) (by omega) (by omega) HF4.out).mono ?_
          rintro e w4 ⟨rfl, rfl⟩
          go_wp2
          go_ret
          refine ⟨w.heap.size, ?_, ?_, Nat.le_refl _, below_setRow (below_setRow (hB.setCell (Nat.le_refl _) _) (Nat.le_refl _) _) (Nat.le_refl _) _⟩
          · rw [← HTA.out, ← HN.out]; rfl
          · have hp := pad_puts J (by rw [HJL.out]; omega)
            rw [HJL.out, ← HN.out, show (((8 * t) / 4294967296 : Nat) : Int) = (t : Int) * 8 / 4294967296 by omega, show (((8 * t) % 4294967296 : Nat) : Int) = (t : Int) * 8 by omega] at hp
            rw [hp, ← HJ.out]
            exact setRow_heap _ _ _ _ 5 _ HF4.out
theorem own_some {w : World} {B n : Nat} {v : Value} {xs : List Value} (h : w.ownsRow B 5 1 v n xs) (hn : 0 < n) : ∃ g cap, v = .slice (some ⟨g, 0, none⟩) n cap ∧ n ≤ cap ∧ cap ≤ maxLen := by
  rcases h.2 with ⟨_, h0⟩ | ⟨g, cap, cur, rfl, _, _, hn, hm, _⟩
  · omega
  · exact ⟨g, cap, rfl, hn, hm⟩
theorem row_lt {w : World} {B n : Nat} {v : Value} {xs : List Value} (h : w.ownsRow B 5 1 v n xs) : ∀ k, v.ownBlock = some k → B ≤ k := fun k hk => (h.lt k hk).1
theorem strCells_eq (s : ByteArray) : Lib.strCells s = cellsOf s.data.toList := by simp [Lib.strCells, cellsOf]
def noughtsOf (L : Nat) : Nat := 64 * nBlocks L - 9 - L
theorem noughts_at (L : Nat) : L + 1 + noughtsOf L + 8 = 64 * nBlocks L := by unfold noughtsOf nBlocks; omega
theorem noughts_more (L k : Nat) (h : k < noughtsOf L) : (L + 1 + k) % 64 ≠ 56 := by unfold noughtsOf nBlocks at h; omega
theorem noughts_end (L : Nat) : (L + 1 + noughtsOf L) % 64 = 56 := by unfold noughtsOf nBlocks; omega
theorem noughts_le (L : Nat) : noughtsOf L ≤ 63 := by unfold noughtsOf nBlocks; omega
theorem be8_length (n : Nat) : (be8 n).length = 8 := rfl
theorem be_next (l : List UInt8) (z N k : Nat) (hk : k < 8) : cellsOf (l ++ 128 :: (List.replicate z 0 ++ (be8 N).take (k + 1))) = cellsOf (l ++ 128 :: (List.replicate z 0 ++ (be8 N).take k)) ++ [.int .u8 ((be8 N).getD k 0).toNat] := by
  have hk' : k < (be8 N).length := by rw [be8_length]; exact hk
  have e : (be8 N).getD k 0 = (be8 N)[k] := by simp [List.getD, List.getElem?_eq_getElem hk']
  have e2 : l ++ 128 :: (List.replicate z 0 ++ (be8 N).take (k + 1)) = (l ++ 128 :: (List.replicate z 0 ++ (be8 N).take k)) ++ [(be8 N)[k]] := by
    rw [List.take_add_one, List.getElem?_eq_getElem hk']
    simp only [Option.toList_some, List.append_assoc, List.cons_append]
  rw [e2, cellsOf_append, e]
  rfl
theorem be_cell (N c k : Nat) (x : Int) (hx : (be8 N).getD k 0 = UInt8.ofNat (N / c)) (h : x = ((N / c % 256 : Nat) : Int)) : (((be8 N).getD k 0).toNat : Int) = x := by
  rw [hx, UInt8.toNat_ofNat', h]
set_option maxHeartbeats 4000000 in
set_option maxRecDepth 100000 in
theorem refMessage_any (s : ByteArray) (w : World) (hs : s.size ≤ 1000000) :
    Calls Tryz.prog 90 #[.string s] w fun e w' => ∃ v', e = .returned v' ∧ w'.ownsRow w.heap.size 5 1 v' (64 * nBlocks s.size) (cellsOf (pad s.data.toList)) ∧ Below w.heap.size w w' := by
  obtain ⟨i0, hi, hz0, hz1, hz2⟩ := info_parts info5'
  have hlen : s.data.toList.length = s.size := rfl
  obtain ⟨l, HL⟩ : ∃ l, Hid (l = s.data.toList) := ⟨_, (rfl : s.data.toList = _)⟩
  obtain ⟨z, HZ⟩ : ∃ z, Hid (z = noughtsOf s.size) := ⟨_, (rfl : noughtsOf s.size = _)⟩
  have hz63 : z ≤ 63 := by rw [HZ.out]; exact noughts_le _
  have hll : l.length = s.size := by rw [HL.out]; exact hlen
  go_enter Tryz.func90, Tryz.ntmps90
  go_wp2_with (first
    | (at_builtin; refine Lib.wpList_append_own_string _ rfl (.tmp 6) (.tmp 7) 69 9 rfl w.heap.size 5 i0 Tryz.underlying69 Tryz.underlying9 hi hz0 hz1 hz2 _ _ _ rfl (World.ownsRow_nil w w.heap.size 5 1) s rfl ?d1 ?d2 ?d3 ?_)
    | fail)
  case d1 => unfold maxLen; omega
  case d2 => omega
  case d3 => exact Nat.le_refl _
  intro v1 w1 hown1 hgrow1 _
  replace hown1 : w1.ownsRow w.heap.size 5 1 v1 s.size (cellsOf l) := by rw [HL.out, ← strCells_eq]; simpa using hown1
  have hb1 : Below w.heap.size w w1 := (Below.refl _ _).grown hgrow1 (Nat.le_refl _) (by intro k hk; cases hk)
  clear hgrow1
  have hlt1 := row_lt hown1
  go_wp2_with (first
    | (at_builtin; refine wpList_append_own _ rfl (.tmp 9) (.tmp 10) 69 rfl w.heap.size 5 i0 (.int .u8 0) 1 1 Tryz.underlying69 hi hz0 hz1 hz2 rfl (by decide) _ _ _ rfl (hown1.alloc _) ⟨w1.heap.size, 0, none⟩ 1 1 [.int .u8 128] rfl rfl ?c1 ?c2 ?c3 ?c4 ?c5 ?_)
    | fail)
  case c1 =>
    intro j u hj
    match j, hj with
    | 0, hj => simp at hj; subst hj; simp [Addr.add]
  case c2 => intro u hu; simp at hu; subst hu; rfl
  case c3 => unfold maxLen; omega
  case c4 => omega
  case c5 => simp; exact Nat.le_trans hb1.size (by omega)
  intro v2 w2 hown2 hgrow2 _
  have hb2 : Below w.heap.size w w2 := (hb1.alloc hb1.size _).grown hgrow2 (by simp; exact Nat.le_trans hb1.size (by omega)) hlt1
  have HO2 : Hid (w2.ownsRow w.heap.size 5 1 v2 (s.size + 1 + 0) (cellsOf (l ++ 128 :: List.replicate 0 0))) := by
    show World.ownsRow _ _ _ _ _ _ _
    rw [show cellsOf (l ++ 128 :: List.replicate 0 0) = cellsOf l ++ [.int .u8 128] by simp [cellsOf]]
    exact hown2
  clear hgrow2 hown2 hown1 hlt1 hb1
  have HI : Hid (Tryz.prog.info? 5 = some i0 ∧ i0.zero = some (.int .u8 0) ∧ i0.size = 1 ∧ i0.bytes = 1) := ⟨hi, hz0, hz1, hz2⟩
  clear hi hz0 hz1 hz2
  go_wp2
  go_loopw [3] (fun v wr => ∃ k : Nat, k ≤ z ∧ Hid (wr.ownsRow w.heap.size 5 1 v (s.size + 1 + k) (cellsOf (l ++ 128 :: List.replicate k 0))) ∧ Below w.heap.size w wr) (fun v _ => z + s.size + 1 - (match v with | .slice _ n _ => n | _ => 0))
  case atStart => exact ⟨0, by omega, HO2, hb2⟩
  case round =>
    clear HO2 hb2
    obtain ⟨k, hk, HO, hB⟩ := hrel
    obtain ⟨g, cap, rfl, hcap, hcm⟩ := own_some HO.out (by omega)
    have hlt := row_lt HO.out
    unfold maxLen at hcm
    by_cases hlk : k < z
    · have hm : ((((s.size + 1 + k : Nat) : Int).tmod 64) != 56) = true := by
        have := noughts_more s.size k (by rw [← HZ.out]; exact hlk)
        rw [bne_iff_ne, Int.tmod_eq_emod_of_nonneg (by omega)]
        omega
      have hm2 : ((((s.size + 1 + k : Nat) : Int) % 64) != 56) = true := by
        have := noughts_more s.size k (by rw [← HZ.out]; exact hlk)
        rw [bne_iff_ne]
        omega
      go_wp2_with (first
        | (at_builtin; refine wpList_append_own _ rfl (.tmp 16) (.tmp 17) 69 rfl w.heap.size 5 i0 (.int .u8 0) 1 1 Tryz.underlying69 HI.out.1 HI.out.2.1 HI.out.2.2.1 HI.out.2.2.2 rfl (by decide) _ _ _ rfl (HO.out.alloc _) ⟨wr.heap.size, 0, none⟩ 1 1 [.int .u8 0] rfl rfl ?c1 ?c2 ?c3 ?c4 ?c5 ?_)
        | fail)
      case c1 =>
        intro j u hj
        match j, hj with
        | 0, hj => simp at hj; subst hj; simp [Addr.add]
      case c2 => intro u hu; simp at hu; subst hu; rfl
      case c3 => unfold maxLen; omega
      case c4 => omega
      case c5 => simp; exact Nat.le_trans hB.size (by omega)
      intro v3 w3 hown3 hgrow3 _
      have hb3 : Below w.heap.size w w3 := (hB.alloc hB.size _).grown hgrow3 (by simp; exact Nat.le_trans hB.size (by omega)) hlt
      have HO3 : Hid (w3.ownsRow w.heap.size 5 1 v3 (s.size + 1 + (k + 1)) (cellsOf (l ++ 128 :: List.replicate (k + 1) 0))) := by
        show World.ownsRow _ _ _ _ _ _ _
        rw [show cellsOf (l ++ 128 :: List.replicate (k + 1) 0) = cellsOf (l ++ 128 :: List.replicate k 0) ++ [.int .u8 0] by rw [List.replicate_succ']; simp [cellsOf]]
        exact hown3
      clear hgrow3 hown3 HO hB hlt
      obtain ⟨g3, cap3, e3, _, _⟩ := own_some HO3.out (by omega)
      go_wp2
      go_roundw
      case rel => exact ⟨k + 1, by omega, HO3, hb3⟩
      case measure => rw [e3]; simp; omega
    · obtain rfl : z = k := by omega
      have hm : ((((s.size + 1 + z : Nat) : Int).tmod 64) != 56) = false := by
        have := noughts_end s.size
        rw [← HZ.out] at this
        rw [bne_eq_false_iff_eq, Int.tmod_eq_emod_of_nonneg (by omega)]
        omega
      have hm2 : ((((s.size + 1 + z : Nat) : Int) % 64) != 56) = false := by
        have := noughts_end s.size
        rw [← HZ.out] at this
        rw [bne_eq_false_iff_eq]
        omega
      obtain ⟨N, HN⟩ : ∃ N : Nat, Hid (N = 8 * s.size) := ⟨_, (rfl : 8 * s.size = _)⟩
      have hN : N ≤ 8000000 := by rw [HN.out]; omega
      have HP : Hid (cellsOf (l ++ 128 :: List.replicate z 0) = cellsOf (l ++ 128 :: (List.replicate z 0 ++ (be8 N).take 0))) := by show _ = _; simp
      rw [HP.out] at HO
      clear HP
      have HN8 : Hid ((s.size : Int) * 8 = (N : Int)) := by show _ = _; rw [HN.out]; omega
      go_wp2
      rw [HN8.out]
      have HO0 : Hid (wr.ownsRow w.heap.size 5 1 (.slice (some ⟨g, 0, none⟩) (s.size + 1 + z) cap) (s.size + 1 + z + 0) (cellsOf (l ++ 128 :: (List.replicate z 0 ++ (be8 N).take 0)))) := HO
      clear HO hm hm2 hlt HN8
      generalize (((s.size : Int) + 1 + (z : Int)) % 64 != 56) = bb
      go_loopw [3, 5] (fun v i wt => ∃ (k : Nat) (j : Int), k ≤ 8 ∧ j = 7 - (k : Int) ∧ i = .int .i64 j ∧ Hid (wt.ownsRow w.heap.size 5 1 v (s.size + 1 + z + k) (cellsOf (l ++ 128 :: (List.replicate z 0 ++ (be8 N).take k)))) ∧ Below w.heap.size w wt)
        (fun _ i _ => (intOf i + 1).toNat)
      case atStart => exact ⟨0, 7, by omega, rfl, rfl, HO0, hB⟩
      case round =>
        clear HO0 hB
        obtain ⟨k, j, hk, hj, rfl, HO, hB⟩ := hrel
        obtain ⟨g, cap, rfl, hcap, hcm⟩ := own_some HO.out (by omega)
        have hlt := row_lt HO.out
        unfold maxLen at hcm
        have hk8 : k = 0 ∨ k = 1 ∨ k = 2 ∨ k = 3 ∨ k = 4 ∨ k = 5 ∨ k = 6 ∨ k = 7 ∨ k = 8 := by omega
        rcases hk8 with rfl | rfl | rfl | rfl | rfl | rfl | rfl | rfl | rfl
        · obtain rfl : j = 7 := by omega
          clear hj
          go_wp2_with (first
            | (at_builtin; refine wpList_append_own _ rfl (.tmp 27) (.tmp 33) 69 rfl w.heap.size 5 i0 (.int .u8 0) 1 1 Tryz.underlying69 HI.out.1 HI.out.2.1 HI.out.2.2.1 HI.out.2.2.2 rfl (by decide) _ _ _ rfl (HO.out.alloc _) ⟨wr.heap.size, 0, none⟩ 1 1 [.int .u8 ((N : Int) / 72057594037927936)] rfl rfl ?c1 ?c2 ?c3 ?c4 ?c5 ?_)
            | fail)
          case c1 =>
            intro j u hj
            match j, hj with
            | 0, hj => simp at hj; subst hj; simp [Addr.add]
          case c2 => intro u hu; simp at hu; subst hu; rfl
          case c3 => unfold maxLen; omega
          case c4 => omega
          case c5 => simp; exact Nat.le_trans hB.size (by omega)
          intro v3 w3 hown3 hgrow3 _
          have hb3 : Below w.heap.size w w3 := (hB.alloc hB.size _).grown hgrow3 (by simp; exact Nat.le_trans hB.size (by omega)) hlt
          have HO3 : Hid (w3.ownsRow w.heap.size 5 1 v3 (s.size + 1 + z + 1) (cellsOf (l ++ 128 :: (List.replicate z 0 ++ (be8 N).take 1)))) := by
            show World.ownsRow _ _ _ _ _ _ _
            rw [be_next l z N 0 (by omega), be_cell N 72057594037927936 0 ((N : Int) / 72057594037927936) rfl (by omega), List.take_zero, List.append_nil]
            exact hown3
          clear hgrow3 hown3 HO hB hlt
          go_wp2
          go_roundw
          case rel => exact ⟨1, 6, by omega, rfl, by go_num, HO3, hb3⟩
          case measure => simp [intOf]
        · obtain rfl : j = 6 := by omega
          clear hj
          go_wp2_with (first
            | (at_builtin; refine wpList_append_own _ rfl (.tmp 27) (.tmp 33) 69 rfl w.heap.size 5 i0 (.int .u8 0) 1 1 Tryz.underlying69 HI.out.1 HI.out.2.1 HI.out.2.2.1 HI.out.2.2.2 rfl (by decide) _ _ _ rfl (HO.out.alloc _) ⟨wr.heap.size, 0, none⟩ 1 1 [.int .u8 ((N : Int) / 281474976710656)] rfl rfl ?c1 ?c2 ?c3 ?c4 ?c5 ?_)
            | fail)
          case c1 =>
            intro j u hj
            match j, hj with
            | 0, hj => simp at hj; subst hj; simp [Addr.add]
          case c2 => intro u hu; simp at hu; subst hu; rfl
          case c3 => unfold maxLen; omega
          case c4 => omega
          case c5 => simp; exact Nat.le_trans hB.size (by omega)
          intro v3 w3 hown3 hgrow3 _
          have hb3 : Below w.heap.size w w3 := (hB.alloc hB.size _).grown hgrow3 (by simp; exact Nat.le_trans hB.size (by omega)) hlt
          have HO3 : Hid (w3.ownsRow w.heap.size 5 1 v3 (s.size + 1 + z + 2) (cellsOf (l ++ 128 :: (List.replicate z 0 ++ (be8 N).take 2)))) := by
            show World.ownsRow _ _ _ _ _ _ _
            rw [be_next l z N 1 (by omega), be_cell N 281474976710656 1 ((N : Int) / 281474976710656) rfl (by omega)]
            exact hown3
          clear hgrow3 hown3 HO hB hlt
          go_wp2
          go_roundw
          case rel => exact ⟨2, 5, by omega, rfl, by go_num, HO3, hb3⟩
          case measure => simp [intOf]
        · obtain rfl : j = 5 := by omega
          clear hj
          go_wp2_with (first
            | (at_builtin; refine wpList_append_own _ rfl (.tmp 27) (.tmp 33) 69 rfl w.heap.size 5 i0 (.int .u8 0) 1 1 Tryz.underlying69 HI.out.1 HI.out.2.1 HI.out.2.2.1 HI.out.2.2.2 rfl (by decide) _ _ _ rfl (HO.out.alloc _) ⟨wr.heap.size, 0, none⟩ 1 1 [.int .u8 ((N : Int) / 1099511627776)] rfl rfl ?c1 ?c2 ?c3 ?c4 ?c5 ?_)
            | fail)
          case c1 =>
            intro j u hj
            match j, hj with
            | 0, hj => simp at hj; subst hj; simp [Addr.add]
          case c2 => intro u hu; simp at hu; subst hu; rfl
          case c3 => unfold maxLen; omega
          case c4 => omega
          case c5 => simp; exact Nat.le_trans hB.size (by omega)
          intro v3 w3 hown3 hgrow3 _
          have hb3 : Below w.heap.size w w3 := (hB.alloc hB.size _).grown hgrow3 (by simp; exact Nat.le_trans hB.size (by omega)) hlt
          have HO3 : Hid (w3.ownsRow w.heap.size 5 1 v3 (s.size + 1 + z + 3) (cellsOf (l ++ 128 :: (List.replicate z 0 ++ (be8 N).take 3)))) := by
            show World.ownsRow _ _ _ _ _ _ _
            rw [be_next l z N 2 (by omega), be_cell N 1099511627776 2 ((N : Int) / 1099511627776) rfl (by omega)]
            exact hown3
          clear hgrow3 hown3 HO hB hlt
          go_wp2
          go_roundw
          case rel => exact ⟨3, 4, by omega, rfl, by go_num, HO3, hb3⟩
          case measure => simp [intOf]
        · obtain rfl : j = 4 := by omega
          clear hj
          go_wp2_with (first
            | (at_builtin; refine wpList_append_own _ rfl (.tmp 27) (.tmp 33) 69 rfl w.heap.size 5 i0 (.int .u8 0) 1 1 Tryz.underlying69 HI.out.1 HI.out.2.1 HI.out.2.2.1 HI.out.2.2.2 rfl (by decide) _ _ _ rfl (HO.out.alloc _) ⟨wr.heap.size, 0, none⟩ 1 1 [.int .u8 ((N : Int) / 4294967296)] rfl rfl ?c1 ?c2 ?c3 ?c4 ?c5 ?_)
            | fail)
          case c1 =>
            intro j u hj
            match j, hj with
            | 0, hj => simp at hj; subst hj; simp [Addr.add]
          case c2 => intro u hu; simp at hu; subst hu; rfl
          case c3 => unfold maxLen; omega
          case c4 => omega
          case c5 => simp; exact Nat.le_trans hB.size (by omega)
          intro v3 w3 hown3 hgrow3 _
          have hb3 : Below w.heap.size w w3 := (hB.alloc hB.size _).grown hgrow3 (by simp; exact Nat.le_trans hB.size (by omega)) hlt
          have HO3 : Hid (w3.ownsRow w.heap.size 5 1 v3 (s.size + 1 + z + 4) (cellsOf (l ++ 128 :: (List.replicate z 0 ++ (be8 N).take 4)))) := by
            show World.ownsRow _ _ _ _ _ _ _
            rw [be_next l z N 3 (by omega), be_cell N 4294967296 3 ((N : Int) / 4294967296) rfl (by omega)]
            exact hown3
          clear hgrow3 hown3 HO hB hlt
          go_wp2
          go_roundw
          case rel => exact ⟨4, 3, by omega, rfl, by go_num, HO3, hb3⟩
          case measure => simp [intOf]
        · obtain rfl : j = 3 := by omega
          clear hj
          go_wp2_with (first
            | (at_builtin; refine wpList_append_own _ rfl (.tmp 27) (.tmp 33) 69 rfl w.heap.size 5 i0 (.int .u8 0) 1 1 Tryz.underlying69 HI.out.1 HI.out.2.1 HI.out.2.2.1 HI.out.2.2.2 rfl (by decide) _ _ _ rfl (HO.out.alloc _) ⟨wr.heap.size, 0, none⟩ 1 1 [.int .u8 ((N : Int) / 16777216)] rfl rfl ?c1 ?c2 ?c3 ?c4 ?c5 ?_)
            | fail)
          case c1 =>
            intro j u hj
            match j, hj with
            | 0, hj => simp at hj; subst hj; simp [Addr.add]
          case c2 => intro u hu; simp at hu; subst hu; rfl
          case c3 => unfold maxLen; omega
          case c4 => omega
          case c5 => simp; exact Nat.le_trans hB.size (by omega)
          intro v3 w3 hown3 hgrow3 _
          have hb3 : Below w.heap.size w w3 := (hB.alloc hB.size _).grown hgrow3 (by simp; exact Nat.le_trans hB.size (by omega)) hlt
          have HO3 : Hid (w3.ownsRow w.heap.size 5 1 v3 (s.size + 1 + z + 5) (cellsOf (l ++ 128 :: (List.replicate z 0 ++ (be8 N).take 5)))) := by
            show World.ownsRow _ _ _ _ _ _ _
            rw [be_next l z N 4 (by omega), be_cell N 16777216 4 ((N : Int) / 16777216) rfl (by omega)]
            exact hown3
          clear hgrow3 hown3 HO hB hlt
          go_wp2
          go_roundw
          case rel => exact ⟨5, 2, by omega, rfl, by go_num, HO3, hb3⟩
          case measure => simp [intOf]
        · obtain rfl : j = 2 := by omega
          clear hj
          go_wp2_with (first
            | (at_builtin; refine wpList_append_own _ rfl (.tmp 27) (.tmp 33) 69 rfl w.heap.size 5 i0 (.int .u8 0) 1 1 Tryz.underlying69 HI.out.1 HI.out.2.1 HI.out.2.2.1 HI.out.2.2.2 rfl (by decide) _ _ _ rfl (HO.out.alloc _) ⟨wr.heap.size, 0, none⟩ 1 1 [.int .u8 ((N : Int) / 65536)] rfl rfl ?c1 ?c2 ?c3 ?c4 ?c5 ?_)
            | fail)
          case c1 =>
            intro j u hj
            match j, hj with
            | 0, hj => simp at hj; subst hj; simp [Addr.add]
          case c2 => intro u hu; simp at hu; subst hu; rfl
          case c3 => unfold maxLen; omega
          case c4 => omega
          case c5 => simp; exact Nat.le_trans hB.size (by omega)
          intro v3 w3 hown3 hgrow3 _
          have hb3 : Below w.heap.size w w3 := (hB.alloc hB.size _).grown hgrow3 (by simp; exact Nat.le_trans hB.size (by omega)) hlt
          have HO3 : Hid (w3.ownsRow w.heap.size 5 1 v3 (s.size + 1 + z + 6) (cellsOf (l ++ 128 :: (List.replicate z 0 ++ (be8 N).take 6)))) := by
            show World.ownsRow _ _ _ _ _ _ _
            rw [be_next l z N 5 (by omega), be_cell N 65536 5 ((N : Int) / 65536) rfl (by omega)]
            exact hown3
          clear hgrow3 hown3 HO hB hlt
          go_wp2
          go_roundw
          case rel => exact ⟨6, 1, by omega, rfl, by go_num, HO3, hb3⟩
          case measure => simp [intOf]
        · obtain rfl : j = 1 := by omega
          clear hj
          go_wp2_with (first
            | (at_builtin; refine wpList_append_own _ rfl (.tmp 27) (.tmp 33) 69 rfl w.heap.size 5 i0 (.int .u8 0) 1 1 Tryz.underlying69 HI.out.1 HI.out.2.1 HI.out.2.2.1 HI.out.2.2.2 rfl (by decide) _ _ _ rfl (HO.out.alloc _) ⟨wr.heap.size, 0, none⟩ 1 1 [.int .u8 ((N : Int) / 256 % 256)] rfl rfl ?c1 ?c2 ?c3 ?c4 ?c5 ?_)
            | fail)
          case c1 =>
            intro j u hj
            match j, hj with
            | 0, hj => simp at hj; subst hj; simp [Addr.add]
          case c2 => intro u hu; simp at hu; subst hu; rfl
          case c3 => unfold maxLen; omega
          case c4 => omega
          case c5 => simp; exact Nat.le_trans hB.size (by omega)
          intro v3 w3 hown3 hgrow3 _
          have hb3 : Below w.heap.size w w3 := (hB.alloc hB.size _).grown hgrow3 (by simp; exact Nat.le_trans hB.size (by omega)) hlt
          have HO3 : Hid (w3.ownsRow w.heap.size 5 1 v3 (s.size + 1 + z + 7) (cellsOf (l ++ 128 :: (List.replicate z 0 ++ (be8 N).take 7)))) := by
            show World.ownsRow _ _ _ _ _ _ _
            rw [be_next l z N 6 (by omega), be_cell N 256 6 ((N : Int) / 256 % 256) rfl (by omega)]
            exact hown3
          clear hgrow3 hown3 HO hB hlt
          go_wp2
          go_roundw
          case rel => exact ⟨7, 0, by omega, rfl, by go_num, HO3, hb3⟩
          case measure => simp [intOf]
        · obtain rfl : j = 0 := by omega
          clear hj
          go_wp2_with (first
            | (at_builtin; refine wpList_append_own _ rfl (.tmp 27) (.tmp 33) 69 rfl w.heap.size 5 i0 (.int .u8 0) 1 1 Tryz.underlying69 HI.out.1 HI.out.2.1 HI.out.2.2.1 HI.out.2.2.2 rfl (by decide) _ _ _ rfl (HO.out.alloc _) ⟨wr.heap.size, 0, none⟩ 1 1 [.int .u8 ((N : Int) % 256)] rfl rfl ?c1 ?c2 ?c3 ?c4 ?c5 ?_)
            | fail)
          case c1 =>
            intro j u hj
            match j, hj with
            | 0, hj => simp at hj; subst hj; simp [Addr.add]
          case c2 => intro u hu; simp at hu; subst hu; rfl
          case c3 => unfold maxLen; omega
          case c4 => omega
          case c5 => simp; exact Nat.le_trans hB.size (by omega)
          intro v3 w3 hown3 hgrow3 _
          have hb3 : Below w.heap.size w w3 := (hB.alloc hB.size _).grown hgrow3 (by simp; exact Nat.le_trans hB.size (by omega)) hlt
          have HO3 : Hid (w3.ownsRow w.heap.size 5 1 v3 (s.size + 1 + z + 8) (cellsOf (l ++ 128 :: (List.replicate z 0 ++ (be8 N).take 8)))) := by
            show World.ownsRow _ _ _ _ _ _ _
            rw [be_next l z N 7 (by omega), be_cell N 1 7 ((N : Int) % 256) (by rw [Nat.div_one]; rfl) (by omega)]
            exact hown3
          clear hgrow3 hown3 HO hB hlt
          go_wp2
          go_roundw
          case rel => exact ⟨8, -1, by omega, rfl, by go_num, HO3, hb3⟩
          case measure => simp [intOf]
        · obtain rfl : j = -1 := by omega
          clear hj
          have HO8 : Hid (wr.ownsRow w.heap.size 5 1 (.slice (some ⟨g, 0, none⟩) (s.size + 1 + z + 8) cap) (64 * nBlocks s.size) (cellsOf (pad s.data.toList))) := by
            show World.ownsRow _ _ _ _ _ _ _
            have h1 := HO.out
            have h2 := noughts_at s.size
            rw [← HZ.out] at h2
            have e : pad s.data.toList = l ++ 128 :: (List.replicate z 0 ++ (be8 N).take 8) := by
              unfold pad
              rw [hlen, ← HL.out, HN.out, HZ.out]
              rfl
            rw [e, ← h2]
            exact h1
          go_wp2
          go_ret
          exact ⟨_, rfl, HO8.out, hB⟩
end Go.Proofs.YtkmedlfbkddmoaaGreatDoor
