/- What the document's message answers: a text's bytes, and what fills them up to whole blocks. -/
import Derived.Test.YtkmndchbmbhlhaaDoorMsg
import Derived.Lib.AppendStr
namespace Go.Proofs.YtkmndchbmbhlhaaDoor
open Go.RowKit Sums
set_option linter.unusedVariables false
set_option linter.unusedSimpArgs false

theorem own_some {w : World} {B n : Nat} {v : Value} {xs : List Value} (h : w.ownsRow B 5 1 v n xs) (hn : 0 < n) : ∃ g cap, v = .slice (some ⟨g, 0, none⟩) n cap ∧ n ≤ cap ∧ cap ≤ maxLen := by
  rcases h.2 with ⟨_, h0⟩ | ⟨g, cap, cur, rfl, _, _, hn, hm, _⟩
  · omega
  · exact ⟨g, cap, rfl, hn, hm⟩
theorem row_lt {w : World} {B n : Nat} {v : Value} {xs : List Value} (h : w.ownsRow B 5 1 v n xs) : ∀ k, v.ownBlock = some k → B ≤ k := fun k hk => (h.lt k hk).1
theorem strCells_eq (s : ByteArray) : Lib.strCells s = cellsOf s.data.toList := by simp [Lib.strCells, cellsOf]

/-- How many noughts fill a message of L bytes up. -/
def noughtsOf (L : Nat) : Nat := 64 * nBlocks L - 9 - L
theorem noughts_at (L : Nat) : L + 1 + noughtsOf L + 8 = 64 * nBlocks L := by unfold noughtsOf nBlocks; omega
theorem noughts_more (L k : Nat) (h : k < noughtsOf L) : (L + 1 + k) % 64 ≠ 56 := by unfold noughtsOf nBlocks at h; omega
theorem noughts_end (L : Nat) : (L + 1 + noughtsOf L) % 64 = 56 := by unfold noughtsOf nBlocks; omega
theorem noughts_le (L : Nat) : noughtsOf L ≤ 63 := by unfold noughtsOf nBlocks; omega

theorem be8_length (n : Nat) : (be8 n).length = 8 := rfl
theorem be_next (l : List UInt8) (z N k : Nat) (hk : k < 8) : cellsOf (l ++ 128 :: (List.replicate z 0 ++ (be8 N).take (k + 1))) = cellsOf (l ++ 128 :: (List.replicate z 0 ++ (be8 N).take k)) ++ [.int .u8 ((be8 N).getD k 0).toNat] := by
  have hk' : k < (be8 N).length := by rw [be8_length]; exact hk
  have e : (be8 N).getD k 0 = (be8 N)[k] := by simp [List.getD, List.getElem?_eq_getElem hk']
  have e2 : l ++ 128 :: (List.replicate z 0 ++ (be8 N).take (k + 1)) = (l ++ 128 :: (List.replicate z 0 ++ (be8 N).take k)) ++ [(be8 N)[k]] := by
    rw [List.take_add_one, List.getElem?_eq_getElem hk']
    simp only [Option.toList_some, List.append_assoc, List.cons_append]
  rw [e2, cellsOf_append, e]
  rfl
theorem be_cell (N c k : Nat) (x : Int) (hx : (be8 N).getD k 0 = UInt8.ofNat (N / c)) (h : x = ((N / c % 256 : Nat) : Int)) : (((be8 N).getD k 0).toNat : Int) = x := by
  rw [hx, UInt8.toNat_ofNat', h]

set_option maxHeartbeats 4000000 in
set_option maxRecDepth 100000 in
theorem refMessage_any (s : ByteArray) (w : World) (hs : s.size ≤ 1000000) :
    Calls Tryd.prog 26 #[.string s] w fun e w' => ∃ v', e = .returned v' ∧ w'.ownsRow w.heap.size 5 1 v' (64 * nBlocks s.size) (cellsOf (pad s.data.toList)) ∧ Below w.heap.size w w' := by
  obtain ⟨i0, hi, hz0, hz1, hz2⟩ := info_parts info5'
  have hlen : s.data.toList.length = s.size := rfl
  obtain ⟨l, HL⟩ : ∃ l, Hid (l = s.data.toList) := ⟨_, (rfl : s.data.toList = _)⟩
  obtain ⟨z, HZ⟩ : ∃ z, Hid (z = noughtsOf s.size) := ⟨_, (rfl : noughtsOf s.size = _)⟩
  have hz63 : z ≤ 63 := by rw [HZ.out]; exact noughts_le _
  have hll : l.length = s.size := by rw [HL.out]; exact hlen
  go_enter Tryd.func26, Tryd.ntmps26
  go_wp2_with (first
    | (at_builtin; refine Lib.wpList_append_own_string _ rfl (.tmp 6) (.tmp 7) 38 9 rfl w.heap.size 5 i0 Tryd.underlying38 Tryd.underlying9 hi hz0 hz1 hz2 _ _ _ rfl (World.ownsRow_nil w w.heap.size 5 1) s rfl ?d1 ?d2 ?d3 ?_)
    | fail)
  case d1 => unfold maxLen; omega
  case d2 => omega
  case d3 => exact Nat.le_refl _
  intro v1 w1 hown1 hgrow1 _
  replace hown1 : w1.ownsRow w.heap.size 5 1 v1 s.size (cellsOf l) := by rw [HL.out, ← strCells_eq]; simpa using hown1
  have hb1 : Below w.heap.size w w1 := (Below.refl _ _).grown hgrow1 (Nat.le_refl _) (by intro k hk; cases hk)
  clear hgrow1
  have hlt1 := row_lt hown1
  go_wp2_with (first
    | (at_builtin; refine wpList_append_own _ rfl (.tmp 9) (.tmp 10) 38 rfl w.heap.size 5 i0 (.int .u8 0) 1 1 Tryd.underlying38 hi hz0 hz1 hz2 rfl (by decide) _ _ _ rfl (hown1.alloc _) ⟨w1.heap.size, 0, none⟩ 1 1 [.int .u8 128] rfl rfl ?c1 ?c2 ?c3 ?c4 ?c5 ?_)
    | fail)
  case c1 =>
    intro j u hj
    match j, hj with
    | 0, hj => simp at hj; subst hj; simp [Addr.add]
  case c2 => intro u hu; simp at hu; subst hu; rfl
  case c3 => unfold maxLen; omega
  case c4 => omega
  case c5 => simp; exact Nat.le_trans hb1.size (by omega)
  intro v2 w2 hown2 hgrow2 _
  have hb2 : Below w.heap.size w w2 := (hb1.alloc hb1.size _).grown hgrow2 (by simp; exact Nat.le_trans hb1.size (by omega)) hlt1
  have HO2 : Hid (w2.ownsRow w.heap.size 5 1 v2 (s.size + 1 + 0) (cellsOf (l ++ 128 :: List.replicate 0 0))) := by
    show World.ownsRow _ _ _ _ _ _ _
    rw [show cellsOf (l ++ 128 :: List.replicate 0 0) = cellsOf l ++ [.int .u8 128] by simp [cellsOf]]
    exact hown2
  clear hgrow2 hown2 hown1 hlt1 hb1
  have HI : Hid (Tryd.prog.info? 5 = some i0 ∧ i0.zero = some (.int .u8 0) ∧ i0.size = 1 ∧ i0.bytes = 1) := ⟨hi, hz0, hz1, hz2⟩
  clear hi hz0 hz1 hz2
  go_wp2
  go_loopw [3] (fun v wr => ∃ k : Nat, k ≤ z ∧ Hid (wr.ownsRow w.heap.size 5 1 v (s.size + 1 + k) (cellsOf (l ++ 128 :: List.replicate k 0))) ∧ Below w.heap.size w wr) (fun v _ => z + s.size + 1 - (match v with | .slice _ n _ => n | _ => 0))
  case atStart => exact ⟨0, by omega, HO2, hb2⟩
  case round =>
    clear HO2 hb2
    obtain ⟨k, hk, HO, hB⟩ := hrel
    obtain ⟨g, cap, rfl, hcap, hcm⟩ := own_some HO.out (by omega)
    have hlt := row_lt HO.out
    unfold maxLen at hcm
    by_cases hlk : k < z
    · have hm : ((((s.size + 1 + k : Nat) : Int).tmod 64) != 56) = true := by
        have := noughts_more s.size k (by rw [← HZ.out]; exact hlk)
        rw [bne_iff_ne, Int.tmod_eq_emod_of_nonneg (by omega)]
        omega
      have hm2 : ((((s.size + 1 + k : Nat) : Int) % 64) != 56) = true := by
        have := noughts_more s.size k (by rw [← HZ.out]; exact hlk)
        rw [bne_iff_ne]
        omega
      go_wp2_with (first
        | (at_builtin; refine wpList_append_own _ rfl (.tmp 16) (.tmp 17) 38 rfl w.heap.size 5 i0 (.int .u8 0) 1 1 Tryd.underlying38 HI.out.1 HI.out.2.1 HI.out.2.2.1 HI.out.2.2.2 rfl (by decide) _ _ _ rfl (HO.out.alloc _) ⟨wr.heap.size, 0, none⟩ 1 1 [.int .u8 0] rfl rfl ?c1 ?c2 ?c3 ?c4 ?c5 ?_)
        | fail)
      case c1 =>
        intro j u hj
        match j, hj with
        | 0, hj => simp at hj; subst hj; simp [Addr.add]
      case c2 => intro u hu; simp at hu; subst hu; rfl
      case c3 => unfold maxLen; omega
      case c4 => omega
      case c5 => simp; exact Nat.le_trans hB.size (by omega)
      intro v3 w3 hown3 hgrow3 _
      have hb3 : Below w.heap.size w w3 := (hB.alloc hB.size _).grown hgrow3 (by simp; exact Nat.le_trans hB.size (by omega)) hlt
      have HO3 : Hid (w3.ownsRow w.heap.size 5 1 v3 (s.size + 1 + (k + 1)) (cellsOf (l ++ 128 :: List.replicate (k + 1) 0))) := by
        show World.ownsRow _ _ _ _ _ _ _
        rw [show cellsOf (l ++ 128 :: List.replicate (k + 1) 0) = cellsOf (l ++ 128 :: List.replicate k 0) ++ [.int .u8 0] by rw [List.replicate_succ']; simp [cellsOf]]
        exact hown3
      clear hgrow3 hown3 HO hB hlt
      obtain ⟨g3, cap3, e3, _, _⟩ := own_some HO3.out (by omega)
      go_wp2
      go_roundw
      case rel => exact ⟨k + 1, by omega, HO3, hb3⟩
      case measure => rw [e3]; simp; omega
    · obtain rfl : z = k := by omega
      have hm : ((((s.size + 1 + z : Nat) : Int).tmod 64) != 56) = false := by
        have := noughts_end s.size
        rw [← HZ.out] at this
        rw [bne_eq_false_iff_eq, Int.tmod_eq_emod_of_nonneg (by omega)]
        omega
      have hm2 : ((((s.size + 1 + z : Nat) : Int) % 64) != 56) = false := by
        have := noughts_end s.size
        rw [← HZ.out] at this
        rw [bne_eq_false_iff_eq]
        omega
      obtain ⟨N, HN⟩ : ∃ N : Nat, Hid (N = 8 * s.size) := ⟨_, (rfl : 8 * s.size = _)⟩
      have hN : N ≤ 8000000 := by rw [HN.out]; omega
      have HP : Hid (cellsOf (l ++ 128 :: List.replicate z 0) = cellsOf (l ++ 128 :: (List.replicate z 0 ++ (be8 N).take 0))) := by show _ = _; simp
      rw [HP.out] at HO
      clear HP
      have HN8 : Hid ((s.size : Int) * 8 = (N : Int)) := by show _ = _; rw [HN.out]; omega
      go_wp2
      rw [HN8.out]
      have HO0 : Hid (wr.ownsRow w.heap.size 5 1 (.slice (some ⟨g, 0, none⟩) (s.size + 1 + z) cap) (s.size + 1 + z + 0) (cellsOf (l ++ 128 :: (List.replicate z 0 ++ (be8 N).take 0)))) := HO
      clear HO hm hm2 hlt HN8
      generalize (((s.size : Int) + 1 + (z : Int)) % 64 != 56) = bb
      go_loopw [3, 5] (fun v i wt => ∃ (k : Nat) (j : Int), k ≤ 8 ∧ j = 7 - (k : Int) ∧ i = .int .i64 j ∧ Hid (wt.ownsRow w.heap.size 5 1 v (s.size + 1 + z + k) (cellsOf (l ++ 128 :: (List.replicate z 0 ++ (be8 N).take k)))) ∧ Below w.heap.size w wt)
        (fun _ i _ => (intOf i + 1).toNat)
      case atStart => exact ⟨0, 7, by omega, rfl, rfl, HO0, hB⟩
      case round =>
        clear HO0 hB
        obtain ⟨k, j, hk, hj, rfl, HO, hB⟩ := hrel
        obtain ⟨g, cap, rfl, hcap, hcm⟩ := own_some HO.out (by omega)
        have hlt := row_lt HO.out
        unfold maxLen at hcm
        have hk8 : k = 0 ∨ k = 1 ∨ k = 2 ∨ k = 3 ∨ k = 4 ∨ k = 5 ∨ k = 6 ∨ k = 7 ∨ k = 8 := by omega
        rcases hk8 with rfl | rfl | rfl | rfl | rfl | rfl | rfl | rfl | rfl
        · obtain rfl : j = 7 := by omega
          clear hj
          go_wp2_with (first
            | (at_builtin; refine wpList_append_own _ rfl (.tmp 27) (.tmp 33) 38 rfl w.heap.size 5 i0 (.int .u8 0) 1 1 Tryd.underlying38 HI.out.1 HI.out.2.1 HI.out.2.2.1 HI.out.2.2.2 rfl (by decide) _ _ _ rfl (HO.out.alloc _) ⟨wr.heap.size, 0, none⟩ 1 1 [.int .u8 ((N : Int) / 72057594037927936)] rfl rfl ?c1 ?c2 ?c3 ?c4 ?c5 ?_)
            | fail)
          case c1 =>
            intro j u hj
            match j, hj with
            | 0, hj => simp at hj; subst hj; simp [Addr.add]
          case c2 => intro u hu; simp at hu; subst hu; rfl
          case c3 => unfold maxLen; omega
          case c4 => omega
          case c5 => simp; exact Nat.le_trans hB.size (by omega)
          intro v3 w3 hown3 hgrow3 _
          have hb3 : Below w.heap.size w w3 := (hB.alloc hB.size _).grown hgrow3 (by simp; exact Nat.le_trans hB.size (by omega)) hlt
          have HO3 : Hid (w3.ownsRow w.heap.size 5 1 v3 (s.size + 1 + z + 1) (cellsOf (l ++ 128 :: (List.replicate z 0 ++ (be8 N).take 1)))) := by
            show World.ownsRow _ _ _ _ _ _ _
            rw [be_next l z N 0 (by omega), be_cell N 72057594037927936 0 ((N : Int) / 72057594037927936) rfl (by omega), List.take_zero, List.append_nil]
            exact hown3
          clear hgrow3 hown3 HO hB hlt
          go_wp2
          go_roundw
          case rel => exact ⟨1, 6, by omega, rfl, by go_num, HO3, hb3⟩
          case measure => simp [intOf]
        · obtain rfl : j = 6 := by omega
          clear hj
          go_wp2_with (first
            | (at_builtin; refine wpList_append_own _ rfl (.tmp 27) (.tmp 33) 38 rfl w.heap.size 5 i0 (.int .u8 0) 1 1 Tryd.underlying38 HI.out.1 HI.out.2.1 HI.out.2.2.1 HI.out.2.2.2 rfl (by decide) _ _ _ rfl (HO.out.alloc _) ⟨wr.heap.size, 0, none⟩ 1 1 [.int .u8 ((N : Int) / 281474976710656)] rfl rfl ?c1 ?c2 ?c3 ?c4 ?c5 ?_)
            | fail)
          case c1 =>
            intro j u hj
            match j, hj with
            | 0, hj => simp at hj; subst hj; simp [Addr.add]
          case c2 => intro u hu; simp at hu; subst hu; rfl
          case c3 => unfold maxLen; omega
          case c4 => omega
          case c5 => simp; exact Nat.le_trans hB.size (by omega)
          intro v3 w3 hown3 hgrow3 _
          have hb3 : Below w.heap.size w w3 := (hB.alloc hB.size _).grown hgrow3 (by simp; exact Nat.le_trans hB.size (by omega)) hlt
          have HO3 : Hid (w3.ownsRow w.heap.size 5 1 v3 (s.size + 1 + z + 2) (cellsOf (l ++ 128 :: (List.replicate z 0 ++ (be8 N).take 2)))) := by
            show World.ownsRow _ _ _ _ _ _ _
            rw [be_next l z N 1 (by omega), be_cell N 281474976710656 1 ((N : Int) / 281474976710656) rfl (by omega)]
            exact hown3
          clear hgrow3 hown3 HO hB hlt
          go_wp2
          go_roundw
          case rel => exact ⟨2, 5, by omega, rfl, by go_num, HO3, hb3⟩
          case measure => simp [intOf]
        · obtain rfl : j = 5 := by omega
          clear hj
          go_wp2_with (first
            | (at_builtin; refine wpList_append_own _ rfl (.tmp 27) (.tmp 33) 38 rfl w.heap.size 5 i0 (.int .u8 0) 1 1 Tryd.underlying38 HI.out.1 HI.out.2.1 HI.out.2.2.1 HI.out.2.2.2 rfl (by decide) _ _ _ rfl (HO.out.alloc _) ⟨wr.heap.size, 0, none⟩ 1 1 [.int .u8 ((N : Int) / 1099511627776)] rfl rfl ?c1 ?c2 ?c3 ?c4 ?c5 ?_)
            | fail)
          case c1 =>
            intro j u hj
            match j, hj with
            | 0, hj => simp at hj; subst hj; simp [Addr.add]
          case c2 => intro u hu; simp at hu; subst hu; rfl
          case c3 => unfold maxLen; omega
          case c4 => omega
          case c5 => simp; exact Nat.le_trans hB.size (by omega)
          intro v3 w3 hown3 hgrow3 _
          have hb3 : Below w.heap.size w w3 := (hB.alloc hB.size _).grown hgrow3 (by simp; exact Nat.le_trans hB.size (by omega)) hlt
          have HO3 : Hid (w3.ownsRow w.heap.size 5 1 v3 (s.size + 1 + z + 3) (cellsOf (l ++ 128 :: (List.replicate z 0 ++ (be8 N).take 3)))) := by
            show World.ownsRow _ _ _ _ _ _ _
            rw [be_next l z N 2 (by omega), be_cell N 1099511627776 2 ((N : Int) / 1099511627776) rfl (by omega)]
            exact hown3
          clear hgrow3 hown3 HO hB hlt
          go_wp2
          go_roundw
          case rel => exact ⟨3, 4, by omega, rfl, by go_num, HO3, hb3⟩
          case measure => simp [intOf]
        · obtain rfl : j = 4 := by omega
          clear hj
          go_wp2_with (first
            | (at_builtin; refine wpList_append_own _ rfl (.tmp 27) (.tmp 33) 38 rfl w.heap.size 5 i0 (.int .u8 0) 1 1 Tryd.underlying38 HI.out.1 HI.out.2.1 HI.out.2.2.1 HI.out.2.2.2 rfl (by decide) _ _ _ rfl (HO.out.alloc _) ⟨wr.heap.size, 0, none⟩ 1 1 [.int .u8 ((N : Int) / 4294967296)] rfl rfl ?c1 ?c2 ?c3 ?c4 ?c5 ?_)
            | fail)
          case c1 =>
            intro j u hj
            match j, hj with
            | 0, hj => simp at hj; subst hj; simp [Addr.add]
          case c2 => intro u hu; simp at hu; subst hu; rfl
          case c3 => unfold maxLen; omega
          case c4 => omega
          case c5 => simp; exact Nat.le_trans hB.size (by omega)
          intro v3 w3 hown3 hgrow3 _
          have hb3 : Below w.heap.size w w3 := (hB.alloc hB.size _).grown hgrow3 (by simp; exact Nat.le_trans hB.size (by omega)) hlt
          have HO3 : Hid (w3.ownsRow w.heap.size 5 1 v3 (s.size + 1 + z + 4) (cellsOf (l ++ 128 :: (List.replicate z 0 ++ (be8 N).take 4)))) := by
            show World.ownsRow _ _ _ _ _ _ _
            rw [be_next l z N 3 (by omega), be_cell N 4294967296 3 ((N : Int) / 4294967296) rfl (by omega)]
            exact hown3
          clear hgrow3 hown3 HO hB hlt
          go_wp2
          go_roundw
          case rel => exact ⟨4, 3, by omega, rfl, by go_num, HO3, hb3⟩
          case measure => simp [intOf]
        · obtain rfl : j = 3 := by omega
          clear hj
          go_wp2_with (first
            | (at_builtin; refine wpList_append_own _ rfl (.tmp 27) (.tmp 33) 38 rfl w.heap.size 5 i0 (.int .u8 0) 1 1 Tryd.underlying38 HI.out.1 HI.out.2.1 HI.out.2.2.1 HI.out.2.2.2 rfl (by decide) _ _ _ rfl (HO.out.alloc _) ⟨wr.heap.size, 0, none⟩ 1 1 [.int .u8 ((N : Int) / 16777216)] rfl rfl ?c1 ?c2 ?c3 ?c4 ?c5 ?_)
            | fail)
          case c1 =>
            intro j u hj
            match j, hj with
            | 0, hj => simp at hj; subst hj; simp [Addr.add]
          case c2 => intro u hu; simp at hu; subst hu; rfl
          case c3 => unfold maxLen; omega
          case c4 => omega
          case c5 => simp; exact Nat.le_trans hB.size (by omega)
          intro v3 w3 hown3 hgrow3 _
          have hb3 : Below w.heap.size w w3 := (hB.alloc hB.size _).grown hgrow3 (by simp; exact Nat.le_trans hB.size (by omega)) hlt
          have HO3 : Hid (w3.ownsRow w.heap.size 5 1 v3 (s.size + 1 + z + 5) (cellsOf (l ++ 128 :: (List.replicate z 0 ++ (be8 N).take 5)))) := by
            show World.ownsRow _ _ _ _ _ _ _
            rw [be_next l z N 4 (by omega), be_cell N 16777216 4 ((N : Int) / 16777216) rfl (by omega)]
            exact hown3
          clear hgrow3 hown3 HO hB hlt
          go_wp2
          go_roundw
          case rel => exact ⟨5, 2, by omega, rfl, by go_num, HO3, hb3⟩
          case measure => simp [intOf]
        · obtain rfl : j = 2 := by omega
          clear hj
          go_wp2_with (first
            | (at_builtin; refine wpList_append_own _ rfl (.tmp 27) (.tmp 33) 38 rfl w.heap.size 5 i0 (.int .u8 0) 1 1 Tryd.underlying38 HI.out.1 HI.out.2.1 HI.out.2.2.1 HI.out.2.2.2 rfl (by decide) _ _ _ rfl (HO.out.alloc _) ⟨wr.heap.size, 0, none⟩ 1 1 [.int .u8 ((N : Int) / 65536)] rfl rfl ?c1 ?c2 ?c3 ?c4 ?c5 ?_)
            | fail)
          case c1 =>
            intro j u hj
            match j, hj with
            | 0, hj => simp at hj; subst hj; simp [Addr.add]
          case c2 => intro u hu; simp at hu; subst hu; rfl
          case c3 => unfold maxLen; omega
          case c4 => omega
          case c5 => simp; exact Nat.le_trans hB.size (by omega)
          intro v3 w3 hown3 hgrow3 _
          have hb3 : Below w.heap.size w w3 := (hB.alloc hB.size _).grown hgrow3 (by simp; exact Nat.le_trans hB.size (by omega)) hlt
          have HO3 : Hid (w3.ownsRow w.heap.size 5 1 v3 (s.size + 1 + z + 6) (cellsOf (l ++ 128 :: (List.replicate z 0 ++ (be8 N).take 6)))) := by
            show World.ownsRow _ _ _ _ _ _ _
            rw [be_next l z N 5 (by omega), be_cell N 65536 5 ((N : Int) / 65536) rfl (by omega)]
            exact hown3
          clear hgrow3 hown3 HO hB hlt
          go_wp2
          go_roundw
          case rel => exact ⟨6, 1, by omega, rfl, by go_num, HO3, hb3⟩
          case measure => simp [intOf]
        · obtain rfl : j = 1 := by omega
          clear hj
          go_wp2_with (first
            | (at_builtin; refine wpList_append_own _ rfl (.tmp 27) (.tmp 33) 38 rfl w.heap.size 5 i0 (.int .u8 0) 1 1 Tryd.underlying38 HI.out.1 HI.out.2.1 HI.out.2.2.1 HI.out.2.2.2 rfl (by decide) _ _ _ rfl (HO.out.alloc _) ⟨wr.heap.size, 0, none⟩ 1 1 [.int .u8 ((N : Int) / 256 % 256)] rfl rfl ?c1 ?c2 ?c3 ?c4 ?c5 ?_)
            | fail)
          case c1 =>
            intro j u hj
            match j, hj with
            | 0, hj => simp at hj; subst hj; simp [Addr.add]
          case c2 => intro u hu; simp at hu; subst hu; rfl
          case c3 => unfold maxLen; omega
          case c4 => omega
          case c5 => simp; exact Nat.le_trans hB.size (by omega)
          intro v3 w3 hown3 hgrow3 _
          have hb3 : Below w.heap.size w w3 := (hB.alloc hB.size _).grown hgrow3 (by simp; exact Nat.le_trans hB.size (by omega)) hlt
          have HO3 : Hid (w3.ownsRow w.heap.size 5 1 v3 (s.size + 1 + z + 7) (cellsOf (l ++ 128 :: (List.replicate z 0 ++ (be8 N).take 7)))) := by
            show World.ownsRow _ _ _ _ _ _ _
            rw [be_next l z N 6 (by omega), be_cell N 256 6 ((N : Int) / 256 % 256) rfl (by omega)]
            exact hown3
          clear hgrow3 hown3 HO hB hlt
          go_wp2
          go_roundw
          case rel => exact ⟨7, 0, by omega, rfl, by go_num, HO3, hb3⟩
          case measure => simp [intOf]
        · obtain rfl : j = 0 := by omega
          clear hj
          go_wp2_with (first
            | (at_builtin; refine wpList_append_own _ rfl (.tmp 27) (.tmp 33) 38 rfl w.heap.size 5 i0 (.int .u8 0) 1 1 Tryd.underlying38 HI.out.1 HI.out.2.1 HI.out.2.2.1 HI.out.2.2.2 rfl (by decide) _ _ _ rfl (HO.out.alloc _) ⟨wr.heap.size, 0, none⟩ 1 1 [.int .u8 ((N : Int) % 256)] rfl rfl ?c1 ?c2 ?c3 ?c4 ?c5 ?_)
            | fail)
          case c1 =>
            intro j u hj
            match j, hj with
            | 0, hj => simp at hj; subst hj; simp [Addr.add]
          case c2 => intro u hu; simp at hu; subst hu; rfl
          case c3 => unfold maxLen; omega
          case c4 => omega
          case c5 => simp; exact Nat.le_trans hB.size (by omega)
          intro v3 w3 hown3 hgrow3 _
          have hb3 : Below w.heap.size w w3 := (hB.alloc hB.size _).grown hgrow3 (by simp; exact Nat.le_trans hB.size (by omega)) hlt
          have HO3 : Hid (w3.ownsRow w.heap.size 5 1 v3 (s.size + 1 + z + 8) (cellsOf (l ++ 128 :: (List.replicate z 0 ++ (be8 N).take 8)))) := by
            show World.ownsRow _ _ _ _ _ _ _
            rw [be_next l z N 7 (by omega), be_cell N 1 7 ((N : Int) % 256) (by rw [Nat.div_one]; rfl) (by omega)]
            exact hown3
          clear hgrow3 hown3 HO hB hlt
          go_wp2
          go_roundw
          case rel => exact ⟨8, -1, by omega, rfl, by go_num, HO3, hb3⟩
          case measure => simp [intOf]
        · obtain rfl : j = -1 := by omega
          clear hj
          have HO8 : Hid (wr.ownsRow w.heap.size 5 1 (.slice (some ⟨g, 0, none⟩) (s.size + 1 + z + 8) cap) (64 * nBlocks s.size) (cellsOf (pad s.data.toList))) := by
            show World.ownsRow _ _ _ _ _ _ _
            have h1 := HO.out
            have h2 := noughts_at s.size
            rw [← HZ.out] at h2
            have e : pad s.data.toList = l ++ 128 :: (List.replicate z 0 ++ (be8 N).take 8) := by
              unfold pad
              rw [hlen, ← HL.out, HN.out, HZ.out]
              rfl
            rw [e, ← h2]
            exact h1
          go_wp2
          go_ret
          exact ⟨_, rfl, HO8.out, hB⟩
end Go.Proofs.YtkmndchbmbhlhaaDoor
