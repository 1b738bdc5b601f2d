/- What tree.parted and tree.Root answer. -/
import Derived.Test.YtehfoeedlchphaaDoorLists
namespace Go.Proofs.YtehfoeedlchphaaDoor
open Go.RowKit Sums
set_option linter.unusedVariables false
set_option linter.unusedSimpArgs false

set_option maxHeartbeats 1000000 in
theorem parted_any (g o len cap k : Nat) (w : World) (hk : k = split len) (h2 : 2 ≤ len) (hc : len ≤ cap) (hm : len ≤ maxLen) :
    Calls Tryd.prog 36 #[.slice (some ⟨g, o, none⟩) len cap] w fun e w' => e = .returned (.tuple #[.slice (some ⟨g, o, none⟩) k cap, .slice (some ⟨g, o + 32 * k, none⟩) (len - k) (cap - k)]) ∧ Below w.heap.size w w' := by
  have hl := split_lt len h2
  rw [← hk] at hl
  have hmx : len ≤ 9223372036854775807 := by unfold maxLen at hm; omega
  have S : Hid (∀ W, Calls Tryd.prog 44 #[.int .i64 len] W fun e w' => e = .returned (.int .i64 k) ∧ W = w') := fun W => by
    have := split_any (len : Int) W (by omega)
    rw [Int.toNat_natCast, ← hk] at this
    exact this
  have sl := fun W => slice_left W g o len cap k (by omega)
  have sr := fun W => slice_right W g o len cap k (by omega) hc (by omega)
  clear hk hm
  go_enter Tryd.func36, Tryd.ntmps36
  go_wp2_with fail
  refine (S.out _).mono ?_
  rintro e w1 ⟨rfl, rfl⟩
  go_wp2
  refine wp_region_held_drew (S := (fun _ => True)) (by kernel_rfl) trivial (fun hHeld => ?_)
  refine wpAnyH_take (i := 0) (oi := { dst := some 8, op := Op.move (Operand.tmp 0), type := 24, pos := "tree.go:22", after := #[], guard := none }) (v := .slice (some ⟨g, o, none⟩) len cap) rfl (by kernel_rfl) (by kernel_rfl) (by kernel_rfl) (fun _ _ _ h => h) (Or.inl ⟨by rfl, by intro w hSw; go_simp⟩) hHeld ?_
  try simp only [Act.put, List.setIfInBounds_toArray, List.set_cons_zero, List.set_cons_succ]
  refine wpAnyH_take (i := 1) (oi := { dst := some 9, op := Op.move (Operand.tmp 4), type := 3, pos := "tree.go:22", after := #[], guard := none }) (v := .int .i64 k) rfl (by kernel_rfl) (by kernel_rfl) (by kernel_rfl) (fun _ _ _ h => h) (Or.inl ⟨by rfl, by intro w hSw; go_simp⟩) hHeld ?_
  try simp only [Act.put, List.setIfInBounds_toArray, List.set_cons_zero, List.set_cons_succ]
  refine wpAnyH_take (i := 2) (oi := { dst := some 10, op := Op.slice 24 (Operand.tmp 8) none (some (Operand.tmp 9)) none, type := 24, pos := "tree.go:22", after := #[{ on := 0, ground := Ground.data }, { on := 1, ground := Ground.data }], guard := none }) (v := .slice (some ⟨g, o, none⟩) k cap) rfl (by kernel_rfl) (by kernel_rfl) (by kernel_rfl) (fun _ _ _ h => h) (Or.inl ⟨by rfl, by intro W hSw; have := sl W; go_simp⟩) hHeld ?_
  try simp only [Act.put, List.setIfInBounds_toArray, List.set_cons_zero, List.set_cons_succ]
  refine wpAnyH_take (i := 3) (oi := { dst := some 11, op := Op.move (Operand.tmp 0), type := 24, pos := "tree.go:22", after := #[], guard := none }) (v := .slice (some ⟨g, o, none⟩) len cap) rfl (by kernel_rfl) (by kernel_rfl) (by kernel_rfl) (fun _ _ _ h => h) (Or.inl ⟨by rfl, by intro w hSw; go_simp⟩) hHeld ?_
  try simp only [Act.put, List.setIfInBounds_toArray, List.set_cons_zero, List.set_cons_succ]
  refine wpAnyH_take (i := 4) (oi := { dst := some 12, op := Op.move (Operand.tmp 4), type := 3, pos := "tree.go:22", after := #[], guard := none }) (v := .int .i64 k) rfl (by kernel_rfl) (by kernel_rfl) (by kernel_rfl) (fun _ _ _ h => h) (Or.inl ⟨by rfl, by intro w hSw; go_simp⟩) hHeld ?_
  try simp only [Act.put, List.setIfInBounds_toArray, List.set_cons_zero, List.set_cons_succ]
  refine wpAnyH_take (i := 5) (oi := { dst := some 13, op := Op.slice 24 (Operand.tmp 11) (some (Operand.tmp 12)) none none, type := 24, pos := "tree.go:22", after := #[{ on := 3, ground := Ground.data }, { on := 4, ground := Ground.data }], guard := none }) (v := .slice (some ⟨g, o + 32 * k, none⟩) (len - k) (cap - k)) rfl (by kernel_rfl) (by kernel_rfl) (by kernel_rfl) (fun _ _ _ h => h) (Or.inl ⟨by rfl, by intro W hSw; have := sr W; go_simp⟩) hHeld ?_
  try simp only [Act.put, List.setIfInBounds_toArray, List.set_cons_zero, List.set_cons_succ]
  refine wpAnyH_take (i := 6) (oi := { dst := some 2, op := Op.assign (Operand.tmp 10), type := 24, pos := "tree.go:22", after := #[{ on := 2, ground := Ground.data }, { on := 0, ground := Ground.phase }, { on := 1, ground := Ground.phase }, { on := 2, ground := Ground.phase }, { on := 3, ground := Ground.textOnly Departure.lateStores }, { on := 4, ground := Ground.textOnly Departure.lateStores }, { on := 5, ground := Ground.textOnly Departure.lateStoresUnsure }], guard := none }) (v := .slice (some ⟨g, o, none⟩) k cap) rfl (by kernel_rfl) (by kernel_rfl) (by kernel_rfl) (fun _ _ _ h => h) (Or.inl ⟨by rfl, by intro w hSw; go_simp⟩) hHeld ?_
  try simp only [Act.put, List.setIfInBounds_toArray, List.set_cons_zero, List.set_cons_succ]
  refine wpAnyH_take (i := 7) (oi := { dst := some 3, op := Op.assign (Operand.tmp 13), type := 24, pos := "tree.go:22", after := #[{ on := 5, ground := Ground.data }, { on := 6, ground := Ground.chain }, { on := 0, ground := Ground.phase }, { on := 1, ground := Ground.phase }, { on := 2, ground := Ground.phase }, { on := 3, ground := Ground.phase }, { on := 4, ground := Ground.phase }, { on := 5, ground := Ground.phase }, { on := 6, ground := Ground.phase }], guard := none }) (v := .slice (some ⟨g, o + 32 * k, none⟩) (len - k) (cap - k)) rfl (by kernel_rfl) (by kernel_rfl) (by kernel_rfl) (fun _ _ _ h => h) (Or.inl ⟨by rfl, by intro w hSw; go_simp⟩) hHeld ?_
  try simp only [Act.put, List.setIfInBounds_toArray, List.set_cons_zero, List.set_cons_succ]
  refine wpAnyH_done (by kernel_rfl) ?_ _
  go_wp2
  go_ret2
  exact ⟨rfl, (Below.refl _ _).drew⟩

set_option maxHeartbeats 1000000 in
theorem root_any (n : Nat) (a : Option Addr) (len cap : Nat) (l : List (List UInt8)) (w : World) (hn : len = n) (hR : LReads w a len cap l) (hK : Table 0 w) (D : Array Value) (HD : Hid (D = (cellsOf (root l)).toArray)) :
    Calls Tryd.prog 20 #[.slice a len cap] w fun e w' => e = .returned (.agg D) ∧ Below w.heap.size w w' := by
  induction n using Nat.strongRecOn generalizing a len cap l w D with
  | _ n ih =>
    subst hn
    obtain ⟨Z, HZ, HA, HS, H1, H32⟩ := noughts27
    have h32 : (root l).length = 32 := root_length sumD_length l hR.2.1
    have HSD : Hid ((Tryd.prog.info? 23).map (·.size) = some D.size) := by show _ = _; rw [size23, HD.out]; simp [cellsOf_length, h32]
    have H1D : Hid (D.all (·.oneCell') = true) := by show _ = _; rw [HD.out]; exact cellsOf_all _
    have HZD : Hid (Z.size = D.size) := by show _ = _; rw [H32.out, HD.out]; simp [cellsOf_length, h32]
    have hlen := hR.1
    by_cases h0 : len = 0
    · have KE : Hid (∀ W, Below w.heap.size w W → Calls Tryd.prog 26 #[] W fun e w' => e = .returned (.agg D) ∧ Below W.heap.size W w') := fun W hb => empty_any W (hK.keep hb) D (by show _ = _; rw [HD.out, root_none l (by omega)])
      subst h0
      clear hK hR HD ih
      go_enter Tryd.func20, Tryd.ntmps20
      go_wp2_with (first
        | (refine wpList_alloc_row rfl 23 rfl Z HA.out ?_)
        | fail)
      refine (KE.out _ ((Below.refl _ _).alloc (Nat.le_refl _) _)).mono ?_
      rintro e w1 ⟨rfl, hb1⟩
      have HG : Hid (w1.heap[w.heap.size]? = some (.cells Z 23 (0, 0))) := (hb1.block _ (by simp)).trans (heap_alloc_new w _)
      have hB : Below w.heap.size w w1 := ((Below.refl _ _).alloc (Nat.le_refl _) _).trans (hb1.mono (by simp))
      clear hb1
      go_wp2_with (first
        | (refine wpList_store_row rfl 23 (.tmp 2) (.tmp 9) rfl w.heap.size D rfl rfl 23 Z HG.out HSD.out HZD.out H1D.out ?_)
        | fail)
      refine bodyPost_ret (v := .agg D) ?_ rfl ⟨rfl, below_setRow hB (Nat.le_refl _) _⟩
      exact results_cell_row (p := 2) (ty := 23) rfl _ _ w.heap.size 23 D (0, 0) _ rfl (setRow_heap _ _ _ _ 23 _ HG.out) Tryd.underlying23 rfl HSD.out
    · obtain ⟨g, o, rfl, hg⟩ := hR.at (by omega)
      by_cases h1 : len = 1
      · subst h1
        have hrange := hR.range 0 (by omega)
        have e0 : root l = l[0]'(by omega) := by
          rw [root_one l hlen]
          match l, hlen with
          | [d], _ => rfl
        rw [← e0, Nat.mul_zero, Nat.add_zero] at hrange
        obtain ⟨R, HR⟩ : ∃ R, Hid (R = cellsOf (root l)) := ⟨_, (rfl : cellsOf (root l) = _)⟩
        rw [← HR.out] at hrange
        have HDR : D = R.toArray := by rw [HD.out, HR.out]
        have HRG : Hid ((w.alloc (.cells Z 23)).rangeAt g o R) := range_keep ((Below.refl _ _).alloc (Nat.le_refl _) _) hrange
        have z0 : Hid ((Tryd.prog.info? 23).map (·.size) = some R.length) := by show _ = _; rw [size23, HR.out, cellsOf_length, h32]
        subst HDR
        clear hK hR HD ih hrange e0
        have ix := fun W => index_list W g o 1 cap 0 .i64 (by omega)
        simp only [Nat.mul_zero, Nat.add_zero, Int.cast_ofNat_Int] at ix
        go_enter Tryd.func20, Tryd.ntmps20
        go_wp2_with (first
          | (refine wpList_alloc_row rfl 23 rfl Z HA.out ?_)
          | (refine wpList_load_mid rfl 23 (.tmp 13) rfl g o rfl R _ HRG.out Tryd.underlying23 rfl z0.out ?_)
          | (refine wpList_store_row rfl 23 (.tmp 2) (.tmp 14) rfl w.heap.size R.toArray rfl rfl 23 Z (heap_alloc_new w _) HSD.out HZD.out H1D.out ?_)
          | fail)
        refine bodyPost_ret (v := .agg R.toArray) ?_ rfl ⟨rfl, below_setRow ((Below.refl _ _).alloc (Nat.le_refl _) _) (Nat.le_refl _) _⟩
        exact results_cell_row (p := 2) (ty := 23) rfl _ _ w.heap.size 23 R.toArray (0, 0) _ rfl (setRow_heap _ _ _ _ 23 _ (heap_alloc_new w _)) Tryd.underlying23 rfl HSD.out
      · have h2 : 2 ≤ len := by omega
        obtain ⟨k, hk⟩ : ∃ k, k = split len := ⟨_, rfl⟩
        have hkl := split_lt len h2
        have hkp := split_pos len h2
        rw [← hk] at hkl hkp
        have eR : root l = knotD (root (l.take k)) (root (l.drop k)) := by rw [root_more l (by omega), hlen, ← hk]
        have hcl := hR.2.2.1
        have hml := hR.2.2.2.1
        obtain ⟨D1, HD1⟩ : ∃ D1, Hid (D1 = (cellsOf (root (l.take k))).toArray) := ⟨_, (rfl : (cellsOf (root (l.take k))).toArray = _)⟩
        obtain ⟨D2, HD2⟩ : ∃ D2, Hid (D2 = (cellsOf (root (l.drop k))).toArray) := ⟨_, (rfl : (cellsOf (root (l.drop k))).toArray = _)⟩
        have P : Hid (∀ W, Calls Tryd.prog 36 #[.slice (some ⟨g, o, none⟩) len cap] W fun e w' => e = .returned (.tuple #[.slice (some ⟨g, o, none⟩) k cap, .slice (some ⟨g, o + 32 * k, none⟩) (len - k) (cap - k)]) ∧ Below W.heap.size W w') := fun W => parted_any g o len cap k W hk h2 hcl hml
        have R1 : Hid (∀ W, Below w.heap.size w W → Calls Tryd.prog 20 #[.slice (some ⟨g, o, none⟩) k cap] W fun e w' => e = .returned (.agg D1) ∧ Below W.heap.size W w') := fun W hb =>
          ih k hkl _ k cap (l.take k) W rfl ((hR.keep hb).take k (by omega)) (hK.keep hb) D1 HD1
        have R2 : Hid (∀ W, Below w.heap.size w W → Calls Tryd.prog 20 #[.slice (some ⟨g, o + 32 * k, none⟩) (len - k) (cap - k)] W fun e w' => e = .returned (.agg D2) ∧ Below W.heap.size W w') := fun W hb =>
          ih (len - k) (by omega) _ (len - k) (cap - k) (l.drop k) W rfl ((hR.keep hb).drop k (by omega)) (hK.keep hb) D2 HD2
        have K : Hid (∀ W, Below w.heap.size w W → Calls Tryd.prog 25 #[.agg D1, .agg D2] W fun e w' => e = .returned (.agg D) ∧ Below W.heap.size W w') := fun W hb => by
          rw [HD1.out, HD2.out]
          exact knot_any _ _ (root_length sumD_length _ (hR.2.1.take k)) (root_length sumD_length _ (hR.2.1.drop k)) W (hK.keep hb) D (by show _ = _; rw [HD.out, eR]; rfl)
        clear hK hR HD ih eR hk hlen HD1 HD2
        go_enter Tryd.func20, Tryd.ntmps20
        go_wp2_with (first
          | (refine wpList_alloc_row rfl 23 rfl Z HA.out ?_)
          | fail)
        refine (P.out _).mono ?_
        rintro e w1 ⟨rfl, hb1⟩
        have HG : Hid (w1.heap[w.heap.size]? = some (.cells Z 23 (0, 0))) := (hb1.block _ (by simp)).trans (heap_alloc_new w _)
        have hB : Below w.heap.size w w1 := ((Below.refl _ _).alloc (Nat.le_refl _) _).trans (hb1.mono (by simp))
        clear hb1 P
        go_wp2_with fail
        refine (R1.out _ hB).mono ?_
        rintro e w2 ⟨rfl, hb2⟩
        replace HG := hidk ((hb2.block _ (heap_lt HG.out)).trans HG.out)
        replace hB := hB.trans (hb2.mono hB.size)
        clear hb2 R1
        go_wp2_with fail
        refine (R2.out _ hB).mono ?_
        rintro e w3 ⟨rfl, hb3⟩
        replace HG := hidk ((hb3.block _ (heap_lt HG.out)).trans HG.out)
        replace hB := hB.trans (hb3.mono hB.size)
        clear hb3 R2
        go_wp2_with fail
        refine (K.out _ hB).mono ?_
        rintro e w4 ⟨rfl, hb4⟩
        replace HG := hidk ((hb4.block _ (heap_lt HG.out)).trans HG.out)
        replace hB := hB.trans (hb4.mono hB.size)
        clear hb4 K
        go_wp2_with (first
          | (refine wpList_store_row rfl 23 (.tmp 2) (.tmp 24) rfl w.heap.size D rfl rfl 23 Z HG.out HSD.out HZD.out H1D.out ?_)
          | fail)
        refine bodyPost_ret (v := .agg D) ?_ rfl ⟨rfl, below_setRow hB (Nat.le_refl _) _⟩
        exact results_cell_row (p := 2) (ty := 23) rfl _ _ w.heap.size 23 D (0, 0) _ rfl (setRow_heap _ _ _ _ 23 _ HG.out) Tryd.underlying23 rfl HSD.out
end Go.Proofs.YtehfoeedlchphaaDoor
