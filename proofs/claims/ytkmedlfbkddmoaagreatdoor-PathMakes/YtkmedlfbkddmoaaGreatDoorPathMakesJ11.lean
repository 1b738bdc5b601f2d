/- Texts of our own that the row of PathMakes leans on, part 11. -/
import Derived.Test.YtkmedlfbkddmoaaGreatDoorPathMakesJ0
import Derived.Test.YtkmedlfbkddmoaaGreatDoorPathMakesJ1
import Derived.Test.YtkmedlfbkddmoaaGreatDoorPathMakesJ2
import Derived.Test.YtkmedlfbkddmoaaGreatDoorPathMakesJ10
import Derived.OneCell
/- Slices of digests in memory, and their parts. -/
namespace Go.Proofs.YtkmedlfbkddmoaaGreatDoor
open Go.RowKit Sums
set_option maxRecDepth 100000
set_option linter.unusedVariables false
set_option linter.unusedSimpArgs false
def LReads (w : World) (a : Option Addr) (len cap : Nat) (l : List (List UInt8)) : Prop :=
  l.length = len ∧ Digs32 l ∧ len ≤ cap ∧ len ≤ maxLen ∧ (len = 0 ∨ ∃ g o, a = some ⟨g, o, none⟩ ∧ Lies w g o l.flatten)
theorem lies_lt {w : World} {g o : Nat} {l : List UInt8} (h : Lies w g o l) (hl : 0 < l.length) : g < w.heap.size := World.block_lt_of_cell? _ _ (h 0 hl)
theorem LReads.below {w w' : World} {a : Option Addr} {len cap B : Nat} {l : List (List UInt8)} (h : LReads w a len cap l) (hb : Below B w w') (hB : ∀ g o, a = some ⟨g, o, none⟩ → 0 < len → g < B) : LReads w' a len cap l := by
  obtain ⟨h1, h2, h3, h4, h5⟩ := h
  refine ⟨h1, h2, h3, h4, ?_⟩
  by_cases h0 : len = 0
  · exact .inl h0
  · rcases h5 with h5 | ⟨g, o, ha, hl⟩
    · exact .inl h5
    · exact .inr ⟨g, o, ha, hl.keep hb (hB g o ha (by omega))⟩
theorem LReads.keep {w w' : World} {a : Option Addr} {len cap : Nat} {l : List (List UInt8)} (h : LReads w a len cap l) (hb : Below w.heap.size w w') : LReads w' a len cap l := by
  refine h.below hb fun g o ha h0 => ?_
  obtain ⟨h1, h2, h3, h4, h5⟩ := h
  rcases h5 with h5 | ⟨g', o', ha', hl⟩
  · omega
  · rw [ha] at ha'
    cases ha'
    exact lies_lt hl (by rw [flat_length h2]; omega)
theorem LReads.at {w : World} {a : Option Addr} {len cap : Nat} {l : List (List UInt8)} (h : LReads w a len cap l) (h0 : 0 < len) : ∃ g o, a = some ⟨g, o, none⟩ ∧ g < w.heap.size := by
  obtain ⟨h1, h2, h3, h4, h5⟩ := h
  rcases h5 with h5 | ⟨g, o, ha, hl⟩
  · omega
  · exact ⟨g, o, ha, lies_lt hl (by rw [flat_length h2]; omega)⟩
theorem LReads.take {w : World} {g o len cap : Nat} {l : List (List UInt8)} (h : LReads w (some ⟨g, o, none⟩) len cap l) (k : Nat) (hk : k ≤ len) : LReads w (some ⟨g, o, none⟩) k cap (l.take k) := by
  obtain ⟨h1, h2, h3, h4, h5⟩ := h
  refine ⟨by simp; omega, h2.take k, by omega, by omega, ?_⟩
  rcases h5 with h5 | ⟨g', o', ha, hl⟩
  · exact .inl (by omega)
  · cases ha
    refine .inr ⟨_, _, rfl, ?_⟩
    rw [flat_take h2]
    exact hl.take _
theorem LReads.drop {w : World} {g o len cap : Nat} {l : List (List UInt8)} (h : LReads w (some ⟨g, o, none⟩) len cap l) (k : Nat) (hk : k ≤ len) : LReads w (some ⟨g, o + 32 * k, none⟩) (len - k) (cap - k) (l.drop k) := by
  obtain ⟨h1, h2, h3, h4, h5⟩ := h
  refine ⟨by simp; omega, h2.drop k, by omega, by omega, ?_⟩
  rcases h5 with h5 | ⟨g', o', ha, hl⟩
  · exact .inl (by omega)
  · cases ha
    refine .inr ⟨_, _, rfl, ?_⟩
    rw [flat_drop h2]
    exact hl.drop _
theorem LReads.range {w : World} {g o len cap : Nat} {l : List (List UInt8)} (h : LReads w (some ⟨g, o, none⟩) len cap l) (i : Nat) (hi : i < l.length) : w.rangeAt g (o + 32 * i) (cellsOf l[i]) := by
  obtain ⟨h1, h2, h3, h4, h5⟩ := h
  intro j v hj
  have h32 := h2 _ (List.getElem_mem hi)
  have hjl : j < l[i].length := by
    have := (List.getElem?_eq_some_iff.1 hj).1
    rwa [cellsOf_length] at this
  rcases h5 with h5 | ⟨g', o', ha, hl⟩
  · omega
  · cases ha
    have hf := flat_length h2
    have hx : 32 * i + j < l.flatten.length := by omega
    have hc := hl (32 * i + j) hx
    rw [Nat.add_assoc, hc]
    rw [cellsOf_at _ j hjl] at hj
    rw [← hj]
    have e := flat_at h2 i hi
    have : l.flatten[32 * i + j] = l[i][j] := by
      have e2 : ((l.flatten.drop (32 * i)).take 32)[j]? = l[i][j]? := by rw [e]
      rw [List.getElem?_take_of_lt (by omega), List.getElem?_drop, List.getElem?_eq_getElem hx, List.getElem?_eq_getElem hjl] at e2
      exact Option.some.inj e2
    rw [this]
theorem sizeOfD (w : World) : (sizeOf 24).run Tryz.prog w = .ok 32 w := by
  cases hq : Tryz.prog.info? 24 with
  | none => have := size23; simp [hq] at this
  | some i => have := size23; simp [hq] at this; simp [sizeOf, typeInfo, hq, this]
theorem slice_left (W : World) (g o len cap k : Nat) (hk : k ≤ cap) : (Instr.sliceAt 38 (.slice (some ⟨g, o, none⟩) len cap) none (some (.int .i64 k)) none).run Tryz.prog W = .ok (.slice (some ⟨g, o, none⟩) k cap) W := by
  simp [Instr.sliceAt, Instr.slice, Instr.sliceBounds, Instr.sliceBound, asIntOf, run_underlying Tryz.underlying38, sizeOfD, hk]
  rw [add_plain]
  simp
theorem slice_right (W : World) (g o len cap k : Nat) (hk : k ≤ len) (hc : len ≤ cap) (hlt : k < cap) : (Instr.sliceAt 38 (.slice (some ⟨g, o, none⟩) len cap) (some (.int .i64 k)) none none).run Tryz.prog W = .ok (.slice (some ⟨g, o + 32 * k, none⟩) (len - k) (cap - k)) W := by
  simp [Instr.sliceAt, Instr.slice, Instr.sliceBounds, Instr.sliceBound, asIntOf, run_underlying Tryz.underlying38, sizeOfD, hk]
  rw [if_neg (by omega), add_plain]
  simp [Nat.mul_comm]
theorem index_list (W : World) (g o len cap i : Nat) (k : IntKind) (hi : i < len) : (Instr.indexAt 38 (.slice (some ⟨g, o, none⟩) len cap) (.int k i)).run Tryz.prog W = .ok (.pointer (some ⟨g, o + 32 * i, none⟩)) W := by
  simp [Instr.indexAt, asIntOf, run_underlying Tryz.underlying38, sizeOfD, hi]
  rw [add_plain, Nat.mul_comm]
set_option maxHeartbeats 1000000 in
theorem parted_any (g o len cap k : Nat) (w : World) (hk : k = split len) (h2 : 2 ≤ len) (hc : len ≤ cap) (hm : len ≤ maxLen) :
    Calls Tryz.prog 58 #[.slice (some ⟨g, o, none⟩) len cap] w fun e w' => e = .returned (.tuple #[.slice (some ⟨g, o, none⟩) k cap, .slice (some ⟨g, o + 32 * k, none⟩) (len - k) (cap - k)]) ∧ Below w.heap.size w w' := by
  have hl := split_lt len h2
  rw [← hk] at hl
  have hmx : len ≤ 9223372036854775807 := by unfold maxLen at hm; omega
  have S : Hid (∀ W, Calls Tryz.prog 89 #[.int .i64 len] W fun e w' => e = .returned (.int .i64 k) ∧ W = w') := fun W => by
    have := split_any (len : Int) W (by omega)
    rw [Int.toNat_natCast, ← hk] at this
    exact this
  have sl := fun W => slice_left W g o len cap k (by omega)
  have sr := fun W => slice_right W g o len cap k (by omega) hc (by omega)
  clear hk hm
  go_enter Tryz.func58, Tryz.ntmps58
  go_wp2_with fail
  refine (S.out _).mono ?_
  rintro e w1 ⟨rfl, rfl⟩
  go_wp2
  refine wp_region_held_drew (S := (fun _ => True)) (by kernel_rfl) trivial (fun hHeld => ?_)
  refine zW 0 (.slice (some ⟨g, o, none⟩) len cap) rfl (Or.inl ⟨by rfl, by intro w hSw; go_simp⟩) hHeld ?_
  try simp only [Act.put, pS1, pS2, pS3]
  refine zW 1 (.int .i64 k) rfl (Or.inl ⟨by rfl, by intro w hSw; go_simp⟩) hHeld ?_
  try simp only [Act.put, pS1, pS2, pS3]
  refine zW 2 (.slice (some ⟨g, o, none⟩) k cap) rfl (Or.inl ⟨by rfl, by intro W hSw; have := sl W; go_simp⟩) hHeld ?_
  try simp only [Act.put, pS1, pS2, pS3]
  refine zW 3 (.slice (some ⟨g, o, none⟩) len cap) rfl (Or.inl ⟨by rfl, by intro w hSw; go_simp⟩) hHeld ?_
  try simp only [Act.put, pS1, pS2, pS3]
  refine zW 4 (.int .i64 k) rfl (Or.inl ⟨by rfl, by intro w hSw; go_simp⟩) hHeld ?_
  try simp only [Act.put, pS1, pS2, pS3]
  refine zW 5 (.slice (some ⟨g, o + 32 * k, none⟩) (len - k) (cap - k)) rfl (Or.inl ⟨by rfl, by intro W hSw; have := sr W; go_simp⟩) hHeld ?_
  try simp only [Act.put, pS1, pS2, pS3]
  refine zW 6 (.slice (some ⟨g, o, none⟩) k cap) rfl (Or.inl ⟨by rfl, by intro w hSw; go_simp⟩) hHeld ?_
  try simp only [Act.put, pS1, pS2, pS3]
  refine zW 7 (.slice (some ⟨g, o + 32 * k, none⟩) (len - k) (cap - k)) rfl (Or.inl ⟨by rfl, by intro w hSw; go_simp⟩) hHeld ?_
  try simp only [Act.put, pS1, pS2, pS3]
  refine wpAnyH_done (by kernel_rfl) ?_ _
  go_wp2
  go_ret2
  exact ⟨rfl, (Below.refl _ _).drew⟩
set_option maxHeartbeats 1000000 in
theorem root_any (n : Nat) (a : Option Addr) (len cap : Nat) (l : List (List UInt8)) (w : World) (hn : len = n) (hR : LReads w a len cap l) (hK : Table 1 w) (D : Array Value) (HD : Hid (D = (cellsOf (root l)).toArray)) :
    Calls Tryz.prog 49 #[.slice a len cap] w fun e w' => e = .returned (.agg D) ∧ Below w.heap.size w w' := by
  induction n using Nat.strongRecOn generalizing a len cap l w D with
  | _ n ih =>
    subst hn
    obtain ⟨Z, HZ, HA, HS, H1, H32⟩ := noughts27
    have h32 : (root l).length = 32 := root_length sumD_length l hR.2.1
    have HSD : Hid ((Tryz.prog.info? 24).map (·.size) = some D.size) := by show _ = _; rw [size23, HD.out]; simp [cellsOf_length, h32]
    have H1D : Hid (D.all (·.oneCell') = true) := by show _ = _; rw [HD.out]; exact cellsOf_all _
    have HZD : Hid (Z.size = D.size) := by show _ = _; rw [H32.out, HD.out]; simp [cellsOf_length, h32]
    have hlen := hR.1
    by_cases h0 : len = 0
    · have KE : Hid (∀ W, Below w.heap.size w W → Calls Tryz.prog 80 #[] W fun e w' => e = .returned (.agg D) ∧ Below W.heap.size W w') := fun W hb => empty_any W (hK.keep hb) D (by show _ = _; rw [HD.out, root_none l (by omega)])
      subst h0
      clear hK hR HD ih
      go_enter Tryz.func49, Tryz.ntmps49
      go_wp2_with (first
        | (refine wpList_alloc_row rfl 24 rfl Z HA.out ?_)
        | fail)
      refine (KE.out _ ((Below.refl _ _).alloc (Nat.le_refl _) _)).mono ?_
      rintro e w1 ⟨rfl, hb1⟩
      have HG : Hid (w1.heap[w.heap.size]? = some (.cells Z 24 (0, 0))) := (hb1.block _ (by simp)).trans (heap_alloc_new w _)
      have hB : Below w.heap.size w w1 := ((Below.refl _ _).alloc (Nat.le_refl _) _).trans (hb1.mono (by simp))
      clear hb1
      go_wp2_with (first
        | (refine wpList_store_row rfl 24 (.tmp 2) (.tmp 9) rfl w.heap.size D rfl rfl 24 Z HG.out HSD.out HZD.out H1D.out ?_)
        | fail)
      refine bodyPost_ret (v := .agg D) ?_ rfl ⟨rfl, below_setRow hB (Nat.le_refl _) _⟩
      exact results_cell_row (p := 2) (ty := 24) rfl _ _ w.heap.size 24 D (0, 0) _ rfl (setRow_heap _ _ _ _ 24 _ HG.out) Tryz.underlying24 rfl HSD.out
    · obtain ⟨g, o, rfl, hg⟩ := hR.at (by omega)
      by_cases h1 : len = 1
      · subst h1
        have hrange := hR.range 0 (by omega)
        have e0 : root l = l[0]'(by omega) := by
          rw [root_one l hlen]
          match l, hlen with
          | [d], _ => rfl
        rw [← e0, Nat.mul_zero, Nat.add_zero] at hrange
        obtain ⟨R, HR⟩ : ∃ R, Hid (R = cellsOf (root l)) := ⟨_, (rfl : cellsOf (root l) = _)⟩
        rw [← HR.out] at hrange
        have HDR : D = R.toArray := by rw [HD.out, HR.out]
        have HRG : Hid ((w.alloc (.cells Z 24)).rangeAt g o R) := range_keep ((Below.refl _ _).alloc (Nat.le_refl _) _) hrange
        have z0 : Hid ((Tryz.prog.info? 24).map (·.size) = some R.length) := by show _ = _; rw [size23, HR.out, cellsOf_length, h32]
        subst HDR
        clear hK hR HD ih hrange e0
        have ix := fun W => index_list W g o 1 cap 0 .i64 (by omega)
        simp only [Nat.mul_zero, Nat.add_zero, Int.cast_ofNat_Int] at ix
        go_enter Tryz.func49, Tryz.ntmps49
        go_wp2_with (first
          | (refine wpList_alloc_row rfl 24 rfl Z HA.out ?_)
          | (refine wpList_load_mid rfl 24 (.tmp 13) rfl g o rfl R _ HRG.out Tryz.underlying24 rfl z0.out ?_)
          | (refine wpList_store_row rfl 24 (.tmp 2) (.tmp 14) rfl w.heap.size R.toArray rfl rfl 24 Z (heap_alloc_new w _) HSD.out HZD.out H1D.out ?_)
          | fail)
        refine bodyPost_ret (v := .agg R.toArray) ?_ rfl ⟨rfl, below_setRow ((Below.refl _ _).alloc (Nat.le_refl _) _) (Nat.le_refl _) _⟩
        exact results_cell_row (p := 2) (ty := 24) rfl _ _ w.heap.size 24 R.toArray (0, 0) _ rfl (setRow_heap _ _ _ _ 24 _ (heap_alloc_new w _)) Tryz.underlying24 rfl HSD.out
      · have h2 : 2 ≤ len := by omega
        obtain ⟨k, hk⟩ : ∃ k, k = split len := ⟨_, rfl⟩
        have hkl := split_lt len h2
        have hkp := split_pos len h2
        rw [← hk] at hkl hkp
        have eR : root l = knotD (root (l.take k)) (root (l.drop k)) := by rw [root_more l (by omega), hlen, ← hk]
        have hcl := hR.2.2.1
        have hml := hR.2.2.2.1
        obtain ⟨D1, HD1⟩ : ∃ D1, Hid (D1 = (cellsOf (root (l.take k))).toArray) := ⟨_, (rfl : (cellsOf (root (l.take k))).toArray = _)⟩
        obtain ⟨D2, HD2⟩ : ∃ D2, Hid (D2 = (cellsOf (root (l.drop k))).toArray) := ⟨_, (rfl : (cellsOf (root (l.drop k))).toArray = _)⟩
        have P : Hid (∀ W, Calls Tryz.prog 58 #[.slice (some ⟨g, o, none⟩) len cap] W fun e w' => e = .returned (.tuple #[.slice (some ⟨g, o, none⟩) k cap, .slice (some ⟨g, o + 32 * k, none⟩) (len - k) (cap - k)]) ∧ Below W.heap.size W w') := fun W => parted_any g o len cap k W hk h2 hcl hml
        have R1 : Hid (∀ W, Below w.heap.size w W → Calls Tryz.prog 49 #[.slice (some ⟨g, o, none⟩) k cap] W fun e w' => e = .returned (.agg D1) ∧ Below W.heap.size W w') := fun W hb =>
          ih k hkl _ k cap (l.take k) W rfl ((hR.keep hb).take k (by omega)) (hK.keep hb) D1 HD1
        have R2 : Hid (∀ W, Below w.heap.size w W → Calls Tryz.prog 49 #[.slice (some ⟨g, o + 32 * k, none⟩) (len - k) (cap - k)] W fun e w' => e = .returned (.agg D2) ∧ Below W.heap.size W w') := fun W hb =>
          ih (len - k) (by omega) _ (len - k) (cap - k) (l.drop k) W rfl ((hR.keep hb).drop k (by omega)) (hK.keep hb) D2 HD2
        have K : Hid (∀ W, Below w.heap.size w W → Calls Tryz.prog 81 #[.agg D1, .agg D2] W fun e w' => e = .returned (.agg D) ∧ Below W.heap.size W w') := fun W hb => by
          rw [HD1.out, HD2.out]
          exact knot_any _ _ (root_length sumD_length _ (hR.2.1.take k)) (root_length sumD_length _ (hR.2.1.drop k)) W (hK.keep hb) D (by show _ = _; rw [HD.out, eR]; rfl)
        clear hK hR HD ih eR hk hlen HD1 HD2
        go_enter Tryz.func49, Tryz.ntmps49
        go_wp2_with (first
          | (refine wpList_alloc_row rfl 24 rfl Z HA.out ?_)
          | fail)
        refine (P.out _).mono ?_
        rintro e w1 ⟨rfl, hb1⟩
        have HG : Hid (w1.heap[w.heap.size]? = some (.cells Z 24 (0, 0))) := (hb1.block _ (by simp)).trans (heap_alloc_new w _)
        have hB : Below w.heap.size w w1 := ((Below.refl _ _).alloc (Nat.le_refl _) _).trans (hb1.mono (by simp))
        clear hb1 P
        go_wp2_with fail
        refine (R1.out _ hB).mono ?_
        rintro e w2 ⟨rfl, hb2⟩
        replace HG := hidk ((hb2.block _ (heap_lt HG.out)).trans HG.out)
        replace hB := hB.trans (hb2.mono hB.size)
        clear hb2 R1
        go_wp2_with fail
        refine (R2.out _ hB).mono ?_
        rintro e w3 ⟨rfl, hb3⟩
        replace HG := hidk ((hb3.block _ (heap_lt HG.out)).trans HG.out)
        replace hB := hB.trans (hb3.mono hB.size)
        clear hb3 R2
        go_wp2_with fail
        refine (K.out _ hB).mono ?_
        rintro e w4 ⟨rfl, hb4⟩
        replace HG := hidk ((hb4.block _ (heap_lt HG.out)).trans HG.out)
        replace hB := hB.trans (hb4.mono hB.size)
        clear hb4 K
        go_wp2_with (first
          | (refine wpList_store_row rfl 24 (.tmp 2) (.tmp 24) rfl w.heap.size D rfl rfl 24 Z HG.out HSD.out HZD.out H1D.out ?_)
          | fail)
        refine bodyPost_ret (v := .agg D) ?_ rfl ⟨rfl, below_setRow hB (Nat.le_refl _) _⟩
        exact results_cell_row (p := 2) (ty := 24) rfl _ _ w.heap.size 24 D (0, 0) _ rfl (setRow_heap _ _ _ _ 24 _ HG.out) Tryz.underlying24 rfl HSD.out
theorem store_func (P : Program) (w : World) (a : Addr) (m : Mode) (f : Fn) (first cap : Array Value) : (store a (.func f first cap) m).run P w = stored P w a (.func f first cap) m := run_store P w a _ m rfl
theorem own_below {B : Nat} {e : TypeId} {k : Nat} {v : Value} {n : Nat} {xs : List Value} {w w' : World} (h : w.ownsRow B e k v n xs) (hb : Below w.heap.size w w') : w'.ownsRow B e k v n xs :=
  h.kept (row := none) ⟨hb.os, hb.tape, hb.output, hb.size, fun j hj _ => hb.block j hj⟩ (by cases hv : v.ownBlock <;> simp)
theorem table_low {g B : Nat} {w w' : World} (h : Table g w) (hb : Below B w w') (hg : g < B) : Table g w' :=
  ⟨Nat.lt_of_lt_of_le h.1 hb.size, fun k hk => by rw [hb.cell hg]; exact h.2 k hk⟩
theorem infoD : (Tryz.prog.info? 24).map (fun i => (i.zero, i.size, i.bytes)) = some (some (.agg (cellsOf (List.replicate 32 0)).toArray), 32, 32) := by kernel_rfl
theorem run_append_digs (W : World) (B : Nat) (v : Value) (l news : List (List UInt8)) (hown : W.ownsRow B 24 32 v l.length (cellsOf l.flatten)) (a : Addr) (m c : Nat) (hm : news.length = m) (hd : Digs32 news)
    (hN : ∀ j u, (cellsOf news.flatten)[j]? = some u → W.cell? (a.add j) = some u) (hB : B ≤ W.heap.size) (hlen : l.length + m ≤ 1000000) :
    ∃ v' w', (Builtin.append_ #[38, 38] 38 #[v, .slice (some a) m c]).run Tryz.prog W = .ok v' w' ∧ w'.ownsRow B 24 32 v' (l.length + m) (cellsOf (l ++ news).flatten) ∧ W.grownBy w' v.ownBlock := by
  obtain ⟨i0, hi, hz0, hz1, hz2⟩ := info_parts infoD
  obtain ⟨v', w', hr, ho, hg, _⟩ := run_append_own (P := Tryz.prog) W B 38 38 24 i0 _ 32 32 Tryz.underlying38 hi hz0 hz1 hz2 (by rfl) (by decide) v l.length _ hown a m c (cellsOf news.flatten)
    (by rw [cellsOf_length, flat_length hd]; omega) hN (cellsOf_one _) (by unfold maxLen; omega) (by omega) hB
  refine ⟨v', w', hr, ?_, hg⟩
  rw [List.flatten_append, cellsOf_append]
  exact ho
structure Holds (B gp gf : Nat) (tf : TypeId) (F v : Value) (l : List (List UInt8)) (w : World) : Prop where
  proof : w.heap[gp]? = some (.cells #[v] 38 (0, 0))
  prove : w.heap[gf]? = some (.cells #[F] tf (0, 0))
  own : w.ownsRow B 24 32 v l.length (cellsOf l.flatten)
theorem Holds.keep {B gp gf : Nat} {tf : TypeId} {F v : Value} {l : List (List UInt8)} {w w' : World} (h : Holds B gp gf tf F v l w) (hb : Below w.heap.size w w') : Holds B gp gf tf F v l w' :=
  ⟨(hb.block _ (heap_lt h.proof)).trans h.proof, (hb.block _ (heap_lt h.prove)).trans h.prove, own_below h.own hb⟩
theorem Holds.drew {B gp gf : Nat} {tf : TypeId} {F v : Value} {l : List (List UInt8)} {w : World} (h : Holds B gp gf tf F v l w) : Holds B gp gf tf F v l w.drew := ⟨h.proof, h.prove, h.own⟩
theorem own_other {B : Nat} {v : Value} {l : List (List UInt8)} {w : World} {b : Nat} {c : Array Value} {t : TypeId} {m : Nat × Nat} (h : w.ownsRow B 24 32 v l.length (cellsOf l.flatten)) (hb : w.heap[b]? = some (.cells c t m)) (ht : t ≠ 24) : some b ≠ v.ownBlock := by
  intro e
  rcases h.2 with ⟨rfl, _⟩ | ⟨g, cap, cur, rfl, _, hgb, _⟩
  · simp [Value.ownBlock] at e
  · obtain rfl : b = g := by simpa [Value.ownBlock] using e
    rw [hgb] at hb
    cases hb
    exact ht rfl
theorem own_form {w : World} {B size n : Nat} {e : TypeId} {v : Value} {xs : List Value} (h : w.ownsRow B e size v n xs) (hn : 0 < n) : ∃ g cap, v = .slice (some ⟨g, 0, none⟩) n cap := by
  rcases h.2 with ⟨_, h0⟩ | ⟨g, cap, cur, hv, _⟩
  · omega
  · exact ⟨g, cap, hv⟩
theorem Holds.append {B gp gf : Nat} {tf : TypeId} {F v : Value} {l : List (List UInt8)} {w : World} (h : Holds B gp gf tf F v l w) (htf : tf ≠ 24) (hB : B ≤ w.heap.size) (hlen : l.length + 1 ≤ 1000000) (d : List UInt8) (hd : d.length = 32) (D : Array Value) (HD : Hid (D = (cellsOf d).toArray)) :
    ∃ gn cn w', (Builtin.append_ #[38, 38] 38 #[v, .slice (some ⟨w.heap.size, 0, none⟩) 1 1]).run Tryz.prog (w.alloc (.cells D 24)) = .ok (.slice (some ⟨gn, 0, none⟩) (l.length + 1) cn) w' ∧
      w'.heap[gp]? = some (.cells #[v] 38 (0, 0)) ∧ w'.heap[gf]? = some (.cells #[F] tf (0, 0)) ∧ w'.ownsRow B 24 32 (.slice (some ⟨gn, 0, none⟩) (l.length + 1) cn) (l ++ [d]).length (cellsOf (l ++ [d]).flatten) ∧ Below B w w' := by
  have hb0 : Below w.heap.size w (w.alloc (.cells D 24)) := (Below.refl _ _).alloc (Nat.le_refl _) _
  have h' := h.keep hb0
  obtain ⟨v', w', hr, ho, hg⟩ := run_append_digs (w.alloc (.cells D 24)) B v l [d] h'.own ⟨w.heap.size, 0, none⟩ 1 1 rfl (.one hd) (by
    intro j u hj
    rw [add_plain, Nat.zero_add, cell_of_row _ _ j _ 24 (0, 0) (heap_alloc_new w _), HD.out]
    simpa using hj) (Nat.le_trans hB (by simp)) hlen
  obtain ⟨gn, cn, rfl⟩ := own_form ho (by omega)
  refine ⟨gn, cn, w', hr, ?_, ?_, by rw [List.length_append]; exact ho, ?_⟩
  · exact (hg.block _ (heap_lt h'.proof) (own_other h'.own h'.proof (by decide))).trans h'.proof
  · exact (hg.block _ (heap_lt h'.prove) (own_other h'.own h'.prove htf)).trans h'.prove
  · exact (hb0.mono hB).grown hg (Nat.le_trans hB (by simp)) (fun k hk => (h'.own.lt k hk).1)
theorem Holds.put {B gp gf : Nat} {tf : TypeId} {F v v' : Value} {l : List (List UInt8)} {w : World} (hne : gp ≠ gf) (h1 : w.heap[gp]? = some (.cells #[v] 38 (0, 0))) (h2 : w.heap[gf]? = some (.cells #[F] tf (0, 0))) (h3 : w.ownsRow B 24 32 v' l.length (cellsOf l.flatten)) :
    Holds B gp gf tf F v' l (w.setCell ⟨gp, 0, none⟩ v') := by
  refine ⟨?_, ?_, ?_⟩
  · exact one_setCell h1
  · rw [Below.heap_setCell _ _ _ _ (fun e => hne (by simpa using e.symm))]; exact h2
  · exact ownsRow_setCell_other h3 (own_other h3 h1 (by decide)).symm v'
theorem wpList_append_runD {P : Program} {ops : Array Oper} {rest : List Oper} {o : Oper} {a : Act} {w : World} {Q : Exit → Act → World → Prop}
    (hg : o.guard = none) (s x : Operand) (t u : TypeId) (hop : o.op = Op.call { callee := Callee.builtin Builtin.append, args := #[s, x], argTypes := #[t, u] })
    (vs vx v' : Value) (w' : World) (hs : a.eval s = vs) (hx : a.eval x = vx) (hrun : (Builtin.append_ #[t, u] o.type #[vs, vx]).run P w = .ok v' w')
    (h : wpList P ops Q rest (a.put o.dst v') w') : wpList P ops Q (o :: rest) a w := by
  refine wpList_plain hg fun K hK => ?_
  unfold Oper.wp
  simp [execOp, hop, resolve, invoke, builtin, hs, hx, hrun, Result.andThen]
  exact hK _ _ h
theorem neqSelf (D : Array Value) (l : List UInt8) (hl : l.length = 32) (HD : Hid (D = (cellsOf l).toArray)) (w : World) : (binOp .neq 24 (.agg D) (.agg D)).run Tryz.prog w = .ok (.bool false) w := by
  have h : (Op.equalIn (9998 + 2) 24 (.agg (cellsOf l).toArray) (.agg (cellsOf l).toArray)).run Tryz.prog w = .ok (l == l) w := run_equalIn_bytes (P := Tryz.prog) w 9998 24 5 32 Tryz.underlying24 Tryz.underlying5 sizeOf5 l l hl hl
  rw [run_neq_struct, HD.out]
  simp only [Nat.reduceAdd] at h
  rw [h]
  simp
theorem LReads.own {w : World} {B : Nat} {v : Value} {l : List (List UInt8)} (h : w.ownsRow B 24 32 v l.length (cellsOf l.flatten)) (hd : Digs32 l) : ∃ a cap, v = .slice a l.length cap ∧ LReads w a l.length cap l ∧ (∀ g o, a = some ⟨g, o, none⟩ → B ≤ g) := by
  rcases h.2 with ⟨rfl, h0⟩ | ⟨g, cap, cur, rfl, hb, hg, hc, hm, hs, ht⟩
  · exact ⟨none, 0, by rw [h0], ⟨rfl, hd, by omega, by omega, .inl h0⟩, fun g o e => by cases e⟩
  · refine ⟨some ⟨g, 0, none⟩, cap, rfl, ⟨rfl, hd, hc, by omega, .inr ⟨g, 0, rfl, fun i hi => ?_⟩⟩, fun g' o' e => by cases e; exact hb⟩
    rw [Nat.zero_add, cell_of_row w g i cur 24 (0, 0) hg]
    have hfl := flat_length hd
    have e : (cellsOf l.flatten)[i]? = cur.toList[i]? := by
      rw [← ht, List.getElem?_take, if_pos (by omega)]
    rw [cellsOf_at _ i hi] at e
    simpa using e.symm
set_option maxHeartbeats 1000000 in
theorem same_digs (a1 a2 : Option Addr) (len c1 c2 : Nat) (l : List (List UInt8)) (w : World) (h1 : LReads w a1 len c1 l) (h2 : LReads w a2 len c2 l) :
    Calls Tryz.prog 23 #[.slice a1 len c1, .slice a2 len c2] w fun e w' => e = .returned (.bool true) ∧ Below w.heap.size w w' := by
  have hlen := h1.1
  have hmx : len ≤ 9223372036854775807 := by have := h1.2.2.2.1; unfold maxLen at this; omega
  have H1 : Hid (LReads w a1 len c1 l) := h1
  have H2 : Hid (LReads w a2 len c2 l) := h2
  clear h1 h2
  have hdn : (!((len : Int) == (len : Int))) = false := by simp
  go_enter Tryz.func23, Tryz.ntmps23
  go_wp2
  go_loopw [5] (fun v wr => ∃ i : Nat, i ≤ len ∧ v = .int .i64 i ∧ Below w.heap.size w wr) (fun v _ => len - (intOf v).toNat)
  case atStart => exact ⟨0, by omega, rfl, Below.refl _ _⟩
  case round =>
    obtain ⟨i, hi, rfl, hB⟩ := hrel
    by_cases hlt : i < len
    · have hdi : decide ((i : Int) < (len : Int)) = true := by rw [decide_eq_true_eq]; omega
      have hw := wrap_int ((i : Int) + 1) (by omega) (by omega)
      obtain ⟨g1, o1, rfl, hg1⟩ := H1.out.at (by omega)
      obtain ⟨g2, o2, rfl, hg2⟩ := H2.out.at (by omega)
      have hil : i < l.length := by omega
      obtain ⟨A, HA⟩ : ∃ A, Hid (A = cellsOf l[i]) := ⟨_, (rfl : cellsOf l[i] = _)⟩
      have h32 : l[i].length = 32 := H1.out.2.1 _ (List.getElem_mem hil)
      have z0 : (Tryz.prog.info? 24).map (·.size) = some A.length := by rw [size23, HA.out, cellsOf_length, h32]
      have hne := fun W => neqSelf A.toArray l[i] h32 (by show _ = _; rw [HA.out]) W
      have hS : wr.rangeAt g1 (o1 + 32 * i) A ∧ wr.rangeAt g2 (o2 + 32 * i) A := by
        rw [HA.out]
        exact ⟨(H1.out.keep hB).range i hil, (H2.out.keep hB).range i hil⟩
      have ix1 := fun W => index_list W g1 o1 len c1 i .i64 hlt
      have ix2 := fun W => index_list W g2 o2 len c2 i .i64 hlt
      clear HA h32 hil
      go_wp2
      refine wp_region_held_drew (S := (fun W => W.rangeAt g1 (o1 + 32 * i) A ∧ W.rangeAt g2 (o2 + 32 * i) A)) (by kernel_rfl) hS (fun hHeld => ?_)
      refine zW 0 (.slice (some ⟨g1, o1, none⟩) len c1) rfl (Or.inl ⟨by rfl, by intro w hSw; go_simp⟩) hHeld ?_
      try simp only [Act.put, pS1, pS2, pS3]
      refine zW 1 (.int .i64 i) rfl (Or.inl ⟨by rfl, by intro w hSw; go_simp⟩) hHeld ?_
      try simp only [Act.put, pS1, pS2, pS3]
      refine zW 2 (.pointer (some ⟨g1, o1 + 32 * i, none⟩)) rfl (Or.inl ⟨by rfl, by intro W hSw; have := ix1 W; go_simp⟩) hHeld ?_
      try simp only [Act.put, pS1, pS2, pS3]
      refine zW 3 (.agg A.toArray) rfl (yieldsIf_load_mid (by rfl) 24 (.tmp 19) rfl _ _ rfl A _ (fun _ h => h.1) Tryz.underlying24 rfl z0) hHeld ?_
      try simp only [Act.put, pS1, pS2, pS3]
      refine zW 4 (.slice (some ⟨g2, o2, none⟩) len c2) rfl (Or.inl ⟨by rfl, by intro w hSw; go_simp⟩) hHeld ?_
      try simp only [Act.put, pS1, pS2, pS3]
      refine zW 5 (.int .i64 i) rfl (Or.inl ⟨by rfl, by intro w hSw; go_simp⟩) hHeld ?_
      try simp only [Act.put, pS1, pS2, pS3]
      refine zW 6 (.pointer (some ⟨g2, o2 + 32 * i, none⟩)) rfl (Or.inl ⟨by rfl, by intro W hSw; have := ix2 W; go_simp⟩) hHeld ?_
      try simp only [Act.put, pS1, pS2, pS3]
      refine zW 7 (.agg A.toArray) rfl (yieldsIf_load_mid (by rfl) 24 (.tmp 23) rfl _ _ rfl A _ (fun _ h => h.2) Tryz.underlying24 rfl z0) hHeld ?_
      try simp only [Act.put, pS1, pS2, pS3]
      refine zW 8 (.bool false) rfl (Or.inl ⟨by rfl, by intro W hSw; have := hne W; go_simp⟩) hHeld ?_
      try simp only [Act.put, pS1, pS2, pS3]
      refine wpAnyH_done (by kernel_rfl) ?_ _
      go_wp2
      go_roundw
      case rel => exact ⟨i + 1, by omega, by go_num, hB.drew⟩
      case measure => simp [intOf]; omega
    · obtain rfl : len = i := by omega
      go_wp2
      go_ret
      exact ⟨rfl, hB⟩
set_option maxHeartbeats 1000000 in
theorem refSplit_any (n : Int) (w : World) (h1 : n ≤ 9223372036854775807) :
    Calls Tryz.prog 61 #[.int .i64 n] w fun e w' => e = .returned (.int .i64 (split n.toNat)) ∧ w = w' := by
  by_cases h2 : n < 2
  · have e : split n.toNat = 0 := split_small _ (by omega)
    rw [e]
    go_enter Tryz.func61, Tryz.ntmps61
    go_wp2
    go_ret
    exact ⟨rfl, rfl⟩
  · obtain ⟨N, hN⟩ : ∃ N : Nat, n = N := ⟨n.toNat, by omega⟩
    subst hN
    rw [Int.toNat_natCast]
    have hd2 : decide ((N : Int) < 2) = false := by rw [decide_eq_false_iff_not]; exact h2
    obtain ⟨s, HSs⟩ : ∃ s, Hid (s = split N) := ⟨_, (rfl : split N = _)⟩
    rw [← HSs.out]
    go_enter Tryz.func61, Tryz.ntmps61
    go_wp2
    go_loopw [3] (fun v wr => ∃ k : Nat, v = .int .i64 k ∧ Hid (∃ j, k = 2 ^ j) ∧ k < N ∧ 1 ≤ k ∧ w = wr) (fun v _ => N - (intOf v).toNat)
    case atStart => exact ⟨1, rfl, ⟨0, rfl⟩, by omega, by omega, rfl⟩
    case round =>
      obtain ⟨k, rfl, HJ, hkN, hk1, rfl⟩ := hrel
      have e1 := wrap_int ((N : Int) - (k : Int)) (by omega) (by omega)
      by_cases hlt : k < N - k
      · have hdi : decide ((k : Int) < (N : Int) - (k : Int)) = true := by rw [decide_eq_true_eq]; omega
        have e2 := wrap_int (2 * (k : Int)) (by omega) (by omega)
        go_wp2
        go_roundw
        case rel =>
          refine ⟨2 * k, by go_num, ?_, by omega, by omega, by trivial⟩
          obtain ⟨j, hj⟩ := HJ.out
          exact ⟨j + 1, by rw [hj, Nat.pow_succ, Nat.mul_comm]⟩
        case measure => simp [intOf]; omega
      · have hdi : decide ((k : Int) < (N : Int) - (k : Int)) = false := by rw [decide_eq_false_iff_not]; omega
        have hs : split N = k := by
          obtain ⟨j, hj⟩ := HJ.out
          rw [hj] at hlt hkN ⊢
          exact split_uniq N j (by omega) hkN (by omega)
        obtain rfl : s = k := HSs.out.trans hs
        go_wp2
        go_ret
        exact ⟨rfl, rfl⟩
set_option maxHeartbeats 1000000 in
theorem refRoot_any (n : Nat) (a : Option Addr) (len cap : Nat) (l : List (List UInt8)) (w : World) (hn : len = n) (hR : LReads w a len cap l) (hK : Table 0 w) (D : Array Value) (HD : Hid (D = (cellsOf (root l)).toArray)) :
    Calls Tryz.prog 35 #[.slice a len cap] w fun e w' => e = .returned (.agg D) ∧ Below w.heap.size w w' := by
  induction n using Nat.strongRecOn generalizing a len cap l w D with
  | _ n ih =>
    subst hn
    obtain ⟨Z, HZ, HA, HS, H1, H32⟩ := noughts27
    have h32 : (root l).length = 32 := root_length sumD_length l hR.2.1
    have HSD : Hid ((Tryz.prog.info? 24).map (·.size) = some D.size) := by show _ = _; rw [size23, HD.out]; simp [cellsOf_length, h32]
    have H1D : Hid (D.all (·.oneCell') = true) := by show _ = _; rw [HD.out]; exact cellsOf_all _
    have HZD : Hid (Z.size = D.size) := by show _ = _; rw [H32.out, HD.out]; simp [cellsOf_length, h32]
    have hlen := hR.1
    by_cases h0 : len = 0
    · have KE : Hid (∀ W, Below w.heap.size w W → Calls Tryz.prog 60 #[.string ⟨#[]⟩] W fun e w' => e = .returned (.agg D) ∧ Below W.heap.size W w') := fun W hb => refSum_any ⟨#[]⟩ W (by decide) (hK.keep hb) D (by show _ = _; rw [HD.out, root_none l (by omega)])
      subst h0
      clear hK hR HD ih
      go_enter Tryz.func35, Tryz.ntmps35
      go_wp2_with (first
        | (refine wpList_alloc_row rfl 24 rfl Z HA.out ?_)
        | fail)
      refine (KE.out _ ((Below.refl _ _).alloc (Nat.le_refl _) _)).mono ?_
      rintro e w1 ⟨rfl, hb1⟩
      have HG : Hid (w1.heap[w.heap.size]? = some (.cells Z 24 (0, 0))) := (hb1.block _ (by simp)).trans (heap_alloc_new w _)
      have hB : Below w.heap.size w w1 := ((Below.refl _ _).alloc (Nat.le_refl _) _).trans (hb1.mono (by simp))
      clear hb1
      go_wp2_with (first
        | (refine wpList_store_row rfl 24 (.tmp 2) (.tmp 7) rfl w.heap.size D rfl rfl 24 Z HG.out HSD.out HZD.out H1D.out ?_)
        | fail)
      refine bodyPost_ret (v := .agg D) ?_ rfl ⟨rfl, below_setRow hB (Nat.le_refl _) _⟩
      exact results_cell_row (p := 2) (ty := 24) rfl _ _ w.heap.size 24 D (0, 0) _ rfl (setRow_heap _ _ _ _ 24 _ HG.out) Tryz.underlying24 rfl HSD.out
    · obtain ⟨g, o, rfl, hg⟩ := hR.at (by omega)
      by_cases h1 : len = 1
      · subst h1
        have hrange := hR.range 0 (by omega)
        have e0 : root l = l[0]'(by omega) := by
          rw [root_one l hlen]
          match l, hlen with
          | [d], _ => rfl
        rw [← e0, Nat.mul_zero, Nat.add_zero] at hrange
        obtain ⟨R, HR⟩ : ∃ R, Hid (R = cellsOf (root l)) := ⟨_, (rfl : cellsOf (root l) = _)⟩
        rw [← HR.out] at hrange
        have HDR : D = R.toArray := by rw [HD.out, HR.out]
        have HRG : Hid ((w.alloc (.cells Z 24)).rangeAt g o R) := range_keep ((Below.refl _ _).alloc (Nat.le_refl _) _) hrange
        have z0 : Hid ((Tryz.prog.info? 24).map (·.size) = some R.length) := by show _ = _; rw [size23, HR.out, cellsOf_length, h32]
        subst HDR
        clear hK hR HD ih hrange e0
        have ix := fun W => index_list W g o 1 cap 0 .i64 (by omega)
        simp only [Nat.mul_zero, Nat.add_zero, Int.cast_ofNat_Int] at ix
        go_enter Tryz.func35, Tryz.ntmps35
        go_wp2_with (first
          | (refine wpList_alloc_row rfl 24 rfl Z HA.out ?_)
          | (refine wpList_load_mid rfl 24 (.tmp 12) rfl g o rfl R _ HRG.out Tryz.underlying24 rfl z0.out ?_)
          | (refine wpList_store_row rfl 24 (.tmp 2) (.tmp 13) rfl w.heap.size R.toArray rfl rfl 24 Z (heap_alloc_new w _) HSD.out HZD.out H1D.out ?_)
          | fail)
        refine bodyPost_ret (v := .agg R.toArray) ?_ rfl ⟨rfl, below_setRow ((Below.refl _ _).alloc (Nat.le_refl _) _) (Nat.le_refl _) _⟩
        exact results_cell_row (p := 2) (ty := 24) rfl _ _ w.heap.size 24 R.toArray (0, 0) _ rfl (setRow_heap _ _ _ _ 24 _ (heap_alloc_new w _)) Tryz.underlying24 rfl HSD.out
      · have h2 : 2 ≤ len := by omega
        obtain ⟨k, hk⟩ : ∃ k, k = split len := ⟨_, rfl⟩
        have hkl := split_lt len h2
        have hkp := split_pos len h2
        rw [← hk] at hkl hkp
        have eR : root l = knotD (root (l.take k)) (root (l.drop k)) := by rw [root_more l (by omega), hlen, ← hk]
        have hcl := hR.2.2.1
        have hml := hR.2.2.2.1
        have hmx : len ≤ 9223372036854775807 := by unfold maxLen at hml; omega
        obtain ⟨D1, HD1⟩ : ∃ D1, Hid (D1 = (cellsOf (root (l.take k))).toArray) := ⟨_, (rfl : (cellsOf (root (l.take k))).toArray = _)⟩
        obtain ⟨D2, HD2⟩ : ∃ D2, Hid (D2 = (cellsOf (root (l.drop k))).toArray) := ⟨_, (rfl : (cellsOf (root (l.drop k))).toArray = _)⟩
        have S : Hid (∀ W, Calls Tryz.prog 61 #[.int .i64 len] W fun e w' => e = .returned (.int .i64 k) ∧ W = w') := fun W => by
          have := refSplit_any (len : Int) W (by omega)
          rw [Int.toNat_natCast, ← hk] at this
          exact this
        have sl := fun W => slice_left W g o len cap k (by omega)
        have sr := fun W => slice_right W g o len cap k (by omega) hcl (by omega)
        have R1 : Hid (∀ W, Below w.heap.size w W → Calls Tryz.prog 35 #[.slice (some ⟨g, o, none⟩) k cap] W fun e w' => e = .returned (.agg D1) ∧ Below W.heap.size W w') := fun W hb =>
          ih k hkl _ k cap (l.take k) W rfl ((hR.keep hb).take k (by omega)) (hK.keep hb) D1 HD1
        have R2 : Hid (∀ W, Below w.heap.size w W → Calls Tryz.prog 35 #[.slice (some ⟨g, o + 32 * k, none⟩) (len - k) (cap - k)] W fun e w' => e = .returned (.agg D2) ∧ Below W.heap.size W w') := fun W hb =>
          ih (len - k) (by omega) _ (len - k) (cap - k) (l.drop k) W rfl ((hR.keep hb).drop k (by omega)) (hK.keep hb) D2 HD2
        have KK : Hid (∀ W, Below w.heap.size w W → Calls Tryz.prog 62 #[.agg D1, .agg D2] W fun e w' => e = .returned (.agg D) ∧ Below W.heap.size W w') := fun W hb => by
          rw [HD1.out, HD2.out]
          exact refKnot_any _ _ (root_length sumD_length _ (hR.2.1.take k)) (root_length sumD_length _ (hR.2.1.drop k)) W (hK.keep hb) D (by show _ = _; rw [HD.out, eR]; rfl)
        clear hK hR HD ih eR hk hlen HD1 HD2
        go_enter Tryz.func35, Tryz.ntmps35
        go_wp2_with (first
          | (refine wpList_alloc_row rfl 24 rfl Z HA.out ?_)
          | fail)
        refine (S.out _).mono ?_
        rintro e w1 ⟨rfl, hw1⟩
        have HG : Hid (w1.heap[w.heap.size]? = some (.cells Z 24 (0, 0)) ∧ Below w.heap.size w w1) := by
          rw [← hw1]
          exact ⟨heap_alloc_new w _, (Below.refl _ _).alloc (Nat.le_refl _) _⟩
        clear hw1 S
        go_wp2
        refine wp_region_held_drew (S := (fun W => Below w.heap.size w W ∧ W.heap[w.heap.size]?.isSome = true)) (by kernel_rfl) ⟨HG.out.2.drew, by show (w1.heap[w.heap.size]?).isSome = true; rw [HG.out.1]; rfl⟩ (fun hHeld => ?_)
        refine zW 0 (.slice (some ⟨g, o, none⟩) len cap) rfl (Or.inl ⟨by rfl, by intro w hSw; go_simp⟩) hHeld ?_
        try simp only [Act.put, pS1, pS2, pS3]
        refine zW 1 (.int .i64 k) rfl (Or.inl ⟨by rfl, by intro w hSw; go_simp⟩) hHeld ?_
        try simp only [Act.put, pS1, pS2, pS3]
        refine zW 2 (.slice (some ⟨g, o, none⟩) k cap) rfl (Or.inl ⟨by rfl, by intro W hSw; have := sl W; go_simp⟩) hHeld ?_
        try simp only [Act.put, pS1, pS2, pS3]
        refine zW 4 (.slice (some ⟨g, o, none⟩) len cap) rfl (Or.inl ⟨by rfl, by intro w hSw; go_simp⟩) hHeld ?_
        try simp only [Act.put, pS1, pS2, pS3]
        refine zW 5 (.int .i64 k) rfl (Or.inl ⟨by rfl, by intro w hSw; go_simp⟩) hHeld ?_
        try simp only [Act.put, pS1, pS2, pS3]
        refine zW 6 (.slice (some ⟨g, o + 32 * k, none⟩) (len - k) (cap - k)) rfl (Or.inl ⟨by rfl, by intro W hSw; have := sr W; go_simp⟩) hHeld ?_
        try simp only [Act.put, pS1, pS2, pS3]
        refine wpAnyH_ready (rs := [3]) (by kernel_rfl) (by simp) ?_
        refine AllReadyH.cons (o := { dst := some 20, op := .call { callee := .value (.func 35), args := #[.tmp 19], argTypes := #[38] }, type := 24, pos := "ref.go:30", after := #[zD 2], guard := none }) rfl (fun K hK => ?_) AllReadyH.nil
        go_simp
        refine (R1.out _ HG.out.2.drew).mono ?_
        rintro e w3 ⟨rfl, hb3⟩
        replace HG := hidk (And.intro ((hb3.block _ (heap_lt HG.out.1)).trans HG.out.1) (HG.out.2.drew.trans (hb3.mono HG.out.2.size)))
        go_wp2_with fail
        refine hK.out _ _ ⟨HG.out.2, by rw [HG.out.1]; rfl⟩ (fun hHeld => ?_)
        clear hK K
        try simp only [Act.put, pS1, pS2, pS3]
        refine wpAnyH_ready (rs := [7]) (by kernel_rfl) (by simp) ?_
        refine AllReadyH.cons (o := { dst := some 24, op := .call { callee := .value (.func 35), args := #[.tmp 23], argTypes := #[38] }, type := 24, pos := "ref.go:30", after := #[zD 6, zC 3], guard := none }) rfl (fun K hK => ?_) AllReadyH.nil
        go_simp
        refine (R2.out _ HG.out.2).mono ?_
        rintro e w7 ⟨rfl, hb7⟩
        replace HG := hidk (And.intro ((hb7.block _ (heap_lt HG.out.1)).trans HG.out.1) (HG.out.2.trans (hb7.mono HG.out.2.size)))
        go_wp2_with fail
        refine hK.out _ _ ⟨HG.out.2, by rw [HG.out.1]; rfl⟩ (fun hHeld => ?_)
        clear hK K
        try simp only [Act.put, pS1, pS2, pS3]
        refine wpAnyH_ready (rs := [8]) (by kernel_rfl) (by simp) ?_
        refine AllReadyH.cons (o := { dst := some 25, op := .call { callee := .value (.func 62), args := #[.tmp 20, .tmp 24], argTypes := #[24, 24] }, type := 24, pos := "ref.go:30", after := #[zD 3, zD 7, zC 7], guard := none }) rfl (fun K hK => ?_) AllReadyH.nil
        go_simp
        refine (KK.out _ HG.out.2).mono ?_
        rintro e w8 ⟨rfl, hb8⟩
        replace HG := hidk (And.intro ((hb8.block _ (heap_lt HG.out.1)).trans HG.out.1) (HG.out.2.trans (hb8.mono HG.out.2.size)))
        go_wp2_with fail
        refine hK.out _ _ ⟨HG.out.2, by rw [HG.out.1]; rfl⟩ (fun hHeld => ?_)
        clear hK K
        try simp only [Act.put, pS1, pS2, pS3]
        refine wpAnyH_ready (rs := [9]) (by kernel_rfl) (by simp) ?_
        refine AllReadyH.cons (o := { dst := none, op := .store 24 (.tmp 2) (.tmp 25), type := 0, pos := "ref.go:30", after := #[zD 8, zC 8, zP 0, zP 1, zP 2, zP 3, zP 4, zP 5, zP 6, zP 7, zP 8], guard := none }) rfl (fun K hK => ?_) AllReadyH.nil
        refine step_store_row (by rfl) 24 (.tmp 2) (.tmp 25) rfl w.heap.size D rfl rfl 24 Z HG.out.1 HSD.out HZD.out H1D.out ?_
        refine hK.out _ _ ⟨below_setRow HG.out.2 (Nat.le_refl _) _, by rw [setRow_heap _ _ _ _ 24 _ HG.out.1]; rfl⟩ (fun hHeld => ?_)
        clear hK K
        try simp only [Act.put, pS1, pS2, pS3]
        refine wpAnyH_done (by kernel_rfl) ?_ _
        go_wp2
        refine bodyPost_ret (v := .agg D) ?_ rfl ⟨rfl, below_setRow HG.out.2 (Nat.le_refl _) _⟩
        exact results_cell_row (p := 2) (ty := 24) rfl _ _ w.heap.size 24 D (0, 0) _ rfl (setRow_heap _ _ _ _ 24 _ HG.out.1) Tryz.underlying24 rfl HSD.out
end Go.Proofs.YtkmedlfbkddmoaaGreatDoor
/- What the calls of package check answer, as the document says (their proofs are of one commit of the code). -/
namespace Go.Proofs.YtkmedlfbkddmoaaGreatDoor.P5
open Go.RowKit Sums
set_option maxRecDepth 100000
set_option linter.unusedVariables false
def incE (root : List UInt8) (size index : Int) (leaf : List UInt8) (proof : List (List UInt8)) : Int :=
  if 1 ≤ size ∧ size ≤ 100000 ∧ 0 ≤ index ∧ index < size then
    (if (mkR proof.reverse size.toNat index.toNat leaf).2 = true then (if (mkR proof.reverse size.toNat index.toNat leaf).1 = root then 0 else 41) else 40)
  else 40
theorem incE_vals (root : List UInt8) (size index : Int) (leaf : List UInt8) (proof : List (List UInt8)) : incE root size index leaf proof = 0 ∨ incE root size index leaf proof = 40 ∨ incE root size index leaf proof = 41 := by
  unfold incE; repeat' split
  all_goals simp
theorem incE_out (root : List UInt8) (size index : Int) (leaf : List UInt8) (proof : List (List UInt8)) (h : ¬ (1 ≤ size ∧ size ≤ 100000 ∧ 0 ≤ index ∧ index < size)) : incE root size index leaf proof = 40 := by unfold incE; rw [if_neg h]
theorem incE_in (root : List UInt8) (S I : Nat) (leaf : List UInt8) (proof : List (List UInt8)) (h1 : 1 ≤ S) (h2 : S ≤ 100000) (h3 : I < S) : incE root S I leaf proof = (if (mkR proof.reverse S I leaf).2 = true then (if (mkR proof.reverse S I leaf).1 = root then 0 else 41) else 40) := by
  unfold incE; rw [if_pos (by omega), Int.toNat_natCast, Int.toNat_natCast]
def TabC (w : World) : Prop := Table 1 w
theorem TabC.keep {w w' : World} (h : TabC w) (hb : Below w.heap.size w w') : TabC w' := Table.keep h hb
theorem TabC.sha {w : World} (h : TabC w) : Table 1 w := h
structure CheckC : Prop where
  included : ∀ (root : List UInt8) (size index : Int) (leaf : List UInt8) (proof : List (List UInt8)) (a : Option Addr) (len cap : Nat) (w : World) (R X : Array Value) (HR : Hid (R = (cellsOf root).toArray)) (HX : Hid (X = (cellsOf leaf).toArray)) (hr : root.length = 32) (hx : leaf.length = 32)
    (hs : -9223372036854775808 ≤ size ∧ size ≤ 9223372036854775807) (hi : -9223372036854775808 ≤ index ∧ index ≤ 9223372036854775807) (hR : LReads w a len cap proof) (hK : TabC w),
    Calls Tryz.prog 44 #[.agg R, .int .i64 size, .int .i64 index, .agg X, .slice a len cap] w fun e w' => e = .returned (.int .i64 (incE root size index leaf proof)) ∧ Below w.heap.size w w'
end Go.Proofs.YtkmedlfbkddmoaaGreatDoor.P5
/- What the statements' Own answers. -/
namespace Go.Proofs.YtkmedlfbkddmoaaGreatDoor
open Go.RowKit Sums
set_option maxRecDepth 100000
set_option linter.unusedVariables false
set_option linter.unusedSimpArgs false
end Go.Proofs.YtkmedlfbkddmoaaGreatDoor
