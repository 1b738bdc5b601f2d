/- FrontGrows answers true at every list. -/
import Derived.Test.YtmpmhfagbcknnaaDoorThree4
namespace Go.Proofs.YtmpmhfagbcknnaaDoor
open Go.RowKit Sums
set_option linter.unusedVariables false
set_option linter.unusedSimpArgs false

theorem LReads.rowG {w : World} {a : Option Addr} {len cap gl : Nat} {l : List (List UInt8)} {D : Array Value} (h : LReads w a len cap l) (hne : ∀ g o, a = some ⟨g, o, none⟩ → 0 < len → g ≠ gl) : LReads (w.setRow gl D) a len cap l := by
  obtain ⟨h1, h2, h3, h4, h5⟩ := h
  refine ⟨h1, h2, h3, h4, ?_⟩
  by_cases h0 : len = 0
  · exact .inl h0
  · rcases h5 with h5 | ⟨g, o, ha, hl⟩
    · exact .inl h5
    · refine .inr ⟨g, o, ha, fun i hi => ?_⟩
      rw [cell_setRow_other w gl D _ (hne g o ha (by omega))]
      exact hl i hi

theorem oneF (n : Int) (y : Option Addr) (m c : Nat) : (#[Value.int .i64 n, .slice y m c].all (·.oneCell')) = true := by simp [Value.oneCell']
theorem keepG {w W W' : World} {gx gf : Nat} {ox of : Obj} {y v : Option Addr} {m cy cv : Nat} {p : List (List UInt8)} (h : W.heap[gx]? = some ox ∧ W.heap[gf]? = some of ∧ LReads W y m cy p ∧ LReads W v m cv p ∧ Below w.heap.size w W) (hb : Below W.heap.size W W') :
    W'.heap[gx]? = some ox ∧ W'.heap[gf]? = some of ∧ LReads W' y m cy p ∧ LReads W' v m cv p ∧ Below w.heap.size w W' :=
  ⟨(hb.block _ (heap_lt h.1)).trans h.1, (hb.block _ (heap_lt h.2.1)).trans h.2.1, h.2.2.1.keep hb, h.2.2.2.1.keep hb, h.2.2.2.2.trans (hb.mono h.2.2.2.2.size)⟩
theorem RoomO.other {B b : Nat} {x : Option Addr} {m : Nat} {W : World} (h : RoomO B x m W) (hb : b < B) : ∀ g o, x = some ⟨g, o, none⟩ → 0 < m → g ≠ b := fun g o e h0 => by
  rcases h with h | ⟨gp, oo, e2, hB, _⟩
  · omega
  · rw [e] at e2
    cases e2
    omega

set_option maxHeartbeats 8000000 in
theorem frontGrows_of (fr : FrontC) (a0 : Option Addr) (len0 cap0 : Nat) (z0 : List (List UInt8)) (w : World) (w0 : LReads w a0 len0 cap0 z0) (hK : TabF w) :
    Calls Tryd.prog 6 #[.slice a0 len0 cap0] w fun e w' => e = .returned (.bool true) ∧ Below w.heap.size w w' := by
  have hmx : len0 ≤ 9223372036854775807 := by have := w0.2.2.2.1; unfold maxLen at this; omega
  by_cases hlong : 70 < len0
  · have hd : decide ((70 : Int) < (len0 : Int)) = true := by rw [decide_eq_true_eq]; omega
    go_enter Tryd.func6, Tryd.ntmps6
    go_wp2
    go_ret
    exact ⟨rfl, Below.refl _ _⟩
  · have hd : decide ((70 : Int) < (len0 : Int)) = false := by rw [decide_eq_false_iff_not]; omega
    have HW : Hid (LReads w a0 len0 cap0 z0) := w0
    obtain ⟨pk, HPK⟩ : ∃ pk : Nat → List (List UInt8), Hid (∀ k, pk k = peaks (z0.take k)) := ⟨_, (fun k => rfl : ∀ k, peaks (z0.take k) = _)⟩
    obtain ⟨pm, HPM⟩ : ∃ pm : Nat → Nat, Hid (∀ k, pm k = (pk k).length) := ⟨_, (fun k => rfl : ∀ k, (pk k).length = _)⟩
    have hmany : ∀ k, k ≤ len0 → pm k = many k := fun k hk => by
      rw [HPM.out, HPK.out]
      exact peaks_length k _ (by rw [List.length_take, w0.1]; omega)
    have T : Hid (∀ W, Below w.heap.size w W → Calls Tryd.prog 13 #[] W fun e w' => e = .returned (.bool true) ∧ Below W.heap.size W w') := fun W hb => three4_true fr W (hK.keep hb)
    have AC : Hid (∀ (W : World) (k : Nat) (y : Option Addr) (cy : Nat) (d : List UInt8) (D : Array Value), z0[k]? = some d → Hid (D = (cellsOf d).toArray) → Below w.heap.size w W → LReads W y (pm k) cy (pk k) → Calls Tryd.prog 15 #[.agg #[.int .i64 k, .slice y (pm k) cy], .agg D] W fun e w' => ∃ y2 cy2, e = .returned (.tuple #[.agg #[.int .i64 ((k : Int) + 1), .slice y2 (pm (k + 1)) cy2], .int .i64 0]) ∧ LReads w' y2 (pm (k + 1)) cy2 (pk (k + 1)) ∧ RoomO W.heap.size y2 (pm (k + 1)) w' ∧ Below W.heap.size W w') := fun W k y cy d D hd HD hb hy => by
      obtain ⟨hk, hdk⟩ := List.getElem?_eq_some_iff.1 hd
      have hk' : k < len0 := by rw [← w0.1]; exact hk
      have ha : addP k (pk k) d = pk (k + 1) := by
        have := addP_peaks (z0.take k) d
        rw [List.length_take, Nat.min_eq_left (by omega)] at this
        rw [HPK.out, HPK.out, this, List.take_add_one, hd]
        rfl
      have h32 : d.length = 32 := by rw [← hdk]; exact w0.2.1 _ (List.getElem_mem _)
      have hA := fr.add_ok k y (pm k) cy (pk k) d W ⟨by omega, by omega, by rw [Int.toNat_natCast]; exact hmany k (by omega)⟩ (by omega) hy h32 (hK.keep hb) D HD
      rw [ha, ← HPM.out] at hA
      exact hA
    have OC : Hid (∀ (W : World) (g o k : Nat), k < len0 → a0 = some ⟨g, o, none⟩ → Below w.heap.size w W → Calls Tryd.prog 17 #[.slice (some ⟨g, o, none⟩) (k + 1) cap0] W fun e w' => ∃ y2 cy2, e = .returned (.tuple #[.agg #[.int .i64 ((k : Int) + 1), .slice y2 (pm (k + 1)) cy2], .int .i64 0]) ∧ LReads w' y2 (pm (k + 1)) cy2 (pk (k + 1)) ∧ Below W.heap.size W w') := fun W g o k hk ha hb => by
      subst ha
      have hA := fr.of_ok (some ⟨g, o, none⟩) (k + 1) cap0 (z0.take (k + 1)) W ((w0.keep hb).take (k + 1) (by omega)) (by omega) (hK.keep hb)
      rw [← HPK.out, ← HPM.out, show ((k + 1 : Nat) : Int) = (k : Int) + 1 by omega] at hA
      exact hA
    have DG : Hid (∀ (W : World) (k : Nat) (x : Option Addr) (cx : Nat) (y : Option Addr) (cy : Nat), LReads W x (pm k) cx (pk k) → LReads W y (pm k) cy (pk k) → Calls Tryd.prog 14 #[.slice x (pm k) cx, .slice y (pm k) cy] W fun e w' => e = .returned (.bool true) ∧ Below W.heap.size W w') := fun W k x cx y cy h1 h2 => same_digs x y (pm k) cx cy _ W h1 h2
    have RT : Hid (∀ (W : World) (k : Nat) (y : Option Addr) (cy : Nat) (D : Array Value), k < len0 → Hid (D = (cellsOf (root (z0.take (k + 1)))).toArray) → Below w.heap.size w W → LReads W y (pm (k + 1)) cy (pk (k + 1)) → Calls Tryd.prog 10 #[.agg #[.int .i64 ((k : Int) + 1), .slice y (pm (k + 1)) cy]] W fun e w' => e = .returned (.tuple #[.agg D, .int .i64 0]) ∧ Below W.heap.size W w') := fun W k y cy D hk HD hb hy =>
      fr.frontRoot_ok ((k : Int) + 1) y (pm (k + 1)) cy (pk (k + 1)) W ⟨by omega, by omega, by rw [show ((k : Int) + 1).toNat = k + 1 by omega]; exact hmany (k + 1) (by omega)⟩ hy (hK.keep hb) D (by
        show _ = _
        rw [HD.out, HPK.out, rootP_peaks _ _ rfl])
    have TR : Hid (∀ (W : World) (g o k : Nat) (D : Array Value), k < len0 → a0 = some ⟨g, o, none⟩ → Hid (D = (cellsOf (root (z0.take (k + 1)))).toArray) → Below w.heap.size w W → Calls Tryd.prog 19 #[.slice (some ⟨g, o, none⟩) (k + 1) cap0] W fun e w' => e = .returned (.agg D) ∧ Below W.heap.size W w') := fun W g o k D hk ha HD hb => by
      subst ha
      exact root_any (k + 1) (some ⟨g, o, none⟩) (k + 1) cap0 _ W rfl ((w0.keep hb).take (k + 1) (by omega)) (hK.keep hb).1 D HD
    have h00 : pm 0 = 0 ∧ pk 0 = [] := by
      constructor
      · rw [hmany 0 (by omega), many_zero]
      · rw [HPK.out]; rfl
    have HI0 : Hid (∃ y cy, (w.alloc (.cells #[.int .i64 0, .slice none 0 0] 25)).heap[w.heap.size]? = some (.cells #[.int .i64 ((0 : Nat) : Int), .slice y (pm 0) cy] 25 (0, 0)) ∧ LReads (w.alloc (.cells #[.int .i64 0, .slice none 0 0] 25)) y (pm 0) cy (pk 0) ∧ Below w.heap.size w (w.alloc (.cells #[.int .i64 0, .slice none 0 0] 25)) ∧ (∀ g o, y = some ⟨g, o, none⟩ → 0 < pm 0 → g ≠ w.heap.size)) := by
      refine ⟨none, 0, ?_, ?_, (Below.refl _ _).alloc (Nat.le_refl _) _, fun g o e => by cases e⟩
      · rw [h00.1]; exact heap_alloc_new w _
      · rw [h00.1, h00.2]
        exact ⟨rfl, (fun x hx => absurd hx (by simp) : ∀ x ∈ ([] : List (List UInt8)), x.length = 32), Nat.le_refl _, Nat.zero_le _, Or.inl rfl⟩
    have HDL : Hid (Digs32 z0) := w0.2.1
    obtain ⟨Z, HZ, HAZ, HSZ, H1Z, H32Z⟩ := noughts27
    clear hK w0 h00 hmany HPK HPM
    go_enter Tryd.func6, Tryd.ntmps6
    go_wp2
    go_loopw [4] (fun v wr => ∃ k : Nat, k ≤ len0 ∧ v = .int .i64 k ∧ Hid (∃ y cy, wr.heap[w.heap.size]? = some (.cells #[.int .i64 (k : Int), .slice y (pm k) cy] 25 (0, 0)) ∧ LReads wr y (pm k) cy (pk k) ∧ Below w.heap.size w wr ∧ (∀ g o, y = some ⟨g, o, none⟩ → 0 < pm k → g ≠ w.heap.size))) (fun v _ => len0 - (intOf v).toNat)
    case atStart => exact ⟨0, by omega, rfl, HI0⟩
    case round =>
      obtain ⟨k, hk, rfl, HI⟩ := hrel
      obtain ⟨y, cy, h1, h2, h3, h4⟩ := HI.out
      clear HI HI0
      by_cases hlt : k < len0
      · have hdi : decide ((k : Int) < (len0 : Int)) = true := by rw [decide_eq_true_eq]; omega
        have hw := wrap_int ((k : Int) + 1) (by omega) (by omega)
        obtain ⟨g, o, ha0, hg⟩ := HW.out.at (by omega)
        have HA0 := hidk ha0
        subst ha0
        go_wp2
        obtain ⟨L, hL⟩ : ∃ L : List Value, L = cellsOf (z0[k]'(by rw [HW.out.1]; exact hlt)) := ⟨_, rfl⟩
        have h32 : (z0[k]'(by rw [HW.out.1]; exact hlt)).length = 32 := HDL.out _ (List.getElem_mem _)
        have zL : (Tryd.prog.info? 29).map (·.size) = some L.length := by rw [size23, hL, cellsOf_length, h32]
        have HLA : Hid (L.toArray = (cellsOf (z0[k]'(by rw [HW.out.1]; exact hlt))).toArray) := by show _ = _; rw [hL]
        have HRG : Hid (w.rangeAt g (o + 32 * k) L) := by show World.rangeAt _ _ _ _; rw [hL]; exact HW.out.range k (by rw [HW.out.1]; exact hlt)
        have ix := fun W => index_list W g o len0 cap0 k .i64 hlt
        have sl : ∀ W, (Instr.sliceAt 22 (.slice (some ⟨g, o, none⟩) len0 cap0) none (some (.int .i64 ((k : Int) + 1))) none).run Tryd.prog W = .ok (.slice (some ⟨g, o, none⟩) (k + 1) cap0) W := fun W => by
          have := slice_left W g o len0 cap0 (k + 1) (by have := HW.out.2.2.1; omega)
          rw [show ((k + 1 : Nat) : Int) = (k : Int) + 1 by omega] at this
          exact this
        have h32R : (root (z0.take (k + 1))).length = 32 := root_length sumD_length _ (HDL.out.take _)
        obtain ⟨DR, HDR, HSR, H1R, H32R⟩ := dig_row' (root (z0.take (k + 1))) h32R
        obtain ⟨LR, hLR⟩ : ∃ LR : List Value, DR = LR.toArray := ⟨DR.toList, by simp⟩
        subst hLR
        have zR : (Tryd.prog.info? 29).map (·.size) = some LR.length := by have := HSR.out; simpa using this
        have HZR : Hid (Z.size = LR.toArray.size) := by show _ = _; rw [H32Z.out, H32R.out]
        have nR := neqSelf LR.toArray _ h32R HDR
        have HZK : Hid (z0[k]? = some (z0[k]'(by rw [HW.out.1]; exact hlt))) := List.getElem?_eq_getElem _
        have HB := hidk h3
        have HY := hidk h2
        have HF := hidk h1
        have HNE := hidk h4
        have HLT : Hid (w.heap.size < wr.heap.size) := heap_lt h1
        have H0 : Hid (wr.rangeAt w.heap.size 0 [.int .i64 (k : Int), .slice y (pm k) cy] ∧ wr.rangeAt g (o + 32 * k) L) := ⟨range_row h1, fun j v hj => (h3.cell hg).trans (HRG.out j v hj)⟩
        clear hL h32 h1 h2 h3 h4 h32R HZ
        refine wp_region_held_drew (S := (fun W => W.rangeAt w.heap.size 0 [.int .i64 (k : Int), .slice y (pm k) cy] ∧ W.rangeAt g (o + 32 * k) L)) (by kernel_rfl) ⟨range_keep (Below.refl _ _).drew H0.out.1, range_keep (Below.refl _ _).drew H0.out.2⟩ (fun hHeld => ?_)
        refine wpAnyH_take (i := 0) (oi := { dst := some 22, op := Op.load 25 (Operand.tmp 3), type := 25, pos := "law.go:81", after := #[], guard := none }) (v := .agg #[.int .i64 (k : Int), .slice y (pm k) cy]) rfl (by kernel_rfl) (by kernel_rfl) (by kernel_rfl) (fun _ _ _ h => h) (yieldsIf_load_mid (by rfl) 25 (.tmp 3) rfl _ 0 rfl [.int .i64 (k : Int), .slice y (pm k) cy] _ (fun _ h => h.1) Tryd.underlying25 rfl sizeF) hHeld ?_
        try simp only [Act.put, List.setIfInBounds_toArray, List.set_cons_zero, List.set_cons_succ]
        refine wpAnyH_take (i := 1) (oi := { dst := some 23, op := Op.move (Operand.tmp 0), type := 22, pos := "law.go:81", after := #[], guard := none }) (v := .slice (some ⟨g, o, none⟩) len0 cap0) rfl (by kernel_rfl) (by kernel_rfl) (by kernel_rfl) (fun _ _ _ h => h) (Or.inl ⟨by rfl, by intro W hSw; go_simp⟩) hHeld ?_
        try simp only [Act.put, List.setIfInBounds_toArray, List.set_cons_zero, List.set_cons_succ]
        refine wpAnyH_take (i := 2) (oi := { dst := some 24, op := Op.move (Operand.tmp 4), type := 3, pos := "law.go:81", after := #[], guard := none }) (v := .int .i64 k) rfl (by kernel_rfl) (by kernel_rfl) (by kernel_rfl) (fun _ _ _ h => h) (Or.inl ⟨by rfl, by intro W hSw; go_simp⟩) hHeld ?_
        try simp only [Act.put, List.setIfInBounds_toArray, List.set_cons_zero, List.set_cons_succ]
        refine wpAnyH_take (i := 3) (oi := { dst := some 25, op := Op.indexAddr 22 (Operand.tmp 23) (Operand.tmp 24), type := 0, pos := "law.go:81", after := #[{ on := 1, ground := Ground.data }, { on := 2, ground := Ground.data }], guard := none }) (v := .pointer (some ⟨g, o + 32 * k, none⟩)) rfl (by kernel_rfl) (by kernel_rfl) (by kernel_rfl) (fun _ _ _ h => h) (Or.inl ⟨by rfl, by intro W hSw; have := ix W; go_simp⟩) hHeld ?_
        try simp only [Act.put, List.setIfInBounds_toArray, List.set_cons_zero, List.set_cons_succ]
        refine wpAnyH_take (i := 4) (oi := { dst := some 26, op := Op.load 29 (Operand.tmp 25), type := 29, pos := "law.go:81", after := #[{ on := 3, ground := Ground.data }], guard := none }) (v := .agg L.toArray) rfl (by kernel_rfl) (by kernel_rfl) (by kernel_rfl) (fun _ _ _ h => h) (yieldsIf_load_mid (by rfl) 29 (.tmp 25) rfl _ _ rfl L _ (fun _ h => h.2) Tryd.underlying29 rfl zL) hHeld ?_
        try simp only [Act.put, List.setIfInBounds_toArray, List.set_cons_zero, List.set_cons_succ]
        refine wpAnyH_ready (rs := [5, 9]) (by kernel_rfl) (by simp) ?_
        refine (AllReadyH.cons (o := { dst := some 27, op := Op.call { callee := Callee.value (Operand.func 15), args := #[Operand.tmp 22, Operand.tmp 26], argTypes := #[25, 29] }, type := 36, pos := "law.go:81", after := #[{ on := 0, ground := Ground.data }, { on := 4, ground := Ground.data }], guard := none }) rfl (fun K hK => ?_) (AllReadyH.cons (o := { dst := some 5, op := Op.alloc 25, type := 0, pos := "law.go:81", after := #[], guard := none }) rfl (fun K hK => ?_) AllReadyH.nil))
        · go_simp
          refine (AC.out _ k y cy _ _ HZK.out HLA (by first | exact HB.out.drew | exact HB.out.drew.alloc HB.out.size _) (by first | exact HY.out.keep (Below.refl _ _).drew | exact HY.out.keep ((Below.refl _ _).drew.alloc (Nat.le_refl _) _))).mono ?_
          rintro e w5 ⟨y2, cy2, rfl, hy2, hroom, hb5⟩
          go_wp2_with fail
          refine hK.out _ _ ⟨range_keep hb5 hHeld.1, range_keep hb5 hHeld.2⟩ (fun hHeld => ?_)
          clear hK K
          try simp only [Act.put, List.setIfInBounds_toArray, List.set_cons_zero, List.set_cons_succ]
          refine wpAnyH_take (i := 6) (oi := { dst := some 21, op := Op.move (Operand.tmp 27), type := 36, pos := "law.go:81", after := #[{ on := 5, ground := Ground.data }], guard := none }) (v := .tuple #[.agg #[.int .i64 ((k : Int) + 1), .slice y2 (pm (k + 1)) cy2], .int .i64 0]) rfl (by kernel_rfl) (by kernel_rfl) (by kernel_rfl) (fun _ _ _ h => h) (Or.inl ⟨by rfl, by intro W hSw; go_simp⟩) hHeld ?_
          try simp only [Act.put, List.setIfInBounds_toArray, List.set_cons_zero, List.set_cons_succ]
          refine wpAnyH_take (i := 7) (oi := { dst := some 28, op := Op.extract (Operand.tmp 21) 0, type := 25, pos := "law.go:81", after := #[{ on := 6, ground := Ground.data }], guard := none }) (v := .agg #[.int .i64 ((k : Int) + 1), .slice y2 (pm (k + 1)) cy2]) rfl (by kernel_rfl) (by kernel_rfl) (by kernel_rfl) (fun _ _ _ h => h) (Or.inl ⟨by rfl, by intro W hSw; go_simp⟩) hHeld ?_
          try simp only [Act.put, List.setIfInBounds_toArray, List.set_cons_zero, List.set_cons_succ]
          refine wpAnyH_take (i := 8) (oi := { dst := some 29, op := Op.extract (Operand.tmp 21) 1, type := 26, pos := "law.go:81", after := #[{ on := 6, ground := Ground.data }, { on := 10, ground := Ground.gcOnly Departure.lateStores }], guard := none }) (v := .int .i64 0) rfl (by kernel_rfl) (by kernel_rfl) (by kernel_rfl) (fun _ _ _ h => h) (Or.inl ⟨by rfl, by intro W hSw; go_simp⟩) hHeld ?_
          try simp only [Act.put, List.setIfInBounds_toArray, List.set_cons_zero, List.set_cons_succ]
          refine wpAnyH_ready (rs := [9]) (by kernel_rfl) (by simp) ?_
          refine (AllReadyH.cons (o := { dst := some 5, op := Op.alloc 25, type := 0, pos := "law.go:81", after := #[], guard := none }) rfl (fun K hK => ?_) AllReadyH.nil)
          refine step_alloc_row (by rfl) 25 rfl #[.int .i64 0, .slice none 0 0] zeroF ?_
          refine hK.out _ _ ⟨range_keep ((Below.refl _ _).alloc (Nat.le_refl _) _) hHeld.1, range_keep ((Below.refl _ _).alloc (Nat.le_refl _) _) hHeld.2⟩ (fun hHeld => ?_)
          clear hK K
          try simp only [Act.put, List.setIfInBounds_toArray, List.set_cons_zero, List.set_cons_succ]
          refine wpAnyH_ready (rs := [10]) (by kernel_rfl) (by simp) ?_
          refine (AllReadyH.cons (o := { dst := none, op := Op.store 25 (Operand.tmp 5) (Operand.tmp 28), type := 0, pos := "law.go:81", after := #[{ on := 9, ground := Ground.data }, { on := 7, ground := Ground.data }, { on := 5, ground := Ground.chain }, { on := 0, ground := Ground.phase }, { on := 1, ground := Ground.phase }, { on := 2, ground := Ground.phase }, { on := 3, ground := Ground.phase }, { on := 4, ground := Ground.phase }, { on := 5, ground := Ground.phase }, { on := 6, ground := Ground.phase }, { on := 7, ground := Ground.phase }, { on := 8, ground := Ground.textOnly Departure.lateStores }, { on := 9, ground := Ground.phase }], guard := none }) rfl (fun K hK => ?_) AllReadyH.nil)
          first | (have HX : Hid (((w5.alloc (.cells #[.int .i64 0, .slice none 0 0] 25)).setRow w5.heap.size #[.int .i64 ((k : Int) + 1), .slice y2 (pm (k + 1)) cy2]).heap[w5.heap.size]? = some (.cells #[.int .i64 ((k : Int) + 1), .slice y2 (pm (k + 1)) cy2] 25 (0, 0)) ∧ ((w5.alloc (.cells #[.int .i64 0, .slice none 0 0] 25)).setRow w5.heap.size #[.int .i64 ((k : Int) + 1), .slice y2 (pm (k + 1)) cy2]).heap[w.heap.size]? = some (.cells #[.int .i64 (k : Int), .slice y (pm k) cy] 25 (0, 0)) ∧ LReads ((w5.alloc (.cells #[.int .i64 0, .slice none 0 0] 25)).setRow w5.heap.size #[.int .i64 ((k : Int) + 1), .slice y2 (pm (k + 1)) cy2]) y2 (pm (k + 1)) cy2 (pk (k + 1)) ∧ Below w.heap.size w ((w5.alloc (.cells #[.int .i64 0, .slice none 0 0] 25)).setRow w5.heap.size #[.int .i64 ((k : Int) + 1), .slice y2 (pm (k + 1)) cy2]) ∧ w.heap.size ≠ w5.heap.size ∧ (∀ g o, y2 = some ⟨g, o, none⟩ → 0 < pm (k + 1) → g ≠ w.heap.size)) := ⟨new_var w5 _ _ _, keep_var ((hb5.block _ (by simpa using HLT.out)).trans HF.out) _ _, hy2.keep (below_var (Below.refl _ _) (Nat.le_refl _) _ _), below_var (HB.out.drew.trans (hb5.mono HB.out.size)) (Nat.le_trans HB.out.size hb5.size) _ _, Nat.ne_of_lt (Nat.lt_of_lt_of_le HLT.out hb5.size), hroom.other (by simpa using HLT.out)⟩; refine step_store_row (by rfl) 25 (.tmp 5) (.tmp 28) rfl w5.heap.size #[.int .i64 ((k : Int) + 1), .slice y2 (pm (k + 1)) cy2] rfl rfl 25 #[.int .i64 0, .slice none 0 0] (heap_alloc_new w5 _) sizeF rfl (oneF _ _ _ _) ?_; generalize ((w5.alloc (.cells #[.int .i64 0, .slice none 0 0] 25)).setRow w5.heap.size #[.int .i64 ((k : Int) + 1), .slice y2 (pm (k + 1)) cy2]) = WX at HX ⊢; generalize w5.heap.size = gx at HX ⊢) | (have HZ5 : Hid (w5.heap[wr.heap.size]? = some (.cells #[.int .i64 0, .slice none 0 0] 25 (0, 0))) := (hb5.block _ (by simp)).trans (heap_alloc_new wr.drew _); have HX : Hid ((w5.setRow wr.heap.size #[.int .i64 ((k : Int) + 1), .slice y2 (pm (k + 1)) cy2]).heap[wr.heap.size]? = some (.cells #[.int .i64 ((k : Int) + 1), .slice y2 (pm (k + 1)) cy2] 25 (0, 0)) ∧ (w5.setRow wr.heap.size #[.int .i64 ((k : Int) + 1), .slice y2 (pm (k + 1)) cy2]).heap[w.heap.size]? = some (.cells #[.int .i64 (k : Int), .slice y (pm k) cy] 25 (0, 0)) ∧ LReads (w5.setRow wr.heap.size #[.int .i64 ((k : Int) + 1), .slice y2 (pm (k + 1)) cy2]) y2 (pm (k + 1)) cy2 (pk (k + 1)) ∧ Below w.heap.size w (w5.setRow wr.heap.size #[.int .i64 ((k : Int) + 1), .slice y2 (pm (k + 1)) cy2]) ∧ w.heap.size ≠ wr.heap.size ∧ (∀ g o, y2 = some ⟨g, o, none⟩ → 0 < pm (k + 1) → g ≠ w.heap.size)) := ⟨setRow_heap _ _ _ _ 25 _ HZ5.out, by rw [setRow_other _ _ _ _ (Nat.ne_of_lt HLT.out)]; exact (hb5.block _ (by have := HLT.out; simp; omega)).trans (heap_keep (w := wr.drew) HF.out), hy2.rowG (hroom.other (by simp)), below_setRow ((HB.out.drew.alloc HB.out.size _).trans (hb5.mono (Nat.le_trans HB.out.size (by simp)))) HB.out.size _, Nat.ne_of_lt HLT.out, hroom.other (by have := HLT.out; simp; omega)⟩; refine step_store_row (by rfl) 25 (.tmp 5) (.tmp 28) rfl wr.heap.size #[.int .i64 ((k : Int) + 1), .slice y2 (pm (k + 1)) cy2] rfl rfl 25 #[.int .i64 0, .slice none 0 0] HZ5.out sizeF rfl (oneF _ _ _ _) ?_; generalize (w5.setRow wr.heap.size #[.int .i64 ((k : Int) + 1), .slice y2 (pm (k + 1)) cy2]) = WX at HX ⊢; generalize wr.heap.size = gx at HX ⊢)
          refine hK.out _ _ ⟨range_row HX.out.2.1, fun j v hj => (HX.out.2.2.2.1.cell hg).trans (HRG.out j v hj)⟩ (fun hHeld => ?_)
          clear hK K
          try simp only [Act.put, List.setIfInBounds_toArray, List.set_cons_zero, List.set_cons_succ]
          refine wpAnyH_take (i := 11) (oi := { dst := some 6, op := Op.assign (Operand.tmp 29), type := 26, pos := "law.go:81", after := #[{ on := 8, ground := Ground.data }, { on := 10, ground := Ground.chain }, { on := 0, ground := Ground.phase }, { on := 1, ground := Ground.phase }, { on := 2, ground := Ground.phase }, { on := 3, ground := Ground.phase }, { on := 4, ground := Ground.phase }, { on := 5, ground := Ground.phase }, { on := 6, ground := Ground.phase }, { on := 7, ground := Ground.phase }, { on := 8, ground := Ground.phase }, { on := 9, ground := Ground.phase }, { on := 10, ground := Ground.phase }], guard := none }) (v := .int .i64 0) rfl (by kernel_rfl) (by kernel_rfl) (by kernel_rfl) (fun _ _ _ h => h) (Or.inl ⟨by rfl, by intro W hSw; go_simp⟩) hHeld ?_
          try simp only [Act.put, List.setIfInBounds_toArray, List.set_cons_zero, List.set_cons_succ]
          refine wpAnyH_done (by kernel_rfl) ?_ _
          clear hHeld hy2 hroom hb5
          go_wp2_with fail
          refine (OC.out _ g o k hlt rfl HX.out.2.2.2.1).mono ?_
          rintro e w6 ⟨v, cv, rfl, hv, hb6⟩
          have hal : Below w6.heap.size w6 (w6.alloc (.cells #[.int .i64 ((k : Int) + 1), .slice v (pm (k + 1)) cv] 25)) := (Below.refl _ _).alloc (Nat.le_refl _) _
          have HG : Hid ((w6.alloc (.cells #[.int .i64 ((k : Int) + 1), .slice v (pm (k + 1)) cv] 25)).heap[gx]? = some (.cells #[.int .i64 ((k : Int) + 1), .slice y2 (pm (k + 1)) cy2] 25 (0, 0)) ∧ (w6.alloc (.cells #[.int .i64 ((k : Int) + 1), .slice v (pm (k + 1)) cv] 25)).heap[w.heap.size]? = some (.cells #[.int .i64 (k : Int), .slice y (pm k) cy] 25 (0, 0)) ∧ LReads (w6.alloc (.cells #[.int .i64 ((k : Int) + 1), .slice v (pm (k + 1)) cv] 25)) y2 (pm (k + 1)) cy2 (pk (k + 1)) ∧ LReads (w6.alloc (.cells #[.int .i64 ((k : Int) + 1), .slice v (pm (k + 1)) cv] 25)) v (pm (k + 1)) cv (pk (k + 1)) ∧ Below w.heap.size w (w6.alloc (.cells #[.int .i64 ((k : Int) + 1), .slice v (pm (k + 1)) cv] 25))) := ⟨heap_keep ((hb6.block _ (heap_lt HX.out.1)).trans HX.out.1), heap_keep ((hb6.block _ (heap_lt HX.out.2.1)).trans HX.out.2.1), (HX.out.2.2.1.keep hb6).keep hal, hv.keep hal, (HX.out.2.2.2.1.trans (hb6.mono HX.out.2.2.2.1.size)).trans (hal.mono (Nat.le_trans HX.out.2.2.2.1.size hb6.size))⟩
          have HN6 := hidk HX.out.2.2.2.2.2
          have HY6 : Hid ((w6.alloc (.cells #[.int .i64 ((k : Int) + 1), .slice v (pm (k + 1)) cv] 25)).heap[w6.heap.size]? = some (.cells #[.int .i64 ((k : Int) + 1), .slice v (pm (k + 1)) cv] 25 (0, 0))) := heap_alloc_new w6 _
          have hx0 : (w6.alloc (.cells #[.int .i64 ((k : Int) + 1), .slice v (pm (k + 1)) cv] 25)).cell? ⟨gx, 0, none⟩ = some (.int .i64 ((k : Int) + 1)) := by rw [cell_of_row _ gx 0 _ 25 (0, 0) HG.out.1]; rfl
          have hx1 : (w6.alloc (.cells #[.int .i64 ((k : Int) + 1), .slice v (pm (k + 1)) cv] 25)).cell? ⟨gx, 1, none⟩ = some (.slice y2 (pm (k + 1)) cy2) := by rw [cell_of_row _ gx 1 _ 25 (0, 0) HG.out.1]; rfl
          have hy0 : (w6.alloc (.cells #[.int .i64 ((k : Int) + 1), .slice v (pm (k + 1)) cv] 25)).cell? ⟨w6.heap.size, 0, none⟩ = some (.int .i64 ((k : Int) + 1)) := by rw [cell_of_row _ w6.heap.size 0 _ 25 (0, 0) HY6.out]; rfl
          have hy1 : (w6.alloc (.cells #[.int .i64 ((k : Int) + 1), .slice v (pm (k + 1)) cv] 25)).cell? ⟨w6.heap.size, 1, none⟩ = some (.slice v (pm (k + 1)) cv) := by rw [cell_of_row _ w6.heap.size 1 _ 25 (0, 0) HY6.out]; rfl
          clear hal hv hb6 HX
          go_wp2_with fail
          clear hx0 hx1 hy0 hy1 HY6
          generalize (w6.alloc (.cells #[.int .i64 ((k : Int) + 1), .slice v (pm (k + 1)) cv] 25)) = w7 at HG ⊢
          refine (DG.out _ (k + 1) _ _ _ _ HG.out.2.2.1 HG.out.2.2.2.1).mono ?_
          rintro e w8 ⟨rfl, hb8⟩
          have HG8 := hidk (keepG HG.out hb8)
          clear HG hb8
          go_wp2_with (first
            | (refine wpList_load_row rfl 25 (.tmp 5) rfl gx rfl 25 #[.int .i64 ((k : Int) + 1), .slice y2 (pm (k + 1)) cy2] (0, 0) _ HG8.out.1 Tryd.underlying25 rfl sizeF ?_; try simp only [Act.put, List.setIfInBounds_toArray, List.set_cons_zero, List.set_cons_succ])
            | fail)
          refine (RT.out _ k _ _ _ hlt HDR HG8.out.2.2.2.2 HG8.out.2.2.1).mono ?_
          rintro e w9 ⟨rfl, hb9⟩
          have HG9 := hidk (keepG HG8.out hb9)
          clear HG8 hb9
          go_wp2_with (first
            | (refine wpList_new_row rfl rfl 29 rfl (.tmp 9) (.tmp 62) rfl Z LR.toArray HAZ.out (fun _ => rfl) (fun _ => rfl) HSR.out HZR.out H1R.out ?_; intro gd w10 F10; try simp only [Act.put, List.setIfInBounds_toArray, List.set_cons_zero, List.set_cons_succ])
            | fail)
          have HG10 := hidk (keepG HG9.out F10.out.2.2)
          have HD10 := hidk F10.out.2.1
          clear HG9 F10
          refine wp_region_held_drew (S := (fun W => (W.heap[gx]? = some (.cells #[.int .i64 ((k : Int) + 1), .slice y2 (pm (k + 1)) cy2] 25 (0, 0)) ∧ W.heap[w.heap.size]? = some (.cells #[.int .i64 (k : Int), .slice y (pm k) cy] 25 (0, 0)) ∧ LReads W y2 (pm (k + 1)) cy2 (pk (k + 1)) ∧ LReads W v (pm (k + 1)) cv (pk (k + 1)) ∧ Below w.heap.size w W) ∧ W.rangeAt gd 0 LR)) (by kernel_rfl) ⟨keepG HG10.out (Below.refl _ _).drew, range_keep (Below.refl _ _).drew (range_row HD10.out)⟩ (fun hHeld => ?_)
          refine wpAnyH_take (i := 0) (oi := { dst := some 64, op := Op.move (Operand.tmp 10), type := 26, pos := "law.go:87", after := #[], guard := none }) (v := .int .i64 0) rfl (by kernel_rfl) (by kernel_rfl) (by kernel_rfl) (fun _ _ _ h => h) (Or.inl ⟨by rfl, by intro w hSw; go_simp⟩) hHeld ?_
          try simp only [Act.put, List.setIfInBounds_toArray, List.set_cons_zero, List.set_cons_succ]
          refine wpAnyH_take (i := 1) (oi := { dst := some 65, op := Op.binOp BinOp.neq 26 (Operand.tmp 64) (Operand.const (Value.int IntKind.i64 0)) 26, type := 4, pos := "law.go:87", after := #[{ on := 0, ground := Ground.data }], guard := none }) (v := .bool false) rfl (by kernel_rfl) (by kernel_rfl) (by kernel_rfl) (fun _ _ _ h => h) (Or.inl ⟨by rfl, by intro w hSw; go_simp⟩) hHeld ?_
          try simp only [Act.put, List.setIfInBounds_toArray, List.set_cons_zero, List.set_cons_succ]
          refine wpAnyH_take (i := 2) (oi := { dst := some 66, op := Op.move (Operand.tmp 65), type := 4, pos := "law.go:87", after := #[{ on := 1, ground := Ground.data }], guard := none }) (v := .bool false) rfl (by kernel_rfl) (by kernel_rfl) (by kernel_rfl) (fun _ _ _ h => h) (Or.inl ⟨by rfl, by intro w hSw; go_simp⟩) hHeld ?_
          try simp only [Act.put, List.setIfInBounds_toArray, List.set_cons_zero, List.set_cons_succ]
          refine wpAnyH_take (i := 3) (oi := { dst := some 67, op := Op.load 29 (Operand.tmp 9), type := 29, pos := "law.go:87", after := #[{ on := 2, ground := Ground.guard }], guard := some (2, false) }) (v := .agg LR.toArray) rfl (by kernel_rfl) (by kernel_rfl) (by kernel_rfl) (fun _ _ _ h => h) (yieldsIf_load_mid (by rfl) 29 (.tmp 9) rfl _ 0 rfl LR _ (fun _ h => h.2) Tryd.underlying29 rfl zR) hHeld ?_
          try simp only [Act.put, List.setIfInBounds_toArray, List.set_cons_zero, List.set_cons_succ]
          refine wpAnyH_take (i := 4) (oi := { dst := some 68, op := Op.move (Operand.tmp 0), type := 22, pos := "law.go:87", after := #[{ on := 2, ground := Ground.guard }], guard := some (2, false) }) (v := .slice (some ⟨g, o, none⟩) len0 cap0) rfl (by kernel_rfl) (by kernel_rfl) (by kernel_rfl) (fun _ _ _ h => h) (Or.inl ⟨by rfl, by intro w hSw; go_simp⟩) hHeld ?_
          try simp only [Act.put, List.setIfInBounds_toArray, List.set_cons_zero, List.set_cons_succ]
          refine wpAnyH_take (i := 5) (oi := { dst := some 69, op := Op.move (Operand.tmp 4), type := 3, pos := "law.go:87", after := #[{ on := 2, ground := Ground.guard }], guard := some (2, false) }) (v := .int .i64 k) rfl (by kernel_rfl) (by kernel_rfl) (by kernel_rfl) (fun _ _ _ h => h) (Or.inl ⟨by rfl, by intro w hSw; go_simp⟩) hHeld ?_
          try simp only [Act.put, List.setIfInBounds_toArray, List.set_cons_zero, List.set_cons_succ]
          refine wpAnyH_take (i := 6) (oi := { dst := some 70, op := Op.binOp BinOp.add 3 (Operand.tmp 69) (Operand.const (Value.int IntKind.i64 1)) 3, type := 3, pos := "law.go:87", after := #[{ on := 5, ground := Ground.data }, { on := 2, ground := Ground.guard }], guard := some (2, false) }) (v := .int .i64 ((k : Int) + 1)) rfl (by kernel_rfl) (by kernel_rfl) (by kernel_rfl) (fun _ _ _ h => h) (Or.inl ⟨by rfl, by intro w hSw; go_simp⟩) hHeld ?_
          try simp only [Act.put, List.setIfInBounds_toArray, List.set_cons_zero, List.set_cons_succ]
          refine wpAnyH_take (i := 7) (oi := { dst := some 71, op := Op.slice 22 (Operand.tmp 68) none (some (Operand.tmp 70)) none, type := 22, pos := "law.go:87", after := #[{ on := 4, ground := Ground.data }, { on := 6, ground := Ground.data }, { on := 2, ground := Ground.guard }], guard := some (2, false) }) (v := .slice (some ⟨g, o, none⟩) (k + 1) cap0) rfl (by kernel_rfl) (by kernel_rfl) (by kernel_rfl) (fun _ _ _ h => h) (Or.inl ⟨by rfl, by intro W hSw; have := sl W; go_simp⟩) hHeld ?_
          try simp only [Act.put, List.setIfInBounds_toArray, List.set_cons_zero, List.set_cons_succ]
          refine wpAnyH_ready (rs := [8]) (by kernel_rfl) (by simp) ?_
          refine AllReadyH.cons (o := { dst := some 72, op := Op.call { callee := Callee.value (Operand.func 19), args := #[Operand.tmp 71], argTypes := #[22] }, type := 29, pos := "law.go:87", after := #[{ on := 7, ground := Ground.data }, { on := 2, ground := Ground.chain }, { on := 2, ground := Ground.guard }], guard := some (2, false) }) rfl (fun K hK => ?_) AllReadyH.nil
          go_simp
          refine (TR.out _ g o k _ hlt rfl HDR hHeld.1.2.2.2.2).mono ?_
          rintro e w11 ⟨rfl, hb11⟩
          go_wp2_with fail
          refine hK.out _ _ ⟨keepG hHeld.1 hb11, range_keep hb11 hHeld.2⟩ (fun hHeld => ?_)
          clear hK K
          try simp only [Act.put, List.setIfInBounds_toArray, List.set_cons_zero, List.set_cons_succ]
          refine wpAnyH_take (i := 9) (oi := { dst := some 73, op := Op.binOp BinOp.neq 29 (Operand.tmp 67) (Operand.tmp 72) 29, type := 4, pos := "law.go:87", after := #[{ on := 3, ground := Ground.data }, { on := 8, ground := Ground.data }, { on := 2, ground := Ground.guard }], guard := some (2, false) }) (v := .bool false) rfl (by kernel_rfl) (by kernel_rfl) (by kernel_rfl) (fun _ _ _ h => h) (Or.inl ⟨by rfl, by intro W hSw; have := nR W; go_simp⟩) hHeld ?_
          try simp only [Act.put, List.setIfInBounds_toArray, List.set_cons_zero, List.set_cons_succ]
          refine wpAnyH_take (i := 10) (oi := { dst := some 74, op := Op.pick (Operand.tmp 66) (Operand.const (Value.bool true)) (Operand.tmp 73), type := 4, pos := "law.go:87", after := #[{ on := 2, ground := Ground.data }, { on := 9, ground := Ground.data }], guard := none }) (v := .bool false) rfl (by kernel_rfl) (by kernel_rfl) (by kernel_rfl) (fun _ _ _ h => h) (Or.inl ⟨by rfl, by intro w hSw; go_simp⟩) hHeld ?_
          try simp only [Act.put, List.setIfInBounds_toArray, List.set_cons_zero, List.set_cons_succ]
          refine wpAnyH_done (by kernel_rfl) ?_ _
          have HG11 := hidk hHeld.1
          clear hHeld
          have HN : Hid (∃ y cy, (w11.setRow w.heap.size #[.int .i64 ((k : Int) + 1), .slice y2 (pm (k + 1)) cy2]).heap[w.heap.size]? = some (.cells #[.int .i64 ((k + 1 : Nat) : Int), .slice y (pm (k + 1)) cy] 25 (0, 0)) ∧ LReads (w11.setRow w.heap.size #[.int .i64 ((k : Int) + 1), .slice y2 (pm (k + 1)) cy2]) y (pm (k + 1)) cy (pk (k + 1)) ∧ Below w.heap.size w (w11.setRow w.heap.size #[.int .i64 ((k : Int) + 1), .slice y2 (pm (k + 1)) cy2]) ∧ (∀ g o, y = some ⟨g, o, none⟩ → 0 < pm (k + 1) → g ≠ w.heap.size)) :=
            ⟨y2, cy2, by rw [show ((k + 1 : Nat) : Int) = (k : Int) + 1 by omega]; exact setRow_heap _ _ _ _ 25 _ HG11.out.2.1, HG11.out.2.2.1.rowG HN6.out, below_setRow HG11.out.2.2.2.2 (Nat.le_refl _) _, HN6.out⟩
          go_wp2_with (first
            | (refine wpList_load_row rfl 25 (.tmp 5) rfl gx rfl 25 #[.int .i64 ((k : Int) + 1), .slice y2 (pm (k + 1)) cy2] (0, 0) _ HG11.out.1 Tryd.underlying25 rfl sizeF ?_; try simp only [Act.put, List.setIfInBounds_toArray, List.set_cons_zero, List.set_cons_succ])
            | (refine wpList_store_row rfl 25 (.tmp 3) (.tmp 75) rfl w.heap.size #[.int .i64 ((k : Int) + 1), .slice y2 (pm (k + 1)) cy2] rfl rfl 25 #[.int .i64 (k : Int), .slice y (pm k) cy] HG11.out.2.1 sizeF rfl (oneF _ _ _ _) ?_; try simp only [Act.put, List.setIfInBounds_toArray, List.set_cons_zero, List.set_cons_succ])
            | fail)
          go_roundw
          case rel => exact ⟨k + 1, by omega, by go_num, HN⟩
          case measure => simp [intOf]; omega
        · refine step_alloc_row (by rfl) 25 rfl #[.int .i64 0, .slice none 0 0] zeroF ?_
          refine hK.out _ _ ⟨range_keep ((Below.refl _ _).alloc (Nat.le_refl _) _) hHeld.1, range_keep ((Below.refl _ _).alloc (Nat.le_refl _) _) hHeld.2⟩ (fun hHeld => ?_)
          clear hK K
          try simp only [Act.put, List.setIfInBounds_toArray, List.set_cons_zero, List.set_cons_succ]
          refine wpAnyH_ready (rs := [5]) (by kernel_rfl) (by simp) ?_
          refine (AllReadyH.cons (o := { dst := some 27, op := Op.call { callee := Callee.value (Operand.func 15), args := #[Operand.tmp 22, Operand.tmp 26], argTypes := #[25, 29] }, type := 36, pos := "law.go:81", after := #[{ on := 0, ground := Ground.data }, { on := 4, ground := Ground.data }], guard := none }) rfl (fun K hK => ?_) AllReadyH.nil)
          go_simp
          refine (AC.out _ k y cy _ _ HZK.out HLA (by first | exact HB.out.drew | exact HB.out.drew.alloc HB.out.size _) (by first | exact HY.out.keep (Below.refl _ _).drew | exact HY.out.keep ((Below.refl _ _).drew.alloc (Nat.le_refl _) _))).mono ?_
          rintro e w5 ⟨y2, cy2, rfl, hy2, hroom, hb5⟩
          go_wp2_with fail
          refine hK.out _ _ ⟨range_keep hb5 hHeld.1, range_keep hb5 hHeld.2⟩ (fun hHeld => ?_)
          clear hK K
          try simp only [Act.put, List.setIfInBounds_toArray, List.set_cons_zero, List.set_cons_succ]
          refine wpAnyH_take (i := 6) (oi := { dst := some 21, op := Op.move (Operand.tmp 27), type := 36, pos := "law.go:81", after := #[{ on := 5, ground := Ground.data }], guard := none }) (v := .tuple #[.agg #[.int .i64 ((k : Int) + 1), .slice y2 (pm (k + 1)) cy2], .int .i64 0]) rfl (by kernel_rfl) (by kernel_rfl) (by kernel_rfl) (fun _ _ _ h => h) (Or.inl ⟨by rfl, by intro W hSw; go_simp⟩) hHeld ?_
          try simp only [Act.put, List.setIfInBounds_toArray, List.set_cons_zero, List.set_cons_succ]
          refine wpAnyH_take (i := 7) (oi := { dst := some 28, op := Op.extract (Operand.tmp 21) 0, type := 25, pos := "law.go:81", after := #[{ on := 6, ground := Ground.data }], guard := none }) (v := .agg #[.int .i64 ((k : Int) + 1), .slice y2 (pm (k + 1)) cy2]) rfl (by kernel_rfl) (by kernel_rfl) (by kernel_rfl) (fun _ _ _ h => h) (Or.inl ⟨by rfl, by intro W hSw; go_simp⟩) hHeld ?_
          try simp only [Act.put, List.setIfInBounds_toArray, List.set_cons_zero, List.set_cons_succ]
          refine wpAnyH_take (i := 8) (oi := { dst := some 29, op := Op.extract (Operand.tmp 21) 1, type := 26, pos := "law.go:81", after := #[{ on := 6, ground := Ground.data }, { on := 10, ground := Ground.gcOnly Departure.lateStores }], guard := none }) (v := .int .i64 0) rfl (by kernel_rfl) (by kernel_rfl) (by kernel_rfl) (fun _ _ _ h => h) (Or.inl ⟨by rfl, by intro W hSw; go_simp⟩) hHeld ?_
          try simp only [Act.put, List.setIfInBounds_toArray, List.set_cons_zero, List.set_cons_succ]
          refine wpAnyH_ready (rs := [10]) (by kernel_rfl) (by simp) ?_
          refine (AllReadyH.cons (o := { dst := none, op := Op.store 25 (Operand.tmp 5) (Operand.tmp 28), type := 0, pos := "law.go:81", after := #[{ on := 9, ground := Ground.data }, { on := 7, ground := Ground.data }, { on := 5, ground := Ground.chain }, { on := 0, ground := Ground.phase }, { on := 1, ground := Ground.phase }, { on := 2, ground := Ground.phase }, { on := 3, ground := Ground.phase }, { on := 4, ground := Ground.phase }, { on := 5, ground := Ground.phase }, { on := 6, ground := Ground.phase }, { on := 7, ground := Ground.phase }, { on := 8, ground := Ground.textOnly Departure.lateStores }, { on := 9, ground := Ground.phase }], guard := none }) rfl (fun K hK => ?_) AllReadyH.nil)
          first | (have HX : Hid (((w5.alloc (.cells #[.int .i64 0, .slice none 0 0] 25)).setRow w5.heap.size #[.int .i64 ((k : Int) + 1), .slice y2 (pm (k + 1)) cy2]).heap[w5.heap.size]? = some (.cells #[.int .i64 ((k : Int) + 1), .slice y2 (pm (k + 1)) cy2] 25 (0, 0)) ∧ ((w5.alloc (.cells #[.int .i64 0, .slice none 0 0] 25)).setRow w5.heap.size #[.int .i64 ((k : Int) + 1), .slice y2 (pm (k + 1)) cy2]).heap[w.heap.size]? = some (.cells #[.int .i64 (k : Int), .slice y (pm k) cy] 25 (0, 0)) ∧ LReads ((w5.alloc (.cells #[.int .i64 0, .slice none 0 0] 25)).setRow w5.heap.size #[.int .i64 ((k : Int) + 1), .slice y2 (pm (k + 1)) cy2]) y2 (pm (k + 1)) cy2 (pk (k + 1)) ∧ Below w.heap.size w ((w5.alloc (.cells #[.int .i64 0, .slice none 0 0] 25)).setRow w5.heap.size #[.int .i64 ((k : Int) + 1), .slice y2 (pm (k + 1)) cy2]) ∧ w.heap.size ≠ w5.heap.size ∧ (∀ g o, y2 = some ⟨g, o, none⟩ → 0 < pm (k + 1) → g ≠ w.heap.size)) := ⟨new_var w5 _ _ _, keep_var ((hb5.block _ (by simpa using HLT.out)).trans HF.out) _ _, hy2.keep (below_var (Below.refl _ _) (Nat.le_refl _) _ _), below_var (HB.out.drew.trans (hb5.mono HB.out.size)) (Nat.le_trans HB.out.size hb5.size) _ _, Nat.ne_of_lt (Nat.lt_of_lt_of_le HLT.out hb5.size), hroom.other (by simpa using HLT.out)⟩; refine step_store_row (by rfl) 25 (.tmp 5) (.tmp 28) rfl w5.heap.size #[.int .i64 ((k : Int) + 1), .slice y2 (pm (k + 1)) cy2] rfl rfl 25 #[.int .i64 0, .slice none 0 0] (heap_alloc_new w5 _) sizeF rfl (oneF _ _ _ _) ?_; generalize ((w5.alloc (.cells #[.int .i64 0, .slice none 0 0] 25)).setRow w5.heap.size #[.int .i64 ((k : Int) + 1), .slice y2 (pm (k + 1)) cy2]) = WX at HX ⊢; generalize w5.heap.size = gx at HX ⊢) | (have HZ5 : Hid (w5.heap[wr.heap.size]? = some (.cells #[.int .i64 0, .slice none 0 0] 25 (0, 0))) := (hb5.block _ (by simp)).trans (heap_alloc_new wr.drew _); have HX : Hid ((w5.setRow wr.heap.size #[.int .i64 ((k : Int) + 1), .slice y2 (pm (k + 1)) cy2]).heap[wr.heap.size]? = some (.cells #[.int .i64 ((k : Int) + 1), .slice y2 (pm (k + 1)) cy2] 25 (0, 0)) ∧ (w5.setRow wr.heap.size #[.int .i64 ((k : Int) + 1), .slice y2 (pm (k + 1)) cy2]).heap[w.heap.size]? = some (.cells #[.int .i64 (k : Int), .slice y (pm k) cy] 25 (0, 0)) ∧ LReads (w5.setRow wr.heap.size #[.int .i64 ((k : Int) + 1), .slice y2 (pm (k + 1)) cy2]) y2 (pm (k + 1)) cy2 (pk (k + 1)) ∧ Below w.heap.size w (w5.setRow wr.heap.size #[.int .i64 ((k : Int) + 1), .slice y2 (pm (k + 1)) cy2]) ∧ w.heap.size ≠ wr.heap.size ∧ (∀ g o, y2 = some ⟨g, o, none⟩ → 0 < pm (k + 1) → g ≠ w.heap.size)) := ⟨setRow_heap _ _ _ _ 25 _ HZ5.out, by rw [setRow_other _ _ _ _ (Nat.ne_of_lt HLT.out)]; exact (hb5.block _ (by have := HLT.out; simp; omega)).trans (heap_keep (w := wr.drew) HF.out), hy2.rowG (hroom.other (by simp)), below_setRow ((HB.out.drew.alloc HB.out.size _).trans (hb5.mono (Nat.le_trans HB.out.size (by simp)))) HB.out.size _, Nat.ne_of_lt HLT.out, hroom.other (by have := HLT.out; simp; omega)⟩; refine step_store_row (by rfl) 25 (.tmp 5) (.tmp 28) rfl wr.heap.size #[.int .i64 ((k : Int) + 1), .slice y2 (pm (k + 1)) cy2] rfl rfl 25 #[.int .i64 0, .slice none 0 0] HZ5.out sizeF rfl (oneF _ _ _ _) ?_; generalize (w5.setRow wr.heap.size #[.int .i64 ((k : Int) + 1), .slice y2 (pm (k + 1)) cy2]) = WX at HX ⊢; generalize wr.heap.size = gx at HX ⊢)
          refine hK.out _ _ ⟨range_row HX.out.2.1, fun j v hj => (HX.out.2.2.2.1.cell hg).trans (HRG.out j v hj)⟩ (fun hHeld => ?_)
          clear hK K
          try simp only [Act.put, List.setIfInBounds_toArray, List.set_cons_zero, List.set_cons_succ]
          refine wpAnyH_take (i := 11) (oi := { dst := some 6, op := Op.assign (Operand.tmp 29), type := 26, pos := "law.go:81", after := #[{ on := 8, ground := Ground.data }, { on := 10, ground := Ground.chain }, { on := 0, ground := Ground.phase }, { on := 1, ground := Ground.phase }, { on := 2, ground := Ground.phase }, { on := 3, ground := Ground.phase }, { on := 4, ground := Ground.phase }, { on := 5, ground := Ground.phase }, { on := 6, ground := Ground.phase }, { on := 7, ground := Ground.phase }, { on := 8, ground := Ground.phase }, { on := 9, ground := Ground.phase }, { on := 10, ground := Ground.phase }], guard := none }) (v := .int .i64 0) rfl (by kernel_rfl) (by kernel_rfl) (by kernel_rfl) (fun _ _ _ h => h) (Or.inl ⟨by rfl, by intro W hSw; go_simp⟩) hHeld ?_
          try simp only [Act.put, List.setIfInBounds_toArray, List.set_cons_zero, List.set_cons_succ]
          refine wpAnyH_done (by kernel_rfl) ?_ _
          clear hHeld hy2 hroom hb5
          go_wp2_with fail
          refine (OC.out _ g o k hlt rfl HX.out.2.2.2.1).mono ?_
          rintro e w6 ⟨v, cv, rfl, hv, hb6⟩
          have hal : Below w6.heap.size w6 (w6.alloc (.cells #[.int .i64 ((k : Int) + 1), .slice v (pm (k + 1)) cv] 25)) := (Below.refl _ _).alloc (Nat.le_refl _) _
          have HG : Hid ((w6.alloc (.cells #[.int .i64 ((k : Int) + 1), .slice v (pm (k + 1)) cv] 25)).heap[gx]? = some (.cells #[.int .i64 ((k : Int) + 1), .slice y2 (pm (k + 1)) cy2] 25 (0, 0)) ∧ (w6.alloc (.cells #[.int .i64 ((k : Int) + 1), .slice v (pm (k + 1)) cv] 25)).heap[w.heap.size]? = some (.cells #[.int .i64 (k : Int), .slice y (pm k) cy] 25 (0, 0)) ∧ LReads (w6.alloc (.cells #[.int .i64 ((k : Int) + 1), .slice v (pm (k + 1)) cv] 25)) y2 (pm (k + 1)) cy2 (pk (k + 1)) ∧ LReads (w6.alloc (.cells #[.int .i64 ((k : Int) + 1), .slice v (pm (k + 1)) cv] 25)) v (pm (k + 1)) cv (pk (k + 1)) ∧ Below w.heap.size w (w6.alloc (.cells #[.int .i64 ((k : Int) + 1), .slice v (pm (k + 1)) cv] 25))) := ⟨heap_keep ((hb6.block _ (heap_lt HX.out.1)).trans HX.out.1), heap_keep ((hb6.block _ (heap_lt HX.out.2.1)).trans HX.out.2.1), (HX.out.2.2.1.keep hb6).keep hal, hv.keep hal, (HX.out.2.2.2.1.trans (hb6.mono HX.out.2.2.2.1.size)).trans (hal.mono (Nat.le_trans HX.out.2.2.2.1.size hb6.size))⟩
          have HN6 := hidk HX.out.2.2.2.2.2
          have HY6 : Hid ((w6.alloc (.cells #[.int .i64 ((k : Int) + 1), .slice v (pm (k + 1)) cv] 25)).heap[w6.heap.size]? = some (.cells #[.int .i64 ((k : Int) + 1), .slice v (pm (k + 1)) cv] 25 (0, 0))) := heap_alloc_new w6 _
          have hx0 : (w6.alloc (.cells #[.int .i64 ((k : Int) + 1), .slice v (pm (k + 1)) cv] 25)).cell? ⟨gx, 0, none⟩ = some (.int .i64 ((k : Int) + 1)) := by rw [cell_of_row _ gx 0 _ 25 (0, 0) HG.out.1]; rfl
          have hx1 : (w6.alloc (.cells #[.int .i64 ((k : Int) + 1), .slice v (pm (k + 1)) cv] 25)).cell? ⟨gx, 1, none⟩ = some (.slice y2 (pm (k + 1)) cy2) := by rw [cell_of_row _ gx 1 _ 25 (0, 0) HG.out.1]; rfl
          have hy0 : (w6.alloc (.cells #[.int .i64 ((k : Int) + 1), .slice v (pm (k + 1)) cv] 25)).cell? ⟨w6.heap.size, 0, none⟩ = some (.int .i64 ((k : Int) + 1)) := by rw [cell_of_row _ w6.heap.size 0 _ 25 (0, 0) HY6.out]; rfl
          have hy1 : (w6.alloc (.cells #[.int .i64 ((k : Int) + 1), .slice v (pm (k + 1)) cv] 25)).cell? ⟨w6.heap.size, 1, none⟩ = some (.slice v (pm (k + 1)) cv) := by rw [cell_of_row _ w6.heap.size 1 _ 25 (0, 0) HY6.out]; rfl
          clear hal hv hb6 HX
          go_wp2_with fail
          clear hx0 hx1 hy0 hy1 HY6
          generalize (w6.alloc (.cells #[.int .i64 ((k : Int) + 1), .slice v (pm (k + 1)) cv] 25)) = w7 at HG ⊢
          refine (DG.out _ (k + 1) _ _ _ _ HG.out.2.2.1 HG.out.2.2.2.1).mono ?_
          rintro e w8 ⟨rfl, hb8⟩
          have HG8 := hidk (keepG HG.out hb8)
          clear HG hb8
          go_wp2_with (first
            | (refine wpList_load_row rfl 25 (.tmp 5) rfl gx rfl 25 #[.int .i64 ((k : Int) + 1), .slice y2 (pm (k + 1)) cy2] (0, 0) _ HG8.out.1 Tryd.underlying25 rfl sizeF ?_; try simp only [Act.put, List.setIfInBounds_toArray, List.set_cons_zero, List.set_cons_succ])
            | fail)
          refine (RT.out _ k _ _ _ hlt HDR HG8.out.2.2.2.2 HG8.out.2.2.1).mono ?_
          rintro e w9 ⟨rfl, hb9⟩
          have HG9 := hidk (keepG HG8.out hb9)
          clear HG8 hb9
          go_wp2_with (first
            | (refine wpList_new_row rfl rfl 29 rfl (.tmp 9) (.tmp 62) rfl Z LR.toArray HAZ.out (fun _ => rfl) (fun _ => rfl) HSR.out HZR.out H1R.out ?_; intro gd w10 F10; try simp only [Act.put, List.setIfInBounds_toArray, List.set_cons_zero, List.set_cons_succ])
            | fail)
          have HG10 := hidk (keepG HG9.out F10.out.2.2)
          have HD10 := hidk F10.out.2.1
          clear HG9 F10
          refine wp_region_held_drew (S := (fun W => (W.heap[gx]? = some (.cells #[.int .i64 ((k : Int) + 1), .slice y2 (pm (k + 1)) cy2] 25 (0, 0)) ∧ W.heap[w.heap.size]? = some (.cells #[.int .i64 (k : Int), .slice y (pm k) cy] 25 (0, 0)) ∧ LReads W y2 (pm (k + 1)) cy2 (pk (k + 1)) ∧ LReads W v (pm (k + 1)) cv (pk (k + 1)) ∧ Below w.heap.size w W) ∧ W.rangeAt gd 0 LR)) (by kernel_rfl) ⟨keepG HG10.out (Below.refl _ _).drew, range_keep (Below.refl _ _).drew (range_row HD10.out)⟩ (fun hHeld => ?_)
          refine wpAnyH_take (i := 0) (oi := { dst := some 64, op := Op.move (Operand.tmp 10), type := 26, pos := "law.go:87", after := #[], guard := none }) (v := .int .i64 0) rfl (by kernel_rfl) (by kernel_rfl) (by kernel_rfl) (fun _ _ _ h => h) (Or.inl ⟨by rfl, by intro w hSw; go_simp⟩) hHeld ?_
          try simp only [Act.put, List.setIfInBounds_toArray, List.set_cons_zero, List.set_cons_succ]
          refine wpAnyH_take (i := 1) (oi := { dst := some 65, op := Op.binOp BinOp.neq 26 (Operand.tmp 64) (Operand.const (Value.int IntKind.i64 0)) 26, type := 4, pos := "law.go:87", after := #[{ on := 0, ground := Ground.data }], guard := none }) (v := .bool false) rfl (by kernel_rfl) (by kernel_rfl) (by kernel_rfl) (fun _ _ _ h => h) (Or.inl ⟨by rfl, by intro w hSw; go_simp⟩) hHeld ?_
          try simp only [Act.put, List.setIfInBounds_toArray, List.set_cons_zero, List.set_cons_succ]
          refine wpAnyH_take (i := 2) (oi := { dst := some 66, op := Op.move (Operand.tmp 65), type := 4, pos := "law.go:87", after := #[{ on := 1, ground := Ground.data }], guard := none }) (v := .bool false) rfl (by kernel_rfl) (by kernel_rfl) (by kernel_rfl) (fun _ _ _ h => h) (Or.inl ⟨by rfl, by intro w hSw; go_simp⟩) hHeld ?_
          try simp only [Act.put, List.setIfInBounds_toArray, List.set_cons_zero, List.set_cons_succ]
          refine wpAnyH_take (i := 3) (oi := { dst := some 67, op := Op.load 29 (Operand.tmp 9), type := 29, pos := "law.go:87", after := #[{ on := 2, ground := Ground.guard }], guard := some (2, false) }) (v := .agg LR.toArray) rfl (by kernel_rfl) (by kernel_rfl) (by kernel_rfl) (fun _ _ _ h => h) (yieldsIf_load_mid (by rfl) 29 (.tmp 9) rfl _ 0 rfl LR _ (fun _ h => h.2) Tryd.underlying29 rfl zR) hHeld ?_
          try simp only [Act.put, List.setIfInBounds_toArray, List.set_cons_zero, List.set_cons_succ]
          refine wpAnyH_take (i := 4) (oi := { dst := some 68, op := Op.move (Operand.tmp 0), type := 22, pos := "law.go:87", after := #[{ on := 2, ground := Ground.guard }], guard := some (2, false) }) (v := .slice (some ⟨g, o, none⟩) len0 cap0) rfl (by kernel_rfl) (by kernel_rfl) (by kernel_rfl) (fun _ _ _ h => h) (Or.inl ⟨by rfl, by intro w hSw; go_simp⟩) hHeld ?_
          try simp only [Act.put, List.setIfInBounds_toArray, List.set_cons_zero, List.set_cons_succ]
          refine wpAnyH_take (i := 5) (oi := { dst := some 69, op := Op.move (Operand.tmp 4), type := 3, pos := "law.go:87", after := #[{ on := 2, ground := Ground.guard }], guard := some (2, false) }) (v := .int .i64 k) rfl (by kernel_rfl) (by kernel_rfl) (by kernel_rfl) (fun _ _ _ h => h) (Or.inl ⟨by rfl, by intro w hSw; go_simp⟩) hHeld ?_
          try simp only [Act.put, List.setIfInBounds_toArray, List.set_cons_zero, List.set_cons_succ]
          refine wpAnyH_take (i := 6) (oi := { dst := some 70, op := Op.binOp BinOp.add 3 (Operand.tmp 69) (Operand.const (Value.int IntKind.i64 1)) 3, type := 3, pos := "law.go:87", after := #[{ on := 5, ground := Ground.data }, { on := 2, ground := Ground.guard }], guard := some (2, false) }) (v := .int .i64 ((k : Int) + 1)) rfl (by kernel_rfl) (by kernel_rfl) (by kernel_rfl) (fun _ _ _ h => h) (Or.inl ⟨by rfl, by intro w hSw; go_simp⟩) hHeld ?_
          try simp only [Act.put, List.setIfInBounds_toArray, List.set_cons_zero, List.set_cons_succ]
          refine wpAnyH_take (i := 7) (oi := { dst := some 71, op := Op.slice 22 (Operand.tmp 68) none (some (Operand.tmp 70)) none, type := 22, pos := "law.go:87", after := #[{ on := 4, ground := Ground.data }, { on := 6, ground := Ground.data }, { on := 2, ground := Ground.guard }], guard := some (2, false) }) (v := .slice (some ⟨g, o, none⟩) (k + 1) cap0) rfl (by kernel_rfl) (by kernel_rfl) (by kernel_rfl) (fun _ _ _ h => h) (Or.inl ⟨by rfl, by intro W hSw; have := sl W; go_simp⟩) hHeld ?_
          try simp only [Act.put, List.setIfInBounds_toArray, List.set_cons_zero, List.set_cons_succ]
          refine wpAnyH_ready (rs := [8]) (by kernel_rfl) (by simp) ?_
          refine AllReadyH.cons (o := { dst := some 72, op := Op.call { callee := Callee.value (Operand.func 19), args := #[Operand.tmp 71], argTypes := #[22] }, type := 29, pos := "law.go:87", after := #[{ on := 7, ground := Ground.data }, { on := 2, ground := Ground.chain }, { on := 2, ground := Ground.guard }], guard := some (2, false) }) rfl (fun K hK => ?_) AllReadyH.nil
          go_simp
          refine (TR.out _ g o k _ hlt rfl HDR hHeld.1.2.2.2.2).mono ?_
          rintro e w11 ⟨rfl, hb11⟩
          go_wp2_with fail
          refine hK.out _ _ ⟨keepG hHeld.1 hb11, range_keep hb11 hHeld.2⟩ (fun hHeld => ?_)
          clear hK K
          try simp only [Act.put, List.setIfInBounds_toArray, List.set_cons_zero, List.set_cons_succ]
          refine wpAnyH_take (i := 9) (oi := { dst := some 73, op := Op.binOp BinOp.neq 29 (Operand.tmp 67) (Operand.tmp 72) 29, type := 4, pos := "law.go:87", after := #[{ on := 3, ground := Ground.data }, { on := 8, ground := Ground.data }, { on := 2, ground := Ground.guard }], guard := some (2, false) }) (v := .bool false) rfl (by kernel_rfl) (by kernel_rfl) (by kernel_rfl) (fun _ _ _ h => h) (Or.inl ⟨by rfl, by intro W hSw; have := nR W; go_simp⟩) hHeld ?_
          try simp only [Act.put, List.setIfInBounds_toArray, List.set_cons_zero, List.set_cons_succ]
          refine wpAnyH_take (i := 10) (oi := { dst := some 74, op := Op.pick (Operand.tmp 66) (Operand.const (Value.bool true)) (Operand.tmp 73), type := 4, pos := "law.go:87", after := #[{ on := 2, ground := Ground.data }, { on := 9, ground := Ground.data }], guard := none }) (v := .bool false) rfl (by kernel_rfl) (by kernel_rfl) (by kernel_rfl) (fun _ _ _ h => h) (Or.inl ⟨by rfl, by intro w hSw; go_simp⟩) hHeld ?_
          try simp only [Act.put, List.setIfInBounds_toArray, List.set_cons_zero, List.set_cons_succ]
          refine wpAnyH_done (by kernel_rfl) ?_ _
          have HG11 := hidk hHeld.1
          clear hHeld
          have HN : Hid (∃ y cy, (w11.setRow w.heap.size #[.int .i64 ((k : Int) + 1), .slice y2 (pm (k + 1)) cy2]).heap[w.heap.size]? = some (.cells #[.int .i64 ((k + 1 : Nat) : Int), .slice y (pm (k + 1)) cy] 25 (0, 0)) ∧ LReads (w11.setRow w.heap.size #[.int .i64 ((k : Int) + 1), .slice y2 (pm (k + 1)) cy2]) y (pm (k + 1)) cy (pk (k + 1)) ∧ Below w.heap.size w (w11.setRow w.heap.size #[.int .i64 ((k : Int) + 1), .slice y2 (pm (k + 1)) cy2]) ∧ (∀ g o, y = some ⟨g, o, none⟩ → 0 < pm (k + 1) → g ≠ w.heap.size)) :=
            ⟨y2, cy2, by rw [show ((k + 1 : Nat) : Int) = (k : Int) + 1 by omega]; exact setRow_heap _ _ _ _ 25 _ HG11.out.2.1, HG11.out.2.2.1.rowG HN6.out, below_setRow HG11.out.2.2.2.2 (Nat.le_refl _) _, HN6.out⟩
          go_wp2_with (first
            | (refine wpList_load_row rfl 25 (.tmp 5) rfl gx rfl 25 #[.int .i64 ((k : Int) + 1), .slice y2 (pm (k + 1)) cy2] (0, 0) _ HG11.out.1 Tryd.underlying25 rfl sizeF ?_; try simp only [Act.put, List.setIfInBounds_toArray, List.set_cons_zero, List.set_cons_succ])
            | (refine wpList_store_row rfl 25 (.tmp 3) (.tmp 75) rfl w.heap.size #[.int .i64 ((k : Int) + 1), .slice y2 (pm (k + 1)) cy2] rfl rfl 25 #[.int .i64 (k : Int), .slice y (pm k) cy] HG11.out.2.1 sizeF rfl (oneF _ _ _ _) ?_; try simp only [Act.put, List.setIfInBounds_toArray, List.set_cons_zero, List.set_cons_succ])
            | fail)
          go_roundw
          case rel => exact ⟨k + 1, by omega, by go_num, HN⟩
          case measure => simp [intOf]; omega
      · obtain rfl : len0 = k := by omega
        have HC := hidk h1
        clear h1 h2 h4
        go_wp2_with fail
        refine (T.out _ h3).mono ?_
        rintro e w9 ⟨rfl, hb9⟩
        have H9 : Hid (Below w.heap.size w w9) := h3.trans (hb9.mono h3.size)
        have hc9 : w9.cell? ⟨w.heap.size, 0, none⟩ = some (.int .i64 len0) := by rw [cell_of_row w9 w.heap.size 0 _ 25 (0, 0) ((hb9.block _ (heap_lt HC.out)).trans HC.out)]; rfl
        clear hb9 h3 HC T
        go_wp2
        go_ret
        exact ⟨rfl, H9.out⟩
end Go.Proofs.YtmpmhfagbcknnaaDoor
