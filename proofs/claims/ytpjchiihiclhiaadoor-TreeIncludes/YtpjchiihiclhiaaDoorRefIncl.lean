/- What the document's behind and Inclusion answer. -/
import Derived.Test.YtpjchiihiclhiaaDoorSame
import Derived.Test.YtpjchiihiclhiaaDoorRefRoot
import Derived.Test.YtpjchiihiclhiaaDoorBuilds
namespace Go.Proofs.YtpjchiihiclhiaaDoor
open Go.RowKit Sums
set_option linter.unusedVariables false
set_option linter.unusedSimpArgs false

theorem append_nothing (w : World) (B : Nat) (v : Value) (n : Nat) (xs : List Value) (cap : Nat) (h : w.ownsRow B 26 32 v n xs) : (Builtin.append_ #[22, 22] 22 #[v, .slice none 0 cap]).run Tryd.prog w = .ok v w := by
  obtain ⟨i0, hi, hz0, hz1, hz2⟩ := info_parts infoD
  rcases h.2 with ⟨rfl, _⟩ | ⟨g, c, cur, rfl, _, _, hnc, _⟩
  · simp [Builtin.append_, run_underlying Tryd.underlying22, sizeOf, typeInfo, hi, Builtin.lenOf, Builtin.firstCells]
  · simp [Builtin.append_, run_underlying Tryd.underlying22, sizeOf, typeInfo, hi, Builtin.lenOf, Builtin.firstCells, hnc, storeCells]

/-- A list that can be read, put behind one of the call's own. -/
theorem append_any (W : World) (B : Nat) (v : Value) (l1 l2 : List (List UInt8)) (hown : W.ownsRow B 26 32 v l1.length (cellsOf l1.flatten)) (a : Option Addr) (len cap : Nat) (hR : LReads W a len cap l2) (hB : B ≤ W.heap.size) (hlen : l1.length + len ≤ 1000000) :
    ∃ v' w', (Builtin.append_ #[22, 22] 22 #[v, .slice a len cap]).run Tryd.prog W = .ok v' w' ∧ w'.ownsRow B 26 32 v' (l1 ++ l2).length (cellsOf (l1 ++ l2).flatten) ∧ Below B W w' := by
  have hl2 := hR.1
  cases a with
  | none =>
    have h0 : len = 0 := by
      rcases hR.2.2.2.2 with h | ⟨g, o, e, _⟩
      · exact h
      · cases e
    subst h0
    have : l2 = [] := List.eq_nil_of_length_eq_zero hl2
    subst this
    rw [List.append_nil]
    exact ⟨v, W, append_nothing W B v _ _ cap hown, hown, Below.refl _ _⟩
  | some ad =>
    obtain ⟨v', w', hr, ho, hg⟩ := run_append_digs W B v l1 l2 hown ad len cap hl2 hR.2.1 (by
      intro j u hj
      have hjl : j < l2.flatten.length := by
        have := (List.getElem?_eq_some_iff.1 hj).1
        rwa [cellsOf_length] at this
      rw [flat_length hR.2.1] at hjl
      rcases hR.2.2.2.2 with h | ⟨g, o, e, hly⟩
      · omega
      · cases e
        rw [add_plain, hly j (by rw [flat_length hR.2.1]; exact hjl)]
        rw [cellsOf_at _ j (by rw [flat_length hR.2.1]; exact hjl)] at hj
        exact hj) hB hlen
    refine ⟨v', w', hr, ?_, (Below.refl _ _).grown hg hB (fun k hk => (hown.lt k hk).1)⟩
    rw [List.length_append, hl2]
    exact ho

set_option maxHeartbeats 1000000 in
theorem behind_any (a : Option Addr) (len cap : Nat) (l : List (List UInt8)) (d : List UInt8) (w : World) (hR : LReads w a len cap l) (hl : len ≤ 100000) (hd : d.length = 32) (D : Array Value) (HD : Hid (D = (cellsOf d).toArray)) :
    Calls Tryd.prog 27 #[.slice a len cap, .agg D] w fun e w' => ∃ x cx, e = .returned (.slice x (len + 1) cx) ∧ LReads w' x (len + 1) cx (l ++ [d]) ∧ Below w.heap.size w w' := by
  have hb0 : Below w.heap.size w (w.alloc (.cells D 26)) := (Below.refl _ _).alloc (Nat.le_refl _) _
  obtain ⟨v1, w1, hr1, ho1, hb1⟩ := append_any (w.alloc (.cells D 26)) (w.heap.size + 1) (.slice none 0 0) [] l (World.ownsRow_nil _ _ _ _) a len cap (hR.keep hb0) (by simp) (by simp; omega)
  rw [List.nil_append] at ho1
  have hg1 : w1.heap[w.heap.size]? = some (.cells D 26 (0, 0)) := (hb1.block _ (by omega)).trans (heap_alloc_new w _)
  have hs1 : w.heap.size + 1 ≤ w1.heap.size := by have := hb1.size; simpa using this
  have hb2 : Below w1.heap.size w1 (w1.alloc (.cells D 26)) := (Below.refl _ _).alloc (Nat.le_refl _) _
  have hnew : LReads (w1.alloc (.cells D 26)) (some ⟨w1.heap.size, 0, none⟩) 1 1 [d] := by
    refine ⟨rfl, .one hd, Nat.le_refl _, by unfold maxLen; omega, .inr ⟨_, _, rfl, fun i hi => ?_⟩⟩
    rw [Nat.zero_add, cell_of_row _ _ i _ 26 (0, 0) (heap_alloc_new w1 _), HD.out]
    simp only [List.flatten_cons, List.flatten_nil, List.append_nil] at hi ⊢
    simp [cellsOf_at _ i hi]
  obtain ⟨v2, w2, hr2, ho2, hb3⟩ := append_any (w1.alloc (.cells D 26)) (w.heap.size + 1) v1 l [d] (own_below ho1 hb2) (some ⟨w1.heap.size, 0, none⟩) 1 1 hnew (by simp; omega) (by have := hR.1; omega)
  obtain ⟨x, cx, rfl, hx, _⟩ := LReads.own ho2 (hR.2.1.append (.one hd))
  have hl2 : (l ++ [d]).length = len + 1 := by rw [List.length_append, hR.1]; rfl
  rw [hl2] at hx hr2
  have HF : Hid (LReads w2 x (len + 1) cx (l ++ [d]) ∧ Below w.heap.size w w2) := by
    refine ⟨hx, ((hb0.trans (hb1.mono (by omega))).trans (hb2.mono (by omega))).trans (hb3.mono (by omega))⟩
  have HB := hidk (build_one w1 d hd D HD)
  have HR1 := hidk hr1
  have HR2 := hidk hr2
  have HG1 := hidk hg1
  have HSD : Hid ((Tryd.prog.info? 26).map (·.size) = some D.size) := by show _ = _; rw [size23, HD.out]; simp [cellsOf_length, hd]
  clear hR hb0 hr1 ho1 hb1 hg1 hs1 hb2 hnew hr2 ho2 hb3 hx hl2
  go_enter Tryd.func27, Tryd.ntmps27
  go_wp2_with (first
    | (refine wpList_append_run rfl (.tmp 6) (.tmp 7) 22 22 rfl _ _ _ w1 rfl rfl HR1.out ?_; try simp only [Act.put, List.setIfInBounds_toArray, List.set_cons_zero, List.set_cons_succ])
    | (refine wpList_load_row rfl 26 (.tmp 3) rfl w.heap.size rfl 26 D (0, 0) _ HG1.out Tryd.underlying26 rfl HSD.out ?_; try simp only [Act.put, List.setIfInBounds_toArray, List.set_cons_zero, List.set_cons_succ])
    | (refine wpList_build_run rfl 22 1 _ rfl #[(0, .agg D)] rfl _ _ HB.out ?_; try simp only [Act.put, List.setIfInBounds_toArray, List.set_cons_zero, List.set_cons_succ])
    | (refine wpList_append_run rfl (.tmp 9) (.tmp 11) 22 22 rfl _ _ _ w2 rfl rfl HR2.out ?_; try simp only [Act.put, List.setIfInBounds_toArray, List.set_cons_zero, List.set_cons_succ])
    | fail)
  go_ret
  exact ⟨x, cx, rfl, HF.out⟩

set_option maxHeartbeats 2000000 in
theorem refIncl_any (n : Nat) (a : Option Addr) (len cap i : Nat) (l : List (List UInt8)) (w : World) (hn : len = n) (hR : LReads w a len cap l) (hi : i < len) (hl : len ≤ 100000) (hK : Table 0 w) :
    Calls Tryd.prog 17 #[.slice a len cap, .int .i64 i] w fun e w' => ∃ x cx, e = .returned (.slice x (incl l i).length cx) ∧ LReads w' x (incl l i).length cx (incl l i) ∧ Below w.heap.size w w' := by
  induction n using Nat.strongRecOn generalizing a len cap i l w with
  | _ n ih =>
    subst hn
    have hlen := hR.1
    have hmx : len ≤ 9223372036854775807 := by omega
    obtain ⟨g, o, rfl, hg⟩ := hR.at (by omega)
    by_cases h1 : len = 1
    · rw [incl_one l i (by omega)]
      subst h1
      have HL : Hid (LReads w none 0 0 []) := ⟨rfl, (fun d hd => by cases hd), Nat.le_refl _, Nat.zero_le _, .inl rfl⟩
      clear hK hR ih hlen
      go_enter Tryd.func17, Tryd.ntmps17
      go_wp2
      go_ret
      exact ⟨none, 0, rfl, HL.out, Below.refl _ _⟩
    · have h2 : 2 ≤ len := by omega
      obtain ⟨k, hk⟩ : ∃ k, k = split len := ⟨_, rfl⟩
      have hkl := split_lt len h2
      have hkp := split_pos len h2
      rw [← hk] at hkl hkp
      have hcl := hR.2.2.1
      have S : Hid (∀ W, Calls Tryd.prog 14 #[.int .i64 len] W fun e w' => e = .returned (.int .i64 k) ∧ W = w') := fun W => by
        have := refSplit_any (len : Int) W (by omega)
        rw [Int.toNat_natCast, ← hk] at this
        exact this
      have sl := fun W => slice_left W g o len cap k (by omega)
      have sr := fun W => slice_right W g o len cap k (by omega) hcl (by omega)
      by_cases hik : i < k
      · have hdl : decide ((i : Int) < (k : Int)) = true := by rw [decide_eq_true_eq]; omega
        have HE : Hid (incl l i = incl (l.take k) i ++ [root (l.drop k)]) := by
          show _ = _
          rw [incl_left l i (by omega) (by rw [hlen, ← hk]; exact hik), hlen, ← hk]
        have IH : Hid (∀ W, Below w.heap.size w W → Calls Tryd.prog 17 #[.slice (some ⟨g, o, none⟩) k cap, .int .i64 i] W fun e w' => ∃ x cx, e = .returned (.slice x (incl (l.take k) i).length cx) ∧ LReads w' x (incl (l.take k) i).length cx (incl (l.take k) i) ∧ Below W.heap.size W w') := fun W hb => by
          exact ih k hkl _ k cap i (l.take k) W rfl ((hR.keep hb).take k (by omega)) (by omega) (by omega) (hK.keep hb)
        obtain ⟨D, HD⟩ : ∃ D, Hid (D = (cellsOf (root (l.drop k))).toArray) := ⟨_, (rfl : (cellsOf (root (l.drop k))).toArray = _)⟩
        have hdd : (root (l.drop k)).length = 32 := root_length sumD_length _ (hR.2.1.drop k)
        have RR : Hid (∀ W, Below w.heap.size w W → Calls Tryd.prog 12 #[.slice (some ⟨g, o + 32 * k, none⟩) (len - k) (cap - k)] W fun e w' => e = .returned (.agg D) ∧ Below W.heap.size W w') := fun W hb =>
          refRoot_any _ _ _ _ (l.drop k) W rfl ((hR.keep hb).drop k (by omega)) (hK.keep hb) D HD
        have hsh := incl_len (l.take k) i (by simp only [List.length_take, List.length_drop]; omega)
        simp only [List.length_take, List.length_drop] at hsh
        generalize incl (l.take k) i = acc at HE IH hsh
        have hal : acc.length ≤ 100000 := by omega
        have BH : Hid (∀ W x cx, LReads W x acc.length cx acc → Calls Tryd.prog 27 #[.slice x acc.length cx, .agg D] W fun e w' => ∃ y cy, e = .returned (.slice y (acc.length + 1) cy) ∧ LReads w' y (acc.length + 1) cy (acc ++ [root (l.drop k)]) ∧ Below W.heap.size W w') := fun W x cx hx => behind_any x acc.length cx acc _ W hx hal hdd D HD
        rw [HE.out]
        generalize root (l.drop k) = rt at BH
        obtain ⟨m, HM⟩ : ∃ m, Hid (m = acc.length) := ⟨_, (rfl : acc.length = _)⟩
        rw [← HM.out] at IH BH
        have HM2 : Hid ((acc ++ [rt]).length = m + 1) := by show _ = _; rw [List.length_append, HM.out]; rfl
        rw [HM2.out]
        clear hK hR ih hlen hk HE HD hsh hal hdd
        go_enter Tryd.func17, Tryd.ntmps17
        go_wp2_with fail
        refine (S.out _).mono ?_
        rintro e w1 ⟨rfl, rfl⟩
        clear S
        go_wp2
        refine wp_region_held_drew (S := (fun _ => True)) (by kernel_rfl) trivial (fun hHeld => ?_)
        refine wpAnyH_take (i := 0) (oi := { dst := some 15, op := Op.move (Operand.tmp 0), type := 22, pos := "ref.go:48", after := #[], guard := none }) (v := .slice (some ⟨g, o, none⟩) len cap) rfl (by kernel_rfl) (by kernel_rfl) (by kernel_rfl) (fun _ _ _ h => h) (Or.inl ⟨by rfl, by intro w hSw; go_simp⟩) hHeld ?_
        try simp only [Act.put, List.setIfInBounds_toArray, List.set_cons_zero, List.set_cons_succ]
        refine wpAnyH_take (i := 1) (oi := { dst := some 16, op := Op.move (Operand.tmp 5), type := 3, pos := "ref.go:48", after := #[], guard := none }) (v := .int .i64 k) rfl (by kernel_rfl) (by kernel_rfl) (by kernel_rfl) (fun _ _ _ h => h) (Or.inl ⟨by rfl, by intro w hSw; go_simp⟩) hHeld ?_
        try simp only [Act.put, List.setIfInBounds_toArray, List.set_cons_zero, List.set_cons_succ]
        refine wpAnyH_take (i := 2) (oi := { dst := some 17, op := Op.slice 22 (Operand.tmp 15) none (some (Operand.tmp 16)) none, type := 22, pos := "ref.go:48", after := #[{ on := 0, ground := Ground.data }, { on := 1, ground := Ground.data }], guard := none }) (v := .slice (some ⟨g, o, none⟩) k cap) rfl (by kernel_rfl) (by kernel_rfl) (by kernel_rfl) (fun _ _ _ h => h) (Or.inl ⟨by rfl, by intro W hSw; have := sl W; go_simp⟩) hHeld ?_
        try simp only [Act.put, List.setIfInBounds_toArray, List.set_cons_zero, List.set_cons_succ]
        refine wpAnyH_take (i := 3) (oi := { dst := some 18, op := Op.move (Operand.tmp 1), type := 3, pos := "ref.go:48", after := #[], guard := none }) (v := .int .i64 i) rfl (by kernel_rfl) (by kernel_rfl) (by kernel_rfl) (fun _ _ _ h => h) (Or.inl ⟨by rfl, by intro w hSw; go_simp⟩) hHeld ?_
        try simp only [Act.put, List.setIfInBounds_toArray, List.set_cons_zero, List.set_cons_succ]
        refine wpAnyH_take (i := 5) (oi := { dst := some 20, op := Op.move (Operand.tmp 0), type := 22, pos := "ref.go:48", after := #[], guard := none }) (v := .slice (some ⟨g, o, none⟩) len cap) rfl (by kernel_rfl) (by kernel_rfl) (by kernel_rfl) (fun _ _ _ h => h) (Or.inl ⟨by rfl, by intro w hSw; go_simp⟩) hHeld ?_
        try simp only [Act.put, List.setIfInBounds_toArray, List.set_cons_zero, List.set_cons_succ]
        refine wpAnyH_take (i := 6) (oi := { dst := some 21, op := Op.move (Operand.tmp 5), type := 3, pos := "ref.go:48", after := #[], guard := none }) (v := .int .i64 k) rfl (by kernel_rfl) (by kernel_rfl) (by kernel_rfl) (fun _ _ _ h => h) (Or.inl ⟨by rfl, by intro w hSw; go_simp⟩) hHeld ?_
        try simp only [Act.put, List.setIfInBounds_toArray, List.set_cons_zero, List.set_cons_succ]
        refine wpAnyH_take (i := 7) (oi := { dst := some 22, op := Op.slice 22 (Operand.tmp 20) (some (Operand.tmp 21)) none none, type := 22, pos := "ref.go:48", after := #[{ on := 5, ground := Ground.data }, { on := 6, ground := Ground.data }], guard := none }) (v := .slice (some ⟨g, o + 32 * k, none⟩) (len - k) (cap - k)) rfl (by kernel_rfl) (by kernel_rfl) (by kernel_rfl) (fun _ _ _ h => h) (Or.inl ⟨by rfl, by intro W hSw; have := sr W; go_simp⟩) hHeld ?_
        try simp only [Act.put, List.setIfInBounds_toArray, List.set_cons_zero, List.set_cons_succ]
        refine wpAnyH_ready (rs := [4]) (by kernel_rfl) (by simp) ?_
        refine AllReadyH.cons (o := { dst := some 19, op := Op.call { callee := Callee.value (Operand.func 17), args := #[Operand.tmp 17, Operand.tmp 18], argTypes := #[22, 3] }, type := 22, pos := "ref.go:48", after := #[{ on := 2, ground := Ground.data }, { on := 3, ground := Ground.data }], guard := none }) rfl (fun K hK => ?_) AllReadyH.nil
        go_simp
        refine (IH.out _ (Below.refl _ _).drew).mono ?_
        rintro e w4 ⟨x, cx, rfl, hx, hb4⟩
        have H4 : Hid (LReads w4 x m cx acc ∧ Below w.heap.size w w4) := ⟨hx, (Below.refl _ _).drew.trans hb4⟩
        clear hx hb4
        go_wp2_with fail
        refine hK.out _ _ trivial (fun hHeld => ?_)
        clear hK K
        try simp only [Act.put, List.setIfInBounds_toArray, List.set_cons_zero, List.set_cons_succ]
        refine wpAnyH_ready (rs := [8]) (by kernel_rfl) (by simp) ?_
        refine AllReadyH.cons (o := { dst := some 23, op := Op.call { callee := Callee.value (Operand.func 12), args := #[Operand.tmp 22], argTypes := #[22] }, type := 26, pos := "ref.go:48", after := #[{ on := 7, ground := Ground.data }, { on := 4, ground := Ground.chain }], guard := none }) rfl (fun K hK => ?_) AllReadyH.nil
        go_simp
        refine (RR.out _ H4.out.2).mono ?_
        rintro e w8 ⟨rfl, hb8⟩
        have H8 : Hid (LReads w8 x m cx acc ∧ Below w.heap.size w w8) := ⟨H4.out.1.keep hb8, H4.out.2.trans (hb8.mono H4.out.2.size)⟩
        clear hb8
        go_wp2_with fail
        refine hK.out _ _ trivial (fun hHeld => ?_)
        clear hK K
        try simp only [Act.put, List.setIfInBounds_toArray, List.set_cons_zero, List.set_cons_succ]
        refine wpAnyH_ready (rs := [9]) (by kernel_rfl) (by simp) ?_
        refine AllReadyH.cons (o := { dst := some 24, op := Op.call { callee := Callee.value (Operand.func 27), args := #[Operand.tmp 19, Operand.tmp 23], argTypes := #[22, 26] }, type := 22, pos := "ref.go:48", after := #[{ on := 4, ground := Ground.data }, { on := 8, ground := Ground.data }, { on := 8, ground := Ground.chain }], guard := none }) rfl (fun K hK => ?_) AllReadyH.nil
        go_simp
        refine (BH.out _ _ _ H8.out.1).mono ?_
        rintro e w9 ⟨y, cy, rfl, hy, hb9⟩
        have H9 : Hid (LReads w9 y (m + 1) cy (acc ++ [rt]) ∧ Below w.heap.size w w9) := ⟨hy, H8.out.2.trans (hb9.mono H8.out.2.size)⟩
        clear hy hb9
        go_wp2_with fail
        refine hK.out _ _ trivial (fun hHeld => ?_)
        clear hK K
        try simp only [Act.put, List.setIfInBounds_toArray, List.set_cons_zero, List.set_cons_succ]
        refine wpAnyH_take (i := 10) (oi := { dst := some 4, op := Op.assign (Operand.tmp 24), type := 22, pos := "ref.go:48", after := #[{ on := 9, ground := Ground.data }, { on := 9, ground := Ground.chain }, { on := 0, ground := Ground.phase }, { on := 1, ground := Ground.phase }, { on := 2, ground := Ground.phase }, { on := 3, ground := Ground.phase }, { on := 4, ground := Ground.phase }, { on := 5, ground := Ground.phase }, { on := 6, ground := Ground.phase }, { on := 7, ground := Ground.phase }, { on := 8, ground := Ground.phase }, { on := 9, ground := Ground.phase }], guard := none }) (v := .slice y (m + 1) cy) rfl (by kernel_rfl) (by kernel_rfl) (by kernel_rfl) (fun _ _ _ h => h) (Or.inl ⟨by rfl, by intro w hSw; go_simp⟩) hHeld ?_
        try simp only [Act.put, List.setIfInBounds_toArray, List.set_cons_zero, List.set_cons_succ]
        refine wpAnyH_done (by kernel_rfl) ?_ _
        go_wp2
        go_ret
        exact ⟨y, cy, rfl, H9.out⟩
      · have hdl : decide ((i : Int) < (k : Int)) = false := by rw [decide_eq_false_iff_not]; omega
        have hw := wrap_int ((i : Int) - (k : Int)) (by omega) (by omega)
        have HE : Hid (incl l i = incl (l.drop k) (i - k) ++ [root (l.take k)]) := by
          show _ = _
          rw [incl_right l i (by omega) (by rw [hlen, ← hk]; omega), hlen, ← hk]
        have IH : Hid (∀ W, Below w.heap.size w W → Calls Tryd.prog 17 #[.slice (some ⟨g, o + 32 * k, none⟩) (len - k) (cap - k), .int .i64 ((i : Int) - (k : Int))] W fun e w' => ∃ x cx, e = .returned (.slice x (incl (l.drop k) (i - k)).length cx) ∧ LReads w' x (incl (l.drop k) (i - k)).length cx (incl (l.drop k) (i - k)) ∧ Below W.heap.size W w') := fun W hb => by
          rw [show ((i : Int) - (k : Int)) = ((i - k : Nat) : Int) by omega]
          exact ih (len - k) (by omega) _ (len - k) (cap - k) (i - k) (l.drop k) W rfl ((hR.keep hb).drop k (by omega)) (by omega) (by omega) (hK.keep hb)
        obtain ⟨D, HD⟩ : ∃ D, Hid (D = (cellsOf (root (l.take k))).toArray) := ⟨_, (rfl : (cellsOf (root (l.take k))).toArray = _)⟩
        have hdd : (root (l.take k)).length = 32 := root_length sumD_length _ (hR.2.1.take k)
        have RR : Hid (∀ W, Below w.heap.size w W → Calls Tryd.prog 12 #[.slice (some ⟨g, o, none⟩) k cap] W fun e w' => e = .returned (.agg D) ∧ Below W.heap.size W w') := fun W hb =>
          refRoot_any _ _ _ _ (l.take k) W rfl ((hR.keep hb).take k (by omega)) (hK.keep hb) D HD
        have hsh := incl_len (l.drop k) (i - k) (by simp only [List.length_take, List.length_drop]; omega)
        simp only [List.length_take, List.length_drop] at hsh
        generalize incl (l.drop k) (i - k) = acc at HE IH hsh
        have hal : acc.length ≤ 100000 := by omega
        have BH : Hid (∀ W x cx, LReads W x acc.length cx acc → Calls Tryd.prog 27 #[.slice x acc.length cx, .agg D] W fun e w' => ∃ y cy, e = .returned (.slice y (acc.length + 1) cy) ∧ LReads w' y (acc.length + 1) cy (acc ++ [root (l.take k)]) ∧ Below W.heap.size W w') := fun W x cx hx => behind_any x acc.length cx acc _ W hx hal hdd D HD
        rw [HE.out]
        generalize root (l.take k) = rt at BH
        obtain ⟨m, HM⟩ : ∃ m, Hid (m = acc.length) := ⟨_, (rfl : acc.length = _)⟩
        rw [← HM.out] at IH BH
        have HM2 : Hid ((acc ++ [rt]).length = m + 1) := by show _ = _; rw [List.length_append, HM.out]; rfl
        rw [HM2.out]
        clear hK hR ih hlen hk HE HD hsh hal hdd
        go_enter Tryd.func17, Tryd.ntmps17
        go_wp2_with fail
        refine (S.out _).mono ?_
        rintro e w1 ⟨rfl, rfl⟩
        clear S
        go_wp2
        refine wp_region_held_drew (S := (fun _ => True)) (by kernel_rfl) trivial (fun hHeld => ?_)
        refine wpAnyH_take (i := 0) (oi := { dst := some 25, op := Op.move (Operand.tmp 0), type := 22, pos := "ref.go:50", after := #[], guard := none }) (v := .slice (some ⟨g, o, none⟩) len cap) rfl (by kernel_rfl) (by kernel_rfl) (by kernel_rfl) (fun _ _ _ h => h) (Or.inl ⟨by rfl, by intro w hSw; go_simp⟩) hHeld ?_
        try simp only [Act.put, List.setIfInBounds_toArray, List.set_cons_zero, List.set_cons_succ]
        refine wpAnyH_take (i := 1) (oi := { dst := some 26, op := Op.move (Operand.tmp 5), type := 3, pos := "ref.go:50", after := #[], guard := none }) (v := .int .i64 k) rfl (by kernel_rfl) (by kernel_rfl) (by kernel_rfl) (fun _ _ _ h => h) (Or.inl ⟨by rfl, by intro w hSw; go_simp⟩) hHeld ?_
        try simp only [Act.put, List.setIfInBounds_toArray, List.set_cons_zero, List.set_cons_succ]
        refine wpAnyH_take (i := 2) (oi := { dst := some 27, op := Op.slice 22 (Operand.tmp 25) (some (Operand.tmp 26)) none none, type := 22, pos := "ref.go:50", after := #[{ on := 0, ground := Ground.data }, { on := 1, ground := Ground.data }], guard := none }) (v := .slice (some ⟨g, o + 32 * k, none⟩) (len - k) (cap - k)) rfl (by kernel_rfl) (by kernel_rfl) (by kernel_rfl) (fun _ _ _ h => h) (Or.inl ⟨by rfl, by intro W hSw; have := sr W; go_simp⟩) hHeld ?_
        try simp only [Act.put, List.setIfInBounds_toArray, List.set_cons_zero, List.set_cons_succ]
        refine wpAnyH_take (i := 3) (oi := { dst := some 28, op := Op.move (Operand.tmp 1), type := 3, pos := "ref.go:50", after := #[], guard := none }) (v := .int .i64 i) rfl (by kernel_rfl) (by kernel_rfl) (by kernel_rfl) (fun _ _ _ h => h) (Or.inl ⟨by rfl, by intro w hSw; go_simp⟩) hHeld ?_
        try simp only [Act.put, List.setIfInBounds_toArray, List.set_cons_zero, List.set_cons_succ]
        refine wpAnyH_take (i := 4) (oi := { dst := some 29, op := Op.move (Operand.tmp 5), type := 3, pos := "ref.go:50", after := #[], guard := none }) (v := .int .i64 k) rfl (by kernel_rfl) (by kernel_rfl) (by kernel_rfl) (fun _ _ _ h => h) (Or.inl ⟨by rfl, by intro w hSw; go_simp⟩) hHeld ?_
        try simp only [Act.put, List.setIfInBounds_toArray, List.set_cons_zero, List.set_cons_succ]
        refine wpAnyH_take (i := 5) (oi := { dst := some 30, op := Op.binOp BinOp.sub 3 (Operand.tmp 28) (Operand.tmp 29) 3, type := 3, pos := "ref.go:50", after := #[{ on := 3, ground := Ground.data }, { on := 4, ground := Ground.data }], guard := none }) (v := .int .i64 ((i : Int) - (k : Int))) rfl (by kernel_rfl) (by kernel_rfl) (by kernel_rfl) (fun _ _ _ h => h) (Or.inl ⟨by rfl, by intro w hSw; go_simp⟩) hHeld ?_
        try simp only [Act.put, List.setIfInBounds_toArray, List.set_cons_zero, List.set_cons_succ]
        refine wpAnyH_take (i := 7) (oi := { dst := some 32, op := Op.move (Operand.tmp 0), type := 22, pos := "ref.go:50", after := #[], guard := none }) (v := .slice (some ⟨g, o, none⟩) len cap) rfl (by kernel_rfl) (by kernel_rfl) (by kernel_rfl) (fun _ _ _ h => h) (Or.inl ⟨by rfl, by intro w hSw; go_simp⟩) hHeld ?_
        try simp only [Act.put, List.setIfInBounds_toArray, List.set_cons_zero, List.set_cons_succ]
        refine wpAnyH_take (i := 8) (oi := { dst := some 33, op := Op.move (Operand.tmp 5), type := 3, pos := "ref.go:50", after := #[], guard := none }) (v := .int .i64 k) rfl (by kernel_rfl) (by kernel_rfl) (by kernel_rfl) (fun _ _ _ h => h) (Or.inl ⟨by rfl, by intro w hSw; go_simp⟩) hHeld ?_
        try simp only [Act.put, List.setIfInBounds_toArray, List.set_cons_zero, List.set_cons_succ]
        refine wpAnyH_take (i := 9) (oi := { dst := some 34, op := Op.slice 22 (Operand.tmp 32) none (some (Operand.tmp 33)) none, type := 22, pos := "ref.go:50", after := #[{ on := 7, ground := Ground.data }, { on := 8, ground := Ground.data }], guard := none }) (v := .slice (some ⟨g, o, none⟩) k cap) rfl (by kernel_rfl) (by kernel_rfl) (by kernel_rfl) (fun _ _ _ h => h) (Or.inl ⟨by rfl, by intro W hSw; have := sl W; go_simp⟩) hHeld ?_
        try simp only [Act.put, List.setIfInBounds_toArray, List.set_cons_zero, List.set_cons_succ]
        refine wpAnyH_ready (rs := [6]) (by kernel_rfl) (by simp) ?_
        refine AllReadyH.cons (o := { dst := some 31, op := Op.call { callee := Callee.value (Operand.func 17), args := #[Operand.tmp 27, Operand.tmp 30], argTypes := #[22, 3] }, type := 22, pos := "ref.go:50", after := #[{ on := 2, ground := Ground.data }, { on := 5, ground := Ground.data }], guard := none }) rfl (fun K hK => ?_) AllReadyH.nil
        go_simp
        refine (IH.out _ (Below.refl _ _).drew).mono ?_
        rintro e w4 ⟨x, cx, rfl, hx, hb4⟩
        have H4 : Hid (LReads w4 x m cx acc ∧ Below w.heap.size w w4) := ⟨hx, (Below.refl _ _).drew.trans hb4⟩
        clear hx hb4
        go_wp2_with fail
        refine hK.out _ _ trivial (fun hHeld => ?_)
        clear hK K
        try simp only [Act.put, List.setIfInBounds_toArray, List.set_cons_zero, List.set_cons_succ]
        refine wpAnyH_ready (rs := [10]) (by kernel_rfl) (by simp) ?_
        refine AllReadyH.cons (o := { dst := some 35, op := Op.call { callee := Callee.value (Operand.func 12), args := #[Operand.tmp 34], argTypes := #[22] }, type := 26, pos := "ref.go:50", after := #[{ on := 9, ground := Ground.data }, { on := 6, ground := Ground.chain }], guard := none }) rfl (fun K hK => ?_) AllReadyH.nil
        go_simp
        refine (RR.out _ H4.out.2).mono ?_
        rintro e w8 ⟨rfl, hb8⟩
        have H8 : Hid (LReads w8 x m cx acc ∧ Below w.heap.size w w8) := ⟨H4.out.1.keep hb8, H4.out.2.trans (hb8.mono H4.out.2.size)⟩
        clear hb8
        go_wp2_with fail
        refine hK.out _ _ trivial (fun hHeld => ?_)
        clear hK K
        try simp only [Act.put, List.setIfInBounds_toArray, List.set_cons_zero, List.set_cons_succ]
        refine wpAnyH_ready (rs := [11]) (by kernel_rfl) (by simp) ?_
        refine AllReadyH.cons (o := { dst := some 36, op := Op.call { callee := Callee.value (Operand.func 27), args := #[Operand.tmp 31, Operand.tmp 35], argTypes := #[22, 26] }, type := 22, pos := "ref.go:50", after := #[{ on := 6, ground := Ground.data }, { on := 10, ground := Ground.data }, { on := 10, ground := Ground.chain }], guard := none }) rfl (fun K hK => ?_) AllReadyH.nil
        go_simp
        refine (BH.out _ _ _ H8.out.1).mono ?_
        rintro e w9 ⟨y, cy, rfl, hy, hb9⟩
        have H9 : Hid (LReads w9 y (m + 1) cy (acc ++ [rt]) ∧ Below w.heap.size w w9) := ⟨hy, H8.out.2.trans (hb9.mono H8.out.2.size)⟩
        clear hy hb9
        go_wp2_with fail
        refine hK.out _ _ trivial (fun hHeld => ?_)
        clear hK K
        try simp only [Act.put, List.setIfInBounds_toArray, List.set_cons_zero, List.set_cons_succ]
        refine wpAnyH_take (i := 12) (oi := { dst := some 4, op := Op.assign (Operand.tmp 36), type := 22, pos := "ref.go:50", after := #[{ on := 11, ground := Ground.data }, { on := 11, ground := Ground.chain }, { on := 0, ground := Ground.phase }, { on := 1, ground := Ground.phase }, { on := 2, ground := Ground.phase }, { on := 3, ground := Ground.phase }, { on := 4, ground := Ground.phase }, { on := 5, ground := Ground.phase }, { on := 6, ground := Ground.phase }, { on := 7, ground := Ground.phase }, { on := 8, ground := Ground.phase }, { on := 9, ground := Ground.phase }, { on := 10, ground := Ground.phase }, { on := 11, ground := Ground.phase }], guard := none }) (v := .slice y (m + 1) cy) rfl (by kernel_rfl) (by kernel_rfl) (by kernel_rfl) (fun _ _ _ h => h) (Or.inl ⟨by rfl, by intro w hSw; go_simp⟩) hHeld ?_
        try simp only [Act.put, List.setIfInBounds_toArray, List.set_cons_zero, List.set_cons_succ]
        refine wpAnyH_done (by kernel_rfl) ?_ _
        go_wp2
        go_ret
        exact ⟨y, cy, rfl, H9.out⟩
end Go.Proofs.YtpjchiihiclhiaaDoor
