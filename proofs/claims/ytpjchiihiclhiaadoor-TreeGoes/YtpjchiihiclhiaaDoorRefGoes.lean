/- What the document's Consistency answers. -/
import Derived.Test.YtpjchiihiclhiaaDoorRefIncl
namespace Go.Proofs.YtpjchiihiclhiaaDoor
open Go.RowKit Sums
set_option linter.unusedVariables false
set_option linter.unusedSimpArgs false

set_option maxHeartbeats 2000000 in
theorem refSub_any (n : Nat) (a : Option Addr) (len cap m : Nat) (known : Bool) (l : List (List UInt8)) (w : World) (hn : len = n) (hR : LReads w a len cap l) (hm1 : 1 ≤ m) (hm : m ≤ len) (hl : len ≤ 100000) (hK : Table 0 w) :
    Calls Tryd.prog 29 #[.slice a len cap, .int .i64 m, .bool known] w fun e w' => ∃ x cx, e = .returned (.slice x (goes l m known).length cx) ∧ LReads w' x (goes l m known).length cx (goes l m known) ∧ Below w.heap.size w w' := by
  induction n using Nat.strongRecOn generalizing a len cap m known l w with
  | _ n ih =>
    subst hn
    have hlen := hR.1
    have hmx : len ≤ 9223372036854775807 := by omega
    obtain ⟨g, o, rfl, hg⟩ := hR.at (by omega)
    by_cases hme : m = len
    · subst hme
      cases known
      · rw [goes_all l m (by omega)]
        obtain ⟨D, HD⟩ : ∃ D, Hid (D = (cellsOf (root l)).toArray) := ⟨_, (rfl : (cellsOf (root l)).toArray = _)⟩
        have hdd : (root l).length = 32 := root_length sumD_length _ hR.2.1
        have RR : Hid (Calls Tryd.prog 12 #[.slice (some ⟨g, o, none⟩) m cap] w fun e w' => e = .returned (.agg D) ∧ Below w.heap.size w w') := refRoot_any _ _ _ _ l w rfl hR hK D HD
        have HB : Hid (∀ W, (Instr.buildSlice 22 1 #[(0, .agg D)]).run Tryd.prog W = .ok (.slice (some ⟨W.heap.size, 0, none⟩) 1 1) (W.alloc (.cells D 26))) := fun W => build_one W _ hdd D HD
        have HN : Hid (∀ W : World, LReads (W.alloc (.cells D 26)) (some ⟨W.heap.size, 0, none⟩) 1 1 [root l]) := fun W => by
          refine ⟨rfl, .one hdd, Nat.le_refl _, by unfold maxLen; omega, .inr ⟨_, _, rfl, fun i hi => ?_⟩⟩
          rw [Nat.zero_add, cell_of_row _ _ i _ 26 (0, 0) (heap_alloc_new W _), HD.out]
          simp only [List.flatten_cons, List.flatten_nil, List.append_nil] at hi ⊢
          simp [cellsOf_at _ i hi]
        clear hK hR ih hlen hdd HD
        go_enter Tryd.func29, Tryd.ntmps29
        go_wp2_with fail
        refine RR.out.mono ?_
        rintro e w1 ⟨rfl, hb1⟩
        go_wp2_with (first
          | (refine wpList_build_run rfl 22 1 _ rfl #[(0, .agg D)] rfl _ _ (HB.out w1) ?_; try simp only [Act.put, List.setIfInBounds_toArray, List.set_cons_zero, List.set_cons_succ])
          | fail)
        go_ret
        exact ⟨_, 1, rfl, HN.out w1, hb1.alloc hb1.size _⟩
      · rw [goes_known l m (by omega)]
        have HL : Hid (LReads w none 0 0 []) := ⟨rfl, (fun d hd => by cases hd), Nat.le_refl _, Nat.zero_le _, .inl rfl⟩
        clear hK hR ih hlen
        go_enter Tryd.func29, Tryd.ntmps29
        go_wp2
        go_ret
        exact ⟨none, 0, rfl, HL.out, Below.refl _ _⟩
    · have h2 : 2 ≤ len := by omega
      obtain ⟨k, hk⟩ : ∃ k, k = split len := ⟨_, rfl⟩
      have hkl := split_lt len h2
      have hkp := split_pos len h2
      rw [← hk] at hkl hkp
      have hcl := hR.2.2.1
      have hde : (decide ((m : Int) = (len : Int))) = false := by rw [decide_eq_false_iff_not]; omega
      have hde2 : ((m : Int) == (len : Int)) = false := by rw [beq_eq_false_iff_ne]; omega
      have S : Hid (∀ W, Calls Tryd.prog 14 #[.int .i64 len] W fun e w' => e = .returned (.int .i64 k) ∧ W = w') := fun W => by
        have := refSplit_any (len : Int) W (by omega)
        rw [Int.toNat_natCast, ← hk] at this
        exact this
      have sl := fun W => slice_left W g o len cap k (by omega)
      have sr := fun W => slice_right W g o len cap k (by omega) hcl (by omega)
      by_cases hik : m ≤ k
      · have hdl : decide ((m : Int) ≤ (k : Int)) = true := by rw [decide_eq_true_eq]; omega
        have HE : Hid (goes l m known = goes (l.take k) m known ++ [root (l.drop k)]) := by
          show _ = _
          rw [goes_left l m known (by omega) (by omega) (by rw [hlen, ← hk]; exact hik), hlen, ← hk]
        have IH : Hid (∀ W, Below w.heap.size w W → Calls Tryd.prog 29 #[.slice (some ⟨g, o, none⟩) k cap, .int .i64 m, .bool known] W fun e w' => ∃ x cx, e = .returned (.slice x (goes (l.take k) m known).length cx) ∧ LReads w' x (goes (l.take k) m known).length cx (goes (l.take k) m known) ∧ Below W.heap.size W w') := fun W hb => by
          exact ih k hkl _ k cap m known (l.take k) W rfl ((hR.keep hb).take k (by omega)) (by omega) (by omega) (by omega) (hK.keep hb)
        obtain ⟨D, HD⟩ : ∃ D, Hid (D = (cellsOf (root (l.drop k))).toArray) := ⟨_, (rfl : (cellsOf (root (l.drop k))).toArray = _)⟩
        have hdd : (root (l.drop k)).length = 32 := root_length sumD_length _ (hR.2.1.drop k)
        have RR : Hid (∀ W, Below w.heap.size w W → Calls Tryd.prog 12 #[.slice (some ⟨g, o + 32 * k, none⟩) (len - k) (cap - k)] W fun e w' => e = .returned (.agg D) ∧ Below W.heap.size W w') := fun W hb =>
          refRoot_any _ _ _ _ (l.drop k) W rfl ((hR.keep hb).drop k (by omega)) (hK.keep hb) D HD
        have hsh := goes_len (l.take k) m known (by simp only [List.length_take, List.length_drop]; omega)
        simp only [List.length_take, List.length_drop] at hsh
        generalize goes (l.take k) m known = acc at HE IH hsh
        have hal : acc.length ≤ 100000 := by omega
        have BH : Hid (∀ W x cx, LReads W x acc.length cx acc → Calls Tryd.prog 27 #[.slice x acc.length cx, .agg D] W fun e w' => ∃ y cy, e = .returned (.slice y (acc.length + 1) cy) ∧ LReads w' y (acc.length + 1) cy (acc ++ [root (l.drop k)]) ∧ Below W.heap.size W w') := fun W x cx hx => behind_any x acc.length cx acc _ W hx hal hdd D HD
        rw [HE.out]
        generalize root (l.drop k) = rt at BH
        obtain ⟨s, HM⟩ : ∃ s, Hid (s = acc.length) := ⟨_, (rfl : acc.length = _)⟩
        rw [← HM.out] at IH BH
        have HM2 : Hid ((acc ++ [rt]).length = s + 1) := by show _ = _; rw [List.length_append, HM.out]; rfl
        rw [HM2.out]
        clear hK hR ih hlen hk HE HD hsh hal hdd
        go_enter Tryd.func29, Tryd.ntmps29
        go_wp2_with fail
        refine (S.out _).mono ?_
        rintro e w1 ⟨rfl, rfl⟩
        clear S
        go_wp2
        refine wp_region_held_drew (S := (fun _ => True)) (by kernel_rfl) trivial (fun hHeld => ?_)
        refine wpAnyH_take (i := 0) (oi := { dst := some 22, op := Op.move (Operand.tmp 0), type := 22, pos := "ref.go:63", after := #[], guard := none }) (v := .slice (some ⟨g, o, none⟩) len cap) rfl (by kernel_rfl) (by kernel_rfl) (by kernel_rfl) (fun _ _ _ h => h) (Or.inl ⟨by rfl, by intro w hSw; go_simp⟩) hHeld ?_
        try simp only [Act.put, List.setIfInBounds_toArray, List.set_cons_zero, List.set_cons_succ]
        refine wpAnyH_take (i := 1) (oi := { dst := some 23, op := Op.move (Operand.tmp 7), type := 3, pos := "ref.go:63", after := #[], guard := none }) (v := .int .i64 k) rfl (by kernel_rfl) (by kernel_rfl) (by kernel_rfl) (fun _ _ _ h => h) (Or.inl ⟨by rfl, by intro w hSw; go_simp⟩) hHeld ?_
        try simp only [Act.put, List.setIfInBounds_toArray, List.set_cons_zero, List.set_cons_succ]
        refine wpAnyH_take (i := 2) (oi := { dst := some 24, op := Op.slice 22 (Operand.tmp 22) none (some (Operand.tmp 23)) none, type := 22, pos := "ref.go:63", after := #[{ on := 0, ground := Ground.data }, { on := 1, ground := Ground.data }], guard := none }) (v := .slice (some ⟨g, o, none⟩) k cap) rfl (by kernel_rfl) (by kernel_rfl) (by kernel_rfl) (fun _ _ _ h => h) (Or.inl ⟨by rfl, by intro W hSw; have := sl W; go_simp⟩) hHeld ?_
        try simp only [Act.put, List.setIfInBounds_toArray, List.set_cons_zero, List.set_cons_succ]
        refine wpAnyH_take (i := 3) (oi := { dst := some 25, op := Op.move (Operand.tmp 1), type := 3, pos := "ref.go:63", after := #[], guard := none }) (v := .int .i64 m) rfl (by kernel_rfl) (by kernel_rfl) (by kernel_rfl) (fun _ _ _ h => h) (Or.inl ⟨by rfl, by intro w hSw; go_simp⟩) hHeld ?_
        try simp only [Act.put, List.setIfInBounds_toArray, List.set_cons_zero, List.set_cons_succ]
        refine wpAnyH_take (i := 4) (oi := { dst := some 26, op := Op.move (Operand.tmp 2), type := 4, pos := "ref.go:63", after := #[], guard := none }) (v := .bool known) rfl (by kernel_rfl) (by kernel_rfl) (by kernel_rfl) (fun _ _ _ h => h) (Or.inl ⟨by rfl, by intro w hSw; go_simp⟩) hHeld ?_
        try simp only [Act.put, List.setIfInBounds_toArray, List.set_cons_zero, List.set_cons_succ]
        refine wpAnyH_take (i := 6) (oi := { dst := some 28, op := Op.move (Operand.tmp 0), type := 22, pos := "ref.go:63", after := #[], guard := none }) (v := .slice (some ⟨g, o, none⟩) len cap) rfl (by kernel_rfl) (by kernel_rfl) (by kernel_rfl) (fun _ _ _ h => h) (Or.inl ⟨by rfl, by intro w hSw; go_simp⟩) hHeld ?_
        try simp only [Act.put, List.setIfInBounds_toArray, List.set_cons_zero, List.set_cons_succ]
        refine wpAnyH_take (i := 7) (oi := { dst := some 29, op := Op.move (Operand.tmp 7), type := 3, pos := "ref.go:63", after := #[], guard := none }) (v := .int .i64 k) rfl (by kernel_rfl) (by kernel_rfl) (by kernel_rfl) (fun _ _ _ h => h) (Or.inl ⟨by rfl, by intro w hSw; go_simp⟩) hHeld ?_
        try simp only [Act.put, List.setIfInBounds_toArray, List.set_cons_zero, List.set_cons_succ]
        refine wpAnyH_take (i := 8) (oi := { dst := some 30, op := Op.slice 22 (Operand.tmp 28) (some (Operand.tmp 29)) none none, type := 22, pos := "ref.go:63", after := #[{ on := 6, ground := Ground.data }, { on := 7, ground := Ground.data }], guard := none }) (v := .slice (some ⟨g, o + 32 * k, none⟩) (len - k) (cap - k)) rfl (by kernel_rfl) (by kernel_rfl) (by kernel_rfl) (fun _ _ _ h => h) (Or.inl ⟨by rfl, by intro W hSw; have := sr W; go_simp⟩) hHeld ?_
        try simp only [Act.put, List.setIfInBounds_toArray, List.set_cons_zero, List.set_cons_succ]
        refine wpAnyH_ready (rs := [5]) (by kernel_rfl) (by simp) ?_
        refine AllReadyH.cons (o := { dst := some 27, op := Op.call { callee := Callee.value (Operand.func 29), args := #[Operand.tmp 24, Operand.tmp 25, Operand.tmp 26], argTypes := #[22, 3, 4] }, type := 22, pos := "ref.go:63", after := #[{ on := 2, ground := Ground.data }, { on := 3, ground := Ground.data }, { on := 4, ground := Ground.data }], guard := none }) rfl (fun K hK => ?_) AllReadyH.nil
        go_simp
        refine (IH.out _ (Below.refl _ _).drew).mono ?_
        rintro e w4 ⟨x, cx, rfl, hx, hb4⟩
        have H4 : Hid (LReads w4 x s cx acc ∧ Below w.heap.size w w4) := ⟨hx, (Below.refl _ _).drew.trans hb4⟩
        clear hx hb4
        go_wp2_with fail
        refine hK.out _ _ trivial (fun hHeld => ?_)
        clear hK K
        try simp only [Act.put, List.setIfInBounds_toArray, List.set_cons_zero, List.set_cons_succ]
        refine wpAnyH_ready (rs := [9]) (by kernel_rfl) (by simp) ?_
        refine AllReadyH.cons (o := { dst := some 31, op := Op.call { callee := Callee.value (Operand.func 12), args := #[Operand.tmp 30], argTypes := #[22] }, type := 26, pos := "ref.go:63", after := #[{ on := 8, ground := Ground.data }, { on := 5, ground := Ground.chain }], guard := none }) rfl (fun K hK => ?_) AllReadyH.nil
        go_simp
        refine (RR.out _ H4.out.2).mono ?_
        rintro e w8 ⟨rfl, hb8⟩
        have H8 : Hid (LReads w8 x s cx acc ∧ Below w.heap.size w w8) := ⟨H4.out.1.keep hb8, H4.out.2.trans (hb8.mono H4.out.2.size)⟩
        clear hb8
        go_wp2_with fail
        refine hK.out _ _ trivial (fun hHeld => ?_)
        clear hK K
        try simp only [Act.put, List.setIfInBounds_toArray, List.set_cons_zero, List.set_cons_succ]
        refine wpAnyH_ready (rs := [10]) (by kernel_rfl) (by simp) ?_
        refine AllReadyH.cons (o := { dst := some 32, op := Op.call { callee := Callee.value (Operand.func 27), args := #[Operand.tmp 27, Operand.tmp 31], argTypes := #[22, 26] }, type := 22, pos := "ref.go:63", after := #[{ on := 5, ground := Ground.data }, { on := 9, ground := Ground.data }, { on := 9, ground := Ground.chain }], guard := none }) rfl (fun K hK => ?_) AllReadyH.nil
        go_simp
        refine (BH.out _ _ _ H8.out.1).mono ?_
        rintro e w9 ⟨y, cy, rfl, hy, hb9⟩
        have H9 : Hid (LReads w9 y (s + 1) cy (acc ++ [rt]) ∧ Below w.heap.size w w9) := ⟨hy, H8.out.2.trans (hb9.mono H8.out.2.size)⟩
        clear hy hb9
        go_wp2_with fail
        refine hK.out _ _ trivial (fun hHeld => ?_)
        clear hK K
        try simp only [Act.put, List.setIfInBounds_toArray, List.set_cons_zero, List.set_cons_succ]
        refine wpAnyH_take (i := 11) (oi := { dst := some 6, op := Op.assign (Operand.tmp 32), type := 22, pos := "ref.go:63", after := #[{ on := 10, ground := Ground.data }, { on := 10, ground := Ground.chain }, { on := 0, ground := Ground.phase }, { on := 1, ground := Ground.phase }, { on := 2, ground := Ground.phase }, { on := 3, ground := Ground.phase }, { on := 4, ground := Ground.phase }, { on := 5, ground := Ground.phase }, { on := 6, ground := Ground.phase }, { on := 7, ground := Ground.phase }, { on := 8, ground := Ground.phase }, { on := 9, ground := Ground.phase }, { on := 10, ground := Ground.phase }], guard := none }) (v := .slice y (s + 1) cy) rfl (by kernel_rfl) (by kernel_rfl) (by kernel_rfl) (fun _ _ _ h => h) (Or.inl ⟨by rfl, by intro w hSw; go_simp⟩) hHeld ?_
        try simp only [Act.put, List.setIfInBounds_toArray, List.set_cons_zero, List.set_cons_succ]
        refine wpAnyH_done (by kernel_rfl) ?_ _
        go_wp2
        go_ret
        exact ⟨y, cy, rfl, H9.out⟩
      · have hdl : decide ((m : Int) ≤ (k : Int)) = false := by rw [decide_eq_false_iff_not]; omega
        have hw := wrap_int ((m : Int) - (k : Int)) (by omega) (by omega)
        have HE : Hid (goes l m known = goes (l.drop k) (m - k) false ++ [root (l.take k)]) := by
          show _ = _
          rw [goes_right l m known (by omega) (by omega) (by rw [hlen, ← hk]; omega), hlen, ← hk]
        have IH : Hid (∀ W, Below w.heap.size w W → Calls Tryd.prog 29 #[.slice (some ⟨g, o + 32 * k, none⟩) (len - k) (cap - k), .int .i64 ((m : Int) - (k : Int)), .bool false] W fun e w' => ∃ x cx, e = .returned (.slice x (goes (l.drop k) (m - k) false).length cx) ∧ LReads w' x (goes (l.drop k) (m - k) false).length cx (goes (l.drop k) (m - k) false) ∧ Below W.heap.size W w') := fun W hb => by
          rw [show ((m : Int) - (k : Int)) = ((m - k : Nat) : Int) by omega]
          exact ih (len - k) (by omega) _ (len - k) (cap - k) (m - k) false (l.drop k) W rfl ((hR.keep hb).drop k (by omega)) (by omega) (by omega) (by omega) (hK.keep hb)
        obtain ⟨D, HD⟩ : ∃ D, Hid (D = (cellsOf (root (l.take k))).toArray) := ⟨_, (rfl : (cellsOf (root (l.take k))).toArray = _)⟩
        have hdd : (root (l.take k)).length = 32 := root_length sumD_length _ (hR.2.1.take k)
        have RR : Hid (∀ W, Below w.heap.size w W → Calls Tryd.prog 12 #[.slice (some ⟨g, o, none⟩) k cap] W fun e w' => e = .returned (.agg D) ∧ Below W.heap.size W w') := fun W hb =>
          refRoot_any _ _ _ _ (l.take k) W rfl ((hR.keep hb).take k (by omega)) (hK.keep hb) D HD
        have hsh := goes_len (l.drop k) (m - k) false (by simp only [List.length_take, List.length_drop]; omega)
        simp only [List.length_take, List.length_drop] at hsh
        generalize goes (l.drop k) (m - k) false = acc at HE IH hsh
        have hal : acc.length ≤ 100000 := by omega
        have BH : Hid (∀ W x cx, LReads W x acc.length cx acc → Calls Tryd.prog 27 #[.slice x acc.length cx, .agg D] W fun e w' => ∃ y cy, e = .returned (.slice y (acc.length + 1) cy) ∧ LReads w' y (acc.length + 1) cy (acc ++ [root (l.take k)]) ∧ Below W.heap.size W w') := fun W x cx hx => behind_any x acc.length cx acc _ W hx hal hdd D HD
        rw [HE.out]
        generalize root (l.take k) = rt at BH
        obtain ⟨s, HM⟩ : ∃ s, Hid (s = acc.length) := ⟨_, (rfl : acc.length = _)⟩
        rw [← HM.out] at IH BH
        have HM2 : Hid ((acc ++ [rt]).length = s + 1) := by show _ = _; rw [List.length_append, HM.out]; rfl
        rw [HM2.out]
        clear hK hR ih hlen hk HE HD hsh hal hdd
        go_enter Tryd.func29, Tryd.ntmps29
        go_wp2_with fail
        refine (S.out _).mono ?_
        rintro e w1 ⟨rfl, rfl⟩
        clear S
        go_wp2
        refine wp_region_held_drew (S := (fun _ => True)) (by kernel_rfl) trivial (fun hHeld => ?_)
        refine wpAnyH_take (i := 0) (oi := { dst := some 33, op := Op.move (Operand.tmp 0), type := 22, pos := "ref.go:65", after := #[], guard := none }) (v := .slice (some ⟨g, o, none⟩) len cap) rfl (by kernel_rfl) (by kernel_rfl) (by kernel_rfl) (fun _ _ _ h => h) (Or.inl ⟨by rfl, by intro w hSw; go_simp⟩) hHeld ?_
        try simp only [Act.put, List.setIfInBounds_toArray, List.set_cons_zero, List.set_cons_succ]
        refine wpAnyH_take (i := 1) (oi := { dst := some 34, op := Op.move (Operand.tmp 7), type := 3, pos := "ref.go:65", after := #[], guard := none }) (v := .int .i64 k) rfl (by kernel_rfl) (by kernel_rfl) (by kernel_rfl) (fun _ _ _ h => h) (Or.inl ⟨by rfl, by intro w hSw; go_simp⟩) hHeld ?_
        try simp only [Act.put, List.setIfInBounds_toArray, List.set_cons_zero, List.set_cons_succ]
        refine wpAnyH_take (i := 2) (oi := { dst := some 35, op := Op.slice 22 (Operand.tmp 33) (some (Operand.tmp 34)) none none, type := 22, pos := "ref.go:65", after := #[{ on := 0, ground := Ground.data }, { on := 1, ground := Ground.data }], guard := none }) (v := .slice (some ⟨g, o + 32 * k, none⟩) (len - k) (cap - k)) rfl (by kernel_rfl) (by kernel_rfl) (by kernel_rfl) (fun _ _ _ h => h) (Or.inl ⟨by rfl, by intro W hSw; have := sr W; go_simp⟩) hHeld ?_
        try simp only [Act.put, List.setIfInBounds_toArray, List.set_cons_zero, List.set_cons_succ]
        refine wpAnyH_take (i := 3) (oi := { dst := some 36, op := Op.move (Operand.tmp 1), type := 3, pos := "ref.go:65", after := #[], guard := none }) (v := .int .i64 m) rfl (by kernel_rfl) (by kernel_rfl) (by kernel_rfl) (fun _ _ _ h => h) (Or.inl ⟨by rfl, by intro w hSw; go_simp⟩) hHeld ?_
        try simp only [Act.put, List.setIfInBounds_toArray, List.set_cons_zero, List.set_cons_succ]
        refine wpAnyH_take (i := 4) (oi := { dst := some 37, op := Op.move (Operand.tmp 7), type := 3, pos := "ref.go:65", after := #[], guard := none }) (v := .int .i64 k) rfl (by kernel_rfl) (by kernel_rfl) (by kernel_rfl) (fun _ _ _ h => h) (Or.inl ⟨by rfl, by intro w hSw; go_simp⟩) hHeld ?_
        try simp only [Act.put, List.setIfInBounds_toArray, List.set_cons_zero, List.set_cons_succ]
        refine wpAnyH_take (i := 5) (oi := { dst := some 38, op := Op.binOp BinOp.sub 3 (Operand.tmp 36) (Operand.tmp 37) 3, type := 3, pos := "ref.go:65", after := #[{ on := 3, ground := Ground.data }, { on := 4, ground := Ground.data }], guard := none }) (v := .int .i64 ((m : Int) - (k : Int))) rfl (by kernel_rfl) (by kernel_rfl) (by kernel_rfl) (fun _ _ _ h => h) (Or.inl ⟨by rfl, by intro w hSw; go_simp⟩) hHeld ?_
        try simp only [Act.put, List.setIfInBounds_toArray, List.set_cons_zero, List.set_cons_succ]
        refine wpAnyH_take (i := 7) (oi := { dst := some 40, op := Op.move (Operand.tmp 0), type := 22, pos := "ref.go:65", after := #[], guard := none }) (v := .slice (some ⟨g, o, none⟩) len cap) rfl (by kernel_rfl) (by kernel_rfl) (by kernel_rfl) (fun _ _ _ h => h) (Or.inl ⟨by rfl, by intro w hSw; go_simp⟩) hHeld ?_
        try simp only [Act.put, List.setIfInBounds_toArray, List.set_cons_zero, List.set_cons_succ]
        refine wpAnyH_take (i := 8) (oi := { dst := some 41, op := Op.move (Operand.tmp 7), type := 3, pos := "ref.go:65", after := #[], guard := none }) (v := .int .i64 k) rfl (by kernel_rfl) (by kernel_rfl) (by kernel_rfl) (fun _ _ _ h => h) (Or.inl ⟨by rfl, by intro w hSw; go_simp⟩) hHeld ?_
        try simp only [Act.put, List.setIfInBounds_toArray, List.set_cons_zero, List.set_cons_succ]
        refine wpAnyH_take (i := 9) (oi := { dst := some 42, op := Op.slice 22 (Operand.tmp 40) none (some (Operand.tmp 41)) none, type := 22, pos := "ref.go:65", after := #[{ on := 7, ground := Ground.data }, { on := 8, ground := Ground.data }], guard := none }) (v := .slice (some ⟨g, o, none⟩) k cap) rfl (by kernel_rfl) (by kernel_rfl) (by kernel_rfl) (fun _ _ _ h => h) (Or.inl ⟨by rfl, by intro W hSw; have := sl W; go_simp⟩) hHeld ?_
        try simp only [Act.put, List.setIfInBounds_toArray, List.set_cons_zero, List.set_cons_succ]
        refine wpAnyH_ready (rs := [6]) (by kernel_rfl) (by simp) ?_
        refine AllReadyH.cons (o := { dst := some 39, op := Op.call { callee := Callee.value (Operand.func 29), args := #[Operand.tmp 35, Operand.tmp 38, Operand.const (Value.bool false)], argTypes := #[22, 3, 4] }, type := 22, pos := "ref.go:65", after := #[{ on := 2, ground := Ground.data }, { on := 5, ground := Ground.data }], guard := none }) rfl (fun K hK => ?_) AllReadyH.nil
        go_simp
        refine (IH.out _ (Below.refl _ _).drew).mono ?_
        rintro e w4 ⟨x, cx, rfl, hx, hb4⟩
        have H4 : Hid (LReads w4 x s cx acc ∧ Below w.heap.size w w4) := ⟨hx, (Below.refl _ _).drew.trans hb4⟩
        clear hx hb4
        go_wp2_with fail
        refine hK.out _ _ trivial (fun hHeld => ?_)
        clear hK K
        try simp only [Act.put, List.setIfInBounds_toArray, List.set_cons_zero, List.set_cons_succ]
        refine wpAnyH_ready (rs := [10]) (by kernel_rfl) (by simp) ?_
        refine AllReadyH.cons (o := { dst := some 43, op := Op.call { callee := Callee.value (Operand.func 12), args := #[Operand.tmp 42], argTypes := #[22] }, type := 26, pos := "ref.go:65", after := #[{ on := 9, ground := Ground.data }, { on := 6, ground := Ground.chain }], guard := none }) rfl (fun K hK => ?_) AllReadyH.nil
        go_simp
        refine (RR.out _ H4.out.2).mono ?_
        rintro e w8 ⟨rfl, hb8⟩
        have H8 : Hid (LReads w8 x s cx acc ∧ Below w.heap.size w w8) := ⟨H4.out.1.keep hb8, H4.out.2.trans (hb8.mono H4.out.2.size)⟩
        clear hb8
        go_wp2_with fail
        refine hK.out _ _ trivial (fun hHeld => ?_)
        clear hK K
        try simp only [Act.put, List.setIfInBounds_toArray, List.set_cons_zero, List.set_cons_succ]
        refine wpAnyH_ready (rs := [11]) (by kernel_rfl) (by simp) ?_
        refine AllReadyH.cons (o := { dst := some 44, op := Op.call { callee := Callee.value (Operand.func 27), args := #[Operand.tmp 39, Operand.tmp 43], argTypes := #[22, 26] }, type := 22, pos := "ref.go:65", after := #[{ on := 6, ground := Ground.data }, { on := 10, ground := Ground.data }, { on := 10, ground := Ground.chain }], guard := none }) rfl (fun K hK => ?_) AllReadyH.nil
        go_simp
        refine (BH.out _ _ _ H8.out.1).mono ?_
        rintro e w9 ⟨y, cy, rfl, hy, hb9⟩
        have H9 : Hid (LReads w9 y (s + 1) cy (acc ++ [rt]) ∧ Below w.heap.size w w9) := ⟨hy, H8.out.2.trans (hb9.mono H8.out.2.size)⟩
        clear hy hb9
        go_wp2_with fail
        refine hK.out _ _ trivial (fun hHeld => ?_)
        clear hK K
        try simp only [Act.put, List.setIfInBounds_toArray, List.set_cons_zero, List.set_cons_succ]
        refine wpAnyH_take (i := 12) (oi := { dst := some 6, op := Op.assign (Operand.tmp 44), type := 22, pos := "ref.go:65", after := #[{ on := 11, ground := Ground.data }, { on := 11, ground := Ground.chain }, { on := 0, ground := Ground.phase }, { on := 1, ground := Ground.phase }, { on := 2, ground := Ground.phase }, { on := 3, ground := Ground.phase }, { on := 4, ground := Ground.phase }, { on := 5, ground := Ground.phase }, { on := 6, ground := Ground.phase }, { on := 7, ground := Ground.phase }, { on := 8, ground := Ground.phase }, { on := 9, ground := Ground.phase }, { on := 10, ground := Ground.phase }, { on := 11, ground := Ground.phase }], guard := none }) (v := .slice y (s + 1) cy) rfl (by kernel_rfl) (by kernel_rfl) (by kernel_rfl) (fun _ _ _ h => h) (Or.inl ⟨by rfl, by intro w hSw; go_simp⟩) hHeld ?_
        try simp only [Act.put, List.setIfInBounds_toArray, List.set_cons_zero, List.set_cons_succ]
        refine wpAnyH_done (by kernel_rfl) ?_ _
        go_wp2
        go_ret
        exact ⟨y, cy, rfl, H9.out⟩

/-- The proof of a beginning of m, which may be 0. -/
def goesAt (l : List (List UInt8)) (m : Nat) : List (List UInt8) := if m = 0 then [] else goes l m true

set_option maxHeartbeats 1000000 in
theorem refGoes_any (a : Option Addr) (len cap m : Nat) (l : List (List UInt8)) (w : World) (hR : LReads w a len cap l) (hm : m ≤ len) (hl : len ≤ 100000) (hK : Table 0 w) :
    Calls Tryd.prog 19 #[.slice a len cap, .int .i64 m] w fun e w' => ∃ x cx, e = .returned (.slice x (goesAt l m).length cx) ∧ LReads w' x (goesAt l m).length cx (goesAt l m) ∧ Below w.heap.size w w' := by
  unfold goesAt
  by_cases h0 : m = 0
  · rw [if_pos h0]
    subst h0
    have HL : Hid (LReads w none 0 0 []) := ⟨rfl, (fun d hd => by cases hd), Nat.le_refl _, Nat.zero_le _, .inl rfl⟩
    go_enter Tryd.func19, Tryd.ntmps19
    go_wp2
    go_ret
    exact ⟨none, 0, rfl, HL.out, Below.refl _ _⟩
  · rw [if_neg h0]
    have hd4 : ((m : Int) == 0) = false := by rw [beq_eq_false_iff_ne]; omega
    have hd5 : decide ((m : Int) = 0) = false := by rw [decide_eq_false_iff_not]; omega
    have SB : Hid (Calls Tryd.prog 29 #[.slice a len cap, .int .i64 m, .bool true] w fun e w' => ∃ x cx, e = .returned (.slice x (goes l m true).length cx) ∧ LReads w' x (goes l m true).length cx (goes l m true) ∧ Below w.heap.size w w') := refSub_any len a len cap m true l w rfl hR (by omega) hm hl hK
    generalize goes l m true = acc at SB ⊢
    clear hK hR
    go_enter Tryd.func19, Tryd.ntmps19
    go_wp2_with fail
    refine SB.out.mono ?_
    rintro e w1 ⟨x, cx, rfl, hx, hb1⟩
    have H1 : Hid (LReads w1 x acc.length cx acc ∧ Below w.heap.size w w1) := ⟨hx, hb1⟩
    clear hx hb1
    go_wp2
    go_ret
    exact ⟨x, cx, rfl, H1.out⟩
end Go.Proofs.YtpjchiihiclhiaaDoor
